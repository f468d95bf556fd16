import PyProof.Rows.All
import Wide.All
import OpenK.AllK
import Wide.FinOn
import Lean
import PyProof.EqAt
import PyProof.EqKinds
import PyProof.TupleCall
import PyProof.NeKinds
import PyProof.StrWalks
import PyProof.StrCalls2
import KE.KIntText
import PyProof.StrLawsChain
import PyProof.StrLawsTight
import PyProof.RulesTry
import PyProof.ListRange
import PyProof.Rows.Range3
import PyProof.Rows.SortWalk
import PyProof.SumAny
import PyProof.Rows.SumGenD
import PyProof.AutoSeq1
import PyProof.Rows.All
import Wide.All
import OpenK.AllK
import Wide.FinOn
import PyProof.EqAt
import PyProof.EqKinds
import PyProof.TupleCall
import PyProof.Rows.CatchOwn
import OpenK.KRaise
import PyProof.FString
import PyProof.ExcBaseAll.ValueError
import PyProof.FString4
import PyProof.ReprRoads
import PyProof.Rows.RegStrFacts
import KE.KIsAll
import PyProof.ExcAttrAll.ValueError
import PyProof.NsDelKeeps
import KE.RegKIsAll
import PyProof.SliceStr
import PySem.Challenge.RW_boardkin_k16_texts_refused
set_option Elab.async false
set_option linter.all false
set_option maxRecDepth 100000
/-! THE HAND LAYER, for ints, bools, texts, own classes, LISTS and tuples (index, slices, in, append, pop ..), calls, loops. Paste it whole ahead of your own text; what your proof does not reach may be deleted. -/
namespace L2
open PySem PySem.Spec PyProof.Rows

/-- a key: an int or a str -/
abbrev Key := Sum Int Str
def keyIs : Key → Value → Bool
  | .inl k, v => Value.isInt k v
  | .inr x, v => Value.isStrOf x v
def keyH (w : World) : Key → Int
  | .inl k => hashInt k
  | .inr x => hashStr w x
theorem keyIs_shape : ∀ {k : Key} {v : Value}, keyIs k v = true → (∃ i t, k = Sum.inl i ∧ v = Value.int i t) ∨ (∃ x t, k = Sum.inr x ∧ v = Value.str x t)
  | .inl i, v, h => by
    obtain ⟨t, e⟩ := Value.isInt_shape (k := i) (v := v) h
    exact .inl ⟨i, t, rfl, e⟩
  | .inr x, v, h => by
    obtain ⟨t, e⟩ := Value.isStrOf_shape (x := x) (v := v) h
    exact .inr ⟨x, t, rfl, e⟩
theorem key_ll (a b : Int) : decide ((Sum.inl a : Key) = Sum.inl b) = (a == b) := by
  by_cases e : a = b
  · subst e; simp
  · have h : ¬ (Sum.inl a : Key) = Sum.inl b := fun q => e (Sum.inl.inj q)
    rw [decide_eq_false h]
    exact (beq_eq_false_iff_ne.mpr e).symm
theorem key_rr (a b : Str) : decide ((Sum.inr a : Key) = Sum.inr b) = decide (a = b) := by
  by_cases e : a = b
  · subst e; simp
  · have h : ¬ (Sum.inr a : Key) = Sum.inr b := fun q => e (Sum.inr.inj q)
    rw [decide_eq_false h, decide_eq_false e]
theorem key_lr (a : Int) (b : Str) : decide ((Sum.inl a : Key) = Sum.inr b) = false := decide_eq_false (fun q => nomatch q)
theorem key_rl (a : Str) (b : Int) : decide ((Sum.inr a : Key) = Sum.inl b) = false := decide_eq_false (fun q => nomatch q)

def mixKind (prog : Program) (w : World) : PySem.KeyKind prog w Key where
  is := keyIs
  hash := keyH w
  inj := fun v a b ha hb => by
    rcases keyIs_shape ha with ⟨i, t, rfl, rfl⟩ | ⟨x, t, rfl, rfl⟩
    · rcases keyIs_shape hb with ⟨j, u, rfl, e⟩ | ⟨y, u, rfl, e⟩
      · injection e with e1 _; rw [e1]
      · exact nomatch e
    · rcases keyIs_shape hb with ⟨j, u, rfl, e⟩ | ⟨y, u, rfl, e⟩
      · exact nomatch e
      · injection e with e1 _; rw [e1]
  byValue := fun k v h => by
    rcases keyIs_shape h with ⟨i, t, rfl, rfl⟩ | ⟨x, t, rfl, rfl⟩ <;> rfl
  pyHash := fun hv h => by
    rcases keyIs_shape hv with ⟨i, t, rfl, rfl⟩ | ⟨x, t, rfl, rfl⟩
    · exact wpAny_pyHash_int h
    · exact wpAny_pyHash_str h
  eqBool := fun hu hv h => by
    rcases keyIs_shape hu with ⟨i, t, rfl, rfl⟩ | ⟨x, t, rfl, rfl⟩
    · rcases keyIs_shape hv with ⟨j, u, rfl, rfl⟩ | ⟨y, u, rfl, rfl⟩
      · rw [key_ll] at h; exact wpAny_eqBool_int h
      · rw [key_lr] at h; exact SeqAt.EqAt.int_str i t y u _ _ _ _ h
    · rcases keyIs_shape hv with ⟨j, u, rfl, rfl⟩ | ⟨y, u, rfl, rfl⟩
      · rw [key_rl] at h; exact SeqAt.EqAt.str_int x t j u _ _ _ _ h
      · rw [key_rr] at h; exact wpAny_eqBool_str h
  «strs» := fun k x t v h => by
    rcases keyIs_shape h with ⟨i, u, rfl, e⟩ | ⟨y, u, rfl, e⟩
    · exact nomatch e
    · injection e with e1 _
      subst e1
      cases v <;> rfl

end L2

namespace L2
open PySem PySem.Spec PyProof.Rows

/-- a value, without the heap -/
inductive V where
  | non | bl (b : Bool) | int (i : Int) | str (x : Str) | byt (b : Array UInt8) | flt (b : UInt64) | ref (a : Addr) | ty (n : String)
  deriving DecidableEq

def RelV : V → Value → Prop
  | .non, u => u = Value.none
  | .bl b, u => u = Value.bool b
  | .int i, u => ∃ t, u = Value.int i t
  | .str x, u => ∃ t, u = Value.str x t
  | .byt b, u => ∃ t, u = Value.bytes b t
  | .flt b, u => ∃ t, u = Value.float b t
  | .ref a, u => u = Value.ref a
  | .ty n, u => u = Value.type n

abbrev Vals : List V → List Value → Prop := Paired RelV
theorem Vals.length {xs : List V} {us : List Value} (r : Vals xs us) : xs.length = us.length := Paired.length r
theorem Vals.get : ∀ {xs : List V} {us : List Value} {i : Nat} {x : V}, Vals xs us → xs[i]? = some x → ∃ u, us[i]? = some u ∧ RelV x u
  | _, _, _, _, .nil, e => by simp at e
  | _, _, 0, _, .cons r _, e => by simp at e; subst e; exact ⟨_, rfl, r⟩
  | _, _, i + 1, x, .cons _ t, e => by
    obtain ⟨u, h1, h2⟩ := Vals.get (i := i) (x := x) t (by simpa using e)
    exact ⟨u, by simpa using h1, h2⟩
theorem Vals.set {x : V} {u : Value} (r : RelV x u) : ∀ {xs : List V} {us : List Value} (i : Nat), Vals xs us → Vals (xs.set i x) (us.set i u)
  | _, _, _, .nil => .nil
  | _, _, 0, .cons _ t => .cons r t
  | _, _, i + 1, .cons q t => .cons q (Vals.set r i t)
theorem Vals.append : ∀ {xs ys : List V} {us ws : List Value}, Vals xs us → Vals ys ws → Vals (xs ++ ys) (us ++ ws)
  | _, _, _, _, .nil, s => s
  | _, _, _, _, .cons r t, s => .cons r (Vals.append t s)
theorem Vals.take : ∀ {xs : List V} {us : List Value} (n : Nat), Vals xs us → Vals (xs.take n) (us.take n)
  | _, _, 0, _ => .nil
  | _, _, _ + 1, .nil => .nil
  | _, _, n + 1, .cons r t => .cons r (Vals.take n t)
theorem Vals.drop : ∀ {xs : List V} {us : List Value} (n : Nat), Vals xs us → Vals (xs.drop n) (us.drop n)
  | _, _, 0, r => r
  | _, _, _ + 1, .nil => .nil
  | _, _, n + 1, .cons _ t => Vals.drop n t
def RelO : Option V → Option Value → Prop
  | some v, some u => RelV v u
  | none, none => True
  | _, _ => False
def KV {κ : Type} : List (κ × V) → List (κ × Value) → Prop := Paired fun (p : κ × V) (q : κ × Value) => p.1 = q.1 ∧ RelV p.2 q.2

/-- a key of a dict (00_mix): an int or a text -/
def kV : Key → V
  | .inl i => .int i
  | .inr x => .str x

/-- what stands at a tracked address -/
inductive HO where
  /-- a list -/
  | lst (xs : List V)
  /-- a tuple (never changes) -/
  | tup (xs : List V)
  /-- a dict whose keys are ints and texts; one whose keys are tuples of ints and texts (the empty one is both) -/
  | dK (kvs : List (Key × V)) | dT (kvs : List (List Key × V))
  /-- a set of ints: its members, its size -/
  | set (S : Int → Bool) (n : Nat)
  /-- an instance of the class at C, its dict at dx, its attributes -/
  | ins (C dx : Addr) (fs : List (Str × V))
  /-- the dict of the instance at x -/
  | own (x : Addr)
  /-- the dict of an exception -/
  | xd (fs : List (Str × V))
  /-- a bound method, f of x -/
  | met (f x : Addr)
  /-- a range object lo, lo + 1, .. below hi -/
  | rng (lo hi : Int)
  /-- a thing that is known to the object (the script; a dict while a loop walks it): read, never written while it is so -/
  | frz (o : Obj) (u : HO)
  /-- a code object's table -/
  | tbl (ps : Array Value)
  /-- any other thing, by what is true of its one object (a def of one's own: SetO a S n := HO.ext fun h => ..) -/
  | ext (φ : Heap → Prop)

abbrev Hp := Addr → Option HO
def upd (H : Hp) (a : Addr) (o : HO) : Hp := fun b => if b = a then some o else H b
theorem upd_same {H : Hp} {a : Addr} {o : HO} : upd H a o a = some o := by unfold upd; rw [if_pos rfl]
theorem upd_ne {H : Hp} {a b : Addr} {o : HO} (h : b ≠ a) : upd H a o b = H b := by unfold upd; rw [if_neg h]
theorem ne_of_none {H : Hp} {a b : Addr} {o : HO} (h : H a = some o) (h' : H b = none) : a ≠ b := by
  intro e; subst e; rw [h] at h'; cases h'

section
variable (P : Program) (w : World)
def ObjOk (H : Hp) (h : Heap) (a : Addr) : HO → Prop
  | .lst xs => xs.length ≤ sizeLine ∧ ∃ (its : List Value) (n : Nat), Vals xs its ∧ h.get? a = some { cls := .type "list", data := .seq its.toArray n }
  | .tup xs => xs.length ≤ sizeLine ∧ ∃ its : List Value, Vals xs its ∧ IsTup h a its.toArray
  | .dK kvs => kvs.length ≤ sizeLine ∧ (a == sysModules) = false ∧ ∃ vs, KV kvs vs ∧ h.DictOf (mixKind P w) a vs
  | .dT kvs => kvs.length ≤ sizeLine ∧ (a == sysModules) = false ∧ ∃ xs : List (List Key × Addr × Value),
      Paired (fun (p : List Key × V) (q : List Key × Addr × Value) => p.1 = q.1 ∧ H q.2.1 = some (.tup (p.1.map kV)) ∧ RelV p.2 q.2.2) kvs xs ∧
      ∃ o es ep, h.get? a = some o ∧ o.ExactDict ∧ o.data = .dict es ep ∧ es.toList = xs.map (entryOfKey (tupleKind (mixKind P w))) ∧ (xs.map (·.1)).Nodup
  | .set S n => h.SetOf (intKind P w) a S n
  | .ins C dx fs => H dx = some (.own a) ∧ fs.length ≤ 1000 ∧ dx ≠ a ∧ h.get? a = some (PySem.W.instObj C dx) ∧
      ∃ mA, h.Ns1 dx mA ∧ (∀ f, RelO (fs.lookup f) (mA f)) ∧ PySem.Within mA (fs.map (·.1))
  | .own _ => ∃ o, h.get? a = some o
  | .xd fs => ∃ mA, h.Ns1 a mA ∧ ∀ f, RelO (fs.lookup f) (mA f)
  | .rng lo hi => ∃ t u v, h.get? a = some { cls := .type "range", data := .fields #[.int lo t, .int hi u, .int 1 v] }
  | .frz o u => h.get? a = some o ∧ ObjOk H h a u
  | .tbl ps => h.get? a = some { cls := .none, data := .fields ps }
  | .met f x => h.get? a = some (PySem.W.methodObj (.ref f) (.ref x))
  | .ext φ => φ h ∧ (∃ o, h.get? a = some o) ∧ ∀ h1 h2 : Heap, φ h1 → (∀ o, h1.get? a = some o → h2.get? a = some o) → φ h2
/-- the abstract heap is held -/
def HOk (H : Hp) (h : Heap) : Prop := ∀ a o, H a = some o → ObjOk P w H h a o
end

section
variable {P : Program} {w : World} {H H' : Hp} {h h' : Heap} {a : Addr} {o : HO}
theorem ObjOk.lt (x : ObjOk P w H h a o) : a < h.objs.size := by
  cases o with
  | lst xs => obtain ⟨_, _, _, _, e⟩ := x; exact Heap.lt_size e
  | tup xs => obtain ⟨_, _, _, p⟩ := x; exact p.lt
  | dK kvs => obtain ⟨_, _, _, _, o, _, _, e, _⟩ := x; exact Heap.lt_size e
  | dT kvs => obtain ⟨_, _, _, _, o, _, _, e, _⟩ := x; exact Heap.lt_size e
  | set S n => obtain ⟨o, _, _, _, e, _⟩ := x; exact Heap.lt_size e
  | ins C dx fs => obtain ⟨_, _, _, e, _⟩ := x; exact Heap.lt_size e
  | own y => obtain ⟨_, e⟩ := x; exact Heap.lt_size e
  | xd fs => obtain ⟨_, ⟨_, _, _, e, _⟩, _⟩ := x; exact Heap.lt_size e
  | rng lo hi => obtain ⟨_, _, _, e⟩ := x; exact Heap.lt_size e
  | frz ob u => obtain ⟨e, _⟩ := x; exact Heap.lt_size e
  | tbl ps => exact Heap.lt_size (show h.get? a = some _ from x)
  | met f y => exact Heap.lt_size (show h.get? a = some _ from x)
  | ext φ => obtain ⟨_, ⟨_, e⟩, _⟩ := x; exact Heap.lt_size e
theorem Paired.mapP {α β : Type} {F G : α → β → Prop} : ∀ {l₁ : List α} {l₂ : List β}, Paired F l₁ l₂ → (∀ a b, F a b → G a b) → Paired G l₁ l₂
  | _, _, .nil, _ => .nil
  | _, _, .cons r t, f => .cons (f _ _ r) (Paired.mapP t f)
/-- what an object's description leans on: its own object, its own dict, the tuples -/
theorem ObjOk.stay (x : ObjOk P w H h a o) (k : ∀ b u, (b = a ∨ H b = some (.own a)) → h.get? b = some u → h'.get? b = some u)
    (ho : ∀ b, H b = some (.own a) → H' b = some (.own a)) (ht : ∀ b xs, H b = some (.tup xs) → H' b = some (.tup xs)) : ObjOk P w H' h' a o := by
  induction o with
  | lst xs => obtain ⟨z, its, n, r, e⟩ := x; exact ⟨z, its, n, r, k _ _ (.inl rfl) e⟩
  | tup xs => obtain ⟨z, its, r, ob, e, c⟩ := x; exact ⟨z, its, r, ob, k _ _ (.inl rfl) e, c⟩
  | dK kvs => obtain ⟨z, y, vs, r, ob, es, ep, e, c⟩ := x; exact ⟨z, y, vs, r, ob, es, ep, k _ _ (.inl rfl) e, c⟩
  | dT kvs =>
    obtain ⟨z, y, xs, r, ob, es, ep, e, c⟩ := x
    exact ⟨z, y, xs, Paired.mapP r fun p q z => ⟨z.1, ht _ _ z.2.1, z.2.2⟩, ob, es, ep, k _ _ (.inl rfl) e, c⟩
  | set S n => obtain ⟨ob, es, ep, t, e, c⟩ := x; exact ⟨ob, es, ep, t, k _ _ (.inl rfl) e, c⟩
  | ins C dx fs =>
    obtain ⟨d, z, ne, e, mA, ⟨od, es, ep, e2, c⟩, r⟩ := x
    exact ⟨ho _ d, z, ne, k _ _ (.inl rfl) e, mA, ⟨od, es, ep, k _ _ (.inr d) e2, c⟩, r⟩
  | own y => obtain ⟨ob, e⟩ := x; exact ⟨ob, k _ _ (.inl rfl) e⟩
  | xd fs => obtain ⟨mA, ⟨od, es, ep, e, c⟩, r⟩ := x; exact ⟨mA, ⟨od, es, ep, k _ _ (.inl rfl) e, c⟩, r⟩
  | rng lo hi => obtain ⟨t, u, v, e⟩ := x; exact ⟨t, u, v, k _ _ (.inl rfl) e⟩
  | frz ob u ih => obtain ⟨e, q⟩ := x; exact ⟨k _ _ (.inl rfl) e, ih q⟩
  | tbl ps =>
    have e : h.get? a = some { cls := .none, data := .fields ps } := x
    show h'.get? a = some { cls := .none, data := .fields ps }
    exact k a _ (.inl rfl) e
  | met f y =>
    have e : h.get? a = some (PySem.W.methodObj (.ref f) (.ref y)) := x
    show h'.get? a = some (PySem.W.methodObj (.ref f) (.ref y))
    exact k a _ (.inl rfl) e
  | ext φ => obtain ⟨p, ⟨o, e⟩, st⟩ := x; exact ⟨st _ _ p fun o q => k _ _ (.inl rfl) q, ⟨o, k _ _ (.inl rfl) e⟩, st⟩
theorem HOk.lt (x : HOk P w H h) (e : H a = some o) : a < h.objs.size := (x a o e).lt
theorem HOk.fresh (x : HOk P w H h) (e : h.objs.size ≤ a) : H a = none := by
  cases q : H a with
  | none => rfl
  | some u => exact absurd (Nat.lt_of_lt_of_le (x.lt q) e) (Nat.lt_irrefl _)
/-- every object of the heap is kept -/
theorem HOk.kept (x : HOk P w H h) (k : ∀ b u, h.get? b = some u → h'.get? b = some u) : HOk P w H h' := fun a o e =>
  (x a o e).stay (fun b u _ q => k b u q) (fun _ q => q) fun _ _ q => q
/-- a new object is laid and tracked -/
theorem HOk.laid (x : HOk P w H h) (k : ∀ b u, h.get? b = some u → h'.get? b = some u) (hp : h.objs.size ≤ a) (new : ObjOk P w (upd H a o) h' a o) : HOk P w (upd H a o) h' := fun b u e => by
  have hn := x.fresh hp
  by_cases hb : b = a
  · subst hb; rw [upd_same] at e; cases e; exact new
  · rw [upd_ne hb] at e
    exact (x b u e).stay (fun c v _ q => k c v q) (fun c q => by rw [upd_ne (ne_of_none q hn)]; exact q) fun c xs q => by rw [upd_ne (ne_of_none q hn)]; exact q
end

/-- what may be read as u: it is u, or a known u -/
def Rd (H : Hp) (a : Addr) (u : HO) : Prop := H a = some u ∨ ∃ o, H a = some (.frz o u)
theorem Rd.of {H : Hp} {a : Addr} {u : HO} (h : H a = some u) : Rd H a u := .inl h
theorem Rd.ok {P : Program} {w : World} {H : Hp} {h : Heap} {a : Addr} {u : HO} (r : Rd H a u) (x : HOk P w H h) : ObjOk P w H h a u := by
  rcases r with r | ⟨o, r⟩
  · exact x a u r
  · obtain ⟨_, q⟩ := x a _ r
    exact q
/-- what may be written -/
def Mut : Option HO → Prop
  | some (.lst _) => True
  | some (.dK _) => True
  | some (.dT _) => True
  | some (.set _ _) => True
  | some (.ins _ _ _) => True
  | some (.ext _) => True
  | _ => False
section
variable {P : Program} {w : World} {H : Hp} {h h' : Heap} {x e : Addr} {o' : HO}
/-- the object at e is changed: x itself, or the dict of the instance x -/
theorem HOk.write (ok : HOk P w H h) (mu : Mut (H x)) (he : e = x ∨ H e = some (.own x)) (k : ∀ b u, b ≠ e → h.get? b = some u → h'.get? b = some u) (heo : ∃ u, h'.get? e = some u)
    (new : ObjOk P w (upd H x o') h' x o') : HOk P w (upd H x o') h' := fun b u q => by
  have nown : ∀ c y, H c = some (.own y) → c ≠ x := fun c y r z => by subst z; rw [r] at mu; exact mu
  have ntup : ∀ c xs, H c = some (.tup xs) → c ≠ x := fun c xs r z => by subst z; rw [r] at mu; exact mu
  by_cases hb : b = x
  · subst hb; rw [upd_same] at q; cases q; exact new
  · rw [upd_ne hb] at q
    by_cases hbe : b = e
    · have q' : H b = some (.own x) := by
        rcases he with z | z
        · exact absurd (hbe.trans z) hb
        · rw [hbe]; exact z
      rw [q] at q'; cases q'
      obtain ⟨v, hv⟩ := heo
      exact ⟨v, by rw [hbe]; exact hv⟩
    · refine (ok b u q).stay (fun c v hc r => k c v ?_ r) (fun c r => by rw [upd_ne (nown c b r)]; exact r) fun c xs r => by rw [upd_ne (ntup c xs r)]; exact r
      rcases hc with rfl | hc
      · exact hbe
      · rintro rfl
        rcases he with z | z
        · exact nown c b hc z
        · rw [hc] at z; cases z; exact hb rfl
end

/-! ### kept unless tracked; of the frames at fs (the callers') the slots may change (an exception that passes writes there); of the records at ex (iterators) nothing is said -/
structure Un (fs ex : List Addr) (H H' : Hp) (h h' : Heap) : Prop where
  keep : ∀ b o, h.get? b = some o → H b = none → b ∉ fs → b ∉ ex → h'.get? b = some o
  slot : ∀ b o, h.get? b = some o → H b = none → b ∈ fs → b ∉ ex → ∃ sl, h'.get? b = some { o with slots := sl }
  free : ∀ b o, h.get? b = some o → H b = none → b ∉ ex → H' b = none
  there : ∀ b o, h.get? b = some o → b ∉ ex → ∃ o', h'.get? b = some o'
  tups : ∀ b xs, H b = some (.tup xs) → H' b = some (.tup xs)
  frzs : ∀ b o u, H b = some (.frz o u) → H' b = some (.frz o u)
  tbls : ∀ b ps, H b = some (.tbl ps) → ∃ more, H' b = some (.tbl (ps ++ more))
section
variable {fs fs' ex ex' : List Addr} {H H1 H2 : Hp} {h h1 h2 h' : Heap} {a x e : Addr} {o : HO}
theorem Un.any (u : Un fs ex H H1 h h1) {b : Addr} {ob : Obj} (q : h.get? b = some ob) (n : H b = none) (hx : b ∉ ex) : ∃ sl, h1.get? b = some { ob with slots := sl } := by
  by_cases hb : b ∈ fs
  · exact u.slot b ob q n hb hx
  · exact ⟨ob.slots, u.keep b ob q n hb hx⟩
theorem Un.trans (a : Un fs ex H H1 h h1) (b : Un fs ex H1 H2 h1 h2) : Un fs ex H H2 h h2 where
  keep := fun c ob q n hc hx => b.keep c ob (a.keep c ob q n hc hx) (a.free c ob q n hx) hc hx
  slot := fun c ob q n hc hx => by
    obtain ⟨sl, e1⟩ := a.slot c ob q n hc hx
    obtain ⟨sl', e2⟩ := b.slot c _ e1 (a.free c ob q n hx) hc hx
    exact ⟨sl', e2⟩
  free := fun c ob q n hx => by
    obtain ⟨o', e1⟩ := a.there c ob q hx
    exact b.free c o' e1 (a.free c ob q n hx) hx
  there := fun c ob q hx => by
    obtain ⟨o', e1⟩ := a.there c ob q hx
    exact b.there c o' e1 hx
  tups := fun c xs q => b.tups c xs (a.tups c xs q)
  frzs := fun c ob xs q => b.frzs c ob xs (a.frzs c ob xs q)
  tbls := fun c ps q => by
    obtain ⟨m1, e1⟩ := a.tbls c ps q
    obtain ⟨m2, e2⟩ := b.tbls c _ e1
    exact ⟨m1 ++ m2, by rw [e2, Array.append_assoc]⟩
theorem Un.kept (k : ∀ b u, h.get? b = some u → h'.get? b = some u) : Un fs ex H H h h' :=
  ⟨fun b ob q _ _ _ => k b ob q, fun b ob q _ _ _ => ⟨ob.slots, k b ob q⟩, fun _ _ _ n _ => n, fun b ob q _ => ⟨ob, k b ob q⟩, fun _ _ q => q, fun _ _ _ q => q, fun _ ps q => ⟨#[], by rw [q]; simp⟩⟩
theorem Un.refl : Un fs ex H H h h := Un.kept fun _ _ q => q
theorem Un.laid (k : ∀ b u, h.get? b = some u → h'.get? b = some u) (hp : h.objs.size ≤ a) (hn : H a = none) : Un fs ex H (upd H a o) h h' where
  keep := fun b u q _ _ _ => k b u q
  slot := fun b u q _ _ _ => ⟨u.slots, k b u q⟩
  free := fun b u q n _ => by rw [upd_ne (Nat.ne_of_lt (Nat.lt_of_lt_of_le (Heap.lt_size q) hp))]; exact n
  there := fun b u q _ => ⟨u, k b u q⟩
  tups := fun b xs q => by rw [upd_ne (ne_of_none q hn)]; exact q
  frzs := fun b u xs q => by rw [upd_ne (ne_of_none q hn)]; exact q
  tbls := fun b ps q => ⟨#[], by rw [upd_ne (ne_of_none q hn), q]; simp⟩
theorem Un.write (mu : Mut (H x)) (he : e = x ∨ H e = some (.own x)) (k : ∀ b u, b ≠ e → h.get? b = some u → h'.get? b = some u) (heo : ∃ u, h'.get? e = some u) : Un fs ex H (upd H x o) h h' := by
  have hx : ∀ b, H b = none → b ≠ x := fun b n z => by subst z; rw [n] at mu; exact mu
  have hb : ∀ b, H b = none → b ≠ e := fun b n z => by
    subst z
    rcases he with r | r
    · exact hx b n r
    · rw [n] at r; cases r
  have hm : ∀ b u, H b = some u → ¬ Mut (some u) → b ≠ x := fun b u q nm z => by subst z; rw [q] at mu; exact nm mu
  refine ⟨fun b u q n _ _ => k b u (hb b n) q, fun b u q n _ _ => ⟨u.slots, k b u (hb b n) q⟩, fun b u q n _ => by rw [upd_ne (hx b n)]; exact n, fun b u q _ => ?_,
    fun b xs q => by rw [upd_ne (hm b _ q fun z => z)]; exact q, fun b u xs q => by rw [upd_ne (hm b _ q fun z => z)]; exact q, fun b ps q => ⟨#[], by rw [upd_ne (hm b _ q fun z => z), q]; simp⟩⟩
  by_cases hbe : b = e
  · subst hbe; exact heo
  · exact ⟨u, k b u hbe q⟩
theorem Un.mono (u : Un fs ex H H1 h h1) (hs : ∀ b ∈ fs, b ∈ fs') (hx : ∀ b ∈ ex, b ∈ ex') : Un fs' ex' H H1 h h1 :=
  ⟨fun b ob q n hb he => u.keep b ob q n (fun z => hb (hs b z)) fun z => he (hx b z), fun _ _ q n _ he => u.any q n fun z => he (hx _ z), fun b ob q n he => u.free b ob q n fun z => he (hx b z), fun b ob q he => u.there b ob q fun z => he (hx b z), u.tups, u.frzs, u.tbls⟩
end

/-! ### the heap without what is tracked -/
def trk (h : Heap) (H : Hp) : List Addr := (List.range h.objs.size).filter fun a => (H a).isSome
def hidT (h : Heap) (H : Hp) : Heap := PySem.W.hideAll h (trk h H)
theorem hidT_size (h : Heap) (H : Hp) : (hidT h H).objs.size = h.objs.size := PySem.W.hideAll_size _ _
theorem hidT_get {h : Heap} {H : Hp} {b : Addr} {o : Obj} (e : h.get? b = some o) (n : H b = none) : (hidT h H).get? b = some o :=
  PySem.W.hideAll_get _ e fun hm => by
    have q : (H b).isSome = true := (List.mem_filter.mp hm).2
    rw [n] at q; simp at q
theorem of_hidT {h : Heap} {H : Hp} {b : Addr} {o : Obj} (e : (hidT h H).get? b = some o) : h.get? b = some o ∧ H b = none := by
  have e' : h.get? b = some o := PySem.W.of_hideAll (trk h H) e
  refine ⟨e', ?_⟩
  cases q : H b with
  | none => rfl
  | some x =>
    have hm : b ∈ trk h H := List.mem_filter.mpr ⟨List.mem_range.mpr (Heap.lt_size e'), by simp [q]⟩
    have z : (hidT h H).get? b = none := PySem.W.hideAll_none (trk h H) hm
    rw [z] at e; cases e

/-! ### OpenK's ledger, filled with every new object but one -/
def allNews (g h : Heap) (L : Addr) : List (Addr × Obj) := (List.range h.objs.size).filterMap fun a => if a = L ∨ (g.get? a).isSome = true then none else (h.get? a).map fun o => (a, o)
def rest (g h : Heap) (L d : Addr) : List (Addr × Obj) := (allNews g h L).filter fun p => decide (p.1 ≠ d)
end L2

namespace L2
open PySem PySem.Spec PyProof.Rows

/-- the module's facts, over the base: the heap at the law's entry without what is tracked there -/
structure Mod (K : PySem.W.Frag) (mg : Str → Option Value) (base : Heap) : Prop where
  kin : K.In base
  glob : base.Ns mainGlobals mg
  blt : ∃ mb, base.Ns builtinsNs mb ∧ ∀ x : Str, x ≠ "__name__" → mb x = bootBuiltins x
  nolimit : base.NoLimit

/-- the context: a def's body (or a comprehension's block) running. base: fixed through the whole law; s₀, H₀: the entry; outer: the frames whose slots others may change (a def's callers); stack: all frames that run;
   ex: iterators that were made ahead of the entry and are walked here (a comprehension's); fn: the names whose cells were made at the entry (a def: all; a comprehension's block: its own); calm: not within an except suite; pn: pins that every state bears; xe: what is wanted of an exception that leaves the code -/
structure Cx where
  prog : Program
  w : World
  K : PySem.W.Frag
  mg : Str → Option Value
  base : Heap
  A : Around
  N : List Str
  s₀ : Shared
  H₀ : Hp
  env : Env
  outer : List Env
  stack : List Env
  ex : List Addr
  fn : Str → Bool
  calm : Bool
  pn : List (Addr × Obj)
  xe : Value → Shared → Prop
/-- the callers' frames -/
def frs (l : List Env) : List Addr := l.filterMap (·.frame)
abbrev Cx.fs (X : Cx) : List Addr := frs X.outer

def Vis (sc : Scope) (x : Str) : Prop := sc.names.lookup x = some .local ∨ sc.names.lookup x = some .cell ∨ sc.names.lookup x = some .free
def Loc (sc : Scope) (x : Str) : Prop := sc.names.lookup x = some .local ∨ sc.names.lookup x = some .cell
def Look (env : Env) (h : Heap) (m : Str → Option Value) (x : Str) (u : Value) : Prop :=
  (env.kindOf x = some .local ∧ m x = some u) ∨ ((env.kindOf x = some .cell ∨ env.kindOf x = some .free) ∧ ∃ c, env.cells.lookup x = some c ∧ h.IsCell c (some u))

structure Cx.Ok (X : Cx) : Prop where
  mod : Mod X.K X.mg X.base
  kind : X.env.scope.kind = .function
  glob : X.env.globals = mainGlobals
  blt : X.env.builtins = builtinsNs
  above : X.s₀.heap.objs.size ≤ X.env.locals
  inj : ∀ x y c, X.env.cells.lookup x = some c → X.env.cells.lookup y = some c → x = y
  has : ∀ x, (X.env.kindOf x = some .cell ∨ X.env.kindOf x = some .free) → ∃ c, X.env.cells.lookup x = some c
  cab : ∀ x c, X.fn x = true → X.env.cells.lookup x = some c → X.s₀.heap.objs.size ≤ c
  hd : X.calm = true → X.A.handled = none
  frames : X.A.frames = some X.stack
  stk : X.stack = X.outer ∨ (X.stack = X.env :: X.outer ∧ X.env.frame = some X.env.locals)
  exf : ∀ b ∈ X.ex, b ≠ X.env.locals ∧ ∀ x c, X.env.cells.lookup x = some c → c ≠ b
  bs : ∀ b o, X.base.get? b = some o → X.s₀.heap.get? b = some o ∧ X.H₀ b = none
  bsz : X.base.objs.size ≤ X.s₀.heap.objs.size
  noex : ∀ b o, X.base.get? b = some o → b ∉ X.ex
  exfs : ∀ b ∈ X.ex, b ∉ X.fs
  funs : X.s₀.heap.FunFrames X.base X.outer
  frf : ∀ b ∈ X.fs, X.H₀ b = none

structure Inv (X : Cx) (pins : List (Addr × Obj)) (σ : List (Option V)) (H : Hp) (s : Shared) : Prop where
  ok : X.Ok
  os : s.os = X.s₀.os
  bare : AllBare s.gens
  base : Un X.fs X.ex X.H₀ H X.s₀.heap s.heap
  loc : ∃ m, s.heap.Ns X.env.locals m ∧ ∀ (i : Nat) (x : Str) (v : V), X.N[i]? = some x → σ[i]? = some (some v) → Vis X.env.scope x → ∃ u, RelV v u ∧ Look X.env s.heap m x u
  cell : ∀ x c, X.env.cells.lookup x = some c → ∃ v, s.heap.IsCell c v
  free : H X.env.locals = none
  freeC : ∀ x c, X.env.cells.lookup x = some c → H c = none
  pin : ∀ p ∈ X.pn ++ pins, s.heap.get? p.1 = some p.2 ∧ H p.1 = none ∧ p.1 ≠ X.env.locals ∧ p.1 ∉ X.fs ∧ ∀ v, p.2.data ≠ .cell v
  hok : HOk X.prog X.w H s.heap
  len : σ.length = X.N.length

section
variable {X : Cx} {pins : List (Addr × Obj)} {σ : List (Option V)} {H H' : Hp} {s : Shared} {h' : Heap}

theorem Cx.Ok.nofr (ok : X.Ok) {b : Addr} {o : Obj} (e : X.base.get? b = some o) : b ∉ X.fs := fun hb => by
  have := (ok.funs.mem hb).1
  rw [e] at this; cases this
theorem Inv.bs (I : Inv X pins σ H s) : ∀ b o, X.base.get? b = some o → s.heap.get? b = some o ∧ H b = none := fun b o e =>
  ⟨I.base.keep b o (I.ok.bs b o e).1 (I.ok.bs b o e).2 (I.ok.nofr e) (I.ok.noex b o e), I.base.free b o (I.ok.bs b o e).1 (I.ok.bs b o e).2 (I.ok.noex b o e)⟩
theorem Inv.bk (I : Inv X pins σ H s) : ∀ b o, X.base.get? b = some o → s.heap.get? b = some o := fun b o e => (I.bs b o e).1
theorem Inv.mod (I : Inv X pins σ H s) : Mod X.K X.mg X.base := I.ok.mod
theorem Inv.kIn (I : Inv X pins σ H s) : X.K.In s.heap := I.ok.mod.kin.keeps I.bk
theorem Inv.nolimit (I : Inv X pins σ H s) : s.heap.NoLimit := I.ok.mod.nolimit.keeps I.bk
/-- the frame over the base: for OpenK's rules (K.In X.base is I.mod.kin) -/
theorem Inv.fr (I : Inv X pins σ H s) : ∃ m, Fr X.base X.env.locals s.heap m :=
  let ⟨m, hn, _⟩ := I.loc
  ⟨m, hn, I.bk, Nat.le_trans I.ok.bsz I.ok.above⟩
theorem Inv.lt (I : Inv X pins σ H s) : X.env.locals < s.heap.objs.size := let ⟨_, hn, _⟩ := I.loc; hn.lt
theorem Inv.sz (I : Inv X pins σ H s) : X.s₀.heap.objs.size ≤ s.heap.objs.size := Nat.le_trans I.ok.above (Nat.le_of_lt I.lt)
theorem Inv.nofs (I : Inv X pins σ H s) {a : Addr} (h : s.heap.objs.size ≤ a) : a ∉ X.fs := fun hb => by
  obtain ⟨_, o, ho, _⟩ := I.ok.funs.mem hb
  exact absurd (Nat.lt_of_lt_of_le (Heap.lt_size ho) (Nat.le_trans I.sz h)) (Nat.lt_irrefl _)
theorem Inv.cne (I : Inv X pins σ H s) : ∀ x c, X.env.cells.lookup x = some c → c ≠ X.env.locals := fun x c e z => by
  obtain ⟨v, o, ho, hd⟩ := I.cell x c e
  obtain ⟨m, ⟨o', es, ep, ho', hd', _⟩, _⟩ := I.loc
  rw [z, ho'] at ho; cases ho; rw [hd'] at hd; cases hd
theorem Inv.funs (I : Inv X pins σ H s) : s.heap.FunFrames X.base X.outer := by
  have all : ∀ (l : List Env), (∀ b ∈ frs l, b ∈ X.fs) → X.s₀.heap.FunFrames X.base l → s.heap.FunFrames X.base l := by
    intro l
    induction l with
    | nil => intro _ _; trivial
    | cons env r ih =>
      intro hs hl
      obtain ⟨hk, ⟨L, o, hf, hn, ho, hd⟩, hr⟩ := hl
      have hL : L ∈ X.fs := hs L (by unfold frs; rw [List.filterMap_cons, hf]; exact List.mem_cons_self)
      obtain ⟨sl, e⟩ := I.base.slot L o ho (I.ok.frf L hL) hL fun z => I.ok.exfs L z hL
      exact ⟨hk, ⟨L, _, hf, hn, e, hd⟩, ih (fun b hb => hs b (by unfold frs; rw [List.filterMap_cons, hf]; exact List.mem_cons_of_mem _ hb)) hr⟩
  exact all X.outer (fun _ hb => hb) I.ok.funs

/-- the frames that run, for a call -/
theorem Inv.stack (I : Inv X pins σ H s) : s.heap.FunFrames X.base X.stack := by
  rcases I.ok.stk with e | ⟨e, hf⟩
  · rw [e]; exact I.funs
  · rw [e]
    obtain ⟨m, hn, _⟩ := I.loc
    refine .cons (by rw [I.ok.kind]; decide) hf hn ?_ I.funs
    exact Heap.get?_none_of_le (Nat.le_trans I.ok.bsz I.ok.above)
theorem Inv.stkSub (I : Inv X pins σ H s) : ∀ b ∈ frs X.stack, b ∈ X.env.locals :: X.fs := fun b hb => by
  rcases I.ok.stk with e | ⟨e, hf⟩
  · rw [e] at hb; exact List.mem_cons_of_mem _ hb
  · rw [e] at hb
    unfold frs at hb
    rw [List.filterMap_cons, hf] at hb
    exact hb
theorem Inv.stkFree (I : Inv X pins σ H s) : ∀ b ∈ frs X.stack, H b = none := fun b hb => by
  rcases List.mem_cons.mp (I.stkSub b hb) with e | hb
  · rw [e]; exact I.free
  · obtain ⟨_, o, ho, _⟩ := I.ok.funs.mem hb
    exact I.base.free b o ho (I.ok.frf b hb) fun z => I.ok.exfs b z hb

/-- THE STEP: the untracked objects but the frame and the records at ch are kept (the callers' frames up to slots), the frame's map is kept, the new abstract heap is held -/
theorem Inv.step {g' : Array GenState} {t' : Nat} {d' : Drawn} {ch : List Addr} (I : Inv X pins σ H s)
    (hch : ∀ b ∈ ch, (b ∈ X.ex ∨ X.s₀.heap.objs.size ≤ b) ∧ b ≠ X.env.locals ∧ (∀ x c, X.env.cells.lookup x = some c → c ≠ b) ∧ ∀ p ∈ X.pn ++ pins, p.1 ≠ b)
    (keep : ∀ b o, b ≠ X.env.locals → b ∉ X.fs → b ∉ ch → s.heap.get? b = some o → H b = none → h'.get? b = some o)
    (slot : ∀ b o, b ≠ X.env.locals → b ∈ X.fs → b ∉ ch → s.heap.get? b = some o → H b = none → ∃ sl, h'.get? b = some { o with slots := sl }) (free : ∀ b o, b ∉ ch → s.heap.get? b = some o → H b = none → H' b = none)
    (there : ∀ b o, b ∉ ch → s.heap.get? b = some o → ∃ o', h'.get? b = some o')
    (tups : ∀ b xs, H b = some (.tup xs) → H' b = some (.tup xs)) (frzs : ∀ b o u, H b = some (.frz o u) → H' b = some (.frz o u)) (tbls : ∀ b ps, H b = some (.tbl ps) → ∃ more, H' b = some (.tbl (ps ++ more)))
    (ns : ∀ m, s.heap.Ns X.env.locals m → h'.Ns X.env.locals m) (hok : HOk X.prog X.w H' h') (hg : AllBare g') :
    Inv X pins σ H' { s with heap := h', gens := g', drawn := d', toks := t' } := by
  have neL : ∀ b o, X.s₀.heap.get? b = some o → b ≠ X.env.locals := fun b o e => Nat.ne_of_lt (Nat.lt_of_lt_of_le (Heap.lt_size e) I.ok.above)
  have neC : ∀ b o, X.s₀.heap.get? b = some o → b ∉ X.ex → b ∉ ch := fun b o e hx hb => by
    rcases (hch b hb).1 with z | z
    · exact hx z
    · exact absurd (Nat.lt_of_lt_of_le (Heap.lt_size e) z) (Nat.lt_irrefl _)
  have cellK : ∀ x c, X.env.cells.lookup x = some c → ∀ v, s.heap.IsCell c v → h'.IsCell c v := fun x c e v ⟨o, ho, hd⟩ => by
    have nch : c ∉ ch := fun z => (hch c z).2.2.1 x c e rfl
    by_cases hc : c ∈ X.fs
    · obtain ⟨sl, q⟩ := slot c o (I.cne x c e) hc nch ho (I.freeC x c e)
      exact ⟨_, q, hd⟩
    · exact ⟨o, keep c o (I.cne x c e) hc nch ho (I.freeC x c e), hd⟩
  refine ⟨I.ok, I.os, hg, ⟨fun b o e n hb hx => ?_, fun b o e n hb hx => ?_, fun b o e n hx => ?_, fun b o e hx => ?_, fun b xs e => tups b xs (I.base.tups b xs e), fun b o xs e => frzs b o xs (I.base.frzs b o xs e), fun b ps e => ?_⟩, ?_, fun x c e => ?_, ?_, fun x c e => ?_, fun p hp => ?_, hok, I.len⟩
  · exact keep b o (neL b o e) hb (neC b o e hx) (I.base.keep b o e n hb hx) (I.base.free b o e n hx)
  · obtain ⟨sl, e1⟩ := I.base.slot b o e n hb hx
    obtain ⟨sl', e2⟩ := slot b _ (neL b o e) hb (neC b o e hx) e1 (I.base.free b o e n hx)
    exact ⟨sl', e2⟩
  · obtain ⟨o', e1⟩ := I.base.there b o e hx
    exact free b o' (neC b o e hx) e1 (I.base.free b o e n hx)
  · obtain ⟨o', e1⟩ := I.base.there b o e hx
    exact there b o' (neC b o e hx) e1
  · obtain ⟨m1, e1⟩ := I.base.tbls b ps e
    obtain ⟨m2, e2⟩ := tbls b _ e1
    exact ⟨m1 ++ m2, by rw [e2, Array.append_assoc]⟩
  · obtain ⟨m, hn, hl⟩ := I.loc
    refine ⟨m, ns m hn, fun i x v e1 e2 e3 => ?_⟩
    obtain ⟨u, r, l⟩ := hl i x v e1 e2 e3
    refine ⟨u, r, ?_⟩
    rcases l with l | ⟨k, c, e, z⟩
    · exact .inl l
    · exact .inr ⟨k, c, e, cellK x c e _ z⟩
  · obtain ⟨v, z⟩ := I.cell x c e
    exact ⟨v, cellK x c e v z⟩
  · obtain ⟨m, ⟨o, _, _, ho, _⟩, _⟩ := I.loc
    exact free _ o (fun z => (hch _ z).2.1 rfl) ho I.free
  · obtain ⟨v, o, ho, hd⟩ := I.cell x c e
    exact free c o (fun z => (hch c z).2.2.1 x c e rfl) ho (I.freeC x c e)
  · obtain ⟨e, n, ne, nf, d⟩ := I.pin p hp
    have nch : p.1 ∉ ch := fun z => (hch p.1 z).2.2.2 p hp rfl
    exact ⟨keep p.1 p.2 ne nf nch e n, free p.1 p.2 nch e n, ne, nf, d⟩
/-- .. where the frame's own object is kept too -/
theorem Inv.un {t' : Nat} (I : Inv X pins σ H s) (u : Un X.fs [] H H' s.heap h') (hok : HOk X.prog X.w H' h') : Inv X pins σ H' { s with heap := h', toks := t' } := by
  obtain ⟨m, ⟨o, es, ep, ho, r⟩, _⟩ := id I.loc
  obtain ⟨sl, hL⟩ := u.any ho I.free (by simp)
  exact I.step (g' := s.gens) (d' := s.drawn) (ch := []) (fun _ z => nomatch z) (fun b o _ hb _ e n => u.keep b o e n hb (by simp)) (fun b o _ hb _ e n => u.slot b o e n hb (by simp)) (fun b o _ e n => u.free b o e n (by simp)) (fun b o _ e => u.there b o e (by simp)) u.tups u.frzs u.tbls (fun m' hm => by
    obtain ⟨o', es', ep', ho', r'⟩ := hm
    rw [ho] at ho'; cases ho'
    exact ⟨_, es', ep', hL, r'⟩) hok I.bare
/-- behind a call (or a comprehension's block): the slots of this frame may have changed too, the records at ch may have turned -/
theorem Inv.call {g' : Array GenState} {t' : Nat} {d' : Drawn} {ch : List Addr} (I : Inv X pins σ H s) (u : Un (frs X.stack) ch H H' s.heap h') (hok : HOk X.prog X.w H' h') (hg : AllBare g')
    (hch : ∀ b ∈ ch, (b ∈ X.ex ∨ X.s₀.heap.objs.size ≤ b) ∧ b ≠ X.env.locals ∧ (∀ x c, X.env.cells.lookup x = some c → c ≠ b) ∧ ∀ p ∈ X.pn ++ pins, p.1 ≠ b) :
    Inv X pins σ H' { s with heap := h', gens := g', drawn := d', toks := t' } := by
  obtain ⟨m, ⟨o, es, ep, ho, r⟩, _⟩ := id I.loc
  obtain ⟨sl, hL⟩ := u.any ho I.free fun z => (hch _ z).2.1 rfl
  exact I.step (ch := ch) hch (fun b o hL hb hc e n => u.keep b o e n (fun z => (List.mem_cons.mp (I.stkSub b z)).elim hL hb) hc) (fun b o _ _ hc e n => u.any e n hc) (fun b o hc e n => u.free b o e n hc) (fun b o hc e => u.there b o e hc) u.tups u.frzs u.tbls (fun m' hm => by
    obtain ⟨o', es', ep', ho', r'⟩ := hm
    rw [ho] at ho'; cases ho'
    exact ⟨_, es', ep', hL, r'⟩) hok hg
/-- an untracked record of ours (an iterator) has turned -/
theorem Inv.turned {t' : Nat} {it : Addr} (I : Inv X pins σ H s) (k : ∀ b o, b ≠ it → s.heap.get? b = some o → h'.get? b = some o) (hn : H it = none) (hL : it ≠ X.env.locals)
    (h1 : it ∈ X.ex ∨ X.s₀.heap.objs.size ≤ it) (h2 : ∀ x c, X.env.cells.lookup x = some c → c ≠ it) (h3 : ∀ p ∈ X.pn ++ pins, p.1 ≠ it) : Inv X pins σ H { s with heap := h', toks := t' } := by
  have nit : ∀ b u, H b = some u → b ≠ it := fun b u e z => by rw [z, hn] at e; cases e
  refine I.step (g' := s.gens) (d' := s.drawn) (ch := [it]) (fun b hb => ?_) (fun b o _ _ hc e _ => k b o (fun z => hc (by simp [z])) e) (fun b o _ _ hc e _ => ⟨o.slots, k b o (fun z => hc (by simp [z])) e⟩) (fun _ _ _ _ n => n)
    (fun b o hc e => ⟨o, k b o (fun z => hc (by simp [z])) e⟩) (fun _ _ e => e) (fun _ _ _ e => e) (fun b ps e => ⟨#[], by rw [e]; simp⟩) (fun m hm => ?_) (fun b u e => ?_) I.bare
  · have e : b = it := by simpa using hb
    subst e
    exact ⟨h1, hL, h2, h3⟩
  · obtain ⟨o, es, ep, ho, r⟩ := hm
    exact ⟨o, es, ep, k _ o (Ne.symm hL) ho, r⟩
  · refine (I.hok b u e).stay (fun c v hc q => k c v ?_ q) (fun _ q => q) fun _ _ q => q
    rcases hc with z | z
    · rw [z]; exact nit b u e
    · exact nit c _ z
theorem Inv.tok (I : Inv X pins σ H s) (t : Nat) : Inv X pins σ H { s with toks := t } := I.un (h' := s.heap) (t' := t) Un.refl I.hok
/-- all objects kept -/
theorem Inv.kept {t' : Nat} (I : Inv X pins σ H s) (k : ∀ b u, s.heap.get? b = some u → h'.get? b = some u) : Inv X pins σ H { s with heap := h', toks := t' } := I.un (Un.kept k) (I.hok.kept k)
/-- a new object laid and tracked -/
theorem Inv.laid {a : Addr} {o : HO} {t' : Nat} (I : Inv X pins σ H s) (k : ∀ b u, s.heap.get? b = some u → h'.get? b = some u) (hp : s.heap.objs.size ≤ a) (new : ObjOk X.prog X.w (upd H a o) h' a o) :
    Inv X pins σ (upd H a o) { s with heap := h', toks := t' } := I.un (Un.laid k hp (I.hok.fresh hp)) (I.hok.laid k hp new)
/-- an object written -/
theorem Inv.write {x e : Addr} {o : HO} {t' : Nat} (I : Inv X pins σ H s) (mu : Mut (H x)) (he : e = x ∨ H e = some (.own x)) (k : ∀ b u, b ≠ e → s.heap.get? b = some u → h'.get? b = some u) (heo : ∃ u, h'.get? e = some u)
    (new : ObjOk X.prog X.w (upd H x o) h' x o) : Inv X pins σ (upd H x o) { s with heap := h', toks := t' } := I.un (Un.write mu he k heo) (I.hok.write mu he k heo new)
theorem Inv.pins_of {pins' : List (Addr × Obj)} (I : Inv X pins σ H s) (h : ∀ p ∈ pins', s.heap.get? p.1 = some p.2 ∧ H p.1 = none ∧ p.1 ≠ X.env.locals ∧ p.1 ∉ X.fs ∧ ∀ v, p.2.data ≠ .cell v) : Inv X pins' σ H s :=
  ⟨I.ok, I.os, I.bare, I.base, I.loc, I.cell, I.free, I.freeC, fun p hp => (List.mem_append.mp hp).elim (fun z => I.pin p (List.mem_append_left _ z)) (h p), I.hok, I.len⟩

theorem nodup_ix {N : List Str} (hN : N.Nodup) {i j : Nat} {x : Str} (a : N[i]? = some x) (b : N[j]? = some x) : i = j := by
  obtain ⟨h1, e1⟩ := List.getElem?_eq_some_iff.mp a
  obtain ⟨h2, e2⟩ := List.getElem?_eq_some_iff.mp b
  exact (List.getElem_inj hN).mp (e1.trans e2.symm)

/-- a name is stored; what changed -/
theorem store_ok2 {M : Model} {A : Around} {E : Value → Shared → Prop} {i : Nat} {x : Str} {v : V} {u : Value} {Q : Unit → Shared → Prop} (I : Inv X pins σ H s) (hN : X.N.Nodup) (hi : X.N[i]? = some x) (hx : Loc X.env.scope x) (r : RelV v u)
    (h : ∀ s', Inv X pins (σ.set i (some v)) H s' → (∃ a, Heap.SameBut a s.heap s'.heap ∧ (a = X.env.locals ∨ X.env.cells.lookup x = some a)) → Q () s') (hf : X.fn x = true ∨ X.env.scope.names.lookup x = some .local := by first | exact .inl rfl | exact .inr rfl | assumption) : wpAny M A (storeName X.env x u) Q E s := by
  obtain ⟨m, hn, hl⟩ := id I.loc
  have hcls : (X.env.scope.kind == .class || (X.env.scope.kind == .module && X.env.locals != X.env.globals)) = false := by rw [I.ok.kind]; rfl
  have hiσ : i < σ.length := by rw [I.len]; exact (List.getElem?_eq_some_iff.mp hi).1
  have cne := I.cne
  have tracked : ∀ {a : Addr} {h' : Heap}, (∃ o, s.heap.get? a = some o ∧ H a = none) → Heap.SameBut a s.heap h' → HOk X.prog X.w H h' := fun {a h'} ha hs b ob e => by
    obtain ⟨_, _, hfree⟩ := ha
    refine (I.hok b ob e).stay (fun c w' hc q => (hs.2 c ?_).trans q) (fun _ q => q) fun _ _ q => q
    rintro rfl
    rcases hc with rfl | hc
    · rw [hfree] at e; cases e
    · rw [hfree] at hc; cases hc
  rcases hx with hk | hk
  · refine wpAny_storeName_local hk hn (fun h' hn' hs => ?_) hcls
    obtain ⟨oL, _, _, hoL, _⟩ := id hn
    refine h _ ⟨I.ok, I.os, I.bare, ⟨fun b o e n hb hx => ?_, fun b o e n hb hx => ?_, I.base.free, fun b o e hx => ?_, I.base.tups, I.base.frzs, I.base.tbls⟩, ⟨_, hn', fun j y v' e1 e2 e3 => ?_⟩, fun y c e => ?_, I.free, I.freeC, fun p hp => ?_, tracked ⟨oL, hoL, I.free⟩ hs, by simpa using I.len⟩ ⟨_, hs, .inl rfl⟩
    · exact (hs.2 b (Nat.ne_of_lt (Nat.lt_of_lt_of_le (Heap.lt_size e) I.ok.above))).trans (I.base.keep b o e n hb hx)
    · obtain ⟨sl, e1⟩ := I.base.slot b o e n hb hx
      exact ⟨sl, (hs.2 b (Nat.ne_of_lt (Nat.lt_of_lt_of_le (Heap.lt_size e) I.ok.above))).trans e1⟩
    · obtain ⟨o', e1⟩ := I.base.there b o e hx
      exact ⟨o', (hs.2 b (Nat.ne_of_lt (Nat.lt_of_lt_of_le (Heap.lt_size e) I.ok.above))).trans e1⟩
    · by_cases hj : j = i
      · subst hj
        rw [hi] at e1; cases e1
        rw [List.getElem?_set_self hiσ] at e2
        cases e2
        exact ⟨u, r, .inl ⟨hk, by simp⟩⟩
      · rw [List.getElem?_set_ne (Ne.symm hj)] at e2
        obtain ⟨u', r', q⟩ := hl j y v' e1 e2 e3
        refine ⟨u', r', ?_⟩
        rcases q with ⟨k, e⟩ | ⟨k, c, e, z⟩
        · refine .inl ⟨k, ?_⟩
          have : y ≠ x := fun e => hj (nodup_ix hN e1 (e ▸ hi))
          simp [this, e]
        · exact .inr ⟨k, c, e, z.sameBut hs (cne y c e)⟩
    · obtain ⟨w', z⟩ := I.cell y c e
      exact ⟨w', z.sameBut hs (cne y c e)⟩
    · obtain ⟨e, n, ne, nf, d⟩ := I.pin p hp
      exact ⟨(hs.2 p.1 ne).trans e, n, ne, nf, d⟩
  · have hfn : X.fn x = true := by
      rcases hf with z | z
      · exact z
      · rw [z] at hk; cases hk
    obtain ⟨c, hc⟩ := I.ok.has x (.inl hk)
    obtain ⟨w', z⟩ := I.cell x c hc
    refine wpAny_storeName_cell I.ok.kind hk hc z (fun h' hc' hs => ?_)
    obtain ⟨oc, hoc, hocd⟩ := id z
    refine h { s with heap := h' } ⟨I.ok, I.os, I.bare, ⟨fun b o e n hb hx => ?_, fun b o e n hb hx => ?_, I.base.free, fun b o e hx => ?_, I.base.tups, I.base.frzs, I.base.tbls⟩, ⟨m, hn.sameBut hs (Ne.symm (cne x c hc)), fun j y v' e1 e2 e3 => ?_⟩, fun y c' e => ?_, I.free, I.freeC, fun p hp => ?_, tracked ⟨oc, hoc, I.freeC x c hc⟩ hs, by simpa using I.len⟩ ⟨c, hs, .inr hc⟩
    · exact (hs.2 b (Nat.ne_of_lt (Nat.lt_of_lt_of_le (Heap.lt_size e) (I.ok.cab x c hfn hc)))).trans (I.base.keep b o e n hb hx)
    · obtain ⟨sl, e1⟩ := I.base.slot b o e n hb hx
      exact ⟨sl, (hs.2 b (Nat.ne_of_lt (Nat.lt_of_lt_of_le (Heap.lt_size e) (I.ok.cab x c hfn hc)))).trans e1⟩
    · obtain ⟨o', e1⟩ := I.base.there b o e hx
      exact ⟨o', (hs.2 b (Nat.ne_of_lt (Nat.lt_of_lt_of_le (Heap.lt_size e) (I.ok.cab x c hfn hc)))).trans e1⟩
    · by_cases hj : j = i
      · subst hj
        rw [hi] at e1; cases e1
        rw [List.getElem?_set_self hiσ] at e2
        cases e2
        exact ⟨u, r, .inr ⟨.inl hk, c, hc, hc'⟩⟩
      · rw [List.getElem?_set_ne (Ne.symm hj)] at e2
        obtain ⟨u', r', q⟩ := hl j y v' e1 e2 e3
        refine ⟨u', r', ?_⟩
        rcases q with q | ⟨k, c', e, z'⟩
        · exact .inl q
        · refine .inr ⟨k, c', e, z'.sameBut hs ?_⟩
          rintro rfl
          exact hj (nodup_ix hN e1 (I.ok.inj _ _ _ e hc ▸ hi))
    · by_cases hcc : c' = c
      · subst hcc; exact ⟨_, hc'⟩
      · obtain ⟨w2, z2⟩ := I.cell y c' e
        exact ⟨w2, z2.sameBut hs hcc⟩
    · obtain ⟨e, n, ne, nf, d⟩ := I.pin p hp
      refine ⟨(hs.2 p.1 ?_).trans e, n, ne, nf, d⟩
      intro q
      rw [q, hoc] at e
      have q' : oc = p.2 := Option.some.inj e
      exact d w' (by rw [← q']; exact hocd)
theorem store_ok {M : Model} {A : Around} {E : Value → Shared → Prop} {i : Nat} {x : Str} {v : V} {u : Value} {Q : Unit → Shared → Prop} (I : Inv X pins σ H s) (hN : X.N.Nodup) (hi : X.N[i]? = some x) (hx : Loc X.env.scope x) (r : RelV v u)
    (h : ∀ s', Inv X pins (σ.set i (some v)) H s' → Q () s') (hf : X.fn x = true ∨ X.env.scope.names.lookup x = some .local := by first | exact .inl rfl | exact .inr rfl | assumption) : wpAny M A (storeName X.env x u) Q E s :=
  store_ok2 I hN hi hx r (fun s' I' _ => h s' I') hf
/-- behind a call or a block, the state as it is -/
theorem Inv.call' {s' : Shared} {ch : List Addr} (I : Inv X pins σ H s) (ho : s'.os = s.os) (u : Un (frs X.stack) ch H H' s.heap s'.heap) (hok : HOk X.prog X.w H' s'.heap) (hg : AllBare s'.gens)
    (hch : ∀ b ∈ ch, (b ∈ X.ex ∨ X.s₀.heap.objs.size ≤ b) ∧ b ≠ X.env.locals ∧ (∀ x c, X.env.cells.lookup x = some c → c ≠ b) ∧ ∀ p ∈ X.pn ++ pins, p.1 ≠ b) : Inv X pins σ H' s' := by
  obtain ⟨h', g', d', t', o'⟩ := s'
  have e : o' = s.os := ho
  subst e
  exact I.call (g' := g') (t' := t') (d' := d') u hok hg hch
end

/-! ### the judgements -/
/-- an exception: its class, its own dict's address (where it has one), the abstract heap behind it -/
abbrev XK := Value → Option Addr → Hp → Prop
abbrev St := List (Option V)
abbrev VK := V → Hp → Prop
/-- an expression's reading; a test's; an argument list's -/
abbrev TE := St → Hp → VK → Prop
abbrev TT := St → Hp → (Bool → Hp → Prop) → Prop
abbrev TA := St → Hp → (List V → Hp → Prop) → Prop
/-- what is wanted behind a statement -/
structure Ends where
  nx : St → Hp → Prop
  rt : VK
  bk : St → Hp → Prop := fun _ _ => False
  ct : St → Hp → Prop := fun _ _ => False
abbrev TS := Ends → St → Hp → Prop

def EP (X : Cx) (pins : List (Addr × Obj)) (σ : St) (Q : VK) (u : Value) (s' : Shared) : Prop := ∃ v H', Inv X pins σ H' s' ∧ RelV v u ∧ Q v H'
def TP (X : Cx) (pins : List (Addr × Obj)) (σ : St) (Q : Bool → Hp → Prop) (b : Bool) (s' : Shared) : Prop := ∃ H', Inv X pins σ H' s' ∧ Q b H'
def AP (X : Cx) (pins : List (Addr × Obj)) (σ : St) (Q : List V → Hp → Prop) (us : List Value) (s' : Shared) : Prop := ∃ vs H', Inv X pins σ H' s' ∧ Vals vs us ∧ Q vs H'
def SP (X : Cx) (pins : List (Addr × Obj)) (D : Ends) (f : Flow) (s' : Shared) : Prop :=
  match f with
  | .next => ∃ σ' H', Inv X pins σ' H' s' ∧ D.nx σ' H'
  | .brk => ∃ σ' H', Inv X pins σ' H' s' ∧ D.bk σ' H'
  | .cont => ∃ σ' H', Inv X pins σ' H' s' ∧ D.ct σ' H'
  | .ret u => ∃ v σ' H', Inv X pins σ' H' s' ∧ RelV v u ∧ D.rt v H'

def PE (X : Cx) (e : Expr) (t : TE) : Prop :=
  ∀ (pins : List (Addr × Obj)) (s : Shared) (σ : St) (H : Hp) (Q : VK), Inv X pins σ H s → t σ H Q → wpAny (model X.prog X.w) X.A (eval e X.env) (EP X pins σ Q) X.xe s
def PT (X : Cx) (e : Expr) (t : TT) : Prop :=
  ∀ (pins : List (Addr × Obj)) (s : Shared) (σ : St) (H : Hp) (Q : Bool → Hp → Prop), Inv X pins σ H s → t σ H Q → wpAny (model X.prog X.w) X.A (isTrue e X.env (eval e X.env)) (TP X pins σ Q) X.xe s
/-- a test whatever its 'whole' is (and, or) -/
def PW (X : Cx) (e : Expr) (t : TT) : Prop :=
  ∀ (whole : Sem Value) (pins : List (Addr × Obj)) (s : Shared) (σ : St) (H : Hp) (Q : Bool → Hp → Prop), Inv X pins σ H s → t σ H Q → wpAny (model X.prog X.w) X.A (isTrue e X.env whole) (TP X pins σ Q) X.xe s
theorem PW.pt {X : Cx} {e : Expr} {t : TT} (h : PW X e t) : PT X e t := h _
/-- an argument list (no star), from the left -/
def PA (X : Cx) (es : List Expr) (t : TA) : Prop :=
  ∀ (pos : Pos) (pins : List (Addr × Obj)) (s : Shared) (σ : St) (H : Hp) (Q : List V → Hp → Prop), Inv X pins σ H s → t σ H Q → wpAny (model X.prog X.w) X.A (spliced (backTo pos (starEach es X.env))) (AP X pins σ Q) X.xe s
def PS (X : Cx) (st : Stmt) (t : TS) : Prop :=
  ∀ (pins : List (Addr × Obj)) (s : Shared) (σ : St) (H : Hp) (D : Ends), Inv X pins σ H s → t D σ H → wpAny (model X.prog X.w) X.A (exec st X.env) (SP X pins D) X.xe s
def PSs (X : Cx) (st : List Stmt) (t : TS) : Prop :=
  ∀ (pins : List (Addr × Obj)) (s : Shared) (σ : St) (H : Hp) (D : Ends), Inv X pins σ H s → t D σ H → wpAny (model X.prog X.w) X.A (execs st X.env) (SP X pins D) X.xe s
/-- weaken the end -/
theorem thn {α : Type} {t : Sem α} {Q Q' : α → Shared → Prop} {M : Model} {A : Around} {E : Value → Shared → Prop} {s : Shared} (h : wpAny M A t Q E s) (hQ : ∀ a s, Q a s → Q' a s) : wpAny M A t Q' E s := wpAny_mono h hQ fun _ _ x => x
end L2

namespace L2
open PySem PySem.Spec PyProof.Rows
section
variable {X : Cx}

/-! ### names and constants -/
def tVar (i : Nat) : TE := fun σ H Q => ∃ v, σ[i]? = some (some v) ∧ Q v H
def tC (v : V) : TE := fun _ H Q => Q v H
theorem pe_var {i : Nat} {x : Str} {pos : Pos} (hN : X.N[i]? = some x) (hv : Vis X.env.scope x) (hd : (x == ("__debug__" : Str)) = false := by decide) (hcd : (x == ("__classdict__" : Str)) = false := by decide) : PE X (.Name x pos) (tVar i) := by
  intro pins s σ H Q I h
  obtain ⟨v, e, h⟩ := h
  obtain ⟨m, hn, hl⟩ := I.loc
  obtain ⟨u, r, l⟩ := hl i x v hN e hv
  have fin : EP X pins σ Q u s := ⟨v, H, I, r, h⟩
  rcases l with ⟨hk, hm⟩ | ⟨hk, c, hc, hcell⟩
  · exact wpAny_Name (wpAny_loadName_local I.ok.kind hk hn hm fin) hd
  · rcases hk with hk | hk
    · exact wpAny_Name (wpAny_loadName_cell I.ok.kind hk hc hcell fin) hd
    · exact wpAny_Name (wpAny_loadName_free I.ok.kind hk hc hcell fin hcd) hd
theorem pe_int {i j pos} : PE X (.Constant (.int i) j pos) (tC (.int i)) := fun _ _ _ H _ I h => wpAny_Constant_int ⟨.int i, H, I.tok _, ⟨_, rfl⟩, h⟩
theorem pe_bl {b j pos} : PE X (.Constant (.bool b) j pos) (tC (.bl b)) := fun _ _ _ H _ I h => Constant_bool ⟨.bl b, H, I, rfl, h⟩
theorem pe_str {x j pos} : PE X (.Constant (.str x) j pos) (tC (.str x)) := fun _ _ _ H _ I h => Calls.Constant_str ⟨.str x, H, I.tok _, ⟨_, rfl⟩, h⟩

/-- a global name of the def -/
def Gl (X : Cx) (x : Str) : Prop := X.env.kindOf x = some .globalImplicit
theorem ld_glob {E : Value → Shared → Prop} {pins : List (Addr × Obj)} {s : Shared} {σ : St} {H : Hp} {x : Str} {u : Value} {pos : Pos} {Q : Value → Shared → Prop} (I : Inv X pins σ H s) (hg : Gl X x) (hm : X.mg x = some u) (h : Q u s)
    (hd : (x == ("__debug__" : Str)) = false := by decide) : wpAny (model X.prog X.w) X.A (eval (.Name x pos) X.env) Q E s :=
  Calls.Name_function_global I.ok.kind hg (Calls.loadGlobal_global (by rw [I.ok.glob]; exact I.mod.glob.keeps I.bk) hm h) hd
theorem ld_blt {E : Value → Shared → Prop} {pins : List (Addr × Obj)} {s : Shared} {σ : St} {H : Hp} {x : Str} {u : Value} {pos : Pos} {Q : Value → Shared → Prop} (I : Inv X pins σ H s) (hg : Gl X x) (hm : X.mg x = none) (hv : bootBuiltins x = some u) (h : Q u s)
    (hn : x ≠ "__name__" := by decide) (hd : (x == ("__debug__" : Str)) = false := by decide) : wpAny (model X.prog X.w) X.A (eval (.Name x pos) X.env) Q E s := by
  obtain ⟨mb, h1, h2⟩ := I.mod.blt
  exact Calls.Name_function_global I.ok.kind hg (Calls.loadGlobal_builtin (by rw [I.ok.glob]; exact I.mod.glob.keeps I.bk) hm (by rw [I.ok.blt]; exact h1.keeps I.bk) ((h2 x hn).trans hv) h) hd
/-- a module's constant, a class, a function, as a value -/
theorem pe_glob {x : Str} {v : V} {u : Value} {pos : Pos} (hg : Gl X x) (hm : X.mg x = some u) (r : RelV v u) (hd : (x == ("__debug__" : Str)) = false := by decide) : PE X (.Name x pos) (tC v) :=
  fun _ _ _ H _ I h => ld_glob I hg hm ⟨v, H, I, r, h⟩ hd
theorem pe_bltn {x : Str} {v : V} {u : Value} {pos : Pos} (hg : Gl X x) (hm : X.mg x = none) (hv : bootBuiltins x = some u) (r : RelV v u) (hn : x ≠ "__name__" := by decide) (hd : (x == ("__debug__" : Str)) = false := by decide) : PE X (.Name x pos) (tC v) :=
  fun _ _ _ H _ I h => ld_blt I hg hm hv ⟨v, H, I, r, h⟩ hn hd

/-! ### arithmetic -/
variable {a b : Expr} {ta tb : TE} {pos : Pos}
/-! ### comparisons -/
/-- a comparison as a value, as a test -/
def tB (t : TE) : TT := fun σ H Q => t σ H fun x H1 => ∃ c, x = .bl c ∧ Q c H1
/-- an expression whose value is a bool, as a test -/
theorem pt_val {e : Expr} {t : TE} (h : PE X e t) (he : ∀ whole, isTrue e X.env whole = (do let v ← whole; standAt e.pos; holding [v] (truthy v)) := by intro _; rfl) : PT X e (tB t) := by
  intro pins s σ H Q I hw
  refine isTrue_plain (thn (h pins s σ H _ I hw) fun v s1 ⟨x, H1, I1, r1, q1⟩ => ?_) (he _)
  obtain ⟨d, rfl, q⟩ := q1
  cases r1
  exact wpAny_truthy_bool ⟨H1, I1, q⟩

/-! ### and, or, not -/
variable {tA tB' : TT} {rest : List Expr}
def tNot (t : TT) : TT := fun σ H Q => t σ H fun c H1 => Q (!c) H1
theorem pt_not (ha : PT X a tA) : PT X (.UnaryOp .Not a pos) (tNot tA) := by
  intro pins s σ H Q I h
  exact isTrue_not (ha pins s σ H (fun c H1 => Q (!c) H1) I h)
end
end L2

namespace L2
open PySem PySem.Spec PyProof.Rows

/-! ### a list, a tuple that is read: tracked, frozen, or an object of the module -/
def SqL (K : PySem.W.Frag) (H : Hp) (a : Addr) (xs : List V) : Prop :=
  Rd H a (.lst xs) ∨
    ∃ (o : Obj) (its : Array Value) (n : Nat), K.lookup a = some o ∧ o.cls = .type "list" ∧ o.dict = none ∧ o.data = .seq its n ∧ its.size ≤ sizeLine ∧ Vals xs its.toList
def SqT (K : PySem.W.Frag) (H : Hp) (a : Addr) (xs : List V) : Prop :=
  Rd H a (.tup xs) ∨
    ∃ (o : Obj) (its : Array Value) (n : Nat), K.lookup a = some o ∧ o.cls = .type "tuple" ∧ o.data = .seq its n ∧ its.size ≤ sizeLine ∧ Vals xs its.toList
def absV : Value → Option V
  | .none => some .non
  | .bool b => some (.bl b)
  | .int i _ => some (.int i)
  | .str x _ => some (.str x)
  | .bytes b _ => some (.byt b)
  | .float b _ => some (.flt b)
  | .ref a => some (.ref a)
  | .type n => some (.ty n)
  | _ => none
theorem RelV.abs {x : V} {u : Value} (r : RelV x u) : absV u = some x := by
  cases x with
  | non => cases r; rfl
  | bl _ => cases r; rfl
  | int _ => obtain ⟨t, rfl⟩ := r; rfl
  | str _ => obtain ⟨t, rfl⟩ := r; rfl
  | byt _ => obtain ⟨t, rfl⟩ := r; rfl
  | flt _ => obtain ⟨t, rfl⟩ := r; rfl
  | ref _ => cases r; rfl
  | ty _ => cases r; rfl
theorem RelV.inj {x y : V} {u : Value} (r : RelV x u) (q : RelV y u) : x = y := Option.some.inj (r.abs.symm.trans q.abs)
theorem Vals.inj : ∀ {xs ys : List V} {us : List Value}, Vals xs us → Vals ys us → xs = ys
  | _, _, _, .nil, .nil => rfl
  | _, _, _, .cons r t, .cons r' t' => by rw [r.inj r', Vals.inj t t']
section
variable {X : Cx} {pins : List (Addr × Obj)} {σ : St} {H : Hp} {s : Shared} {a : Addr} {xs ys : List V}
theorem SqL.of {K : PySem.W.Frag} (h : H a = some (.lst xs)) : SqL K H a xs := .inl (.inl h)
theorem SqT.of {K : PySem.W.Frag} (h : H a = some (.tup xs)) : SqT K H a xs := .inl (.inl h)
theorem Inv.list (I : Inv X pins σ H s) (h : SqL X.K H a xs) : ∃ its : List Value, Vals xs its ∧ PlainL s.heap a its.toArray ∧ xs.length ≤ sizeLine := by
  rcases h with h | ⟨o, its, n, hk, hc, hd, hs, hz, r⟩
  · obtain ⟨z, its, n, r, e⟩ := h.ok I.hok
    exact ⟨its, r, ⟨_, n, e, rfl, rfl, rfl⟩, z⟩
  · refine ⟨its.toList, r, ⟨o, n, I.kIn a o hk, hc, hd, by simpa using hs⟩, ?_⟩
    have e := r.length
    simp only [Array.length_toList] at e
    omega
theorem Inv.tuple (I : Inv X pins σ H s) (h : SqT X.K H a xs) : ∃ its : List Value, Vals xs its ∧ IsTup s.heap a its.toArray ∧ xs.length ≤ sizeLine := by
  rcases h with h | ⟨o, its, n, hk, hc, hs, hz, r⟩
  · obtain ⟨z, its, r, p⟩ := h.ok I.hok
    exact ⟨its, r, p, z⟩
  · refine ⟨its.toList, r, ⟨o, I.kIn a o hk, hc, n, by simpa using hs⟩, ?_⟩
    have e := r.length
    simp only [Array.length_toList] at e
    omega
theorem Inv.list_inj (I : Inv X pins σ H s) (h : SqL X.K H a xs) (h' : SqL X.K H a ys) : xs = ys := by
  obtain ⟨its, r, ⟨o, n, e, _, _, d⟩, _⟩ := I.list h
  obtain ⟨its', r', ⟨o', n', e', _, _, d'⟩, _⟩ := I.list h'
  rw [e] at e'; cases e'
  rw [d] at d'
  injection d' with d1 _
  have : its = its' := by simpa using congrArg Array.toList d1
  subst this
  exact r.inj r'
theorem Inv.tuple_inj (I : Inv X pins σ H s) (h : SqT X.K H a xs) (h' : SqT X.K H a ys) : xs = ys := by
  obtain ⟨its, r, ⟨o, e, _, n, d⟩, _⟩ := I.tuple h
  obtain ⟨its', r', ⟨o', e', _, n', d'⟩, _⟩ := I.tuple h'
  rw [e] at e'; cases e'
  rw [d] at d'
  injection d' with d1 _
  have : its = its' := by simpa using congrArg Array.toList d1
  subst this
  exact r.inj r'
end

/-! ### another wish about exceptions -/
abbrev Cx.wish (X : Cx) (E : Value → Shared → Prop) : Cx := { X with xe := E }
/-- no exception leaves -/
abbrev Cx.nox (X : Cx) : Cx := X.wish fun _ _ => False
theorem Cx.Ok.wish {X : Cx} (ok : X.Ok) (E : Value → Shared → Prop) : (X.wish E).Ok :=
  ⟨ok.mod, ok.kind, ok.glob, ok.blt, ok.above, ok.inj, ok.has, ok.cab, ok.hd, ok.frames, ok.stk, ok.exf, ok.bs, ok.bsz, ok.noex, ok.exfs, ok.funs, ok.frf⟩
theorem Cx.Ok.unwish {X : Cx} {E : Value → Shared → Prop} (ok : (X.wish E).Ok) : X.Ok :=
  ⟨ok.mod, ok.kind, ok.glob, ok.blt, ok.above, ok.inj, ok.has, ok.cab, ok.hd, ok.frames, ok.stk, ok.exf, ok.bs, ok.bsz, ok.noex, ok.exfs, ok.funs, ok.frf⟩
section
variable {X : Cx} {pins : List (Addr × Obj)} {σ : St} {H : Hp} {s : Shared} {E : Value → Shared → Prop}
theorem Inv.wish (I : Inv X pins σ H s) (E : Value → Shared → Prop) : Inv (X.wish E) pins σ H s := ⟨I.ok.wish E, I.os, I.bare, I.base, I.loc, I.cell, I.free, I.freeC, I.pin, I.hok, I.len⟩
theorem Inv.unwish (I : Inv (X.wish E) pins σ H s) : Inv X pins σ H s := ⟨I.ok.unwish, I.os, I.bare, I.base, I.loc, I.cell, I.free, I.freeC, I.pin, I.hok, I.len⟩
theorem SP.unwish {D : Ends} {f : Flow} {s' : Shared} (h : SP (X.wish E) pins D f s') : SP X pins D f s' := by
  cases f with
  | next => obtain ⟨σ', H', I, q⟩ := h; exact ⟨σ', H', I.unwish, q⟩
  | brk => obtain ⟨σ', H', I, q⟩ := h; exact ⟨σ', H', I.unwish, q⟩
  | cont => obtain ⟨σ', H', I, q⟩ := h; exact ⟨σ', H', I.unwish, q⟩
  | ret u => obtain ⟨v, σ', H', I, r, q⟩ := h; exact ⟨v, σ', H', I.unwish, r, q⟩
theorem PE.nox {e : Expr} {t : TE} (h : PE X.nox e t) : PE X e t := fun pins s σ H Q I hw =>
  wpAny_mono (h pins s σ H Q (I.wish _) hw) (fun _ _ ⟨v, H', I', r, q⟩ => ⟨v, H', I'.unwish, r, q⟩) fun _ _ z => False.elim z
theorem PT.nox {e : Expr} {t : TT} (h : PT X.nox e t) : PT X e t := fun pins s σ H Q I hw =>
  wpAny_mono (h pins s σ H Q (I.wish _) hw) (fun _ _ ⟨H', I', q⟩ => ⟨H', I'.unwish, q⟩) fun _ _ z => False.elim z
theorem PSs.nox {st : List Stmt} {t : TS} (h : PSs X.nox st t) : PSs X st t := fun pins s σ H D I hw =>
  wpAny_mono (h pins s σ H D (I.wish _) hw) (fun _ _ q => q.unwish) fun _ _ z => False.elim z
end

/-! ### blocks and small statements -/
section
variable {X : Cx} {st : Stmt} {rest : List Stmt} {t u : TS} {e : Expr} {te : TE} {pos : Pos}
def tNext : TS := fun D σ H => D.nx σ H
def tSeq (t u : TS) : TS := fun D σ H => t { D with nx := u D } σ H
theorem pss_nil : PSs X [] tNext := fun _ _ σ H _ I h => wpAny_execs_nil ⟨σ, H, I, h⟩
theorem pss_cons (h1 : PS X st t) (h2 : PSs X rest u) : PSs X (st :: rest) (tSeq t u) := by
  intro pins s σ H D I h
  refine wpAny_execs_cons (thn (h1 pins s σ H { D with nx := u D } I h) fun f s1 q => ?_)
  cases f with
  | next =>
    obtain ⟨σ', H', I', q⟩ := q
    exact h2 pins s1 σ' H' D I' q
  | ret v => exact q
  | brk => exact q
  | cont => exact q
/-- in a def's body nothing is shown -/
theorem Inv.quiet {pins : List (Addr × Obj)} {σ : St} {H : Hp} {s : Shared} (I : Inv X pins σ H s) : interactive X.env = false := by simp [interactive, I.ok.kind]
/-- an expression whose value is dropped -/
def tDrop (te : TE) : TS := fun D σ H => te σ H fun _ H1 => D.nx σ H1
theorem ps_expr (he : PE X e te) (hs : swapsWith e none pos.line X.env = pure false := by rfl) : PS X (.Expr e pos) (tDrop te) := by
  intro pins s σ H D I h
  exact wpAny_Expr_any (thn (he pins s σ H _ I h) fun v s1 ⟨x, H1, I1, r1, q1⟩ => ⟨σ, H1, I1, q1⟩) I.quiet hs
def tRet (te : TE) : TS := fun D σ H => te σ H D.rt
theorem ps_ret (he : PE X e te) : PS X (.Return (some e) pos) (tRet te) := by
  intro pins s σ H D I h
  exact wpAny_Return_some (thn (he pins s σ H _ I h) fun v s1 ⟨x, H1, I1, r1, q1⟩ => ⟨x, σ, H1, I1, r1, q1⟩)
def tIfS (c : TT) (t u : TS) : TS := fun D σ H => c σ H fun b H1 => if b = true then t D σ H1 else u D σ H1
theorem ps_if {c : Expr} {a b : List Stmt} {tc : TT} (hc : PT X c tc) (ha : PSs X a t) (hb : PSs X b u) : PS X (.If c a b pos) (tIfS tc t u) := by
  intro pins s σ H D I h
  refine wpAny_If (thn (hc pins s σ H _ I h) fun d s1 ⟨H1, I1, q1⟩ => ?_)
  cases d with
  | true => exact ha pins s1 σ H1 D I1 q1
  | false => exact hb pins s1 σ H1 D I1 q1
/-- code that the proof never comes to -/
def tNever : TS := fun _ _ _ => False
theorem pss_never {sts : List Stmt} : PSs X sts tNever := fun _ _ _ _ _ _ h => h.elim
end

/-! ### targets -/
abbrev TG := V → St → Hp → (St → Hp → Prop) → Prop
def PG (X : Cx) (target : Expr) (t : TG) : Prop :=
  ∀ (pins : List (Addr × Obj)) (s : Shared) (σ : St) (H : Hp) (v : V) (u : Value) (Q : St → Hp → Prop), Inv X pins σ H s → RelV v u → t v σ H Q →
    wpAny (model X.prog X.w) X.A (assign target X.env u) (fun _ s' => ∃ σ' H', Inv X pins σ' H' s' ∧ Q σ' H') X.xe s
/-- o[i] = v, by values -/
abbrev TSet := V → V → V → Hp → (Hp → Prop) → Prop
def PSet (X : Cx) (t : TSet) : Prop :=
  ∀ (pins : List (Addr × Obj)) (s : Shared) (σ : St) (H : Hp) (o i v : V) (ov iv u : Value) (Q : Hp → Prop), Inv X pins σ H s → RelV o ov → RelV i iv → RelV v u → t o i v H Q →
    wpAny (model X.prog X.w) X.A (setItem ov iv u) (fun _ s' => ∃ H', Inv X pins σ H' s' ∧ Q H') X.xe s
section
variable {X : Cx} {pos : Pos}
def gName (i : Nat) : TG := fun v σ H Q => Q (σ.set i (some v)) H
theorem pg_name {i : Nat} {x : Str} (hN : X.N.Nodup) (hi : X.N[i]? = some x) (hx : Loc X.env.scope x) (hf : X.fn x = true ∨ X.env.scope.names.lookup x = some .local := by first | exact .inl rfl | exact .inr rfl | assumption) : PG X (.Name x pos) (gName i) := by
  intro pins s σ H v u Q I r h
  exact wpAny_assign_Name (store_ok I hN hi hx r (fun s' I' => ⟨_, H, I', h⟩) hf)
/-- o[i] = .. -/
def gSub (to ti : TE) (t : TSet) : TG := fun v σ H Q => to σ H fun o H1 => ti σ H1 fun i H2 => t o i v H2 fun H3 => Q σ H3
theorem pg_sub {o i : Expr} {to ti : TE} {t : TSet} (ho : PE X o to) (hi : PE X i ti) (hs : PSet X t)
    (ha : ∀ v, assign (.Subscript o i pos) X.env v = (do
      let ov ← holding [v] (eval o X.env)
      let iv ← holding [v, ov] (eval i X.env)
      standAt pos
      holding [v, ov, iv] (setItem ov iv v)
      release [v, ov, iv] []) := by intro _; rfl) : PG X (.Subscript o i pos) (gSub to ti t) := by
  intro pins s σ H v u Q I r h
  rw [ha]
  refine wpAny_bind (wpAny_holding (thn (ho pins s σ H _ I h) fun ov s1 ⟨x, H1, I1, r1, q1⟩ => ?_))
  refine wpAny_bind (wpAny_holding (thn (hi pins s1 σ H1 _ I1 q1) fun iv s2 ⟨y, H2, I2, r2, q2⟩ => ?_))
  refine wpAny_bind (wpAny_standAt (wpAny_bind (wpAny_holding (thn (hs pins s2 σ H2 x y v ov iv u _ I2 r1 r2 r q2) fun _ s3 ⟨H3, I3, q3⟩ => ?_))))
  exact wpAny_release ⟨σ, H3, I3, q3⟩
/-- target = value -/
def tAsg (te : TE) (g : TG) : TS := fun D σ H => te σ H fun x H1 => g x σ H1 D.nx
theorem ps_asg {tg e : Expr} {te : TE} {g : TG} (he : PE X e te) (hg : PG X tg g) (hs : swapsWithSole [tg] e pos.line X.env = pure false := by rfl) (hw : swappedStores [tg] e X.env = pure none := by rfl)
    (h1 : (assignEach [tg] X.env).map (·.2) = [assign tg X.env] := by rfl) : PS X (.Assign [tg] e pos) (tAsg te g) := by
  intro pins s σ H D I h
  refine wpAny_Assign_stores (thn (he pins s σ H _ I h) fun v s1 ⟨x, H1, I1, r1, q1⟩ => ?_) hs hw
  rw [h1]
  exact thn (hg pins s1 σ H1 x v _ I1 r1 q1) fun _ s2 q => q
/-- name = value -/
theorem ps_set {i : Nat} {x : Str} {e : Expr} {te : TE} {pos' : Pos} (hN : X.N.Nodup) (hi : X.N[i]? = some x) (hx : Loc X.env.scope x) (he : PE X e te) (hs : swapsWith e (some (.Name x pos')) pos.line X.env = pure false := by rfl) (hf : X.fn x = true ∨ X.env.scope.names.lookup x = some .local := by first | exact .inl rfl | exact .inr rfl | assumption) :
    PS X (.Assign [.Name x pos'] e pos) (tAsg te (gName i)) := by
  intro pins s σ H D I h
  refine wpAny_Assign_Name (thn (he pins s σ H _ I h) fun v s1 ⟨y, H1, I1, r1, q1⟩ => ?_) hs
  exact store_ok I1 hN hi hx r1 (fun s2 I2 => ⟨_, H1, I2, q1⟩) hf
end

/-! ### while -/
section
variable {X : Cx} {pos : Pos}
end

/-! ### what a loop or a comprehension walks -/
/-- at turn i: it yields x (the heap may grow), or it stops -/
structure It where
  go : Nat → Hp → Prop
  yld : Nat → Hp → V → Hp → Prop
  stop : Nat → Hp → Prop
/-- the iterator's own objects may turn: they are not the frame's, not pinned, younger than the entry (or a comprehension's own) -/
def FpOk (X : Cx) (pins : List (Addr × Obj)) (H : Hp) (b : Addr) : Prop :=
  H b = none ∧ b ≠ X.env.locals ∧ b ∉ X.fs ∧ (b ∈ X.ex ∨ X.s₀.heap.objs.size ≤ b) ∧ (∀ x c, X.env.cells.lookup x = some c → c ≠ b) ∧ ∀ p ∈ X.pn ++ pins, p.1 ≠ b
theorem Inv.fpOk {X : Cx} {pins : List (Addr × Obj)} {σ : St} {H H' : Hp} {s : Shared} {b : Addr} (I : Inv X pins σ H s) (hb : s.heap.objs.size ≤ b) (hn : H' b = none) : FpOk X pins H' b := by
  refine ⟨hn, Nat.ne_of_gt (Nat.lt_of_lt_of_le I.lt hb), I.nofs hb, .inr (Nat.le_trans I.sz hb), fun x c e z => ?_, fun p hp z => ?_⟩
  · obtain ⟨v, q⟩ := I.cell x c e
    exact absurd (Nat.lt_of_lt_of_le q.lt (by rw [z]; exact hb)) (Nat.lt_irrefl _)
  · exact absurd (Nat.lt_of_lt_of_le (Heap.lt_size (I.pin p hp).1) (by rw [z]; exact hb)) (Nat.lt_irrefl _)
structure Turn (P : Program) (w : World) (K : PySem.W.Frag) (tg : Expr) (J : It) (fp : List Addr) (it : Addr) (tn : Nat → Heap → Prop) : Prop where
  mem : it ∈ fp
  obj : ∀ i h, tn i h → ∀ b ∈ fp, ∃ o, h.get? b = some o ∧ ∀ v, o.data ≠ .cell v
  keep : ∀ i h h', tn i h → (∀ b ∈ fp, ∀ o, h.get? b = some o → h'.get? b = some o) → tn i h'
  item : ∀ (X : Cx), X.prog = P → X.w = w → X.K = K → X.calm = true → ∀ (i : Nat) (pins : List (Addr × Obj)) (s : Shared) (σ : St) (H : Hp) (E : Value → Shared → Prop), Inv X pins σ H s → (∀ b ∈ fp, FpOk X pins H b) → tn i s.heap → J.go i H →
    wpAny (model P w) X.A (pyNext (.ref it)) (fun r s1 => ∃ u, r = some u ∧
      wpAny (model P w) X.A (letOwnedTupleGo tg (.ref it) u) (fun _ s2 => ∃ x H', Inv X pins σ H' s2 ∧ RelV x u ∧ J.yld i H x H' ∧ tn (i + 1) s2.heap ∧ ∀ b ∈ fp, H' b = none) E s1) E s
  done : ∀ (X : Cx), X.prog = P → X.w = w → X.K = K → X.calm = true → ∀ (i : Nat) (pins : List (Addr × Obj)) (s : Shared) (σ : St) (H : Hp) (E : Value → Shared → Prop), Inv X pins σ H s → (∀ b ∈ fp, FpOk X pins H b) → tn i s.heap → J.stop i H →
    wpAny (model P w) X.A (pyNext (.ref it)) (fun r s1 => r = none ∧ Inv X pins σ H s1) E s
  self : ∀ (A : Around) (i : Nat) (s : Shared) (Q : Value → Shared → Prop) (E : Value → Shared → Prop), tn i s.heap → Q (.ref it) s → wpAny (model P w) A (pyIter (.ref it)) Q E s
abbrev TI := St → Hp → (It → Hp → Prop) → Prop
/-- an iterator has come -/
def PIE (X : Cx) (pins : List (Addr × Obj)) (σ : St) (tg : Expr) (R : It → Hp → Prop) (itv : Value) (s2 : Shared) : Prop :=
  ∃ (it : Addr) (fp : List Addr) (tn : Nat → Heap → Prop) (J : It) (H' : Hp), itv = .ref it ∧ Inv X pins σ H' s2 ∧ Turn X.prog X.w X.K tg J fp it tn ∧ tn 0 s2.heap ∧ (∀ b ∈ fp, FpOk X pins H' b) ∧ R J H'
def PI (X : Cx) (tg iter : Expr) (wi : TI) : Prop :=
  ∀ (pins : List (Addr × Obj)) (s : Shared) (σ : St) (H : Hp) (R : It → Hp → Prop), Inv X pins σ H s → wi σ H R →
    wpAny (model X.prog X.w) X.A (eval iter X.env) (fun v s1 => wpAny (model X.prog X.w) X.A (pyIter v) (PIE X pins σ tg R) X.xe s1) X.xe s

/-- the step ahead of the store is nothing for an iterator that keeps no tuple -/
theorem go_of {M : Model} {A : Around} {E : Value → Shared → Prop} {s : Shared} {tg : Expr} {it : Addr} {u : Value} {o : Obj} {n : String} {vs : Array Value} {Q : Unit → Shared → Prop} (ho : s.heap.get? it = some o) (hc : o.cls = .type n) (hd : o.data = .fields vs)
    (hn : ["enumerate", "zip", "dict_itemiterator", "dict_reverseitemiterator", "odict_iterator", "itertools.zip_longest", "itertools.pairwise"].contains n = false) (hQ : Q () s) : wpAny M A (letOwnedTupleGo tg (.ref it) u) Q E s := by
  unfold letOwnedTupleGo
  cases tg <;> first
    | exact wpAny_pure hQ
    | (cases u <;> first
        | exact wpAny_pure hQ
        | (refine wpAny_bind (wpAny_load ho ?_)
           rw [hc, hd]
           show wpAny M A (if (["enumerate", "zip", "dict_itemiterator", "dict_reverseitemiterator", "odict_iterator", "itertools.zip_longest", "itertools.pairwise"].contains n && vs[0]? == some (rawInt _)) = true then _ else _) Q E s
           rw [if_neg (by intro h; rw [hn, Bool.false_and] at h; cases h)]
           exact wpAny_pure hQ))

/-- the list at a, as it stands at each turn (a loop may append to it) -/
def Itl (K : PySem.W.Frag) (a : Addr) : It :=
  ⟨fun i H => ∃ xs x, SqL K H a xs ∧ xs[i]? = some x, fun i H x H' => H' = H ∧ ∀ xs, SqL K H a xs → xs[i]? = some x, fun i H => ∃ xs, SqL K H a xs ∧ xs.length ≤ i⟩
def Itt (K : PySem.W.Frag) (a : Addr) : It :=
  ⟨fun i H => ∃ xs x, SqT K H a xs ∧ xs[i]? = some x, fun i H x H' => H' = H ∧ ∀ xs, SqT K H a xs → xs[i]? = some x, fun i H => ∃ xs, SqT K H a xs ∧ xs.length ≤ i⟩
/-- lo, lo + 1, .. (n of them) -/
def Itr (lo : Int) (n : Nat) : It := ⟨fun i _ => i < n, fun i H x H' => H' = H ∧ x = .int (lo + i), fun i _ => n ≤ i⟩
theorem turn_list {P : Program} {w : World} {K : PySem.W.Frag} {tg : Expr} (a it : Addr) : Turn P w K tg (Itl K a) [it] it (fun i h => h.IsListIter it a i) where
  mem := by simp
  obj := fun i h st b hb => by
    have e : b = it := by simpa using hb
    subst e
    obtain ⟨o, e, c, d⟩ := st
    exact ⟨o, e, fun v z => by rw [d] at z; cases z⟩
  keep := fun i h h' st k => st.at fun o e => k it (by simp) o e
  item := by
    intro X hP hw hK hc i pins s σ H E I hf st hg
    subst hP hw hK
    obtain ⟨xs, x, hq, hx⟩ := hg
    obtain ⟨its, rv, p, hz⟩ := I.list hq
    obtain ⟨u, hu, ru⟩ := rv.get hx
    obtain ⟨f0, f1, f2, f3, f4, f5⟩ := hf it (by simp)
    refine wpAny_pyNext_list_item st p.isList (x := u) (by simpa using hu) fun h' st' sb => ?_
    have I1 : Inv X pins σ H { s with heap := h' } := I.turned (t' := s.toks) (fun b o hb e => (sb.2 b hb).trans e) f0 f1 f3 f4 f5
    obtain ⟨o, e, c, d⟩ := id st'
    exact ⟨u, rfl, go_of (s := { s with heap := h' }) e c d (by decide) ⟨x, H, I1, ru, ⟨rfl, fun ys hy => by rw [I.list_inj hy hq]; exact hx⟩, st', fun b hb => (hf b hb).1⟩⟩
  done := by
    intro X hP hw hK hc i pins s σ H E I hf st hg
    subst hP hw hK
    obtain ⟨xs, hq, hx⟩ := hg
    obtain ⟨its, rv, p, hz⟩ := I.list hq
    obtain ⟨f0, f1, f2, f3, f4, f5⟩ := hf it (by simp)
    have hl := rv.length
    exact wpAny_pyNext_list_end (I.ok.hd hc) st p.isList (by simp; omega) fun h' eb => ⟨rfl, I.turned (t' := s.toks) (fun b o hb e => eb b o hb e) f0 f1 f3 f4 f5⟩
  self := fun _ _ _ _ _ st h => wpAny_pyIter_listiter st h
theorem turn_tuple {P : Program} {w : World} {K : PySem.W.Frag} {tg : Expr} (a it : Addr) : Turn P w K tg (Itt K a) [it] it (fun i h => h.IsTupleIter it a i) where
  mem := by simp
  obj := fun i h st b hb => by
    have e : b = it := by simpa using hb
    subst e
    obtain ⟨o, e, c, d⟩ := st
    exact ⟨o, e, fun v z => by rw [d] at z; cases z⟩
  keep := fun i h h' st k => st.at fun o e => k it (by simp) o e
  item := by
    intro X hP hw hK hc i pins s σ H E I hf st hg
    subst hP hw hK
    obtain ⟨xs, x, hq, hx⟩ := hg
    obtain ⟨its, rv, p, hz⟩ := I.tuple hq
    obtain ⟨u, hu, ru⟩ := rv.get hx
    obtain ⟨f0, f1, f2, f3, f4, f5⟩ := hf it (by simp)
    refine wpAny_pyNext_tuple_item st (show s.heap.IsTuple a its.toArray from p) (x := u) (by simpa using hu) fun h' st' sb => ?_
    have I1 : Inv X pins σ H { s with heap := h' } := I.turned (t' := s.toks) (fun b o hb e => (sb.2 b hb).trans e) f0 f1 f3 f4 f5
    obtain ⟨o, e, c, d⟩ := id st'
    exact ⟨u, rfl, go_of (s := { s with heap := h' }) e c d (by decide) ⟨x, H, I1, ru, ⟨rfl, fun ys hy => by rw [I.tuple_inj hy hq]; exact hx⟩, st', fun b hb => (hf b hb).1⟩⟩
  done := by
    intro X hP hw hK hc i pins s σ H E I hf st hg
    subst hP hw hK
    obtain ⟨xs, hq, hx⟩ := hg
    obtain ⟨its, rv, p, hz⟩ := I.tuple hq
    obtain ⟨f0, f1, f2, f3, f4, f5⟩ := hf it (by simp)
    have hl := rv.length
    exact wpAny_pyNext_tuple_end (I.ok.hd hc) st (show s.heap.IsTuple a its.toArray from p) (by simp; omega) fun h' eb => ⟨rfl, I.turned (t' := s.toks) (fun b o hb e => eb b o hb e) f0 f1 f3 f4 f5⟩
  self := fun _ _ _ _ _ st h => wpAny_pyIter_tupleiter st h
theorem turn_range {P : Program} {w : World} {K : PySem.W.Frag} {tg : Expr} (it : Addr) (lo : Int) (n : Nat) : Turn P w K tg (Itr lo n) [it] it (fun i h => IsRangeIter h it (lo + (i : Nat) * 1) ((n : Int) - (i : Nat)) 1) where
  mem := by simp
  obj := fun i h st b hb => by
    have e : b = it := by simpa using hb
    subst e
    exact ⟨_, st, fun v z => by
      have z' : Data.fields _ = Data.cell v := z
      cases z'⟩
  keep := fun i h h' st k => k it (by simp) _ st
  item := by
    intro X hP hw hK hc i pins s σ H E I hf st hg
    subst hP hw hK
    obtain ⟨f0, f1, f2, f3, f4, f5⟩ := hf it (by simp)
    have W := Walks.range (prog := X.prog) (w := X.w) (I.ok.hd hc) it lo 1 n
    refine W.item i s _ _ hg st fun v h' tk hv st' kk => ?_
    obtain ⟨t, rfl⟩ := hv
    have I1 : Inv X pins σ H { s with heap := h', toks := tk } := I.turned (fun b o hb e => kk b o (by simpa using hb) e) f0 f1 f3 f4 f5
    refine ⟨_, rfl, go_of (s := { s with heap := h', toks := tk }) (n := "range_iterator") st' rfl rfl (by decide) ⟨.int (lo + i), H, I1, ⟨t, ?_⟩, ⟨rfl, rfl⟩, st', fun b hb => (hf b hb).1⟩⟩
    rw [Int.mul_one]
  done := by
    intro X hP hw hK hc i pins s σ H E I hf st hg
    subst hP hw hK
    obtain ⟨f0, f1, f2, f3, f4, f5⟩ := hf it (by simp)
    exact wpAny_pyNext_range_end (I.ok.hd hc) st (by have : n ≤ i := hg; omega) fun h' eb => ⟨rfl, I.turned (t' := s.toks) (fun b o hb e => eb b o hb e) f0 f1 f3 f4 f5⟩
  self := fun _ _ _ _ _ st h => wpAny_pyIter_rangeiter st h
end L2

namespace L2
open PySem PySem.Spec PyProof.Rows
section
variable {X : Cx} {tg : Expr}
def iList (K : PySem.W.Frag) (tl : TE) : TI := fun σ H R => tl σ H fun x H1 => ∃ a, x = .ref a ∧ (∃ xs, SqL K H1 a xs) ∧ R (Itl K a) H1
def iTup (K : PySem.W.Frag) (tl : TE) : TI := fun σ H R => tl σ H fun x H1 => ∃ a, x = .ref a ∧ (∃ xs, SqT K H1 a xs) ∧ R (Itt K a) H1
theorem pi_list {l : Expr} {tl : TE} (hl : PE X l tl) : PI X tg l (iList X.K tl) := by
  intro pins s σ H R I h
  refine thn (hl pins s σ H _ I h) fun v s1 ⟨x, H1, I1, r1, q1⟩ => ?_
  obtain ⟨a, e, ⟨xs, hq⟩, q⟩ := q1
  subst e
  cases r1
  obtain ⟨its, rv, p, hz⟩ := I1.list hq
  refine wpAny_pyIter_list p.isList ?_
  refine ⟨s1.heap.objs.size, [s1.heap.objs.size], _, _, H1, rfl, I1.kept (t' := s1.toks) fun b o e => Heap.get?_push_of_some _ e, turn_list a _, ⟨_, Heap.get?_push_size _ rfl, rfl, rfl⟩, fun b hb => ?_, q⟩
  have e : b = s1.heap.objs.size := by simpa using hb
  subst e
  exact I1.fpOk (Nat.le_refl _) (I1.hok.fresh (Nat.le_refl _))
theorem pi_tup {l : Expr} {tl : TE} (hl : PE X l tl) : PI X tg l (iTup X.K tl) := by
  intro pins s σ H R I h
  refine thn (hl pins s σ H _ I h) fun v s1 ⟨x, H1, I1, r1, q1⟩ => ?_
  obtain ⟨a, e, ⟨xs, hq⟩, q⟩ := q1
  subst e
  cases r1
  obtain ⟨its, rv, p, hz⟩ := I1.tuple hq
  refine wpAny_pyIter_tuple (show s1.heap.IsTuple a its.toArray from p) ?_
  refine ⟨s1.heap.objs.size, [s1.heap.objs.size], _, _, H1, rfl, I1.kept (t' := s1.toks) fun b o e => Heap.get?_push_of_some _ e, turn_tuple a _, ⟨_, Heap.get?_push_size _ rfl, rfl, rfl⟩, fun b hb => ?_, q⟩
  have e : b = s1.heap.objs.size := by simpa using hb
  subst e
  exact I1.fpOk (Nat.le_refl _) (I1.hok.fresh (Nat.le_refl _))
/-- a range object just made, walked -/
theorem range_it {pins : List (Addr × Obj)} {σ : St} {H : Hp} {s : Shared} {R : It → Hp → Prop} {E : Value → Shared → Prop} {lo hi : Int} {t u v : Tok} {tk : Nat} (I : Inv X pins σ H s) (h1 : -(2 ^ 62) ≤ lo) (h2 : lo < 2 ^ 62) (h3 : -(2 ^ 62) ≤ hi) (h4 : hi < 2 ^ 62)
    (q : R (Itr lo (hi - lo).toNat) H) : wpAny (model X.prog X.w) X.A (pyIter (.ref s.heap.objs.size)) (PIE X pins σ tg R) E { s with heap := s.heap.push { cls := .type "range", data := .fields #[.int lo t, .int hi u, .int 1 v] }, toks := tk } := by
  refine wpAny_pyIter_range (IsRange.new ..) (small_one h1 h2 h3 h4) ?_
  have I1 : Inv X pins σ H { s with heap := s.heap.push { cls := .type "range", data := .fields #[.int lo t, .int hi u, .int 1 v] }, toks := tk } := I.kept fun b o e => Heap.get?_push_of_some _ e
  refine ⟨(s.heap.push { cls := .type "range", data := .fields #[.int lo t, .int hi u, .int 1 v] }).objs.size, [(s.heap.push { cls := .type "range", data := .fields #[.int lo t, .int hi u, .int 1 v] }).objs.size], _, _, H, rfl,
    I1.kept (t' := tk) fun b o e => Heap.get?_push_of_some _ e, turn_range _ lo (hi - lo).toNat, ?_, fun b hb => ?_, q⟩
  · have e1 : lo + ((0 : Nat) : Int) * 1 = lo := by simp
    have e2 : (((hi - lo).toNat : Nat) : Int) - ((0 : Nat) : Int) = Builtin.Range.rangeSize lo hi 1 := by rw [rangeSize_one]; split <;> omega
    show IsRangeIter _ _ (lo + ((0 : Nat) : Int) * 1) ((((hi - lo).toNat : Nat) : Int) - ((0 : Nat) : Int)) 1
    rw [e1, e2]
    exact Heap.get?_push_size _ rfl
  · have e : b = (s.heap.push { cls := .type "range", data := .fields #[.int lo t, .int hi u, .int 1 v] }).objs.size := by simpa using hb
    subst e
    exact I1.fpOk (Nat.le_refl _) (I1.hok.fresh (Nat.le_refl _))
def iRng1 (ta : TA) : TI := fun σ H R => ta σ H fun vs H1 => ∃ j : Int, vs = [.int j] ∧ -(2 ^ 62) ≤ j ∧ j < 2 ^ 62 ∧ R (Itr 0 j.toNat) H1
theorem pi_range1 {a : Expr} {ta : TA} {p pos : Pos} (hg : Gl X "range") (hm : X.mg "range" = none) (ha : PA X [a] ta) (hs : starEach [a] X.env = [(false, eval a X.env)] := by rfl) : PI X tg (.Call (.Name "range" p) [a] [] pos) (iRng1 ta) := by
  intro pins s σ H R I h
  refine Call_ (ld_blt I hg hm boot_range (PyProof.Rows.callWith_type1 (thn (ha pos pins s σ H _ I h) fun us s1 ⟨vs, H1, I1, r1, q1⟩ => ?_) hs rfl))
  obtain ⟨j, e, q1, q2, q⟩ := q1
  subst e
  cases r1 with
  | cons r rr =>
    cases rr
    obtain ⟨t, rfl⟩ := r
    exact call_range_1 (range_it I1 (by omega) (by omega) q1 q2 (by simpa using q))
/-! ### for -/
/-- W: the invariant by the turn and a measure; N: what the body is to reach -/
def tFor (wi : TI) (g : TG) (tb : TS) : TS := fun D σ H => wi σ H fun J H1 => ∃ W : Nat → Nat → St → Hp → Prop, (∃ m, W 0 m σ H1) ∧ ∀ i m σ H, W i m σ H →
  (J.stop i H ∧ D.nx σ H) ∨ (J.go i H ∧ ∃ N : St → Hp → Prop, (∀ σ' H', N σ' H' → ∃ m', m' < m ∧ W (i + 1) m' σ' H') ∧ ∀ x H', J.yld i H x H' → g x σ H' fun σ2 H2 => tb { D with nx := N, ct := N, bk := D.nx } σ2 H2)
/-- the records at fp as they stand -/
def pinsAt (fp : List Addr) (h : Heap) : List (Addr × Obj) := fp.filterMap fun b => (h.get? b).map fun o => (b, o)
theorem mem_pinsAt {fp : List Addr} {h : Heap} {b : Addr} {o : Obj} (hb : b ∈ fp) (e : h.get? b = some o) : (b, o) ∈ pinsAt fp h := List.mem_filterMap.mpr ⟨b, hb, by rw [e]; rfl⟩
theorem of_pinsAt {fp : List Addr} {h : Heap} {p : Addr × Obj} (hp : p ∈ pinsAt fp h) : p.1 ∈ fp ∧ h.get? p.1 = some p.2 := by
  obtain ⟨b, hb, e⟩ := List.mem_filterMap.mp hp
  cases q : h.get? b with
  | none => rw [q] at e; cases e
  | some o =>
    rw [q] at e
    have e' : (b, o) = p := Option.some.inj e
    subst e'
    exact ⟨hb, q⟩
theorem Inv.pinned {pins : List (Addr × Obj)} {σ : St} {H : Hp} {s : Shared} {fp : List Addr} (I : Inv X pins σ H s) (hf : ∀ b ∈ fp, FpOk X pins H b) (ho : ∀ b ∈ fp, ∃ o, s.heap.get? b = some o ∧ ∀ v, o.data ≠ .cell v) : Inv X (pins ++ pinsAt fp s.heap) σ H s :=
  I.pins_of fun p hp => (List.mem_append.mp hp).elim (fun z => I.pin p (List.mem_append_right _ z)) fun z => by
    obtain ⟨hb, e⟩ := of_pinsAt z
    obtain ⟨f0, f1, f2, _⟩ := hf p.1 hb
    obtain ⟨o, e', d⟩ := ho p.1 hb
    rw [e] at e'; cases e'
    exact ⟨e, f0, f1, f2, d⟩
theorem Inv.unpinned {pins pl : List (Addr × Obj)} {σ : St} {H : Hp} {s : Shared} (I : Inv X (pins ++ pl) σ H s) : Inv X pins σ H s := I.pins_of fun p hp => I.pin p (List.mem_append_right _ (List.mem_append_left _ hp))
theorem ps_for {iter : Expr} {body : List Stmt} {wi : TI} {g : TG} {tb : TS} {pos : Pos} (hp : PassesOwn (model X.prog X.w) X.A X.env X.xe) (hc : X.calm = true) (hi : PI X tg iter wi) (hg : PG X tg g) (hb : PSs X body tb)
    (hs : ∀ x, foldedSetIterable iter X.env x = pure x := by intro _; rfl) : PS X (.For tg iter body [] pos) (tFor wi g tb) := by
  intro pins s σ H D I h
  refine wpAny_For (thn (hi pins s σ H _ I h) fun v s1 h1 => thn h1 fun itv s2 h2 => ?_) hs
  obtain ⟨it, fp, tn, J, H2, e, I2, T, st2, f2, W, ⟨m0, w0⟩, turn⟩ := h2
  subst e
  -- what stays true of the iterator's objects through the loop
  have stat : ∀ {H' : Hp}, (∀ b ∈ fp, H' b = none) → ∀ b ∈ fp, FpOk X pins H' b := fun hn b hb => ⟨hn b hb, (f2 b hb).2⟩
  refine codeAny_forLoop_any (fun n s' => ∃ i σ' H', Inv X pins σ' H' s' ∧ tn i s'.heap ∧ (∀ b ∈ fp, H' b = none) ∧ W i n σ' H') ?_ m0 ⟨0, σ, H2, I2, st2, fun b hb => (f2 b hb).1, w0⟩
  rintro n s3 ⟨i, σ3, H3, I3, st3, fr3, w3⟩
  rcases turn i n σ3 H3 w3 with ⟨stop, qn⟩ | ⟨go, N, hN, step⟩
  · refine wpAny_passesOwn hp (thn (T.done X rfl rfl rfl hc i pins s3 σ3 H3 X.xe I3 (stat fr3) st3 stop) fun r s4 ⟨hr, I4⟩ => ?_)
    subst hr
    exact wpAny_execs_nil ⟨σ3, H3, I4, qn⟩
  · refine wpAny_passesOwn hp (thn (T.item X rfl rfl rfl hc i pins s3 σ3 H3 X.xe I3 (stat fr3) st3 go) fun r s4 ⟨u, hr, h4⟩ => ?_)
    subst hr
    refine wpAny_passesOwn hp (thn h4 fun _ s5 ⟨x, H5, I5, r5, y5, st5, fr5⟩ => ?_)
    have I5' := I5.pinned (stat fr5) (T.obj _ _ st5)
    refine wpAny_passesOwn hp (thn (hg _ s5 σ3 H5 x u _ I5' r5 (step x H5 y5)) fun _ s6 ⟨σ6, H6, I6, q6⟩ => ?_)
    refine wpAny_passesOwn hp (thn (hb _ s6 σ6 H6 _ I6 q6) fun f s7 q7 => ?_)
    have again : ∀ {σ7 : St} {H7 : Hp}, Inv X (pins ++ pinsAt fp s5.heap) σ7 H7 s7 → N σ7 H7 → ∃ m, m < n ∧ ∃ i σ' H', Inv X pins σ' H' s7 ∧ tn i s7.heap ∧ (∀ b ∈ fp, H' b = none) ∧ W i m σ' H' := fun {σ7 H7} I7 n7 => by
      obtain ⟨m', hm, w7⟩ := hN σ7 H7 n7
      refine ⟨m', hm, i + 1, σ7, H7, I7.unpinned, T.keep _ _ _ st5 fun b hb o e => (I7.pin (b, o) (List.mem_append_right _ (List.mem_append_right _ (mem_pinsAt hb e)))).1, fun b hb => ?_, w7⟩
      obtain ⟨o, e, d⟩ := T.obj _ _ st5 b hb
      exact (I7.pin (b, o) (List.mem_append_right _ (List.mem_append_right _ (mem_pinsAt hb e)))).2.1
    cases f with
    | next => obtain ⟨σ7, H7, I7, n7⟩ := q7; exact again I7 n7
    | cont => obtain ⟨σ7, H7, I7, n7⟩ := q7; exact again I7 n7
    | brk => obtain ⟨σ7, H7, I7, q7⟩ := q7; exact ⟨σ7, H7, I7.unpinned, q7⟩
    | ret v => obtain ⟨x7, σ7, H7, I7, r7, q7⟩ := q7; exact ⟨x7, σ7, H7, I7.unpinned, r7, q7⟩
end

/-! ### the forms one uses -/
end L2

namespace L2
open PySem PySem.Spec PyProof.Rows

abbrev R2 := V → V → Hp → VK → Prop
/-- a two-place operation on values: f is binaryOp op, inplaceOp op or compareOp op -/
def OpR (X : Cx) (f : Value → Value → Sem Value) (r : R2) : Prop :=
  ∀ (pins : List (Addr × Obj)) (s : Shared) (σ : St) (H : Hp) (x y : V) (v u : Value) (Q : VK), Inv X pins σ H s → RelV x v → RelV y u → r x y H Q →
    wpAny (model X.prog X.w) X.A (f v u) (EP X pins σ Q) X.xe s
/-- a one-place operation -/
def UnR (X : Cx) (f : Value → Sem Value) (r : V → Hp → VK → Prop) : Prop :=
  ∀ (pins : List (Addr × Obj)) (s : Shared) (σ : St) (H : Hp) (x : V) (v : Value) (Q : VK), Inv X pins σ H s → RelV x v → r x H Q →
    wpAny (model X.prog X.w) X.A (f v) (EP X pins σ Q) X.xe s
/-- a call of a value that is known (a builtin, a type) with values -/
def CallR (X : Cx) (f : Value) (r : List V → Hp → VK → Prop) : Prop :=
  ∀ (pins : List (Addr × Obj)) (s : Shared) (σ : St) (H : Hp) (xs : List V) (us : List Value) (Q : VK), Inv X pins σ H s → Vals xs us → r xs H Q →
    wpAny (model X.prog X.w) X.A (call f us) (EP X pins σ Q) X.xe s
def tOp (r : R2) (ta tb : TE) : TE := fun σ H Q => ta σ H fun x H1 => tb σ H1 fun y H2 => r x y H2 Q
def tUn (r : V → Hp → VK → Prop) (ta : TE) : TE := fun σ H Q => ta σ H fun x H1 => r x H1 Q
/-- ints in, under C, and a value out -/
def rI (C : Int → Int → Prop) (g : Int → Int → V) : R2 := fun x y H Q => ∃ i j, x = .int i ∧ y = .int j ∧ C i j ∧ Q (g i j) H
def rI0 (g : Int → Int → V) : R2 := fun x y H Q => ∃ i j, x = .int i ∧ y = .int j ∧ Q (g i j) H
def rU (g : Int → V) : V → Hp → VK → Prop := fun x H Q => ∃ i, x = .int i ∧ Q (g i) H

section
variable {X : Cx} {a b c : Expr} {ta tb tc : TE} {pos : Pos}

theorem binT (ha : PE X a ta) (hb : PE X b tb) {pins : List (Addr × Obj)} {s : Shared} {σ : St} {H : Hp} {R : V → V → Hp → Prop} (I : Inv X pins σ H s)
    (h : ta σ H fun x H1 => tb σ H1 fun y H2 => R x y H2) {Q : Value → Shared → Prop} {f : Value → Value → Sem Value}
    (hf : ∀ v u s2 x y H2, Inv X pins σ H2 s2 → RelV x v → RelV y u → R x y H2 → wpAny (model X.prog X.w) X.A (f v u) Q X.xe s2) :
    wpAny (model X.prog X.w) X.A (eval a X.env) (fun v s₁ => wpAny (model X.prog X.w) X.A (eval b X.env) (fun u s₂ => wpAny (model X.prog X.w) X.A (f v u) Q X.xe s₂) X.xe s₁) X.xe s := by
  refine thn (ha pins s σ H _ I h) fun v s1 ⟨x, H1, I1, r1, q1⟩ => ?_
  refine thn (hb pins s1 σ H1 _ I1 q1) fun u s2 ⟨y, H2, I2, r2, q2⟩ => ?_
  exact hf v u s2 x y H2 I2 r1 r2 q2

theorem pe_op {op : Operator} {r : R2} (ho : OpR X (binaryOp op) r) (ha : PE X a ta) (hb : PE X b tb) : PE X (.BinOp a op b pos) (tOp r ta tb) := by
  intro pins s σ H Q I h
  exact wpAny_BinOp (binT ha hb I h fun v u s2 x y H2 I2 rx ry q => ho pins s2 σ H2 x y v u Q I2 rx ry q)
theorem pe_un {op : UnaryOp} {r : V → Hp → VK → Prop} (ho : UnR X (unaryOp op) r) (ha : PE X a ta) : PE X (.UnaryOp op a pos) (tUn r ta) := by
  intro pins s σ H Q I h
  exact UnaryOp_ (thn (ha pins s σ H _ I h) fun v s1 ⟨x, H1, I1, r1, q1⟩ => ho pins s1 σ H1 x v Q I1 r1 q1)
/-! ### ints -/
theorem opI {f : Value → Value → Sem Value} {C : Int → Int → Prop} {g : Int → Int → Int}
    (rule : ∀ (i j : Int) (t u : Tok) (s : Shared) (Q : Value → Shared → Prop) (E : Value → Shared → Prop), C i j → Q (.int (g i j) s.toks) { s with toks := s.toks + 1 } → wpAny (model X.prog X.w) X.A (f (.int i t) (.int j u)) Q E s) :
    OpR X f (rI C fun i j => .int (g i j)) := by
  intro pins s σ H x y v u Q I rx ry h
  obtain ⟨i, j, rfl, rfl, hc, q⟩ := h
  obtain ⟨t, rfl⟩ := rx
  obtain ⟨t', rfl⟩ := ry
  exact rule i j t t' s _ _ hc ⟨.int (g i j), H, I.tok _, ⟨_, rfl⟩, q⟩
theorem opI0 {f : Value → Value → Sem Value} {g : Int → Int → Int}
    (rule : ∀ (i j : Int) (t u : Tok) (s : Shared) (Q : Value → Shared → Prop) (E : Value → Shared → Prop), Q (.int (g i j) s.toks) { s with toks := s.toks + 1 } → wpAny (model X.prog X.w) X.A (f (.int i t) (.int j u)) Q E s) :
    OpR X f (rI0 fun i j => .int (g i j)) := by
  intro pins s σ H x y v u Q I rx ry h
  obtain ⟨i, j, rfl, rfl, q⟩ := h
  obtain ⟨t, rfl⟩ := rx
  obtain ⟨t', rfl⟩ := ry
  exact rule i j t t' s _ _ ⟨.int (g i j), H, I.tok _, ⟨_, rfl⟩, q⟩
theorem opB0 {f : Value → Value → Sem Value} {g : Int → Int → Bool}
    (rule : ∀ (i j : Int) (t u : Tok) (s : Shared) (Q : Value → Shared → Prop) (E : Value → Shared → Prop), Q (.bool (g i j)) s → wpAny (model X.prog X.w) X.A (f (.int i t) (.int j u)) Q E s) :
    OpR X f (rI0 fun i j => .bl (g i j)) := by
  intro pins s σ H x y v u Q I rx ry h
  obtain ⟨i, j, rfl, rfl, q⟩ := h
  obtain ⟨t, rfl⟩ := rx
  obtain ⟨t', rfl⟩ := ry
  exact rule i j t t' s _ _ ⟨.bl (g i j), H, I, rfl, q⟩

def CDiv (i j : Int) : Prop := 0 < j ∧ j < 1073741824
def CMul (i j : Int) : Prop := (-(2 ^ 64) < i ∧ i < 2 ^ 64) ∨ (-(2 ^ 64) < j ∧ j < 2 ^ 64)
theorem CMul.ok {i j : Int} (h : CMul i j) : IntMulOk i j := by
  rcases h with ⟨h1, h2⟩ | ⟨h1, h2⟩
  · exact .of_left (intBits_le_64 h1 h2)
  · exact .of_right (intBits_le_64 h1 h2)
theorem op_add : OpR X (binaryOp .Add) (rI0 fun i j => .int (i + j)) := opI0 fun _ _ _ _ _ _ _ q => add_int q
theorem op_mul : OpR X (binaryOp .Mult) (rI CMul fun i j => .int (i * j)) := opI fun _ _ _ _ _ _ _ hc q => mul_int q hc.ok
/-- // by a positive divisor -/
theorem op_fdiv : OpR X (binaryOp .FloorDiv) (rI CDiv fun i j => .int (i / j)) := opI fun i j _ _ _ _ _ hc q => by
  have h1 : (0 : Int) < j := hc.1
  have h2 : j < 1073741824 := hc.2
  exact floordiv_int (by omega) (by rw [Int.fdiv_eq_ediv_of_nonneg i (by omega)]; exact q) (.inl (PyProof.noPylong_small (by omega)))
/-- % by a positive divisor of any size -/
theorem op_mod : OpR X (binaryOp .Mod) (rI (fun _ j => 0 < j) fun i j => .int (i % j)) := opI fun i j _ _ _ _ _ hc q => by
  have h1 : (0 : Int) < j := hc
  exact mod_int' (by omega) (by rw [Int.fmod_eq_emod_of_nonneg i (by omega)]; exact q)
theorem unI {f : Value → Sem Value} {g : Int → Int}
    (rule : ∀ (i : Int) (t : Tok) (s : Shared) (Q : Value → Shared → Prop) (E : Value → Shared → Prop), Q (.int (g i) s.toks) { s with toks := s.toks + 1 } → wpAny (model X.prog X.w) X.A (f (.int i t)) Q E s) :
    UnR X f (rU fun i => .int (g i)) := by
  intro pins s σ H x v Q I rx h
  obtain ⟨i, rfl, q⟩ := h
  obtain ⟨t, rfl⟩ := rx
  exact rule i t s _ _ ⟨.int (g i), H, I.tok _, ⟨_, rfl⟩, q⟩
theorem un_neg : UnR X (unaryOp .USub) (rU fun i => .int (-i)) := unI fun _ _ _ _ _ q => neg_int q
/-! ### bools among ints: n += (a < b) -/
end

/-! ### comparisons -/
/-- the scalars that == tells apart as data does -/
def scal : V → V → Bool
  | .non, .non => true | .non, .int _ => true | .int _, .non => true | .non, .bl _ => true | .bl _, .non => true | .non, .str _ => true | .str _, .non => true
  | .int _, .int _ => true | .bl _, .bl _ => true | .str _, .str _ => true | .byt _, .byt _ => true
  | .int _, .str _ => true | .str _, .int _ => true | .bl _, .str _ => true | .str _, .bl _ => true
  | _, _ => false
def rEq : R2 := fun x y H Q => scal x y = true ∧ Q (.bl (decide (x = y))) H
def rNe : R2 := fun x y H Q => scal x y = true ∧ Q (.bl (!decide (x = y))) H

theorem dec_int {i j : Int} : decide (V.int i = V.int j) = (i == j) := by
  rw [Bool.eq_iff_iff]
  simp
theorem dec_bl {i j : Bool} : decide (V.bl i = V.bl j) = (i == j) := by
  rw [Bool.eq_iff_iff]
  simp
theorem dec_str {i j : Str} : decide (V.str i = V.str j) = (i == j) := by
  rw [Bool.eq_iff_iff]
  simp
theorem dec_byt {i j : Array UInt8} : decide (V.byt i = V.byt j) = (i.toList == j.toList) := by
  rw [Bool.eq_iff_iff]
  cases i
  cases j
  simp

section
variable {X : Cx} {a b c : Expr} {ta tb tc : TE} {pos : Pos}
theorem fin_bl {pins : List (Addr × Obj)} {σ : St} {H : Hp} {s : Shared} {Q : VK} {k k' : Bool} (I : Inv X pins σ H s) (q : Q (.bl k) H) (e : k = k') : EP X pins σ Q (.bool k') s := by
  subst e
  exact ⟨.bl k, H, I, rfl, q⟩
theorem op_eq : OpR X (compareOp .Eq) rEq := by
  intro pins s σ H x y v u Q I rx ry h
  obtain ⟨hs, q⟩ := h
  cases x with
  | non =>
    cases rx
    cases y with
    | non => cases ry; exact PySem.EqNone.eq_none_none (fin_bl I q (by simp))
    | bl j => cases ry; exact PySem.EqNone.eq_none_bool (fin_bl I q (by simp))
    | int j => obtain ⟨t', rfl⟩ := ry; exact PySem.EqNone.eq_none_int (fin_bl I q (by simp))
    | str j => obtain ⟨t', rfl⟩ := ry; exact PySem.EqNone.eq_none_str (fin_bl I q (by simp))
    | _ => exact absurd (show false = true from hs) Bool.false_ne_true
  | bl i =>
    cases rx
    cases y with
    | non => cases ry; exact PySem.EqNone.eq_bool_none (fin_bl I q (by simp))
    | bl j => cases ry; exact eq_bool (fin_bl I q dec_bl)
    | str j => obtain ⟨t', rfl⟩ := ry; exact PySem.EqMixed.eq_bool_str (fin_bl I q (by simp))
    | _ => exact absurd (show false = true from hs) Bool.false_ne_true
  | int i =>
    obtain ⟨t, rfl⟩ := rx
    cases y with
    | non => cases ry; exact PySem.EqNone.eq_int_none (fin_bl I q (by simp))
    | int j => obtain ⟨t', rfl⟩ := ry; exact eq_int (fin_bl I q dec_int)
    | str j => obtain ⟨t', rfl⟩ := ry; exact PySem.EqMixed.eq_int_str (fin_bl I q (by simp))
    | _ => exact absurd (show false = true from hs) Bool.false_ne_true
  | str i =>
    obtain ⟨t, rfl⟩ := rx
    cases y with
    | non => cases ry; exact PySem.EqNone.eq_str_none (fin_bl I q (by simp))
    | bl j => cases ry; exact PySem.EqMixed.eq_str_bool (fin_bl I q (by simp))
    | int j => obtain ⟨t', rfl⟩ := ry; exact PySem.EqMixed.eq_str_int (fin_bl I q (by simp))
    | str j => obtain ⟨t', rfl⟩ := ry; exact eq_str (fin_bl I q dec_str)
    | _ => exact absurd (show false = true from hs) Bool.false_ne_true
  | byt i =>
    obtain ⟨t, rfl⟩ := rx
    cases y with
    | byt j => obtain ⟨t', rfl⟩ := ry; exact PySem.W.eq_bytes (fin_bl I q dec_byt)
    | _ => exact absurd (show false = true from hs) Bool.false_ne_true
  | _ => cases y <;> exact absurd (show false = true from hs) Bool.false_ne_true
theorem op_ne : OpR X (compareOp .NotEq) rNe := by
  intro pins s σ H x y v u Q I rx ry h
  obtain ⟨hs, q⟩ := h
  cases x with
  | non =>
    cases rx
    cases y with
    | non => cases ry; exact PySem.EqNone.ne_none_none (fin_bl I q (by simp))
    | bl j => cases ry; exact PySem.EqNone.ne_none_bool (fin_bl I q (by simp))
    | int j => obtain ⟨t', rfl⟩ := ry; exact PySem.EqNone.ne_none_int (fin_bl I q (by simp))
    | str j => obtain ⟨t', rfl⟩ := ry; exact PySem.EqNone.ne_none_str (fin_bl I q (by simp))
    | _ => exact absurd (show false = true from hs) Bool.false_ne_true
  | bl i =>
    cases rx
    cases y with
    | non => cases ry; exact PySem.EqNone.ne_bool_none (fin_bl I q (by simp))
    | bl j => cases ry; exact ne_bool (fin_bl I q (congrArg not dec_bl))
    | str j => obtain ⟨t', rfl⟩ := ry; exact PySem.EqMixed.ne_bool_str (fin_bl I q (by simp))
    | _ => exact absurd (show false = true from hs) Bool.false_ne_true
  | int i =>
    obtain ⟨t, rfl⟩ := rx
    cases y with
    | non => cases ry; exact PySem.EqNone.ne_int_none (fin_bl I q (by simp))
    | int j => obtain ⟨t', rfl⟩ := ry; exact ne_int (fin_bl I q (congrArg not dec_int))
    | str j => obtain ⟨t', rfl⟩ := ry; exact PySem.EqMixed.ne_int_str (fin_bl I q (by simp))
    | _ => exact absurd (show false = true from hs) Bool.false_ne_true
  | str i =>
    obtain ⟨t, rfl⟩ := rx
    cases y with
    | non => cases ry; exact PySem.EqNone.ne_str_none (fin_bl I q (by simp))
    | bl j => cases ry; exact PySem.EqMixed.ne_str_bool (fin_bl I q (by simp))
    | int j => obtain ⟨t', rfl⟩ := ry; exact PySem.EqMixed.ne_str_int (fin_bl I q (by simp))
    | str j => obtain ⟨t', rfl⟩ := ry; exact ne_str (fin_bl I q (congrArg not dec_str))
    | _ => exact absurd (show false = true from hs) Bool.false_ne_true
  | byt i =>
    obtain ⟨t, rfl⟩ := rx
    cases y with
    | byt j => obtain ⟨t', rfl⟩ := ry; exact PySem.W.ne_bytes (fin_bl I q (congrArg not dec_byt))
    | _ => exact absurd (show false = true from hs) Bool.false_ne_true
  | _ => cases y <;> exact absurd (show false = true from hs) Bool.false_ne_true

theorem op_lt : OpR X (compareOp .Lt) (rI0 fun i j => .bl (decide (i < j))) := opB0 fun _ _ _ _ _ _ _ q => lt_int q
theorem op_le : OpR X (compareOp .LtE) (rI0 fun i j => .bl (decide (i ≤ j))) := opB0 fun _ _ _ _ _ _ _ q => le_int q
theorem op_notin_str : OpR X (compareOp .NotIn) (fun x y H Q => ∃ i j, x = .str i ∧ y = .str j ∧ Q (.bl (!(!(Builtin.Str.occurrences j i 0 j.length 1).isEmpty))) H) := by
  intro pins s σ H x y v u Q I rx ry h
  obtain ⟨i, j, rfl, rfl, q⟩ := h
  obtain ⟨t, rfl⟩ := rx
  obtain ⟨t', rfl⟩ := ry
  exact notIn_str (fin_bl I q rfl)
/-- two rules for one operation: by cases -/
theorem OpR.or {f : Value → Value → Sem Value} {r r' : R2} (h : OpR X f r) (h' : OpR X f r') : OpR X f (fun x y H Q => r x y H Q ∨ r' x y H Q) := by
  intro pins s σ H x y v u Q I rx ry q
  rcases q with q | q
  · exact h pins s σ H x y v u Q I rx ry q
  · exact h' pins s σ H x y v u Q I rx ry q

theorem nomark (b : Expr) {op : CmpOp} (h : op ≠ .In := by decide) (h2 : op ≠ .NotIn := by decide) : behindInMarks op b = false := by
  have e1 : (op == CmpOp.In) = false := by cases op <;> first | rfl | exact absurd rfl h
  have e2 : (op == CmpOp.NotIn) = false := by cases op <;> first | rfl | exact absurd rfl h2
  cases b <;> simp [behindInMarks, e1, e2]
/-- a comparison as a value; hm: nomark b, or (for in, not in) by with_unfolding_all rfl -/
theorem pe_cmpR {op : CmpOp} {r : R2} (ho : OpR X (compareOp op) r) (ha : PE X a ta) (hb : PE X b tb) (hm : behindInMarks op b = false) : PE X (.Compare a [op] [b] pos) (tOp r ta tb) := by
  intro pins s σ H Q I h
  exact wpAny_Compare1 (binT ha hb I h fun v u s2 x y H2 I2 rx ry q => ho pins s2 σ H2 x y v u Q I2 rx ry q) hm
/-- a reading of a value as a test -/
def tTest (t : TE) : TT := fun σ H Q => t σ H fun x H' => ∃ k, x = .bl k ∧ Q k H'
theorem pt_cmpR {op : CmpOp} {r : R2} (ho : OpR X (compareOp op) r) (ha : PE X a ta) (hb : PE X b tb) (hm : behindInMarks op b = false) : PT X (.Compare a [op] [b] pos) (tTest (tOp r ta tb)) := by
  intro pins s σ H Q I h
  refine wpAny_isTrue_Compare1 (thn (ha pins s σ H _ I h) fun v s1 ⟨x, H1, I1, r1, q1⟩ => thn (hb pins s1 σ H1 _ I1 q1) fun u s2 ⟨y, H2, I2, r2, q2⟩ =>
    thn (ho pins s2 σ H2 x y v u _ I2 r1 r2 q2) fun c s3 ⟨z, H3, I3, r3, k, e, q3⟩ => ?_) hm
  subst e
  cases r3
  exact wpAny_truthy_bool ⟨H3, I3, q3⟩
/-- a op1 b op2 c -/
def tChain (r r' : R2) (ta tb tc : TE) : TE := fun σ H Q => ta σ H fun x H1 => tb σ H1 fun y H2 => r x y H2 fun z H3 => ∃ k, z = .bl k ∧
  (if k = true then tc σ H3 fun w' H4 => r' y w' H4 Q else Q (.bl false) H3)
theorem pt_chain {op op' : CmpOp} {r r' : R2} (ho : OpR X (compareOp op) r) (ho' : OpR X (compareOp op') r') (ha : PE X a ta) (hb : PE X b tb) (hc : PE X c tc)
    (hm : lastMarks [op, op'] [b, c] = false := by with_unfolding_all rfl) : PT X (.Compare a [op, op'] [b, c] pos) (tTest (tChain r r' ta tb tc)) := by
  intro pins s σ H Q I h
  refine isTrue_chain (thn (ha pins s σ H _ I h) fun v s1 ⟨x, H1, I1, r1, q1⟩ => test_link (thn (hb pins s1 σ H1 _ I1 q1) fun u s2 ⟨y, H2, I2, r2, q2⟩ =>
    thn (ho pins s2 σ H2 x y v u _ I2 r1 r2 q2) fun d s3 ⟨z, H3, I3, r3, k, e, q3⟩ => ?_)) hm
  subst e
  cases r3
  refine wpAny_truthy_bool ?_
  cases k with
  | false =>
    obtain ⟨k', e', q'⟩ := q3
    cases e'
    exact ite_ff ⟨H3, I3, q'⟩
  | true =>
    refine ite_tt (test_last (thn (hc pins s3 σ H3 _ I3 q3) fun w' s4 ⟨z', H4, I4, r4, q4⟩ => thn (ho' pins s4 σ H4 y z' u w' _ I4 r2 r4 q4) fun d' s5 ⟨z2, H5, I5, r5, k2, e2, q5⟩ => ?_))
    subst e2
    cases r5
    exact wpAny_truthy_bool ⟨H5, I5, q5⟩

/-! ### truth -/
theorem line63 : (sizeLine : Nat) < 2 ^ 63 := by rw [sizeLine_eq]; decide
/-! ### strs and bytes -/
theorem op_add_str : OpR X (binaryOp .Add) (fun x y H Q => ∃ i j, x = .str i ∧ y = .str j ∧ i.length + j.length ≤ sizeLine ∧ Q (.str (i ++ j)) H) := by
  intro pins s σ H x y v u Q I rx ry h
  obtain ⟨i, j, rfl, rfl, hz, q⟩ := h
  obtain ⟨t, rfl⟩ := rx
  obtain ⟨t', rfl⟩ := ry
  exact add_str (fun t' tk => ⟨.str (i ++ j), H, I.tok _, ⟨_, rfl⟩, q⟩) hz
/-! ### scalar builtins, by CallR -/
theorem vals1 {x : V} {us : List Value} (r : Vals [x] us) : ∃ u, us = [u] ∧ RelV x u := by
  cases r with
  | cons r1 r2 => cases r2; exact ⟨_, rfl, r1⟩
end
end L2

namespace L2
open PySem PySem.Spec PyProof.Rows

/-! ### an instance, its attributes a map -/
structure ObjM (h : Heap) (x dx C : Addr) (mA : Str → Option Value) : Prop where
  obj : h.get? x = some (PySem.W.instObj C dx)
  ns : h.Ns1 dx mA
  ne : dx ≠ x

section
variable {prog : Program} {w : World} {A : Around} {E : Value → Shared → Prop} {s : Shared} {K : PySem.W.Frag} {x dx C f : Addr} {mA : Str → Option Value} {name : Str} {v : Value}

end

/-! ### the attributes as a list of pairs -/
section
variable {P : Program} {w : World} {H H' : Hp} {h h' : Heap} {a C dx : Addr} {fs fs' : List (Str × V)}
end

/-! ### what of the text a class must have -/
structure Cls (K : PySem.W.Frag) (C : Addr) : Prop where
  pg : PySem.W.plainGet K C Str.empty = true
  hd : PySem.W.hasDictIn K C = true
  po : PySem.W.plainOver K C = true
  sa : PySem.W.findIn K (.ref C) "__setattr__" = some (some (.builtin "object.__setattr__"))
theorem Cls.get {K : PySem.W.Frag} {C : Addr} (c : Cls K C) (f : Str) : PySem.W.plainGet K C f = true := c.pg
/-- a constant of the class -/
structure Con (K : PySem.W.Frag) (C : Addr) (f : Str) (v : V) (u : Value) : Prop where
  at_ : PySem.W.findIn K (.ref C) f = some (some u)
  rel : RelV v u
  get : PySem.W.specialIn K u "__get__" = some none
  cp : PySem.W.copiedNames.contains f = false
/-- a method: a plain def of the class or of one above it -/
structure Meth (K : PySem.W.Frag) (C : Addr) (m : Str) (f : Addr) : Prop where
  at_ : PySem.W.findIn K (.ref C) m = some (some (.ref f))
  fn : PySem.W.isFn K (.ref f) = true
  kp : PySem.W.keepIn K (.ref f) = true

section
variable {X : Cx} {pins : List (Addr × Obj)} {σ : St} {H : Hp} {s : Shared} {a C dx : Addr} {fs : List (Str × V)} {f : Str} {v : V} {A : Around} {E : Value → Shared → Prop}

/-- a new instance, tracked, without attributes -/
theorem Inv.made (I : Inv X pins σ H s) : Inv X pins σ (upd (upd H s.heap.objs.size (.own (s.heap.objs.size + 1))) (s.heap.objs.size + 1) (.ins C s.heap.objs.size []))
    { s with heap := (s.heap.push PySem.W.emptyDict).push (PySem.W.instObj C s.heap.objs.size) } := by
  have e1 : (s.heap.push PySem.W.emptyDict).get? s.heap.objs.size = some PySem.W.emptyDict := Heap.get?_push_size s.heap rfl
  have e2 : ((s.heap.push PySem.W.emptyDict).push (PySem.W.instObj C s.heap.objs.size)).get? (s.heap.objs.size + 1) = some (PySem.W.instObj C s.heap.objs.size) := by
    have := Heap.get?_push_size (s.heap.push PySem.W.emptyDict) (o := PySem.W.instObj C s.heap.objs.size) rfl
    rwa [Heap.size_push] at this
  have e3 : (s.heap.push PySem.W.emptyDict).Ns s.heap.objs.size (fun _ => none) := ⟨PySem.W.emptyDict, #[], _, e1, rfl, (fun e he => absurd he (by simp)), fun _ => rfl⟩
  have I1 := I.laid (a := s.heap.objs.size) (o := .own (s.heap.objs.size + 1)) (h' := s.heap.push PySem.W.emptyDict) (t' := s.toks) (fun b u q => Heap.get?_push_of_some _ q) (Nat.le_refl _) ⟨_, e1⟩
  refine I1.laid (a := s.heap.objs.size + 1) (o := .ins C s.heap.objs.size []) (t' := s.toks) (fun b u q => Heap.get?_push_of_some _ q) (Nat.le_of_eq (Heap.size_push _ _)) ?_
  have ne : s.heap.objs.size ≠ s.heap.objs.size + 1 := Nat.ne_of_lt (Nat.lt_succ_self _)
  refine ⟨by rw [upd_ne ne, upd_same], Nat.zero_le _, ne, e2, fun _ => none, (Heap.Ns1.of_empty e3).at fun o q => Heap.get?_push_of_some _ q, fun _ => True.intro, fun y hy => absurd rfl hy⟩

end

/-! ### readings and rules -/
section
variable {X : Cx} {o e value : Expr} {f : Str} {pos pos' tpos : Pos} {ta tv : TE}
end

/-! ### isinstance -/
section
variable {X : Cx} {pins : List (Addr × Obj)} {σ : St} {H : Hp} {s : Shared} {A : Around} {E : Value → Shared → Prop} {Q : Value → Shared → Prop} {c : Value} {b : Bool}
/-- the type of a value, as the fragment's deciders take it; for an instance its class -/
inductive TyOf (K : PySem.W.Frag) (H : Hp) : V → Value → Prop where
  | non : TyOf K H .non (.type "NoneType")
  | bl (x : Bool) : TyOf K H (.bl x) (.type "bool")
  | int (i : Int) : TyOf K H (.int i) (.type "int")
  | str (x : Str) : TyOf K H (.str x) (.type "str")
  | flt (x : UInt64) : TyOf K H (.flt x) (.type "float")
  | lst {a : Addr} {xs : List V} (e : H a = some (.lst xs)) : TyOf K H (.ref a) (.type "list")
  | frz {a : Addr} {o : Obj} {xs : List V} (e : H a = some (.frz o (.lst xs))) : TyOf K H (.ref a) (.type "list")
  | tup {a : Addr} {xs : List V} (e : H a = some (.tup xs)) : TyOf K H (.ref a) (.type "tuple")
  | dK {a : Addr} {kvs : List (Key × V)} (e : H a = some (.dK kvs)) : TyOf K H (.ref a) (.type "dict")
  | dT {a : Addr} {kvs : List (List Key × V)} (e : H a = some (.dT kvs)) : TyOf K H (.ref a) (.type "dict")
  | ins {a C dx : Addr} {fs : List (Str × V)} (e : H a = some (.ins C dx fs)) (cl : Cls K C) (ha : PySem.W.findIn K (.ref C) "__class__" = some (some (.builtin "object.__class__")))
      (hn : PySem.W.specialIn K (.builtin "object.__class__") "__get__" = some (some (.builtin "getset_descriptor.__get__"))) (htk : PySem.W.takesIn K (.builtin "object.__class__") = some true)
      (hm : PySem.W.mroIn K C (.type "object") = some true) : TyOf K H (.ref a) (.ref C)
end
end L2

namespace L2
open PySem PySem.Spec PyProof.Rows

/-! ### room -/
structure Room (k : Nat) (A : Around) : Prop where
  hd : A.handled = none
  gd : A.guards = some []
  dp : A.depth + 3 * k + 5 < recursionLimit
  un : A.units + 16 * k + 200 < cLine
theorem Room.mono {j k : Nat} {A : Around} (r : Room k A) (h : j ≤ k) : Room j A := ⟨r.hd, r.gd, by have := r.dp; omega, by have := r.un; omega⟩
theorem Room.deeper {k : Nat} {A : Around} (r : Room (k + 1) A) (env : Env) : Room k (A.deeper env) :=
  ⟨r.hd, r.gd, by have := r.dp; show A.depth + 1 + 3 * k + 5 < _; omega, by have := r.un; show A.units + 3 + 16 * k + 200 < _; omega⟩
theorem Room.in1 {k : Nat} {A : Around} (r : Room (k + 1) A) : Room k A.in1 :=
  ⟨r.hd, r.gd, by have := r.dp; show A.depth + 3 * k + 5 < _; omega, by have := r.un; show A.units + 1 + 16 * k + 200 < _; omega⟩
theorem Room.depth {k : Nat} {A : Around} (r : Room k A) : A.depth < recursionLimit := by have := r.dp; omega
theorem Room.units {k : Nat} {A : Around} (r : Room k A) : A.units + 64 < cLine := by have := r.un; omega
/-! ### argument lists and displays -/
def tNil : TA := fun _ H Q => Q [] H
def tCons (ta : TE) (tr : TA) : TA := fun σ H Q => ta σ H fun x H1 => tr σ H1 fun xs H2 => Q (x :: xs) H2
section
variable {X : Cx} {e : Expr} {es : List Expr} {te : TE} {t : TA} {pos : Pos}
theorem pa_nil : PA X [] tNil := fun _ _ _ _ H Q I h => Calls.spliced_nil ⟨[], H, I, .nil, h⟩
theorem pa_cons (ha : PE X e te) (hr : PA X es t) (hs : starEach (e :: es) X.env = (false, eval e X.env) :: starEach es X.env := by rfl) : PA X (e :: es) (tCons te t) := by
  intro pos pins s σ H Q I h
  rw [hs]
  show wpAny _ _ (spliced ((false, eval e X.env) :: backTo pos (starEach es X.env))) _ _ s
  refine Calls.spliced_cons (thn (ha pins s σ H _ I h) fun u s1 ⟨x, H1, I1, r1, q1⟩ => ?_)
  exact thn (hr pos pins s1 σ H1 _ I1 q1) fun us s2 ⟨xs, H2, I2, r2, q2⟩ => ⟨x :: xs, H2, I2, .cons r1 r2, q2⟩

def tLst (t : TA) : TE := fun σ H Q => t σ H fun xs H1 => xs.length ≤ sizeLine ∧ ∀ p, H1 p = none → Q (.ref p) (upd H1 p (.lst xs))
theorem pe_lst (h : PA X es t) : PE X (.List es pos) (tLst t) := by
  intro pins s σ H Q I hq
  refine wpAny_List_spliced (thn (h pos pins s σ H _ I hq) fun us s1 ⟨xs, H1, I1, r, z, q⟩ => ⟨by rw [← r.length]; exact z, ?_⟩)
  have hf : H1 s1.heap.objs.size = none := I1.hok.fresh (Nat.le_refl _)
  refine ⟨.ref s1.heap.objs.size, upd H1 s1.heap.objs.size (.lst xs), I1.laid (t' := s1.toks) (fun b u e => Heap.get?_push_of_some _ e) (Nat.le_refl _) ?_, rfl, q _ hf⟩
  exact ⟨z, us, 0, r, Heap.get?_push_size _ rfl⟩
end

/-! ### what a def promises -/
/-- a def's promise: the bound arguments in the parameters' order, the heap, the wanted end, the wanted exception -/
abbrev Sp := List V → Hp → VK → XK → Prop
/-- how an exception lies behind a call (file 08 gives it): the callers' frames, abstract heap and state ahead of the call, the wish, the exception, the state -/
abbrev CXT := List Env → Hp → Shared → XK → Value → Shared → Prop

/-- the state at a call -/
structure Env0 (P : Program) (w : World) (K : PySem.W.Frag) (mg : Str → Option Value) (base : Heap) (A : Around) (outer : List Env) (s : Shared) (H : Hp) : Prop where
  frames : A.frames = some outer
  mod : Mod K mg base
  bs : ∀ b o, base.get? b = some o → s.heap.get? b = some o ∧ H b = none
  bsz : base.objs.size ≤ s.heap.objs.size
  funs : s.heap.FunFrames base outer
  frf : ∀ b ∈ frs outer, H b = none
  hok : HOk P w H s.heap
  bare : AllBare s.gens
/-- a call's end -/
def CE (outer : List Env) (P : Program) (w : World) (H : Hp) (s : Shared) (Q : VK) (u : Value) (s' : Shared) : Prop :=
  ∃ v H', s'.os = s.os ∧ AllBare s'.gens ∧ Un (frs outer) [] H H' s.heap s'.heap ∧ HOk P w H' s'.heap ∧ RelV v u ∧ Q v H'
def CR (CX : CXT) (outer : List Env) (P : Program) (w : World) (H : Hp) (s : Shared) (Q : VK) (E : XK) (r : Result) (s' : Shared) : Prop :=
  match r with
  | .ok (.ret u) => CE outer P w H s Q u s'
  | .ok _ => False
  | .error e => CX outer H s E e s'
structure FnOk (P : Program) (w : World) (K : PySem.W.Frag) (mg : Str → Option Value) (base : Heap) (CX : CXT) (k : Nat) (f : Addr) (fd : FuncData) (ps : List Str) (sp : Sp) : Prop where
  len : ∀ vs H Q E, sp vs H Q E → vs.length = ps.length
  run : ∀ (A : Around) (outer : List Env) (s : Shared) (H : Hp) (args : Args) (us : List Value) (vs : List V) (Q : VK) (E : XK), Room k A → Env0 P w K mg base A outer s H → BindsTo s fd args (ps.zip us) → Vals vs us → sp vs H Q E →
    codeAny (model P w) A (.call (.ref f) args) (CR CX outer P w H s Q E) s
theorem FnOk.mono {P : Program} {w : World} {K : PySem.W.Frag} {mg : Str → Option Value} {base : Heap} {CX : CXT} {j k : Nat} {f : Addr} {fd : FuncData} {ps : List Str} {sp : Sp} (F : FnOk P w K mg base CX j f fd ps sp) (h : j ≤ k) :
    FnOk P w K mg base CX k f fd ps sp := ⟨F.len, fun A outer s H args us vs Q E hr => F.run A outer s H args us vs Q E (hr.mono h)⟩
theorem Env0.in1 {P : Program} {w : World} {K : PySem.W.Frag} {mg : Str → Option Value} {base : Heap} {A : Around} {outer : List Env} {s : Shared} {H : Hp} (e : Env0 P w K mg base A outer s H) :
    Env0 P w K mg base A.in1 outer s H := ⟨e.frames, e.mod, e.bs, e.bsz, e.funs, e.frf, e.hok, e.bare⟩

section
variable {X : Cx} {pins : List (Addr × Obj)} {σ : St} {H : Hp} {s s' : Shared}
/-- from a body: what a callee wants -/
theorem Inv.env0 (I : Inv X pins σ H s) : Env0 X.prog X.w X.K X.mg X.base X.A X.stack s H :=
  ⟨I.ok.frames, I.ok.mod, I.bs, Nat.le_trans I.ok.bsz I.sz, I.stack, I.stkFree, I.hok, I.bare⟩
/-- behind a call -/
theorem Inv.after {Q : VK} {u : Value} (I : Inv X pins σ H s) (h : CE X.stack X.prog X.w H s Q u s') : EP X pins σ Q u s' := by
  obtain ⟨v, H', os, bare, un, hok, r, q⟩ := h
  obtain ⟨hh, g, d, t, os'⟩ := s'
  obtain rfl : os' = s.os := os
  exact ⟨v, H', I.call (h' := hh) (g' := g) (d' := d) (t' := t) (ch := []) un hok bare (fun b z => absurd z (by simp)), r, q⟩
end

/-! ### calls -/
/-- f(..): the written arguments, then the defaults dvs; E: what is wanted of an exception -/
def tCall (sp : Sp) (dvs : List V) (E : XK) (t : TA) : TE := fun σ H Q => t σ H fun vs H1 => sp (vs ++ dvs) H1 Q E
/-- how the parameters are bound: us the positional arguments, kw the keywords' values by name, ds the defaults that fill up -/
def Binds (K : PySem.W.Frag) (fd : FuncData) (ps : List Str) (ds : List Value) : Prop :=
  ∀ (s : Shared) (us : List Value), K.In s.heap → (us ++ ds).length = ps.length → BindsTo s fd ⟨us, []⟩ (ps.zip (us ++ ds))
/-- every parameter is given -/
theorem Binds.all {K : PySem.W.Frag} {fd : FuncData} {ps : List Str} (h : ∀ us : List Value, us.length = ps.length → bindArgs fd ⟨us, []⟩ = pure (ps.zip us)) : Binds K fd ps [] := fun s us _ hl => by
  rw [List.append_nil] at hl ⊢
  exact .of_eq (h us hl)

/-- an exception of a callee reaches what this body wants of exceptions -/
def Passes (CX : CXT) (X : Cx) (E : XK) : Prop := ∀ (pins : List (Addr × Obj)) (σ : St) (H : Hp) (s : Shared) (e : Value) (s' : Shared), Inv X pins σ H s → CX X.stack H s E e s' → X.xe e s'

section
variable {X : Cx} {CX : CXT} {k : Nat} {f C : Addr} {fd : FuncData} {ps : List Str} {sp : Sp} {dvs : List V} {ds : List Value} {E : XK} {x m : Str} {p pos apos : Pos} {e o : Expr} {es : List Expr} {ta : TE} {t : TA}

/-- the callee runs -/
theorem run_fn {pins : List (Addr × Obj)} {σ : St} {H : Hp} {s : Shared} {Q : VK} {us : List Value} {vs : List V} (F : FnOk X.prog X.w X.K X.mg X.base CX k f fd ps sp) (hr : Room k X.A) (hb : Binds X.K fd ps ds) (hd : Vals dvs ds) (hx : Passes CX X E)
    (I : Inv X pins σ H s) (r : Vals vs us) (h : sp (vs ++ dvs) H Q E) : wpAny (model X.prog X.w) X.A (call (.ref f) us) (EP X pins σ Q) X.xe s := by
  have r2 : Vals (vs ++ dvs) (us ++ ds) := r.append hd
  have hl : (us ++ ds).length = ps.length := by rw [← r2.length]; exact F.len _ _ _ _ h
  refine wpAny_call (codeAny_mono (F.run X.A X.stack s H ⟨us, []⟩ (us ++ ds) (vs ++ dvs) Q E hr I.env0 (hb s us I.kIn hl) r2 h) fun r s' hq => ?_)
  cases r with
  | error e => exact hx pins σ H s e s' I hq
  | ok fl =>
    cases fl with
    | ret u => exact I.after hq
    | next => exact False.elim hq
    | brk => exact False.elim hq
    | cont => exact False.elim hq

theorem pe_call (F : FnOk X.prog X.w X.K X.mg X.base CX k f fd ps sp) (hr : Room k X.A) (hg : Gl X x) (hm : X.mg x = some (.ref f)) (hk : PySem.W.keepIn X.K (.ref f) = true) (hb : Binds X.K fd ps ds) (hd : Vals dvs ds) (hx : Passes CX X E)
    (ha : PA X (e :: es) t) (hdb : (x == ("__debug__" : Str)) = false := by decide) (he : starEach (e :: es) X.env = (false, eval e X.env) :: starEach es X.env := by rfl) (hpl : (backTo pos (starEach es X.env)).any (·.1) = false := by rfl) :
    PE X (.Call (.Name x p) (e :: es) [] pos) (tCall sp dvs E t) := by
  intro pins s σ H Q I h
  refine wpAny_Call_Name_kw (ld_glob I hg hm ?_ hdb)
  refine PySem.W.callWith_K (h₀ := X.base) I.ok.mod.kin hk (thn (ha pos pins s σ H _ I h) fun us s1 ⟨vs, H1, I1, r, q⟩ => ⟨I1.kIn, ?_⟩) he hpl
  exact run_fn F hr hb hd hx I1 r q
/-- what a class must have to be made -/
structure Mk (K : PySem.W.Frag) (C f : Addr) : Prop where
  makes : PySem.W.makesIn K C = true
  init : PySem.W.findIn K (.ref C) "__init__" = some (some (.ref f))
  fn : PySem.W.isFn K (.ref f) = true
  kp : PySem.W.keepIn K (.ref C) = true

end

/-! ### keywords -/
section
variable {X : Cx} {CX : CXT} {k : Nat} {f C : Addr} {fd : FuncData} {ps ks : List Str} {sp : Sp} {E : XK} {x m : Str} {p pos apos kpos : Pos} {e o : Expr} {es : List Expr} {kws : List Keyword} {te ta : TE} {t tk : TA} {nm : Option Str}
/-- how a call with keywords binds: g puts the positional values us and the keywords' values ws (names ks) in the parameters' order, defaults among them -/
structure KBinds (K : PySem.W.Frag) (fd : FuncData) (ps ks : List Str) (g : List Value → List Value → List Value) (gV : List V → List V → List V) : Prop where
  to : ∀ (s : Shared) (us ws : List Value), K.In s.heap → (g us ws).length = ps.length → BindsTo s fd ⟨us, ks.zip ws⟩ (ps.zip (g us ws))
  rel : ∀ {vs : List V} {us : List Value} {zs : List V} {ws : List Value}, Vals vs us → Vals zs ws → Vals (gV vs zs) (g us ws)
variable {g : List Value → List Value → List Value} {gV : List V → List V → List V}
end

/-! ### a def's body keeps its promise -/
/-- names: the parameters first -/
structure FnScope (N P : List Str) (sc : Scope) : Prop where
  kind : sc.kind = .function
  co : sc.isCoroutine = false
  gen : sc.isGenerator = false
  nd : N.Nodup
  pre : N.take P.length = P
  par : ∀ x ∈ P, sc.names.lookup x = some .local ∨ sc.names.lookup x = some .cell
  nofree : ∀ y ∈ sc.names, y.2 ≠ .free

theorem bindL_out {kindOf : Str → Option NameKind} {x : Str} : ∀ {binds : List (Str × Value)} {m : Str → Option Value}, (∀ v, (x, v) ∉ binds) → bindL kindOf binds m x = m x
  | [], _, _ => rfl
  | (n, v) :: r, m, h => by
    unfold bindL
    rw [bindL_out fun w hw => h w (List.mem_cons_of_mem _ hw)]
    split
    · have : x ≠ n := by rintro rfl; exact h v List.mem_cons_self
      simp [this]
    · rfl
theorem bindC_out {kindOf : Str → Option NameKind} {x : Str} : ∀ {binds : List (Str × Value)} {m : Str → Option Value}, (∀ v, (x, v) ∉ binds) → bindC kindOf binds m x = m x
  | [], _, _ => rfl
  | (n, v) :: r, m, h => by
    unfold bindC
    rw [bindC_out fun w hw => h w (List.mem_cons_of_mem _ hw)]
    split
    · rfl
    · have : x ≠ n := by rintro rfl; exact h v List.mem_cons_self
      simp [this]
theorem bindL_get {kindOf : Str → Option NameKind} {x : Str} {v : Value} : ∀ {P : List Str} {vs : List Value} {i : Nat} {m : Str → Option Value}, P.Nodup → P[i]? = some x → vs[i]? = some v → kindOf x = some .local →
    bindL kindOf (P.zip vs) m x = some v
  | [], _, _, _, _, h, _, _ => by simp at h
  | _ :: _, [], _, _, _, _, h, _ => by simp at h
  | p :: P, w :: vs, 0, m, nd, h1, h2, hk => by
    simp at h1 h2; subst h1; subst h2
    show bindL kindOf ((p, w) :: P.zip vs) m p = _
    unfold bindL
    rw [bindL_out fun v hv => (List.nodup_cons.mp nd).1 (List.of_mem_zip hv).1, if_pos hk]
    simp
  | p :: P, w :: vs, i + 1, m, nd, h1, h2, hk => by
    show bindL kindOf ((p, w) :: P.zip vs) m x = _
    unfold bindL
    exact bindL_get (i := i) (List.nodup_cons.mp nd).2 (by simpa using h1) (by simpa using h2) hk
theorem bindC_get {kindOf : Str → Option NameKind} {x : Str} {v : Value} : ∀ {P : List Str} {vs : List Value} {i : Nat} {m : Str → Option Value}, P.Nodup → P[i]? = some x → vs[i]? = some v → kindOf x ≠ some .local →
    bindC kindOf (P.zip vs) m x = some v
  | [], _, _, _, _, h, _, _ => by simp at h
  | _ :: _, [], _, _, _, _, h, _ => by simp at h
  | p :: P, w :: vs, 0, m, nd, h1, h2, hk => by
    simp at h1 h2; subst h1; subst h2
    show bindC kindOf ((p, w) :: P.zip vs) m p = _
    unfold bindC
    rw [bindC_out fun v hv => (List.nodup_cons.mp nd).1 (List.of_mem_zip hv).1, if_neg hk]
    simp
  | p :: P, w :: vs, i + 1, m, nd, h1, h2, hk => by
    show bindC kindOf ((p, w) :: P.zip vs) m x = _
    unfold bindC
    exact bindC_get (i := i) (List.nodup_cons.mp nd).2 (by simpa using h1) (by simpa using h2) hk

/-- the names' values at the entry -/
def start (N : List Str) (vs : List V) : St := vs.map some ++ List.replicate (N.length - vs.length) none

/-- the context of a def's body, at its entry; an exception leaves the frame, then lies as CX says -/
def cxOf (CX : CXT) (P : Program) (w : World) (K : PySem.W.Frag) (mg : Str → Option Value) (base : Heap) (N : List Str) (qual : Str) (scope : Scope) (f : Addr) (cd : Value) (A : Around) (outer : List Env) (s : Shared) (H : Hp) (E : XK) : Cx where
  prog := P
  w := w
  K := K
  mg := mg
  base := base
  A := A.deeper (envOfC qual scope s.heap.objs.size f cd)
  N := N
  s₀ := s
  H₀ := H
  env := envOfC qual scope s.heap.objs.size f cd
  outer := outer
  stack := envOfC qual scope s.heap.objs.size f cd :: outer
  ex := []
  calm := true
  fn := fun _ => true
  pn := []
  xe := fun e s' => wpAny (model P w) (A.deeper (envOfC qual scope s.heap.objs.size f cd)) (leaving (envOfC qual scope s.heap.objs.size f cd) e) (fun _ s'' => CX outer H s E e s'') (fun e' s'' => CX outer H s E e' s'') s'

theorem cell_has {sc : Scope} {n : Nat} {x : Str} (h : sc.names.lookup x = some .cell) : ∃ c, (cellsFrom n sc.names []).lookup x = some c := by
  have q := PySem.W.cellsFrom_some sc.names n [] (.inl h)
  exact Option.isSome_iff_exists.mp q

theorem inv_start {CX : CXT} {P : Program} {w : World} {K : PySem.W.Frag} {mg : Str → Option Value} {base : Heap} {N ps : List Str} {qual : Str} {scope : Scope} {f : Addr} {cd : Value} {A : Around} {outer : List Env} {s s1 : Shared} {H : Hp} {E : XK} {us : List Value} {vs : List V}
    (S : FnScope N ps scope) (hd : A.handled = none) (e0 : Env0 P w K mg base A outer s H) (hl : vs.length = ps.length) (r : Vals vs us)
    (x : InCallC s s.heap.objs.size (bindL (envOfC qual scope s.heap.objs.size f cd).kindOf (ps.zip us) fun _ => none) (cellsFrom (s.heap.objs.size + 1) scope.names []) (bindC (envOfC qual scope s.heap.objs.size f cd).kindOf (ps.zip us) fun _ => none) s1) :
    Inv (cxOf CX P w K mg base N qual scope f cd A outer s H E) [] (start N vs) H s1 := by
  have hpl : ps.length ≤ N.length := by have := congrArg List.length S.pre; rw [List.length_take] at this; omega
  obtain ⟨h1, tk, rfl, hk⟩ := x.done
  have noA : ∀ b : Addr, b ∉ (cxOf CX P w K mg base N qual scope f cd A outer s H E).ex := fun b z => absurd (show b ∈ ([] : List Addr) from z) (by simp)
  refine ⟨⟨e0.mod, S.kind, rfl, rfl, Nat.le_refl _, fun y z c h1 h2 => ?_, fun y hy => ?_, fun y c _ h => ?_, fun _ => hd, Around.frames_deeper e0.frames, .inr ⟨rfl, rfl⟩, fun b z => absurd z (noA b), e0.bs, e0.bsz, fun b _ _ => noA b, fun b z => absurd z (noA b), e0.funs, e0.frf⟩,
    rfl, e0.bare, Un.kept hk, ⟨_, x.toInCall.ns, fun i y v h1 h2 h3 => ?_⟩, fun y c h => ⟨_, x.cell y c h⟩, e0.hok.fresh (Nat.le_refl _), fun y c h => ?_, fun p hp => absurd (show p ∈ ([] : List (Addr × Obj)) from hp) (by simp), e0.hok.kept hk, ?_⟩
  · exact name_of_addr x.apart (PySem.mem_of_lookup h1) (PySem.mem_of_lookup h2)
  · have hy : scope.names.lookup y = some .cell ∨ scope.names.lookup y = some .free := hy
    rcases hy with hy | hy
    · exact cell_has hy
    · exact absurd rfl (S.nofree _ (PySem.mem_of_lookup hy))
  · exact Nat.le_of_lt (x.above y c (PySem.mem_of_lookup h))
  · have hi : i < vs.length := by
      unfold start at h2
      by_cases hi : i < vs.length
      · exact hi
      · rw [List.getElem?_append_right (by simpa using hi)] at h2
        rw [List.getElem?_replicate] at h2
        split at h2 <;> cases h2
    have ha : vs[i]? = some v := by
      unfold start at h2
      rw [List.getElem?_append_left (by simpa using hi), List.getElem?_map] at h2
      cases e : vs[i]? with
      | none => rw [e] at h2; cases h2
      | some a => rw [e] at h2; cases h2; rfl
    obtain ⟨u, hu, rv⟩ := r.get ha
    have hp : ps[i]? = some y := by
      rw [← S.pre, List.getElem?_take_of_lt (by omega)]; exact h1
    have ndP : ps.Nodup := by rw [← S.pre]; exact S.nd.sublist (List.take_sublist _ _)
    refine ⟨u, rv, ?_⟩
    rcases S.par y (List.mem_of_getElem? hp) with k | k
    · exact .inl ⟨k, bindL_get ndP hp hu k⟩
    · obtain ⟨c, e⟩ := cell_has (n := s.heap.objs.size + 1) k
      refine .inr ⟨.inl k, c, e, ?_⟩
      have q := x.cell y c e
      rw [bindC_get ndP hp hu (by show scope.names.lookup y ≠ _; rw [k]; decide)] at q
      exact q
  · exact e0.hok.fresh (Nat.le_of_lt (x.above y c (PySem.mem_of_lookup h)))
  · unfold start
    show _ = N.length
    rw [List.length_append, List.length_map, List.length_replicate]
    omega

/-- THE RULE: a def (or a method) of the text, by its body. The body's reading t is chosen for each entry; it is run at the parameters' values -/
theorem fn_of {CX : CXT} {P : Program} {w : World} {K : PySem.W.Frag} {mg : Str → Option Value} {base : Heap} {k : Nat} {f : Addr} {name qual : Str} {params : Arguments} {body : List Stmt} {scope : Scope} {dV kV doc pm cdv ct oc : Value} {an od : Option Addr}
    {osl : Array (Option Value)} {N ps : List Str} {sp : Sp} (lk : K.lookup f = some ⟨oc, od, .func (PySem.W.fnOf name qual params body scope dV kV doc pm an cdv ct), osl⟩) (hcd : PySem.W.codeIn K cdv qual = true) (S : FnScope N ps scope)
    (len : ∀ vs H Q E, sp vs H Q E → vs.length = ps.length)
    (hbody : ∀ (A : Around) (outer : List Env) (s : Shared) (H : Hp) (vs : List V) (Q : VK) (E : XK), Room k (A.deeper (envOfC qual scope s.heap.objs.size f cdv)) → sp vs H Q E →
      ∃ t, PSs (cxOf CX P w K mg base N qual scope f cdv A outer s H E) body t ∧ t { nx := fun _ H' => Q .non H', rt := Q } (start N vs) H) :
    FnOk P w K mg base CX (k + 1) f (PySem.W.fnOf name qual params body scope dV kV doc pm an cdv ct) ps sp := by
  refine ⟨len, fun A outer s H args us vs Q E hr e0 hb r hsp => ?_⟩
  have hl := len _ _ _ _ hsp
  have KX : K.In s.heap := e0.mod.kin.keeps fun b o e => (e0.bs b o e).1
  have lim : s.heap.NoLimit := e0.mod.nolimit.keeps fun b o e => (e0.bs b o e).1
  have hkind : ∀ y ∈ ps.zip us, scope.names.lookup y.1 = some .local ∨ (scope.names.lookup y.1 = some .cell ∧ ((cellsFrom (s.heap.objs.size + 1) scope.names []).lookup y.1).isSome = true) := fun ⟨n, v⟩ hy => by
    rcases S.par n (List.of_mem_zip hy).1 with q | q
    · exact .inl q
    · exact .inr ⟨q, PySem.W.cellsFrom_some _ _ _ (.inl q)⟩
  refine codeAny_call_function hr.depth (KX _ _ lk) rfl S.co S.gen rfl (PySem.W.codeRec_of KX hcd) (hb _ _ _ _ ?_)
  refine wpAny_newFunctionEnv_cells S.kind hkind fun env he s1 x => ?_
  subst he
  refine ⟨lim.keeps x.toInCall.keep, codeAny_func ?_⟩
  obtain ⟨t, ht, hq⟩ := hbody A outer s H vs Q E (hr.deeper _) hsp
  have I : Inv (cxOf CX P w K mg base N qual scope f cdv A outer s H E) [] (start N vs) H s1 := inv_start S hr.hd e0 hl r x
  refine wpAny_mono (ht [] s1 (start N vs) H _ I hq) (fun fl s' hs => ?_) fun e s' hs => hs
  have fin : ∀ {σ' : St} {H' : Hp} {v : V} {u : Value}, Inv (cxOf CX P w K mg base N qual scope f cdv A outer s H E) [] σ' H' s' → RelV v u → Q v H' → CE outer P w H s Q u s' :=
    fun {σ' H' v u} J rv q => ⟨v, H', J.os, J.bare, J.base, J.hok, rv, q⟩
  cases fl with
  | ret u =>
    obtain ⟨v, σ', H', J, rv, q⟩ := hs
    exact fin J rv q
  | next =>
    obtain ⟨σ', H', J, q⟩ := hs
    exact fin (v := V.non) (u := Value.none) J rfl q
  | brk =>
    obtain ⟨_, _, _, q⟩ := hs
    exact False.elim q
  | cont =>
    obtain ⟨_, _, _, q⟩ := hs
    exact False.elim q
end L2

namespace L2
open PySem PySem.Spec PyProof.Rows
section
variable {X : Cx} {x : Str} {p pos : Pos} {e : Expr} {es : List Expr} {t : TA} {id T : String} {r : List V → Hp → VK → Prop}

def tCB (r : List V → Hp → VK → Prop) (t : TA) : TE := fun σ H Q => t σ H fun vs H1 => r vs H1 Q
/-- f(e, ..), f a built-in function -/
theorem pe_callB (hc : CallR X (.builtin id) r) (hg : Gl X x) (hm : X.mg x = none) (hv : bootBuiltins x = some (.builtin id)) (ha : PA X (e :: es) t) (hn : x ≠ "__name__" := by decide) (hdb : (x == ("__debug__" : Str)) = false := by decide)
    (he : starEach (e :: es) X.env = (false, eval e X.env) :: starEach es X.env := by rfl) (hpl : (backTo pos (starEach es X.env)).any (·.1) = false := by rfl) : PE X (.Call (.Name x p) (e :: es) [] pos) (tCB r t) := by
  intro pins s σ H Q I h
  refine wpAny_Call_Name_kw (ld_blt I hg hm hv ?_ hn hdb)
  exact PyProof.Rows.callWith_builtin1 (thn (ha pos pins s σ H _ I h) fun us s1 ⟨vs, H1, I1, r1, q1⟩ => hc pins s1 σ H1 vs us Q I1 r1 q1) he hpl
/-- T(e, ..), T a built-in type -/
theorem pe_callTy (hc : CallR X (.type T) r) (hg : Gl X x) (hm : X.mg x = none) (hv : bootBuiltins x = some (.type T)) (ha : PA X (e :: es) t) (hn : x ≠ "__name__" := by decide) (hdb : (x == ("__debug__" : Str)) = false := by decide)
    (he : starEach (e :: es) X.env = (false, eval e X.env) :: starEach es X.env := by rfl) (hpl : (backTo pos (starEach es X.env)).any (·.1) = false := by rfl) : PE X (.Call (.Name x p) (e :: es) [] pos) (tCB r t) := by
  intro pins s σ H Q I h
  refine wpAny_Call_Name_kw (ld_blt I hg hm hv ?_ hn hdb)
  exact PyProof.Rows.callWith_type1 (thn (ha pos pins s σ H _ I h) fun us s1 ⟨vs, H1, I1, r1, q1⟩ => hc pins s1 σ H1 vs us Q I1 r1 q1) he hpl
end
end L2

namespace HT
open PySem PyProof.Rows

section
open PySem.SeqAt
open PySem.AutoSeq1 (wpAny_loadPart')
open PySem.MeetsSeq PySem.MeetsSeq2 PySem.MeetsSeq3

end

section
variable {prog : Program} {w : World} {A : Around} {E : Value → Shared → Prop} {s : Shared}

/-! ### t[a:b], not the whole -/
/-- a slice's bound as a place among n (d where it is left out) -/
def sIx (n d : Nat) : Option Int → Nat
  | none => d
  | some v => if v < 0 then (v + (n : Int)).toNat else min v.toNat n
end
end HT

namespace L2
open PySem PySem.Spec PyProof.Rows

/-! ### the parts of a slice -/
abbrev TO := St → Hp → (Option Int → Hp → Prop) → Prop
/-- a slice's part (left out, or an int) -/
def PO (X : Cx) (e : Option Expr) (t : TO) : Prop :=
  ∀ (pins : List (Addr × Obj)) (s : Shared) (σ : St) (H : Hp) (Q : Option Int → Hp → Prop), Inv X pins σ H s → t σ H Q →
    wpAny (model X.prog X.w) X.A (evalPart e X.env) (fun u s' => ∃ o H', Inv X pins σ H' s' ∧ IsPart u o ∧ Q o H') X.xe s
def tNoPart : TO := fun _ H Q => Q none H
def tPart (t : TE) : TO := fun σ H Q => t σ H fun x H1 => ∃ i, x = .int i ∧ Q (some i) H1

section
variable {X : Cx} {e : Expr} {te : TE} {lo hi : Option Expr} {tl th : TO} {pos p2 : Pos}

theorem po_none : PO X none tNoPart := by
  intro pins s σ H Q I h
  rw [evalPart_none]
  exact wpAny_pure ⟨none, H, I, .none, h⟩
theorem po_some (h : PE X e te) : PO X (some e) (tPart te) := by
  intro pins s σ H Q I hw
  rw [evalPart_some]
  refine thn (h pins s σ H _ I hw) fun u s1 ⟨x, H1, I1, r1, q1⟩ => ?_
  obtain ⟨i, rfl, q⟩ := q1
  obtain ⟨t, rfl⟩ := r1
  exact ⟨some i, H1, I1, .int i t, q⟩

/-- what a slice of a value is, by values: the slice object stands at sl -/
def SlR (X : Cx) (r : V → Option Int → Option Int → Hp → VK → Prop) : Prop :=
  ∀ (pins : List (Addr × Obj)) (s : Shared) (σ : St) (H : Hp) (x : V) (v vl vu : Value) (lo hi : Option Int) (sl : Addr) (Q : VK), Inv X pins σ H s → RelV x v → s.heap.IsSliceOf sl vl vu .none → IsPart vl lo → IsPart vu hi → r x lo hi H Q →
    ∃ T id, typeLookup (.type T) "__getitem__" = pure (some (.builtin id)) ∧ s.TypeIs v T ∧ wpAny (model X.prog X.w) X.A (getItem v (.ref sl)) (EP X pins σ Q) X.xe s
theorem SlR.or {r r' : V → Option Int → Option Int → Hp → VK → Prop} (h : SlR X r) (h' : SlR X r') : SlR X (fun x lo hi H Q => r x lo hi H Q ∨ r' x lo hi H Q) := by
  intro pins s σ H x v vl vu lo hi sl Q I rx hs pl pu q
  rcases q with q | q
  · exact h pins s σ H x v vl vu lo hi sl Q I rx hs pl pu q
  · exact h' pins s σ H x v vl vu lo hi sl Q I rx hs pl pu q
def tSl (r : V → Option Int → Option Int → Hp → VK → Prop) (te : TE) (tl th : TO) : TE := fun σ H Q => te σ H fun x H1 => tl σ H1 fun l H2 => th σ H2 fun u H3 => r x l u H3 Q
/-- a[lo:hi], any a -/
theorem pe_slice {r : V → Option Int → Option Int → Hp → VK → Prop} (hr : SlR X r) (he : PE X e te) (hl : PO X lo tl) (hu : PO X hi th) : PE X (.Subscript e (.Slice lo hi none p2) pos) (tSl r te tl th) := by
  intro pins s σ H Q I h
  refine Subscript_ (thn (he pins s σ H _ I h) fun v s1 ⟨x, H1, I1, r1, q1⟩ => ?_)
  refine wpAny_Slice (thn (hl pins s1 σ H1 _ I1 q1) fun vl s2 ⟨l, H2, I2, pl, q2⟩ => thn (hu pins s2 σ H2 _ I2 q2) fun vu s3 ⟨u, H3, I3, pu, q3⟩ => ?_)
  rw [evalPart_none]
  refine wpAny_pure ?_
  have I4 : Inv X pins σ H3 { s3 with heap := s3.heap.push { cls := .type "slice", data := .fields #[vl, vu, .none] } } := I3.kept (t' := s3.toks) fun b ob q => Heap.get?_push_of_some _ q
  obtain ⟨T, id, hT, ht, hg⟩ := hr pins { s3 with heap := s3.heap.push { cls := .type "slice", data := .fields #[vl, vu, .none] } } σ H3 x v vl vu l u s3.heap.objs.size Q I4 r1 (Heap.IsSliceOf.new ..) pl pu q3
  show wpAny (model X.prog X.w) X.A (subscriptTail e (.Slice lo hi none p2) v (.ref s3.heap.objs.size)) (EP X pins σ Q) X.xe { s3 with heap := s3.heap.push { cls := .type "slice", data := .fields #[vl, vu, .none] } }
  exact tail_any (ops := [.ref s3.heap.objs.size, v]) ht hT hg (by with_unfolding_all rfl)

/-- the items of xs[lo:hi] -/
def cutV (xs : List V) (lo hi : Option Int) : List V := (xs.drop (HT.sIx xs.length 0 lo)).take (HT.sIx xs.length xs.length hi - HT.sIx xs.length 0 lo)
theorem cutV_length (xs : List V) (lo hi : Option Int) : (cutV xs lo hi).length ≤ xs.length := by
  unfold cutV
  rw [List.length_take, List.length_drop]
  omega
/-! ### t < u, t + u -/
end
end L2

namespace L2
open PySem PySem.Spec PyProof.Rows

/-! ### places -/
/-- the place that an index of any sign means -/
def ixN (n : Nat) (i : Int) : Option Nat := if 0 ≤ i then (if i < n then some i.toNat else none) else if -(n : Int) ≤ i then some (i + n).toNat else none
def atI {α : Type} (xs : List α) (i : Int) : Option α := (ixN xs.length i).bind fun j => xs[j]?
theorem ixN_seq {n : Nat} {i : Int} {j : Nat} (h : ixN n i = some j) : seqIndex? i n = some j ∧ j < n ∧ -(n : Int) ≤ i ∧ i < n := by
  unfold ixN at h
  by_cases h0 : 0 ≤ i
  · rw [if_pos h0] at h
    by_cases h1 : i < n
    · rw [if_pos h1] at h
      have e : i.toNat = j := Option.some.inj h
      exact ⟨by rw [seqIndex_of h0 h1, e], by omega, by omega, h1⟩
    · rw [if_neg h1] at h; cases h
  · rw [if_neg h0] at h
    by_cases h1 : -(n : Int) ≤ i
    · rw [if_pos h1] at h
      have e : (i + n).toNat = j := Option.some.inj h
      exact ⟨by rw [seqIndex_neg (by omega) h1, e], by omega, h1, by omega⟩
    · rw [if_neg h1] at h; cases h
theorem atI_get {α : Type} {xs : List α} {i : Int} {v : α} (h : atI xs i = some v) : ∃ j, seqIndex? i xs.length = some j ∧ xs[j]? = some v ∧ j < xs.length ∧ -(xs.length : Int) ≤ i ∧ i < xs.length := by
  unfold atI at h
  cases e : ixN xs.length i with
  | none => rw [e] at h; cases h
  | some j =>
    rw [e] at h
    obtain ⟨h1, h2, h3, h4⟩ := ixN_seq e
    exact ⟨j, h1, h, h2, h3, h4⟩
/-! ### what may be subscripted -/
/-- what stands as an index of a plain subscript -/
def PlainIx (b : Expr) : Prop := ∀ o i, subscripted b false o i = operate [o, i] (getItem o i)
/-- a subscript by values -/
def IxR (X : Cx) (r : R2) : Prop :=
  ∀ (value slice : Expr) (pins : List (Addr × Obj)) (s : Shared) (σ : St) (H : Hp) (x y : V) (v u : Value) (Q : VK), Inv X pins σ H s → RelV x v → RelV y u → r x y H Q →
    subscripted slice false v u = operate [v, u] (getItem v u) → wpAny (model X.prog X.w) X.A (subscriptTail value slice v u) (EP X pins σ Q) X.xe s
/-- a call of a builtin's method by values: the receiver, the arguments -/
def MtR (X : Cx) (id : String) (r : V → List V → Hp → VK → Prop) : Prop :=
  ∀ (pins : List (Addr × Obj)) (s : Shared) (σ : St) (H : Hp) (x : V) (xs : List V) (v : Value) (us : List Value) (Q : VK), Inv X pins σ H s → RelV x v → Vals xs us → r x xs H Q →
    wpAny (model X.prog X.w) X.A (call (.builtin id) (v :: us)) (EP X pins σ Q) X.xe s
section
variable {X : Cx} {a b : Expr} {ta tb : TE} {pos : Pos}
theorem IxR.or {r r' : R2} (h : IxR X r) (h' : IxR X r') : IxR X (fun x y H Q => r x y H Q ∨ r' x y H Q) := by
  intro value slice pins s σ H x y v u Q I rx ry q hs
  rcases q with q | q
  · exact h value slice pins s σ H x y v u Q I rx ry q hs
  · exact h' value slice pins s σ H x y v u Q I rx ry q hs
theorem MtR.or {id : String} {r r' : V → List V → Hp → VK → Prop} (h : MtR X id r) (h' : MtR X id r') : MtR X id (fun x xs H Q => r x xs H Q ∨ r' x xs H Q) := by
  intro pins s σ H x xs v us Q I rx rs q
  rcases q with q | q
  · exact h pins s σ H x xs v us Q I rx rs q
  · exact h' pins s σ H x xs v us Q I rx rs q
/-- a[b] -/
theorem pe_ix {r : R2} (hr : IxR X r) (ha : PE X a ta) (hb : PE X b tb) (hs : PlainIx b) : PE X (.Subscript a b pos) (tOp r ta tb) := by
  intro pins s σ H Q I h
  exact Subscript_ (binT ha hb I h fun v u s2 x y H2 I2 rx ry q => hr a b pins s2 σ H2 x y v u Q I2 rx ry q (hs _ _))

def rIxL (K : PySem.W.Frag) : R2 := fun x y H Q => ∃ p xs i v, x = .ref p ∧ y = .int i ∧ SqL K H p xs ∧ atI xs i = some v ∧ Q v H
def rIxT (K : PySem.W.Frag) : R2 := fun x y H Q => ∃ p xs i v, x = .ref p ∧ y = .int i ∧ SqT K H p xs ∧ atI xs i = some v ∧ Q v H
def rIxS : R2 := fun x y H Q => ∃ z i c, x = .str z ∧ y = .int i ∧ z.length ≤ sizeLine ∧ atI z.cps.toList i = some c ∧ Q (.str ⟨#[c]⟩) H
theorem ix_list : IxR X (rIxL X.K) := by
  intro value slice pins s σ H x y v u Q I rx ry h hs
  obtain ⟨p, xs, i, z, rfl, rfl, hq, he, q⟩ := h
  cases rx
  obtain ⟨t, rfl⟩ := ry
  obtain ⟨its, r, pl, hz⟩ := I.list hq
  obtain ⟨j, h1, h2, h3, h4, h5⟩ := atI_get he
  obtain ⟨w, ew, rw'⟩ := r.get h2
  have hl := r.length
  have hn := line63
  have fin : EP X pins σ Q w s := ⟨z, H, I, rw', q⟩
  by_cases h0 : 0 ≤ i
  · have hj : i.toNat = j := by
      rw [seqIndex_of h0 h5] at h1
      exact Option.some.inj h1
    exact item_listR pl.isList h0 (by omega) (by rw [hj]; simpa using ew) fin hs
  · have hj : (i + (its.toArray.size : Int)).toNat = j := by
      rw [seqIndex_neg (by omega) h4] at h1
      rw [List.size_toArray, ← hl]
      exact Option.some.inj h1
    exact subscriptTail_builtinR (x := w) pl.isList.typeIs slot_list_getitem.lookup
      (wpAny_getItem_list_neg (Q := fun r s' => r = w ∧ EP X pins σ Q r s') pl.isList (by omega) (by rw [List.size_toArray] <;> omega) (by omega) (by rw [hj]; simpa using ew) ⟨rfl, fin⟩) hs
theorem ix_tup : IxR X (rIxT X.K) := by
  intro value slice pins s σ H x y v u Q I rx ry h hs
  obtain ⟨p, xs, i, z, rfl, rfl, hq, he, q⟩ := h
  cases rx
  obtain ⟨t, rfl⟩ := ry
  obtain ⟨its, r, pl, hz⟩ := I.tuple hq
  obtain ⟨j, h1, h2, h3, h4, h5⟩ := atI_get he
  obtain ⟨w, ew, rw'⟩ := r.get h2
  have hl := r.length
  have hn := line63
  have fin : EP X pins σ Q w s := ⟨z, H, I, rw', q⟩
  exact subscriptTail_builtinR (x := w) pl.typeIs slot_tuple_getitem.lookup
    (getItem_tuple (j := j) (Q := fun r s' => r = w ∧ EP X pins σ Q r s') pl (by omega) (by omega) (by rw [List.size_toArray, ← hl]; exact h1) (by simpa using ew) ⟨rfl, fin⟩) hs
theorem ix_str : IxR X rIxS := by
  intro value slice pins s σ H x y v u Q I rx ry h hs
  obtain ⟨z, i, c, rfl, rfl, hz, he, q⟩ := h
  obtain ⟨t, rfl⟩ := rx
  obtain ⟨t', rfl⟩ := ry
  obtain ⟨j, h1, h2, h3, h4, h5⟩ := atI_get he
  have hl : z.cps.toList.length = z.length := by simp [Str.length]
  rw [hl] at h1 h4 h5
  have hn := line63
  exact tail_any (typeIs_str s z t) slot_str_getitem.lookup (getItem_str (c := c) (by
    have e1 : decide (i < -(2 ^ 63 : Int)) = false := decide_eq_false (by omega)
    have e2 : decide (i ≥ 2 ^ 63) = false := decide_eq_false (by omega)
    rw [e1, e2, Bool.or_false]) (by rw [h1]; simpa using h2) ⟨.str ⟨#[c]⟩, H, I.tok _, ⟨_, rfl⟩, q⟩) hs
/-! ### xs[i] = v, any sign -/
/-- the list's object behind a store -/
theorem mapSeq_set (its : List Value) (n j : Nat) (u : Value) : Obj.mapSeq (·.setIfInBounds j u) { cls := .type "list", data := .seq its.toArray n } = { cls := .type "list", data := .seq (its.set j u).toArray n } := by
  simp [Obj.mapSeq]
theorem Inv.lst {pins : List (Addr × Obj)} {σ : St} {H : Hp} {s : Shared} {p : Addr} {xs : List V} (I : Inv X pins σ H s) (h : H p = some (.lst xs)) :
    ∃ (its : List Value) (n : Nat), Vals xs its ∧ s.heap.get? p = some { cls := .type "list", data := .seq its.toArray n } ∧ xs.length ≤ sizeLine := by
  obtain ⟨z, its, n, r, e⟩ := I.hok p _ h
  exact ⟨its, n, r, e, z⟩
/-- the list at p is written by an update of its object -/
theorem Inv.lstUpd {pins : List (Addr × Obj)} {σ : St} {H : Hp} {s : Shared} {p : Addr} {xs ys : List V} {its its' : List Value} {n n' : Nat} {f : Obj → Obj} (I : Inv X pins σ H s) (h : H p = some (.lst xs))
    (ho : s.heap.get? p = some { cls := .type "list", data := .seq its.toArray n }) (hf : f { cls := .type "list", data := .seq its.toArray n } = { cls := .type "list", data := .seq its'.toArray n' }) (r : Vals ys its') (hz : ys.length ≤ sizeLine) (t : Nat) :
    Inv X pins σ (upd H p (.lst ys)) { s with heap := s.heap.update p f, toks := t } := by
  have e : (s.heap.update p f).get? p = some { cls := .type "list", data := .seq its'.toArray n' } := by
    rw [Heap.get?_update_self f ho (by rw [hf] <;> rfl), hf]
  refine I.write (x := p) (e := p) (by rw [h]; trivial) (.inl rfl) (fun b u hb q => (Heap.get?_update_other _ _ (Ne.symm hb)).trans q) ⟨_, e⟩ ?_
  exact ⟨hz, its', n', r, e⟩
def rSetL : V → V → V → Hp → (Hp → Prop) → Prop := fun o i v H Q => ∃ p xs k j, o = .ref p ∧ i = .int k ∧ H p = some (.lst xs) ∧ ixN xs.length k = some j ∧ Q (upd H p (.lst (xs.set j v)))
theorem set_list : PSet X rSetL := by
  intro pins s σ H o i v ov iv u Q I ro ri rv h
  obtain ⟨p, xs, k, j, rfl, rfl, hp, hj, q⟩ := h
  cases ro
  obtain ⟨t, rfl⟩ := ri
  obtain ⟨its, n, r, ho, hz⟩ := I.lst hp
  obtain ⟨h1, h2, h3, h4⟩ := ixN_seq hj
  have hl := r.length
  have hn := line63
  have I' : Inv X pins σ (upd H p (.lst (xs.set j v))) { s with heap := s.heap.update p (Obj.mapSeq (·.setIfInBounds j u)) } :=
    I.lstUpd hp ho (mapSeq_set its n j u) (r.set rv j) (by rw [List.length_set]; exact hz) s.toks
  by_cases h0 : 0 ≤ k
  · have hk : k.toNat = j := by
      rw [seqIndex_of h0 h4] at h1
      exact Option.some.inj h1
    exact PySem.W.ki_setAt ho h0 (by omega) (by rw [List.size_toArray, ← hl]; exact h4) (by rw [hk]; exact ⟨_, I', q⟩)
  · have hk : (k + (its.toArray.size : Int)).toNat = j := by
      rw [seqIndex_neg (by omega) h3] at h1
      rw [List.size_toArray, ← hl]
      exact Option.some.inj h1
    exact PySem.W.ki_setBack ho (by omega) (by rw [List.size_toArray, ← hl]; exact h3) (by omega) (by rw [hk]; exact ⟨_, I', q⟩)

/-! ### slices -/
theorem slice_bounds (lo hi : Option Int) (n : Nat) : (sliceBounds lo hi none n).1 = ((HT.sIx n 0 lo : Nat) : Int) ∧ (sliceBounds lo hi none n).2.1 = ((HT.sIx n n hi : Nat) : Int) ∧ (sliceBounds lo hi none n).2.2 = 1 := by
  refine ⟨?_, ?_, rfl⟩
  · cases lo with
    | none => simp [sliceBounds, HT.sIx]
    | some i =>
      simp only [sliceBounds, HT.sIx, Option.getD_none, show (1 : Int) > 0 by decide, if_true]
      by_cases h : i < 0
      · simp only [h, if_true] <;> omega
      · simp only [h, if_false] <;> omega
  · cases hi with
    | none => simp [sliceBounds, HT.sIx]
    | some i =>
      simp only [sliceBounds, HT.sIx, Option.getD_none, show (1 : Int) > 0 by decide, if_true]
      by_cases h : i < 0
      · simp only [h, if_true] <;> omega
      · simp only [h, if_false] <;> omega
theorem slicePick_cut (its : List Value) (lo hi : Option Int) : slicePick its.toArray lo hi none = ((its.drop (HT.sIx its.length 0 lo)).take (HT.sIx its.length its.length hi - HT.sIx its.length 0 lo)).toArray := by
  obtain ⟨h1, h2, h3⟩ := slice_bounds lo hi its.toArray.size
  unfold slicePick
  rw [h1, h2, h3]
  simp only [sliceRange_one, pick_run, List.size_toArray] <;> rfl
/-- xs[lo:hi] of a list: a new list -/
def rSlL (K : PySem.W.Frag) : V → Option Int → Option Int → Hp → VK → Prop := fun x lo hi H Q => ∃ a xs, x = .ref a ∧ SqL K H a xs ∧ ∀ p, H p = none → Q (.ref p) (upd H p (.lst (cutV xs lo hi)))
theorem sl_list : SlR X (rSlL X.K) := by
  intro pins s σ H x v vl vu lo hi sl Q I rx hs pl pu h
  obtain ⟨a, xs, rfl, hx, q⟩ := h
  cases rx
  obtain ⟨its, r, ht, hz⟩ := I.list hx
  have hlen := r.length
  refine ⟨"list", _, slot_list_getitem.lookup, ht.isList.typeIs, ?_⟩
  refine wpAny_getItem_list_slice ht.isList hs pl pu .none (by simp) ?_ (by rw [List.size_toArray] <;> omega)
  rw [slicePick_cut, ← hlen]
  refine ⟨.ref s.heap.objs.size, _, I.laid (t' := s.toks) (o := .lst (cutV xs lo hi)) (fun b ob q => Heap.get?_push_of_some _ q) (Nat.le_refl _) ?_, rfl, q _ (I.hok.fresh (Nat.le_refl _))⟩
  exact ⟨Nat.le_trans (cutV_length xs lo hi) hz, _, 0, (r.drop (HT.sIx xs.length 0 lo)).take (HT.sIx xs.length xs.length hi - HT.sIx xs.length 0 lo), Heap.get?_push_size _ rfl⟩

/-! ### in, not in: flat items -/
def flatV : V → Bool
  | .non => true
  | .bl _ => true
  | .int _ => true
  | .str _ => true
  | _ => false
/-- == of flat values -/
def eqV : V → V → Bool
  | .non, .non => true
  | .bl a, .bl b => a == b
  | .bl a, .int b => (if a then 1 else 0) == b
  | .int a, .bl b => a == (if b then 1 else 0)
  | .int a, .int b => a == b
  | .str a, .str b => a == b
  | _, _ => false
theorem eqAt_V {A : Around} {s : Shared} {y x : V} {u v : Value} (ry : RelV y u) (rx : RelV x v) (fy : flatV y = true) (fx : flatV x = true) : SeqAt.EqAt A s u v (eqV y x) := by
  cases y with
  | non =>
    cases ry
    cases x with
    | non => cases rx; exact SeqAt.EqAt.same _
    | bl b => cases rx; exact SeqAt.EqAt.none_bool b
    | int b => obtain ⟨t, rfl⟩ := rx; exact SeqAt.EqAt.none_int b t
    | str b => obtain ⟨t, rfl⟩ := rx; exact SeqAt.EqAt.none_str b t
    | _ => exact absurd (show false = true from fx) Bool.false_ne_true
  | bl a =>
    cases ry
    cases x with
    | non => cases rx; exact SeqAt.EqAt.bool_none a
    | bl b => cases rx; exact SeqAt.EqAt.bool_bool a b
    | int b => obtain ⟨t, rfl⟩ := rx; exact SeqAt.EqAt.bool_int a b t
    | str b => obtain ⟨t, rfl⟩ := rx; exact SeqAt.EqAt.bool_str a b t
    | _ => exact absurd (show false = true from fx) Bool.false_ne_true
  | int a =>
    obtain ⟨t', rfl⟩ := ry
    cases x with
    | non => cases rx; exact SeqAt.EqAt.int_none a t'
    | bl b => cases rx; exact SeqAt.EqAt.int_bool a t' b
    | int b => obtain ⟨t, rfl⟩ := rx; exact SeqAt.EqAt.int_int a t' b t
    | str b => obtain ⟨t, rfl⟩ := rx; exact SeqAt.EqAt.int_str a t' b t
    | _ => exact absurd (show false = true from fx) Bool.false_ne_true
  | str a =>
    obtain ⟨t', rfl⟩ := ry
    cases x with
    | non => cases rx; exact SeqAt.EqAt.str_none a t'
    | bl b => cases rx; exact SeqAt.EqAt.str_bool a t' b
    | int b => obtain ⟨t, rfl⟩ := rx; exact SeqAt.EqAt.str_int a t' b t
    | str b => obtain ⟨t, rfl⟩ := rx; exact SeqAt.EqAt.str_str a t' b t
    | _ => exact absurd (show false = true from fx) Bool.false_ne_true
  | _ => exact absurd (show false = true from fy) Bool.false_ne_true
/-! ### len, list(x), tuple(x) of any list or tuple that is read -/
theorem call_len_seq : CallR X (.builtin "len") (fun xs H Q => ∃ p ys, xs = [.ref p] ∧ (SqL X.K H p ys ∨ SqT X.K H p ys) ∧ Q (.int ys.length) H) := by
  intro pins s σ H xs us Q I r h
  obtain ⟨p, ys, rfl, hq, q⟩ := h
  obtain ⟨u, rfl, rx⟩ := vals1 r
  cases rx
  have hn := line63
  rcases hq with hq | hq
  · obtain ⟨its, r', pl, hz⟩ := I.list hq
    have hlen := r'.length
    exact Calls.call_len_list pl.isList (by simp only [List.size_toArray] <;> omega) ⟨.int ys.length, H, I.tok _, ⟨s.toks + 1, by rw [List.size_toArray, hlen]⟩, q⟩
  · obtain ⟨its, r', pl, hz⟩ := I.tuple hq
    have hlen := r'.length
    exact len_tuple pl (by simp only [List.size_toArray] <;> omega) ⟨.int ys.length, H, I.tok _, ⟨s.toks + 1, by rw [List.size_toArray, hlen]⟩, q⟩
theorem call_len_str : CallR X (.builtin "len") (fun xs H Q => ∃ z, xs = [.str z] ∧ z.length ≤ sizeLine ∧ Q (.int z.length) H) := by
  intro pins s σ H xs us Q I r h
  obtain ⟨z, rfl, hz, q⟩ := h
  obtain ⟨u, rfl, t, rfl⟩ := vals1 r
  have hn := line63
  exact len_str (by omega) ⟨.int z.length, H, I.tok _, ⟨_, rfl⟩, q⟩
theorem CallR.or {f : Value} {r r' : List V → Hp → VK → Prop} (h : CallR X f r) (h' : CallR X f r') : CallR X f (fun xs H Q => r xs H Q ∨ r' xs H Q) := by
  intro pins s σ H xs us Q I rs q
  rcases q with q | q
  · exact h pins s σ H xs us Q I rs q
  · exact h' pins s σ H xs us Q I rs q
theorem call_list_of : CallR X (.type "list") (fun xs H Q => ∃ p ys, xs = [.ref p] ∧ (SqL X.K H p ys ∨ SqT X.K H p ys) ∧ ∀ l, H l = none → Q (.ref l) (upd H l (.lst ys))) := by
  intro pins s σ H xs us Q I r h
  obtain ⟨p, ys, rfl, hq, q⟩ := h
  obtain ⟨u, rfl, rx⟩ := vals1 r
  cases rx
  have fin : ∀ (its : List Value), Vals ys its → ys.length ≤ sizeLine → ∀ (h' : Heap) (c' : Nat), (∀ b o', s.heap.get? b = some o' → h'.get? b = some o') →
      h'.get? s.heap.objs.size = some { cls := .type "list", dict := none, data := .seq its.toArray c', slots := #[] } → EP X pins σ Q (.ref s.heap.objs.size) { s with heap := h' } := fun its r' hz h' c' kp e =>
    ⟨.ref s.heap.objs.size, _, I.laid (t' := s.toks) kp (Nat.le_refl _) (show ObjOk X.prog X.w _ h' _ (.lst ys) from ⟨hz, its, c', r', e⟩), rfl, q _ (I.hok.fresh (Nat.le_refl _))⟩
  rcases hq with hq | hq
  · obtain ⟨its, r', pl, hz⟩ := I.list hq
    have hlen := r'.length
    obtain ⟨o, ho, hc, n, hd⟩ := pl.isList
    exact call_list_seq p (.inl rfl) ho hc hd (fun h' c' kp e => fin its r' hz h' c' kp e) (by simp only [List.size_toArray] <;> omega)
  · obtain ⟨its, r', pl, hz⟩ := I.tuple hq
    have hlen := r'.length
    obtain ⟨o, ho, hc, n, hd⟩ := pl
    exact call_list_seq p (.inr rfl) ho hc hd (fun h' c' kp e => fin its r' hz h' c' kp e) (by simp only [List.size_toArray] <;> omega)
theorem call_tuple_of : CallR X (.type "tuple") (fun xs H Q => ∃ p ys, xs = [.ref p] ∧ ((SqL X.K H p ys ∧ ∀ l, H l = none → Q (.ref l) (upd H l (.tup ys))) ∨ (SqT X.K H p ys ∧ Q (.ref p) H))) := by
  intro pins s σ H xs us Q I r h
  obtain ⟨p, ys, rfl, h⟩ := h
  obtain ⟨u, rfl, rx⟩ := vals1 r
  cases rx
  rcases h with ⟨hq, q⟩ | ⟨hq, q⟩
  · obtain ⟨its, r', pl, hz⟩ := I.list hq
    have hlen := r'.length
    refine call_tuple_list pl.isList (fun h' kp => ?_) (by simp only [List.size_toArray] <;> omega)
    have I1 : Inv X pins σ H { s with heap := h' } := I.kept (t' := s.toks) kp
    have I2 : Inv X pins σ (upd H h'.objs.size (.tup ys)) { s with heap := h'.push { cls := .type "tuple", data := .seq its.toArray } } :=
      I1.laid (t' := s.toks) (fun b o e => Heap.get?_push_of_some _ e) (Nat.le_refl _) (show ObjOk X.prog X.w _ _ _ (.tup ys) from ⟨hz, its, r', IsTup.new _ _⟩)
    exact ⟨.ref h'.objs.size, _, I2, rfl, q _ (I1.hok.fresh (Nat.le_refl _))⟩
  · obtain ⟨its, r', pl, hz⟩ := I.tuple hq
    exact call_tuple_same pl ⟨.ref p, H, I, rfl, q⟩

/-! ### the call of a builtin's method: o.m(..) -/
/-- the value is of that builtin type -/
def tyV (K : PySem.W.Frag) (T : String) (x : V) (H : Hp) : Prop := match x with
  | .str _ => T = "str"
  | .int _ => T = "int"
  | .ref p => (T = "list" ∧ ∃ xs, SqL K H p xs) ∨ (T = "tuple" ∧ ∃ o, K.lookup p = some o ∧ o.cls = .type "tuple" ∧ o.dict = none) ∨
      (T = "dict" ∧ ((∃ kvs, H p = some (.dK kvs)) ∨ ∃ kvs, H p = some (.dT kvs))) ∨ (T = "set" ∧ ∃ S n, H p = some (.set S n))
  | _ => False
theorem tyV_is {pins : List (Addr × Obj)} {σ : St} {H : Hp} {s : Shared} {T : String} {x : V} {v : Value} (I : Inv X pins σ H s) (r : RelV x v) (ty : tyV X.K T x H) :
    s.TypeIs v T ∧ ∀ a, v = .ref a → ∃ ob, s.heap.get? a = some ob ∧ ob.dict = none := by
  cases x with
  | str z =>
    obtain ⟨t, rfl⟩ := r
    cases (show T = "str" from ty)
    exact ⟨typeIs_str s z t, fun _ e => nomatch e⟩
  | int i =>
    obtain ⟨t, rfl⟩ := r
    cases (show T = "int" from ty)
    exact ⟨typeIs_int s i t, fun _ e => nomatch e⟩
  | ref p =>
    cases r
    rcases ty with ⟨rfl, xs, hq⟩ | ⟨rfl, o, hk, hc, hd⟩ | ⟨rfl, hk⟩ | ⟨rfl, S, n, hk⟩
    · obtain ⟨its, _, pl, _⟩ := I.list hq
      refine ⟨pl.isList.typeIs, fun a e => ?_⟩
      cases e
      obtain ⟨o, n, e, c, hd, _⟩ := pl
      exact ⟨o, e, hd⟩
    · refine ⟨⟨o, I.kIn p o hk, hc⟩, fun a e => ?_⟩
      cases e
      exact ⟨o, I.kIn _ o hk, hd⟩
    · have z : ∃ o, s.heap.get? p = some o ∧ o.ExactDict := by
        rcases hk with ⟨kvs, hk⟩ | ⟨kvs, hk⟩
        · obtain ⟨_, _, _, _, o, _, _, e, ex, _⟩ := I.hok p _ hk
          exact ⟨o, e, ex⟩
        · obtain ⟨_, _, _, _, o, _, _, e, ex, _⟩ := I.hok p _ hk
          exact ⟨o, e, ex⟩
      obtain ⟨o, e, ex⟩ := z
      refine ⟨⟨o, e, ex.1⟩, fun a e2 => ?_⟩
      cases e2
      exact ⟨o, e, ex.2.1⟩
    · obtain ⟨o, _, _, _, e, ex, _⟩ := I.hok p _ hk
      refine ⟨⟨o, e, ex.1⟩, fun a e2 => ?_⟩
      cases e2
      exact ⟨o, e, ex.2.1⟩
  | _ => exact False.elim ty
def tBM (K : PySem.W.Frag) (T : String) (r : V → List V → Hp → VK → Prop) (to : TE) (t : TA) : TE := fun σ H Q => to σ H fun x H1 => tyV K T x H1 ∧ t σ H1 fun xs H2 => r x xs H2 Q
variable {o e : Expr} {es : List Expr} {to : TE} {t : TA} {name : Str} {apos cpos : Pos} {T id : String} {r : V → List V → Hp → VK → Prop}
theorem pe_bm (pa : PlainAttrs T) (slot : Slot T name id) (hty : typeOf (.builtin id) = pure (.type "method_descriptor")) (hm : MtR X id r) (ho : PE X o to) (ha : PA X (e :: es) t)
    (hbase : attributeBase o name X.env (eval o X.env) = eval o X.env := by rfl)
    (hfew : ((backTo cpos (starEach (e :: es) X.env)).all (fun x => !x.1) && (backToKw cpos (keywordEach [] X.env)).all (fun x => x.1.isSome)
      && decide ((e :: es).length + ([] : List Keyword).length + (if ([] : List Keyword).isEmpty then 0 else 1) < 30)) = true := by rfl)
    (hline : (apos.endLine == cpos.line) = true := by rfl) (hs : starEach (e :: es) X.env = (false, eval e X.env) :: starEach es X.env := by rfl) (hplain : (backTo cpos (starEach es X.env)).any (·.1) = false := by rfl) :
    PE X (.Call (.Attribute o name apos) (e :: es) [] cpos) (tBM X.K T r to t) := by
  intro pins s σ H Q I h
  refine wpAny_Call_method_late hbase hfew hline rfl (thn (ho pins s σ H _ I h) fun v s1 ⟨x, H1, I1, r1, ty, q1⟩ => ?_)
  obtain ⟨h1, h2⟩ := tyV_is I1 r1 ty
  refine ⟨T, id, pa, slot, hty, h1, h2, ?_⟩
  have hA := ha cpos pins s1 σ H1 _ I1 q1
  rw [hs] at hA ⊢
  refine Calls.callWith_builtin (by show (false || (backTo cpos (starEach es X.env)).any (·.1)) = false; rw [hplain] <;> rfl) (Calls.evalArgs_plain ?_)
  exact thn hA fun us s2 ⟨vs, H2, I2, r2, q2⟩ => hm pins s2 σ H2 x vs v us Q I2 r1 r2 q2
/- xs.append(e), list.index on a module's tuple .. are MtR facts of 06m -/
end
end L2

namespace L2
open PySem PySem.Spec PyProof.Rows

def MtM (X : Cx) (id : String) (r : V → List V → Hp → VK → Prop) : Prop :=
  ∀ (pins : List (Addr × Obj)) (s : Shared) (σ : St) (H : Hp) (x : V) (xs : List V) (v : Value) (us : List Value) (Q : VK), Inv X pins σ H s → RelV x v → Vals xs us → r x xs H Q →
    wpAny (model X.prog X.w) X.A (call (.builtin id) (v :: us)) (EP X pins σ Q) X.xe s

/-! ### lists of values -/
theorem Vals.one : ∀ {x : V} {us : List Value}, Vals [x] us → ∃ u, us = [u] ∧ RelV x u
  | _, _, .cons r .nil => ⟨_, rfl, r⟩
theorem Vals.two : ∀ {x y : V} {us : List Value}, Vals [x, y] us → ∃ u v, us = [u, v] ∧ RelV x u ∧ RelV y v
  | _, _, _, .cons r (.cons q .nil) => ⟨_, _, rfl, r, q⟩
theorem Vals.zero : ∀ {us : List Value}, Vals [] us → us = []
  | _, .nil => rfl
theorem Vals.dropLast {xs : List V} {us : List Value} (h : Vals xs us) : Vals xs.dropLast us.dropLast := by
  induction h with
  | nil => exact .nil
  | cons r t ih =>
    cases t with
    | nil => exact .nil
    | cons q t' => exact .cons r ih
theorem Vals.reverse {xs : List V} {us : List Value} (h : Vals xs us) : Vals xs.reverse us.reverse := by
  induction h with
  | nil => exact .nil
  | cons r t ih => rw [List.reverse_cons, List.reverse_cons]; exact Vals.append ih (.cons r .nil)
section
variable {X : Cx} {pins : List (Addr × Obj)} {σ : St} {H : Hp} {s : Shared} {l b : Addr} {xs ys zs : List V}

/-! ### the two steps: a tracked list is rewritten, a new list is laid -/
theorem Inv.lset {its its' : List Value} {n : Nat} {f : Array Value → Array Value} {t' : Nat} (I : Inv X pins σ H s) (hH : H l = some (.lst xs))
    (e : s.heap.get? l = some { cls := .type "list", data := .seq its.toArray n }) (hf : f its.toArray = its'.toArray) (hv : Vals ys its') (hz : ys.length ≤ sizeLine) :
    Inv X pins σ (upd H l (.lst ys)) { s with heap := s.heap.update l (Obj.mapSeq f), toks := t' } := by
  have q := PySem.IsL.update e f
  rw [hf] at q
  refine I.write (x := l) (e := l) (by rw [hH]; exact trivial) (.inl rfl) (fun b' u hb hu => (Heap.get?_update_other s.heap (Obj.mapSeq f) (Ne.symm hb)).trans hu) ⟨_, q⟩ ?_
  exact ⟨hz, its', _, hv, q⟩
theorem Inv.lnew {its : List Value} {t' : Nat} (I : Inv X pins σ H s) (hv : Vals ys its) (hz : ys.length ≤ sizeLine) :
    Inv X pins σ (upd H s.heap.objs.size (.lst ys)) { s with heap := s.heap.push { cls := .type "list", data := .seq its.toArray }, toks := t' } :=
  I.laid (fun _ _ q => Heap.get?_push_of_some _ q) (Nat.le_refl _) ⟨hz, its, 0, hv, Heap.get?_push_size _ rfl⟩
theorem Inv.fresh (I : Inv X pins σ H s) : H s.heap.objs.size = none := I.hok.fresh (Nat.le_refl _)
theorem Inv.lstM (I : Inv X pins σ H s) (hH : H l = some (.lst xs)) : xs.length ≤ sizeLine ∧ ∃ (its : List Value) (n : Nat), Vals xs its ∧ xs.length = its.length ∧ s.heap.get? l = some { cls := .type "list", data := .seq its.toArray n } := by
  obtain ⟨z, its, n, r, e⟩ := I.hok l _ hH
  exact ⟨z, its, n, r, r.length, e⟩

end

section
variable {X : Cx}

/-! ### methods -/
def rAppend : V → List V → Hp → VK → Prop := fun x vs H Q => ∃ l xs y, x = .ref l ∧ vs = [y] ∧ H l = some (.lst xs) ∧ xs.length < sizeLine ∧ Q .non (upd H l (.lst (xs ++ [y])))
theorem mt_append : MtM X "list.append" rAppend := by
  intro pins s σ H x vs v us Q I rx rv h
  obtain ⟨l, xs, y, rfl, rfl, hH, hz, q⟩ := h
  cases rx
  obtain ⟨u, rfl, ru⟩ := rv.one
  obtain ⟨z, its, n, r, hl, e⟩ := I.lstM hH
  refine call_meets F.slot_list_append ⟨_, e, rfl⟩ F.entry_list_append (F.args_list_append_2 _ _) (PySem.list_append l its.toArray n u (by rw [List.size_toArray]; omega)) ⟨e, ?_⟩
  refine ⟨.non, _, I.lset (its' := its ++ [u]) hH e (by simp) (r.append (.cons ru .nil)) ?_, rfl, q⟩
  rw [List.length_append, List.length_singleton]
  omega

/-! ### list + list, list += list, list * int -/
/-! ### del xs[i] -/
end

/-! ### xs[a:b] = ys -/
section
variable {prog : Program} {w : World} {A : Around} {E : Value → Shared → Prop} {s : Shared}
end

section
variable {X : Cx}
end
end L2

namespace Att
open PySem PySem.W PySem.Calls PyProof.Rows

/-! ### the script -/
theorem ints_of_wellAll {P : Params} {h : Heap} : ∀ (ns : List Int) (vs : List Value), WellAll P h vs (ns.map WData.int) → IntsAre vs ns := by
  intro ns
  induction ns with
  | nil =>
    intro vs w
    rw [List.map_nil] at w
    cases w
    exact .nil
  | cons n ns ih =>
    intro vs w
    rw [List.map_cons] at w
    cases w with
    | cons a b =>
      cases a
      exact .cons _ _ (ih _ b)

theorem script_of {l : OpenLaw} {n : Nat} (hn : l.most = some n) {P : Params} {h : Heap} {args : List WData} {vals : List Value}
    (hpre : l.row.toRowW.claim.pre args = true) (hwl : WellAll P h vals args) :
    ∃ a vs ns, vals = [Value.ref a] ∧ args = [WData.list (ns.map WData.int)] ∧ h.get? a = some { cls := .type "list", data := .seq vs.toArray } ∧ IntsAre vs ns ∧ ns.length ≤ n := by
  have hsh : WShape.hasAll [] args [.list .int] = true := (pre_splitW hpre).1
  have hc : l.pre.holds [] { args := args } = true := (pre_splitW hpre).2
  obtain ⟨d, r, rfl, h1, h2⟩ := hasAllW_cons hsh
  obtain rfl := hasAllW_nil h2
  obtain ⟨xs, rfl, h3⟩ := hasW_list h1
  obtain ⟨ns, rfl⟩ := items_int h3
  have hlen : ns.length ≤ n := by
    unfold OpenLaw.pre at hc
    have h4 : (WTm.not (.lt (.lit (.int (n : Int))) (.len (.arg 0)))).holds [] { args := [.list (ns.map .int)] } = true := by
      have h4 := (holds_andW hc).1
      rw [hn] at h4
      exact h4
    have h5 := condW_of h4 (w_not (w_lt w_lit (w_len_list (w_arg rfl))))
    rw [List.length_map] at h5
    refine Nat.le_of_not_lt fun q => ?_
    have q' : (n : Int) < ((ns.length : Nat) : Int) := by omega
    first
      | (rw [decide_eq_true q'] at h5; exact absurd h5 (by decide))
      | (simp at h5; omega)
  cases hwl with
  | cons w1 w2 =>
    cases w2
    cases w1 with
    | list ho hall => exact ⟨_, _, ns, rfl, rfl, ho, ints_of_wellAll ns _ hall, hlen⟩

theorem post_true (l : OpenLaw) (args : List WData) : l.row.toRowW.claim.post args (.bool true) args = true :=
  postW_of (r := l.row.toRowW) (X := (true == true))
    (show WShape.has [] (.bool true) .bool = true by first | rfl | decide | simp [WShape.has, WShape.arms, WShape.armsAll])
    (show (WTm.eq .res (.lit (.bool true))).value [] { args := args, res := some (.bool true), after := args } = some (.bool (true == true)) from w_eq_bool (w_res rfl) w_lit) rfl

/-! ### the attachment: holds_open's last premise (the goal 'hc' behind k_head) from a wpAny of the law's body -/
/-- the same from a codeAny of the CALL (for a layer whose function contracts speak of calls) -/
theorem attach_call {l : OpenLaw} {n : Nat} {q : Program} {loose : List Str} {XP : (Str → Option Value) → Heap → Prop} {YP : World → Heap → Prop} {d : DefRec}
    (hn : l.most = some n) (hdf : d.params.defaults = [])
    (call : ∀ (w : World) (s₀ s₁ : Shared) (mg mb : Str → Option Value) (fa : Addr) (o : Obj) (pm cd doc : Value) (a : Addr) (vs : List Value) (ns : List Int),
      Ground q loose [] XP w s₀ mg mb s₁.heap → YP w s₁.heap →
      s₁.heap.get? fa = some o → o.data = .func (docDef d.name d.params d.body d.scope pm cd doc) → s₁.heap.CodeRec cd d.name → mg d.name = some (.ref fa) →
      s₁.heap.get? a = some { cls := .type "list", data := .seq vs.toArray } → IntsAre vs ns → ns.length ≤ n → s₁.gens = #[] →
      codeAny (model l.prog w) callerA (.call (.ref fa) ⟨[.ref a], []⟩) (fun r s' => r = .ok (.ret (.bool true)) ∧ OldK s₁.heap s'.heap ∧ s'.os = s₁.os ∧ AllBare s'.gens) s₁) :
    WalkO q loose XP YP l.row.toRowW d [] (fun f vs => PySem.call f vs) := by
  intro w s₀ s₁ mg mb G Y fa o pm cd doc dV kV ho hd hcd hD hmg hg args vals as hpre hlay hrd hwl hlo
  obtain rfl : dV = .none := Dflts.none hD hdf
  obtain rfl : kV = .none := Dflts.noKw hD
  obtain ⟨a, vs, ns, rfl, rfl, hobj, hints, hlen⟩ := script_of hn hpre hwl
  refine enter_call (codeAny_mono (call w s₀ s₁ mg mb fa o pm cd doc a vs ns G Y ho (fd_plain hd) hcd hmg hobj hints hlen hg) fun r s' hq => ?_)
  obtain ⟨rfl, h2, h3, h4⟩ := hq
  exact ⟨.inl ⟨.bool true, .bool true, [], rfl, fun _ => rfl, .bool true, post_true l _, fun _ => ⟨List.Pairwise.nil, fun _ hm => (nomatch hm)⟩⟩, h2, h3, h4⟩

/-! ### rules over ANY heap (no ledger) from facts about the written part K: the library's own take a ledger (News) for what they write -/
section
variable {prog : Program} {w : World} {A : Around} {E : Value → Shared → Prop} {s : Shared} {K : Frag}

/-! the whole heap as the ledger: makes every rule that writes through a ledger a rule over any heap -/
def ledger (h : Heap) (L d : Addr) : List (Addr × Obj) := (List.range h.objs.size).filterMap fun a => if a = L ∨ a = d then none else (h.get? a).map fun o => (a, o)
end
end Att

namespace L2
open PySem PySem.Spec PyProof.Rows

theorem vals_ints : ∀ {vs : List Value} {ns : List Int}, IntsAre vs ns → Vals (ns.map V.int) vs
  | _, _, .nil => .nil
  | _, _, .cons n t h => .cons ⟨t, rfl⟩ (vals_ints h)

/-- nothing is tracked but the script, known to the object (or it is an object of the module) -/
def Only (H : Hp) : Prop := ∀ b, H b = none ∨ ∃ o xs, H b = some (.frz o (.lst xs))

/-- THE HEAD: the law's promise, at the heap behind the top. F, the promise of the law's def, may use that base is part of the heap (so K.In base, base.Ns mainGlobals mg stand in Mod) -/
theorem law_call {P : Program} {w : World} {K : PySem.W.Frag} {mg mb : Str → Option Value} {CX : CXT} {k : Nat} {fa a : Addr} {fd : FuncData} {x : Str} {sp : Sp} {s₁ : Shared} {vs : List Value} {ns : List Int}
    (KX : K.In s₁.heap) (hns : s₁.heap.Ns mainGlobals mg) (hb : s₁.heap.Ns builtinsNs mb) (hbb : ∀ x : Str, x ≠ "__name__" → mb x = bootBuiltins x) (hlim : s₁.heap.NoLimit) (hg : s₁.gens = #[])
    (ha : s₁.heap.get? a = some { cls := .type "list", data := .seq vs.toArray }) (hi : IntsAre vs ns) (hl : ns.length ≤ sizeLine) (hr : Room k callerA)
    (F : ∀ base : Heap, K.In base → base.Ns mainGlobals mg → FnOk P w K mg base CX k fa fd [x] sp) (hbind : ∀ (s : Shared) (u : Value), BindsTo s fd ⟨[u], []⟩ [(x, u)])
    (hsp : ∀ H : Hp, Only H → SqL K H a (ns.map V.int) → sp [.ref a] H (fun v _ => v = .bl true) fun _ _ _ => False)
    (hCX : ∀ H e s', CX [] H s₁ (fun _ _ _ => False) e s' → False) :
    codeAny (model P w) callerA (.call (.ref fa) ⟨[.ref a], []⟩) (fun r s' => r = .ok (.ret (.bool true)) ∧ OldK s₁.heap s'.heap ∧ s'.os = s₁.os ∧ AllBare s'.gens) s₁ := by
  have rv := vals_ints hi
  have lenV := hi.length
  -- from an abstract heap in which nothing but the script may be tracked
  have core : ∀ H : Hp, Only H → SqL K H a (ns.map V.int) → HOk P w H s₁.heap → (∀ b, H b ≠ none → b = a) → (H a ≠ none → K.lookup a = none) →
      codeAny (model P w) callerA (.call (.ref fa) ⟨[.ref a], []⟩) (fun r s' => r = .ok (.ret (.bool true)) ∧ OldK s₁.heap s'.heap ∧ s'.os = s₁.os ∧ AllBare s'.gens) s₁ := by
    intro H hO hS hok hA hK
    have base_of : ∀ {b : Addr} {o : Obj}, s₁.heap.get? b = some o → H b = none → (hidT s₁.heap H).get? b = some o := fun e n => hidT_get e n
    have noA : ∀ {b : Addr} {o : Obj} {es : Array DictEntry} {ep : Nat}, s₁.heap.get? b = some o → o.data = .dict es ep → H b = none := fun {b o es ep} e d => by
      cases q : H b with
      | none => rfl
      | some u =>
        have e' : b = a := hA b (by rw [q]; simp)
        subst e'
        rw [ha] at e; cases e
        have d' : Data.seq vs.toArray _ = Data.dict es ep := d
        cases d'
    have nsK : ∀ {b : Addr} {m : Str → Option Value}, s₁.heap.Ns b m → (hidT s₁.heap H).Ns b m := fun {b m} ⟨o, es, ep, e, d, r⟩ => ⟨o, es, ep, base_of e (noA e d), d, r⟩
    have hKb : K.In (hidT s₁.heap H) := fun b o e => base_of (KX b o e) (by
      cases q : H b with
      | none => rfl
      | some u =>
        have e' : b = a := hA b (by rw [q]; simp)
        subst e'
        rw [hK (by rw [q]; simp)] at e; cases e)
    have hM : Mod K mg (hidT s₁.heap H) := ⟨hKb, nsK hns, ⟨mb, nsK hb, hbb⟩, let ⟨mc, h1, h2⟩ := hlim; ⟨mc, nsK h1, h2⟩⟩
    have e0 : Env0 P w K mg (hidT s₁.heap H) callerA [] s₁ H := ⟨rfl, hM, fun b o e => of_hidT e, Nat.le_of_eq (hidT_size _ _), trivial, fun b hb => absurd (show b ∈ ([] : List Addr) from hb) (by simp), hok, .of_eq hg⟩
    refine codeAny_mono ((F _ hKb (nsK hns)).run callerA [] s₁ H ⟨[.ref a], []⟩ [.ref a] [.ref a] _ _ hr e0 (hbind s₁ (.ref a)) (.cons rfl .nil) (hsp H hO hS)) fun r s' h => ?_
    cases r with
    | error e => exact (hCX H e s' h).elim
    | ok fl =>
      cases fl with
      | next => exact False.elim h
      | brk => exact False.elim h
      | cont => exact False.elim h
      | ret u =>
        obtain ⟨v, H', os, bare, un, hok', r', q⟩ := h
        have q' : v = .bl true := q
        subst q'
        obtain rfl : u = Value.bool true := r'
        refine ⟨rfl, OldK.of_keep fun b o e => ?_, os, bare⟩
        cases q : H b with
        | none => exact un.keep b o e q (by intro z; exact absurd (show b ∈ ([] : List Addr) from z) (by simp)) (by simp)
        | some u =>
          rcases hO b with z | ⟨ob, xs, z⟩
          · rw [q] at z; cases z
          · have z2 := un.frzs b ob _ z
            obtain ⟨e1, _⟩ := hok b _ z
            obtain ⟨e2, _⟩ := hok' b _ z2
            rw [e] at e1; cases e1
            exact e2
  cases hk : K.lookup a with
  | some o =>
    -- the script is one of the module's own objects
    have e := KX a o hk
    rw [ha] at e
    cases e
    refine core (fun _ => none) (fun _ => .inl rfl) (.inr ⟨_, vs.toArray, _, hk, rfl, rfl, rfl, by rw [List.size_toArray, lenV]; exact hl, by simpa using rv⟩) (fun b u z => by have z' : (none : Option HO) = some u := z; cases z') (fun b z => absurd rfl z) fun z => absurd rfl z
  | none =>
    refine core (fun b => if b = a then some (.frz { cls := .type "list", data := .seq vs.toArray } (.lst (ns.map V.int))) else none) (fun b => ?_) (.inl (.inr ⟨{ cls := .type "list", data := .seq vs.toArray }, if_pos rfl⟩)) (fun b u z => ?_) (fun b z => ?_) fun _ => hk
    · by_cases hb : b = a
      · exact .inr ⟨_, _, if_pos hb⟩
      · exact .inl (if_neg hb)
    · by_cases hb : b = a
      · have z' := (if_pos hb).symm.trans z
        cases z'
        subst hb
        exact ⟨ha, by rw [List.length_map]; exact hl, vs, _, rv, ha⟩
      · have z' := (if_neg hb).symm.trans z
        cases z'
    · by_cases hb : b = a
      · exact hb
      · exact absurd (if_neg hb) z
end L2

namespace L2
open PySem PySem.Spec PyProof.Rows

abbrev KOf {K : PySem.W.Frag} {h : Heap} (_ : K.In h) : PySem.W.Frag := K

/-- the goal that k_head leaves (case hc), from the law's promise. F gives the function object fd (K's own) once, then the promise over every base -/
theorem walk_of {l : PySem.W.OpenLaw} {n k : Nat} {q : Program} {loose : List Str} {XP : (Str → Option Value) → Heap → Prop} {YP : World → Heap → Prop} {d : DefRec} {K : Params → PySem.W.Frag} {CX : World → CXT} {sp : World → Sp} {x : Str}
    (hn : l.most = some n) (hn2 : n ≤ sizeLine) (hdf : d.params.defaults = []) (hr : Room k callerA)
    (hY : ∀ (w : World) (h : Heap), YP w h → (K w.params).In h)
    (F : ∀ (w : World) (mg : Str → Option Value) (fa : Addr) (h : Heap), (K w.params).In h → h.Ns mainGlobals mg → mg d.name = some (.ref fa) →
      ∃ fd : FuncData, (∀ (s : Shared) (u : Value), BindsTo s fd ⟨[u], []⟩ [(x, u)]) ∧
        ∀ base : Heap, (K w.params).In base → base.Ns mainGlobals mg → FnOk l.prog w (K w.params) mg base (CX w) k fa fd [x] (sp w))
    (hsp : ∀ (w : World) (H : Hp) (a : Addr) (ns : List Int), ns.length ≤ n → Only H → SqL (K w.params) H a (ns.map V.int) → sp w [.ref a] H (fun v _ => v = .bl true) fun _ _ _ => False)
    (hCX : ∀ (w : World) (H : Hp) (s : Shared) (e : Value) (s' : Shared), CX w [] H s (fun _ _ _ => False) e s' → False) :
    PySem.W.WalkO q loose XP YP l.row.toRowW d [] (fun f vs => PySem.call f vs) := by
  refine Att.attach_call hn hdf fun w s₀ s₁ mg mb fa o pm cd doc a vs ns G Y ho hd hcd hmg hobj hints hlen hg => ?_
  have KX := hY w _ Y
  obtain ⟨fd, hb, hF⟩ := F w mg fa _ KX G.T.g hmg
  exact law_call KX G.T.g G.T.b G.T.builtins G.T.nolimit hg hobj hints (Nat.le_trans hlen hn2) hr hF hb (fun H hO hS => hsp w H a ns hlen hO hS) fun H e s' => hCX w H s₁ e s'
end L2

/- THE LAST THEOREM (shape; LID, My.* are yours):
   My.Adr: a structure of the addresses that your layer names (classes, functions); My.Txt K t: a structure (Prop) of the equations over K;
   My.txt_mk : {K} {implicit addresses ..} (e1 : nsIn K mainGlobals "law" = some (some (.ref f))) (e2 : K.lookup f = some ⟨oc, od, .func (fnOf "law" "law" params body scope dV kV doc pm an cdv ct), sl⟩) (e3 : codeIn K cdv "law" = true) .. : ∃ t, My.Txt K t

set_option maxRecDepth 100000 in
set_option maxHeartbeats 0 in
theorem PySem.Challenge.cw_LID_holds : PySem.Challenge.rw_LID.Holds := by
  w_on; o_law; k_head; (case hw => w_witness2)
  k_fill
  refine L2.walk_of (l := PySem.Challenge.rw_LID) (n := 63) (k := 40) (x := "script") (CX := fun w => ..) (sp := fun _ => My.sp_law) rfl (by decide) rfl ⟨rfl, by decide, by decide⟩ (fun w h Y => PySem.W.kIn_of Y) ?F ?S ?C
  case F =>
    intro w mg fa h KX G hmg
    have T : ∃ t, My.Txt (L2.KOf KX) t := by
      dsimp only [L2.KOf]                          -- K must stand as «<heap const> w.params» for k_is
      refine' My.txt_mk ?e1 ?e2 ?e3 ..
      (case e1 => PySem.W.k_is)                    -- in the order: a name -> its address -> its object -> its parts
      (case e2 => PySem.W.k_is)
      ..
    obtain ⟨t, T⟩ := T
    have e0 := hmg.symm.trans (PySem.W.mg_of KX G T.law)
    cases e0                                       -- fa is the law's own address
    exact ⟨_, fun s u => .of_eq rfl, fun base kb nb => My.law_fn T kb nb⟩     -- if «.of_eq rfl» comes too early: refine' ⟨_, ?b, fun base kb nb => My.law_fn T kb nb⟩; exact fun s u => .of_eq rfl
  case S => exact fun w H a ns hl hO hS => ..
  case C => exact ..
(the tactic k_is has no namespace: write k_is) -/

/-! SHORT WORDS over the layer: a def of the text, its body, what a loop and a test want. -/
namespace L2
open PySem PySem.Spec PyProof.Rows

/-! ### the text by places -/
def defArgs (s : Stmt) : Arguments := match s with
  | .FunctionDef _ a _ _ _ _ _ _ _ _ => a
  | _ => { posonlyargs := [], args := [], vararg := none, kwonlyargs := [], kw_defaults := [], kwarg := none, defaults := [] }
def defBody (s : Stmt) : List Stmt := match s with
  | .FunctionDef _ _ b _ _ _ _ _ _ _ => b
  | _ => []
def defScope (s : Stmt) : Scope := match s with
  | .FunctionDef _ _ _ _ _ _ sc _ _ _ => sc
  | _ => { kind := .function, names := [], isGenerator := false, isCoroutine := false }

/-! ### no exception leaves a def -/
abbrev CX0 : CXT := fun _ _ _ _ _ _ => False
abbrev E0 : XK := fun _ _ _ => False
theorem pass0 {X : Cx} : Passes CX0 X E0 := fun _ _ _ _ _ _ _ h => h.elim

/-! ### a def (or method) of the text as it stands behind the top -/
structure Fun (K : PySem.W.Frag) (x qual : Str) (st : Stmt) (f : Addr) (fd : FuncData) : Prop where
  ex : ∃ (oc : Value) (od : Option Addr) (kV doc pm : Value) (an : Option Addr) (cdv ct : Value) (osl : Array (Option Value)),
    fd = PySem.W.fnOf x qual (defArgs st) (defBody st) (defScope st) .none kV doc pm an cdv ct ∧ K.lookup f = some ⟨oc, od, .func fd, osl⟩ ∧ PySem.W.codeIn K cdv qual = true
  kp : PySem.W.keepIn K (.ref f) = true
section
variable {P : Program} {w : World} {K : PySem.W.Frag} {mg : Str → Option Value} {base : Heap}
/-- THE RULE for a def: its body as a term of rules, and the reading of that term -/
theorem Fun.ok {x qual : Str} {st : Stmt} {f : Addr} {fd : FuncData} {N ps : List Str} {k : Nat} {sp : Sp} (F : Fun K x qual st f fd) (S : FnScope N ps (defScope st)) (len : ∀ vs H Q E, sp vs H Q E → vs.length = ps.length)
    (hbody : ∀ (cdv : Value) (A : Around) (outer : List Env) (s : Shared) (H : Hp) (vs : List V) (Q : VK) (E : XK), Room k (A.deeper (envOfC qual (defScope st) s.heap.objs.size f cdv)) → sp vs H Q E →
      ∃ t, PSs (cxOf CX0 P w K mg base N qual (defScope st) f cdv A outer s H E).nox (defBody st) t ∧ t { nx := fun _ H' => Q .non H', rt := Q } (start N vs) H) : FnOk P w K mg base CX0 (k + 1) f fd ps sp := by
  obtain ⟨oc, od, kV, doc, pm, an, cdv, ct, osl, rfl, lk, hcd⟩ := F.ex
  refine fn_of lk hcd S len fun A outer s H vs Q E hr hsp => ?_
  obtain ⟨t, h, q⟩ := hbody cdv A outer s H vs Q E hr hsp
  exact ⟨t, h.nox, q⟩
/-- how its arguments bind (no defaults): h is «fun _ _ _ _ _ _ us hl => match us, hl with | [_, _], _ => rfl», one _ a parameter -/
theorem Fun.binds {x qual : Str} {st : Stmt} {f : Addr} {fd : FuncData} {ps : List Str} (F : Fun K x qual st f fd)
    (h : ∀ (kV doc pm : Value) (an : Option Addr) (cdv ct : Value) (us : List Value), us.length = ps.length → bindArgs (PySem.W.fnOf x qual (defArgs st) (defBody st) (defScope st) .none kV doc pm an cdv ct) ⟨us, []⟩ = pure (ps.zip us)) : Binds K fd ps [] := by
  obtain ⟨oc, od, kV, doc, pm, an, cdv, ct, osl, rfl, lk, hcd⟩ := F.ex
  exact .all (h kV doc pm an cdv ct)
theorem fun_mk {x qual : Str} {st : Stmt} {f : Addr} {oc : Value} {od an : Option Addr} {osl : Array (Option Value)} {kV doc pm cdv ct : Value} (l : K.lookup f = some ⟨oc, od, .func (PySem.W.fnOf x qual (defArgs st) (defBody st) (defScope st) .none kV doc pm an cdv ct), osl⟩)
    (c : PySem.W.codeIn K cdv qual = true) (k : PySem.W.keepIn K (.ref f) = true) : Fun K x qual st f (PySem.W.fnOf x qual (defArgs st) (defBody st) (defScope st) .none kV doc pm an cdv ct) := ⟨⟨oc, od, kV, doc, pm, an, cdv, ct, osl, rfl, l, c⟩, k⟩
end
/-! ### expressions in short: the name that stands in the i-th slot -/
section
variable {X : Cx}
end

/-! ### tests -/
theorem iteF {A B : Prop} (h : B) : if false = true then A else B := by
  rw [if_neg Bool.false_ne_true]
  exact h
theorem iteT {A B : Prop} (h : A) : if true = true then A else B := by
  rw [if_pos rfl]
  exact h
/-! ### heaps -/
/-- all that was tracked is as it was -/
def Same (H H' : Hp) : Prop := ∀ b o, H b = some o → H' b = some o
theorem Same.refl (H : Hp) : Same H H := fun _ _ h => h
theorem Same.trans {H H1 H2 : Hp} (a : Same H H1) (b : Same H1 H2) : Same H H2 := fun c o h => b c o (a c o h)
theorem Same.free {H H' : Hp} (e : Same H H') {l : Addr} (h : H' l = Option.none) : H l = Option.none := by
  cases q : H l with
  | none => rfl
  | some o =>
    rw [e l o q] at h
    cases h
theorem Same.seq {K : PySem.W.Frag} {H H' : Hp} {a : Addr} {xs : List V} (e : Same H H') (h : SqL K H a xs) : SqL K H' a xs := by
  rcases h with (h | ⟨o, h⟩) | h
  · exact .inl (.inl (e _ _ h))
  · exact .inl (.inr ⟨o, e _ _ h⟩)
  · exact .inr h

end L2
section
set_option Elab.async false
set_option linter.all false
set_option maxRecDepth 100000
set_option maxHeartbeats 4000000
/-! A list comprehension with one clause and a plain name as its target. -/
namespace DL
open PySem PySem.Spec PyProof.Rows L2

/-! ### the block's cells -/
/-- the cells that the block takes over -/
def clOf (cells : List (Str × Addr)) : List (Str × NameKind) → List (Str × Addr) → List (Str × Addr)
  | [], acc => acc
  | (n, k) :: r, acc => if k == .free then clOf cells r ((n, (cells.lookup n).getD 0) :: acc) else clOf cells r acc

theorem closure_forIn {env : Env} (f : Str × NameKind → List (Str × Addr) → Sem (ForInStep (List (Str × Addr))))
    (hf : ∀ n k cs, f (n, k) cs = if k == .free then (cellOf env n >>= fun a => pure (.yield ((n, a) :: cs))) else pure (.yield cs)) :
    ∀ (names : List (Str × NameKind)) (acc : List (Str × Addr)), (∀ n, (n, NameKind.free) ∈ names → ∃ c, env.cells.lookup n = some c) → forIn names acc f = pure (clOf env.cells names acc)
  | [], acc, _ => by rw [List.forIn_nil]; rfl
  | (n, k) :: r, acc, h => by
    have hr : ∀ m, (m, NameKind.free) ∈ r → ∃ c, env.cells.lookup m = some c := fun m hm => h m (List.mem_cons_of_mem _ hm)
    rw [List.forIn_cons, hf]
    unfold clOf
    by_cases hk : (k == NameKind.free) = true
    · rw [if_pos hk, if_pos hk]
      have hk' : k = .free := by simpa using hk
      subst hk'
      obtain ⟨c, hc⟩ := h n List.mem_cons_self
      have e : cellOf env n = pure c := by unfold cellOf; rw [hc]
      rw [e, hc]
      simp only [pure_bind, Option.getD_some]
      exact closure_forIn f hf r _ hr
    · rw [if_neg hk, if_neg hk]
      simp only [pure_bind]
      exact closure_forIn f hf r _ hr

theorem closureFor_eq {scope : Scope} {env : Env} (h : ∀ n, (n, NameKind.free) ∈ scope.names → ∃ c, env.cells.lookup n = some c) : closureFor scope env = pure (clOf env.cells scope.names []) := by
  simp only [closureFor]
  rw [closure_forIn (env := env) _ (fun n k cs => by cases hk : k == NameKind.free <;> simp [hk]) scope.names [] h]
  rfl

theorem clOf_lookup (cells : List (Str × Addr)) (y : Str) : ∀ (names : List (Str × NameKind)) (acc : List (Str × Addr)),
    ((y, NameKind.free) ∈ names → (clOf cells names acc).lookup y = some ((cells.lookup y).getD 0)) ∧ ((y, NameKind.free) ∉ names → (clOf cells names acc).lookup y = acc.lookup y)
  | [], acc => ⟨fun h => (nomatch h), fun _ => rfl⟩
  | (n, k) :: r, acc => by
    unfold clOf
    by_cases hk : (k == NameKind.free) = true
    · rw [if_pos hk]
      have hk' : k = .free := by simpa using hk
      subst hk'
      have ih := clOf_lookup cells y r ((n, (cells.lookup n).getD 0) :: acc)
      by_cases hm : (y, NameKind.free) ∈ r
      · exact ⟨fun _ => ih.1 hm, fun h => absurd (List.mem_cons_of_mem _ hm) h⟩
      · refine ⟨fun h => ?_, fun h => ?_⟩
        · rcases List.mem_cons.mp h with e | e
          · cases e
            rw [ih.2 hm, List.lookup_cons]
            simp
          · exact absurd e hm
        · rw [ih.2 hm, List.lookup_cons]
          have hn : (y == n) = false := by
            cases hb : y == n with
            | false => rfl
            | true => exact absurd (by rw [beq_iff_eq.mp hb]; exact List.mem_cons_self) h
          rw [hn]
    · rw [if_neg hk]
      have ih := clOf_lookup cells y r acc
      refine ⟨fun h => ih.1 ?_, fun h => ih.2 fun z => h (List.mem_cons_of_mem _ z)⟩
      rcases List.mem_cons.mp h with e | e
      · cases e; exact absurd rfl hk
      · exact e

theorem cellsFrom_acc : ∀ (names : List (Str × NameKind)) (n : Nat) (acc : List (Str × Addr)), cellsFrom n names acc = cellsFrom n names [] ++ acc
  | [], _, acc => rfl
  | (x, k) :: r, n, acc => by
    unfold cellsFrom
    by_cases hk : (k == NameKind.cell) = true
    · rw [if_pos hk, if_pos hk, cellsFrom_acc r (n + 1) ((x, n) :: acc), cellsFrom_acc r (n + 1) [(x, n)], List.append_assoc]
      rfl
    · rw [if_neg hk, if_neg hk]
      exact cellsFrom_acc r n acc
theorem lookup_app {α : Type} (y : Str) : ∀ (a b : List (Str × α)), (a ++ b).lookup y = (a.lookup y).or (b.lookup y)
  | [], b => by simp
  | (k, v) :: r, b => by
    rw [List.cons_append, List.lookup_cons, List.lookup_cons]
    cases hb : y == k with
    | true => rfl
    | false => exact lookup_app y r b
theorem lookup_relabel (scope : Scope) (env : Env) (y : Str) : (relabel scope env).names.lookup y =
    (scope.names.lookup y).map fun k => if (k == .free && env.scope.kind == .function && env.kindOf y == some .cell) = true then NameKind.cell else k := by
  show (scope.names.map fun (n, k) => if (k == .free && env.scope.kind == .function && env.kindOf n == some .cell) then (n, NameKind.cell) else (n, k)).lookup y = _
  induction scope.names with
  | nil => rfl
  | cons p r ih =>
    obtain ⟨n, k⟩ := p
    rw [List.map_cons, List.lookup_cons]
    by_cases hc : (k == .free && env.scope.kind == .function && env.kindOf n == some .cell) = true
    · simp only [hc, if_true, List.lookup_cons]
      cases hb : y == n with
      | true =>
        have e := beq_iff_eq.mp hb
        subst e
        exact (congrArg some (if_pos hc)).symm
      | false => exact ih
    · simp only [hc, if_false, List.lookup_cons, Bool.false_eq_true]
      cases hb : y == n with
      | true =>
        have e := beq_iff_eq.mp hb
        subst e
        exact (congrArg some (if_neg hc)).symm
      | false => exact ih

/-! ### the block's context -/
/-- a name that no text bears, for the outer one that x hides -/
def hidN (x : Str) : Str := ⟨#[0] ++ x.cps⟩
def blkN (N : List Str) (x : Str) : List Str := (N.map fun y => if y == x then hidN x else y) ++ [x]
def blkEnv (scope : Scope) (C : Addr) (env : Env) : Env :=
  { scope := relabel scope env, locals := C, globals := env.globals, cells := cellsFrom (C + 1) scope.names (clOf env.cells scope.names []), qual := env.qual, func := none, code := env.code, frame := env.frame, builtins := env.builtins }
def blk (X : Cx) (x : Str) (scope : Scope) (C : Addr) (s₀ : Shared) (H₀ : Hp) (ex : List Addr) : Cx :=
  { X with N := blkN X.N x, env := blkEnv scope C X.env, s₀ := s₀, H₀ := H₀, outer := X.stack, ex := ex, fn := fun y => y == x, pn := [], xe := fun _ _ => False }

/-- what must be true of the text: N the def's names, sc its scope, x the target, scope the block's -/
def compOk (N : List Str) (sc : Scope) (x : Str) (scope : Scope) : Bool :=
  (scope.kind == .function) && (scope.names.lookup x == some .local || scope.names.lookup x == some .cell) &&
  scope.names.all (fun y => (y.2 != .local || scope.names.lookup y.1 == some .local) && (y.2 != .cell || scope.names.lookup y.1 == some .cell) && (y.2 != .free || ((sc.names.lookup y.1 == some .cell || sc.names.lookup y.1 == some .free) && scope.names.lookup y.1 == some .free))) &&
  N.all (fun y => y == x || (scope.names.lookup y != some .local && scope.names.lookup y != some .cell)) &&
  (scope.names.lookup (hidN x) == none) && decide (blkN N x).Nodup && (scope.names.lookup x != some .free)

theorem wpAny_newCompEnv {M : Model} {A : Around} {E : Value → Shared → Prop} {s : Shared} {scope : Scope} {env : Env} {cl : List (Str × Addr)} {Q : Env → Shared → Prop}
    (hQ : ∀ h', h'.Ns s.heap.objs.size (fun _ => none) → (∀ b o, s.heap.get? b = some o → h'.get? b = some o) → (∀ n c, (n, c) ∈ cellsFrom (s.heap.objs.size + 1) scope.names [] → h'.IsCell c none ∧ s.heap.objs.size + 1 ≤ c) →
      ((cellsFrom (s.heap.objs.size + 1) scope.names []).Pairwise fun x y => x.2 ≠ y.2) →
      Q { scope := scope, locals := s.heap.objs.size, globals := env.globals, cells := cellsFrom (s.heap.objs.size + 1) scope.names cl, qual := env.qual, func := none, code := env.code, frame := env.frame, builtins := env.builtins } { s with heap := h' }) :
    wpAny M A (newFunctionEnv scope env.globals cl [] env.qual none .none (some env)) Q E s := by
  simp only [newFunctionEnv, Option.isSome_some, if_true]
  refine wpAny_bind (wpAny_alloc ?_)
  refine wpAny_bind (wpAny_layCells _ (fun name kind cells => by cases hkc : kind == NameKind.cell <;> simp [hkc]) _ _ _ _ ?_)
  have ok := cellsFrom_ok scope.names (s.heap.push { cls := .type "dict", data := .dict #[] }) (s.heap.objs.size + 1) [] ⟨fun _ _ hm => (nomatch hm), List.Pairwise.nil⟩ (by rw [Heap.size_push]; exact Nat.le_refl _)
  rw [Heap.size_push] at ok
  rw [show ({ s with heap := s.heap.push { cls := .type "dict", data := .dict #[] } } : Shared).heap.objs.size = s.heap.objs.size + 1 from Heap.size_push ..]
  refine wpAny_bind (wpAny_pure (wpAny_pure ?_))
  exact hQ _ ((Heap.Ns.new s.heap (.type "dict")).keeps (pushCells_keeps _ _)) (fun b o e => pushCells_keeps _ _ b o (Heap.get?_push_of_some _ e)) (fun n c hm => ok.empty n c hm) ok.apart

structure CompFacts (N : List Str) (sc : Scope) (x : Str) (scope : Scope) : Prop where
  kind : scope.kind = .function
  tgt : scope.names.lookup x = some .local ∨ scope.names.lookup x = some .cell
  locs : ∀ y ∈ scope.names, y.2 = .local → scope.names.lookup y.1 = some .local
  cels : ∀ y ∈ scope.names, y.2 = .cell → scope.names.lookup y.1 = some .cell
  fres : ∀ y ∈ scope.names, y.2 = .free → (sc.names.lookup y.1 = some .cell ∨ sc.names.lookup y.1 = some .free) ∧ scope.names.lookup y.1 = some .free
  oth : ∀ y ∈ N, y ≠ x → scope.names.lookup y ≠ some .local ∧ scope.names.lookup y ≠ some .cell
  emp : scope.names.lookup (hidN x) = none
  nd : (blkN N x).Nodup
theorem compOk_facts {N : List Str} {sc : Scope} {x : Str} {scope : Scope} (h : compOk N sc x scope = true) : CompFacts N sc x scope := by
  unfold compOk at h
  simp only [Bool.and_eq_true, Bool.or_eq_true, List.all_eq_true, beq_iff_eq, bne_iff_ne, decide_eq_true_eq, ne_eq] at h
  obtain ⟨⟨⟨⟨⟨⟨h1, h2⟩, h3⟩, h4⟩, h5⟩, h6⟩, h7⟩ := h
  refine ⟨h1, h2, fun y hy e => ?_, fun y hy e => ?_, fun y hy e => ?_, fun y hy e => ?_, h5, h6⟩
  · rcases (h3 y hy).1.1 with z | z
    · exact absurd e z
    · exact z
  · rcases (h3 y hy).1.2 with z | z
    · exact absurd e z
    · exact z
  · rcases (h3 y hy).2 with z | z
    · exact absurd e z
    · exact z
  · rcases h4 y hy with z | z
    · exact absurd z e
    · exact z

theorem mem_cellsFrom {y : Str} {c : Addr} : ∀ (names : List (Str × NameKind)) (n : Nat) (acc : List (Str × Addr)), (y, c) ∈ cellsFrom n names acc → (y, NameKind.cell) ∈ names ∨ (y, c) ∈ acc
  | [], _, _, h => .inr h
  | (x, k) :: r, n, acc, h => by
    unfold cellsFrom at h
    by_cases hk : (k == NameKind.cell) = true
    · rw [if_pos hk] at h
      have hk' : k = .cell := by simpa using hk
      subst hk'
      rcases mem_cellsFrom r _ _ h with z | z
      · exact .inl (List.mem_cons_of_mem _ z)
      · rcases List.mem_cons.mp z with e | e
        · cases e; exact .inl List.mem_cons_self
        · exact .inr e
    · rw [if_neg hk] at h
      rcases mem_cellsFrom r _ _ h with z | z
      · exact .inl (List.mem_cons_of_mem _ z)
      · exact .inr z

/-- a cell of the block: its own, or one taken over -/
theorem blk_cell {names : List (Str × NameKind)} {cells : List (Str × Addr)} {n : Nat} {y : Str} {c : Addr} (hf : ∀ z, (z, NameKind.free) ∈ names → ∃ c, cells.lookup z = some c)
    (h : (cellsFrom n names (clOf cells names [])).lookup y = some c) : (y, c) ∈ cellsFrom n names [] ∨ ((y, NameKind.free) ∈ names ∧ cells.lookup y = some c) := by
  rw [cellsFrom_acc, lookup_app] at h
  cases e : (cellsFrom n names []).lookup y with
  | some c' =>
    rw [e] at h
    have h' : some c' = some c := h
    cases h'
    exact .inl (mem_of_lookup e)
  | none =>
    rw [e, Option.none_or] at h
    by_cases hm : (y, NameKind.free) ∈ names
    · rw [(clOf_lookup cells y names []).1 hm] at h
      obtain ⟨c', hc⟩ := hf y hm
      rw [hc] at h
      have h' : some c' = some c := h
      cases h'
      exact .inr ⟨hm, hc⟩
    · rw [(clOf_lookup cells y names []).2 hm] at h
      cases h
theorem blk_cell_free {names : List (Str × NameKind)} {cells : List (Str × Addr)} {n : Nat} {y : Str} {c : Addr} (hm : (y, NameKind.free) ∈ names) (hn : (y, NameKind.cell) ∉ names) (hc : cells.lookup y = some c) :
    (cellsFrom n names (clOf cells names [])).lookup y = some c := by
  rw [cellsFrom_acc, lookup_app]
  cases e : (cellsFrom n names []).lookup y with
  | some c' =>
    rcases mem_cellsFrom _ _ _ (mem_of_lookup e) with z | z
    · exact absurd z hn
    · cases z
  | none =>
    rw [Option.none_or, (clOf_lookup cells y names []).1 hm, hc]
    rfl

section
variable {X : Cx} {pins : List (Addr × Obj)} {σ : L2.St} {H : Hp} {s : Shared} {x : Str} {scope : Scope}

theorem kind_of_rel {scope : Scope} {env : Env} {y : Str} {k : NameKind} (h : (relabel scope env).names.lookup y = some k) : scope.names.lookup y = some k ∨ (k = .cell ∧ scope.names.lookup y = some .free) := by
  rw [lookup_relabel] at h
  cases e : scope.names.lookup y with
  | none => rw [e] at h; cases h
  | some k' =>
    rw [e] at h
    simp only [Option.map_some, Option.some.injEq] at h
    split at h
    · rename_i hc
      simp only [Bool.and_eq_true, beq_iff_eq] at hc
      rw [hc.1.1]
      exact .inr ⟨h.symm, rfl⟩
    · exact .inl (by rw [h])

theorem has_free (I : Inv X pins σ H s) (F : CompFacts X.N X.env.scope x scope) : ∀ z, (z, NameKind.free) ∈ scope.names → ∃ c, X.env.cells.lookup z = some c := fun z hz => I.ok.has z (F.fres _ hz rfl).1

theorem blk_ok {fp : List Addr} (I : Inv X pins σ H s) (F : CompFacts X.N X.env.scope x scope) (hf : ∀ b ∈ fp, FpOk X pins H b ∧ b < s.heap.objs.size)
    (hap : (cellsFrom (s.heap.objs.size + 1) scope.names []).Pairwise fun x y => x.2 ≠ y.2) (hce : ∀ n c, (n, c) ∈ cellsFrom (s.heap.objs.size + 1) scope.names [] → s.heap.objs.size + 1 ≤ c) : (blk X x scope s.heap.objs.size s H fp).Ok where
  mod := I.ok.mod
  kind := F.kind
  glob := I.ok.glob
  blt := I.ok.blt
  above := Nat.le_refl _
  inj := fun y z c e1 e2 => by
    have hf := has_free I F
    rcases blk_cell hf e1 with m1 | ⟨m1, k1⟩ <;> rcases blk_cell hf e2 with m2 | ⟨m2, k2⟩
    · exact name_of_addr hap m1 m2
    · obtain ⟨v, q⟩ := I.cell _ _ k2
      exact absurd (Nat.lt_of_lt_of_le q.lt (Nat.le_of_succ_le (hce _ _ m1))) (Nat.lt_irrefl _)
    · obtain ⟨v, q⟩ := I.cell _ _ k1
      exact absurd (Nat.lt_of_lt_of_le q.lt (Nat.le_of_succ_le (hce _ _ m2))) (Nat.lt_irrefl _)
    · exact I.ok.inj _ _ _ k1 k2
  has := fun y hy => by
    have hf := has_free I F
    have key : ((cellsFrom (s.heap.objs.size + 1) scope.names (clOf X.env.cells scope.names [])).lookup y).isSome = true := by
      have c1 : scope.names.lookup y = some .cell → ((cellsFrom (s.heap.objs.size + 1) scope.names (clOf X.env.cells scope.names [])).lookup y).isSome = true := fun q => PySem.W.cellsFrom_some _ _ _ (.inl q)
      have c2 : scope.names.lookup y = some .free → ((cellsFrom (s.heap.objs.size + 1) scope.names (clOf X.env.cells scope.names [])).lookup y).isSome = true := fun q => by
        have hm := mem_of_lookup q
        rw [cellsFrom_acc, lookup_app, (clOf_lookup X.env.cells y scope.names []).1 hm]
        cases (cellsFrom (s.heap.objs.size + 1) scope.names []).lookup y <;> rfl
      rcases hy with hy | hy
      · rcases kind_of_rel hy with z | ⟨_, z⟩
        · exact c1 z
        · exact c2 z
      · rcases kind_of_rel hy with z | ⟨z, _⟩
        · exact c2 z
        · cases z
    exact Option.isSome_iff_exists.mp key
  cab := fun y c hy e => by
    have hy' : y = x := by simpa [blk] using hy
    subst hy'
    rcases blk_cell (has_free I F) e with m | ⟨m, _⟩
    · exact Nat.le_of_succ_le (hce _ _ m)
    · have := (F.fres _ m rfl).2
      rcases F.tgt with z | z <;> · rw [z] at this; cases this
  hd := I.ok.hd
  frames := I.ok.frames
  stk := .inl rfl
  exf := fun b hb => by
    refine ⟨Nat.ne_of_lt (hf b hb).2, fun y c e => ?_⟩
    rcases blk_cell (has_free I F) e with m | ⟨_, k⟩
    · exact Nat.ne_of_gt (Nat.lt_of_lt_of_le (hf b hb).2 (Nat.le_of_succ_le (hce _ _ m)))
    · exact (hf b hb).1.2.2.2.2.1 y c k
  bs := I.bs
  bsz := Nat.le_trans I.ok.bsz I.sz
  noex := fun b o e hb => by
    rcases (hf b hb).1.2.2.2.1 with z | z
    · exact I.ok.noex b o e z
    · exact absurd (Nat.lt_of_lt_of_le (Heap.lt_size e) (Nat.le_trans I.ok.bsz z)) (Nat.lt_irrefl _)
  exfs := fun b hb z => by
    rcases List.mem_cons.mp (I.stkSub b z) with e | e
    · exact (hf b hb).1.2.1 e
    · exact (hf b hb).1.2.2.1 e
  funs := I.stack
  frf := I.stkFree

theorem blk_inv {fp : List Addr} {h' : Heap} (I : Inv X pins σ H s) (F : CompFacts X.N X.env.scope x scope) (hf : ∀ b ∈ fp, FpOk X pins H b ∧ b < s.heap.objs.size)
    (hns : h'.Ns s.heap.objs.size (fun _ => none)) (hk : ∀ b o, s.heap.get? b = some o → h'.get? b = some o)
    (hce : ∀ n c, (n, c) ∈ cellsFrom (s.heap.objs.size + 1) scope.names [] → h'.IsCell c none ∧ s.heap.objs.size + 1 ≤ c)
    (hap : (cellsFrom (s.heap.objs.size + 1) scope.names []).Pairwise fun x y => x.2 ≠ y.2) : Inv (blk X x scope s.heap.objs.size s H fp) [] (σ ++ [none]) H { s with heap := h' } where
  ok := blk_ok I F hf hap fun n c m => (hce n c m).2
  os := rfl
  bare := I.bare
  base := Un.kept hk
  loc := by
    refine ⟨fun _ => none, hns, fun i y v e1 e2 e3 => ?_⟩
    have hi : i < σ.length := by
      have h1 := (List.getElem?_eq_some_iff.mp e2).1
      rw [List.length_append, List.length_singleton] at h1
      by_cases hlt : i < σ.length
      · exact hlt
      · have hi' : i = σ.length := by omega
        rw [hi', List.getElem?_append_right (Nat.le_refl _), Nat.sub_self] at e2
        cases e2
    rw [List.getElem?_append_left hi] at e2
    have hi2 : i < X.N.length := by rw [← I.len]; exact hi
    have e1' : (X.N.map fun y => if y == x then hidN x else y)[i]? = some y := by
      have : (blkN X.N x)[i]? = some y := e1
      unfold blkN at this
      rwa [List.getElem?_append_left (by rw [List.length_map]; exact hi2)] at this
    rw [List.getElem?_map] at e1'
    cases q : X.N[i]? with
    | none => rw [q] at e1'; cases e1'
    | some y0 =>
      rw [q] at e1'
      have e1'' : (if (y0 == x) = true then hidN x else y0) = y := Option.some.inj e1'
      by_cases hx : (y0 == x) = true
      · rw [if_pos hx] at e1''
        subst e1''
        exfalso
        have no : ∀ k, (relabel scope X.env).names.lookup (hidN x) = some k → False := fun k z => by
          rcases kind_of_rel z with z | ⟨_, z⟩ <;> · rw [F.emp] at z; cases z
        rcases e3 with z | z | z <;> exact no _ z
      · rw [if_neg hx] at e1''
        subst e1''
        have hxn : y0 ≠ x := fun z => hx (by rw [z]; simp)
        obtain ⟨n1, n2⟩ := F.oth y0 (List.mem_of_getElem? q) hxn
        have hfr : scope.names.lookup y0 = some .free := by
          rcases e3 with z | z | z
          · rcases kind_of_rel z with z | ⟨z, _⟩
            · exact absurd z n1
            · cases z
          · rcases kind_of_rel z with z | ⟨_, z⟩
            · exact absurd z n2
            · exact z
          · rcases kind_of_rel z with z | ⟨z, _⟩
            · exact z
            · cases z
        have hm := mem_of_lookup hfr
        have hnc : (y0, NameKind.cell) ∉ scope.names := fun z => n2 (F.cels _ z rfl)
        have ko := (F.fres _ hm rfl).1
        obtain ⟨m, hn, hl⟩ := I.loc
        obtain ⟨u, ru, lk⟩ := hl i y0 v q e2 (ko.elim (fun z => .inr (.inl z)) fun z => .inr (.inr z))
        refine ⟨u, ru, .inr ?_⟩
        rcases lk with ⟨z, _⟩ | ⟨_, c, hc, ic⟩
        · have z' : X.env.scope.names.lookup y0 = some .local := z
          rcases ko with k | k <;> · rw [z'] at k; cases k
        · refine ⟨?_, c, blk_cell_free hm hnc hc, ic.keeps hk⟩
          rcases e3 with z | z
          · rcases kind_of_rel z with z | ⟨z, _⟩
            · exact absurd z n1
            · cases z
          · exact z
  cell := fun y c e => by
    rcases blk_cell (has_free I F) e with m | ⟨_, k⟩
    · exact ⟨_, (hce _ _ m).1⟩
    · obtain ⟨v, q⟩ := I.cell y c k
      exact ⟨v, q.keeps hk⟩
  free := I.hok.fresh (Nat.le_refl _)
  freeC := fun y c e => by
    rcases blk_cell (has_free I F) e with m | ⟨_, k⟩
    · exact I.hok.fresh (Nat.le_of_succ_le (hce _ _ m).2)
    · exact I.freeC y c k
  pin := fun p hp => by simp [blk] at hp
  hok := I.hok.kept hk
  len := by
    show (σ ++ [none]).length = (blkN X.N x).length
    unfold blkN
    rw [List.length_append, List.length_append, List.length_map, I.len]
    rfl

/-- out of the block -/
theorem blk_back {fp : List Addr} {C : Addr} {H' : Hp} {s' : Shared} {h' : Heap} {σ' : L2.St} {pins' : List (Addr × Obj)} (I : Inv X pins σ H s) (hf : ∀ b ∈ fp, FpOk X pins H b ∧ b < s.heap.objs.size) (J : Inv (blk X x scope C s H fp) pins' σ' H' s') (hC : s.heap.objs.size ≤ C)
    (hs : Heap.SameBut C s'.heap h') : Inv X pins σ H' { s' with heap := h' } := by
  have nC : ∀ b o, s.heap.get? b = some o → b ≠ C := fun b o e => Nat.ne_of_lt (Nat.lt_of_lt_of_le (Heap.lt_size e) hC)
  have u := J.base
  refine I.call' (s' := { s' with heap := h' }) (ch := fp) J.os ⟨?_, ?_, u.free, ?_, u.tups, u.frzs, u.tbls⟩ (fun b o e => ?_) J.bare ?_
  · intro b o e n hb hx
    exact (hs.2 b (nC b o e)).trans (u.keep b o e n hb hx)
  · intro b o e n hb hx
    obtain ⟨sl, q⟩ := u.slot b o e n hb hx
    exact ⟨sl, (hs.2 b (nC b o e)).trans q⟩
  · intro b o e hx
    obtain ⟨o', q⟩ := u.there b o e hx
    exact ⟨o', (hs.2 b (nC b o e)).trans q⟩
  · have hCn : H' C = none := J.free
    refine (J.hok b o e).stay (fun c w' hc q => (hs.2 c ?_).trans q) (fun _ q => q) fun _ _ q => q
    intro z
    rcases hc with y | y
    · rw [← y, z, hCn] at e; cases e
    · rw [z, hCn] at y; cases y
  · intro b hb
    obtain ⟨_, f1, f2, f3, f4, f5⟩ := (hf b hb).1
    exact ⟨f3, f1, f4, f5⟩
end

/-! ### the loop -/
theorem codeAny_compLoop_it {prog : Program} {w : World} {A : Around} {R : Result → Shared → Prop} {s : Shared} {elt target iter : Expr} {ifs : List Expr} {scope : Scope} {pos : Pos} {it acc : Value} {env : Env} (I : Nat → Shared → Prop)
    (turn : ∀ n s, I n s → wpAny (model prog w) A (pyNext it) (fun r s₁ => match r with
      | none => R (.ok .next) s₁
      | some v => wpAny (model prog w) A (letOwnedTupleGo target it v) (fun _ s₀ => wpAny (model prog w) A (assign target env v) (fun _ s₂ =>
          wpAny (model prog w) A (forIn ifs true fun c r => if r = true then do let ok ← isTrue c env (eval c env); pure (ForInStep.yield ok) else pure (ForInStep.yield r)) (fun ok s₃ =>
            if ok = true then wpAny (model prog w) A (eval elt env) (fun x s₄ =>
              wpAny (model prog w) A (call (.builtin "list.append") [acc, x]) (fun _ s₅ => ∃ m, m < n ∧ I m s₅) (fun _ _ => False) s₄) (fun _ _ => False) s₃
            else ∃ m, m < n ∧ I m s₃) (fun _ _ => False) s₂) (fun _ _ => False) s₀) (fun _ _ => False) s₁) (fun _ _ => False) s)
    (n : Nat) (h : I n s) :
    codeAny (model prog w) A (.compLoop (.ListComp elt [⟨target, iter, ifs, 0⟩] scope pos) 0 it acc env) R s := by
  refine codeAny_loop rfl I (fun n s hI => ?_) n h
  show wpAny _ A ((compTurn (.ListComp elt [⟨target, iter, ifs, 0⟩] scope pos) 0 it acc env).onRaise (fun x => do noteFrame x env; theTreesLotGoes x)) _ _ s
  refine wpAny_noted ?_
  rw [compTurn_list]
  refine wpAny_bind (wpAny_standAt (wpAny_bind (wpAny_mono (turn n s hI) (fun r s₁ h₁ => ?_) fun _ _ h' => h'.elim)))
  cases r with
  | none => exact wpAny_pure h₁
  | some v =>
    refine wpAny_bind (wpAny_mono h₁ (fun _ s₀ h₀ => ?_) fun _ _ h' => h'.elim)
    refine wpAny_bind (wpAny_mono h₀ (fun _ s₂ h₂ => wpAny_bind (wpAny_mono h₂ (fun ok s₃ h₃ => ?_) fun _ _ h' => h'.elim)) fun _ _ h' => h'.elim)
    cases ok with
    | false => exact wpAny_pure ⟨rfl, h₃⟩
    | true =>
      exact wpAny_bind (wpAny_bind (wpAny_mono h₃ (fun x s₄ h₄ => wpAny_bind (wpAny_mono h₄ (fun _ s₅ h₅ => wpAny_pure (wpAny_pure ⟨rfl, h₅⟩)) fun _ _ h' => h'.elim)) fun _ _ h' => h'.elim))

section
variable {X : Cx}
/-- the tests of a comprehension: none, or one -/
def PIfs (X : Cx) (ifs : List Expr) (t : TT) : Prop :=
  ∀ (pins : List (Addr × Obj)) (s : Shared) (σ : L2.St) (H : Hp) (Q : Bool → Hp → Prop), Inv X pins σ H s → t σ H Q →
    wpAny (model X.prog X.w) X.A (forIn ifs true fun c r => if r = true then do let ok ← isTrue c X.env (eval c X.env); pure (ForInStep.yield ok) else pure (ForInStep.yield r)) (TP X pins σ Q) X.xe s
def tNoIf : TT := fun _ H Q => Q true H
theorem pifs_nil : PIfs X [] tNoIf := fun pins s σ H Q I h => by rw [List.forIn_nil]; exact wpAny_pure ⟨H, I, h⟩
/-- the comprehension's reading: l the list that grows -/
def tComp (wi : TI) (tt : TT) (te : TE) : TE := fun σ H Q => wi σ H fun J H1 => ∀ l, H1 l = none → ∃ W : Nat → Nat → List V → Hp → Prop, (∃ m, W 0 m [] (upd H1 l (.lst []))) ∧
  ∀ i m ys H, W i m ys H → H l = some (.lst ys) ∧ ((J.stop i H ∧ Q (.ref l) H) ∨ (J.go i H ∧ ys.length < sizeLine ∧ ∀ x H', J.yld i H x H' → tt (σ ++ [some x]) H' fun b H2 =>
    if b = true then te (σ ++ [some x]) H2 fun y H3 => H3 l = some (.lst ys) ∧ ∃ m', m' < m ∧ W (i + 1) m' (ys ++ [y]) (upd H3 l (.lst (ys ++ [y]))) else ∃ m', m' < m ∧ W (i + 1) m' ys H2))

/-- the block's run: from an iterator to the list; the end by RR -/
theorem comp_run {elt iter : Expr} {x : Str} {px pos : Pos} {ifs : List Expr} {scope : Scope} {tt : TT} {te : TE} {pins : List (Addr × Obj)} {σ : L2.St} {H2 : Hp} {s2 : Shared} {it : Addr} {fp : List Addr} {tn : Nat → Heap → Prop} {J : It} {Q : VK} {E : Value → Shared → Prop} {RR : Value → Addr → Result → Shared → Prop}
    (hc : X.calm = true) (F : CompFacts X.N X.env.scope x scope) (ht : ∀ C s₀ H₀ ex, PIfs (blk X x scope C s₀ H₀ ex) ifs tt) (he : ∀ C s₀ H₀ ex, PE (blk X x scope C s₀ H₀ ex) elt te)
    (I2 : Inv X pins σ H2 s2) (T : Turn X.prog X.w X.K (.Name x px) J fp it tn) (st2 : tn 0 s2.heap) (f2 : ∀ b ∈ fp, FpOk X pins H2 b)
    (h : ∀ l, H2 l = none → ∃ W : Nat → Nat → List V → Hp → Prop, (∃ m, W 0 m [] (upd H2 l (.lst []))) ∧
      ∀ i m ys H, W i m ys H → H l = some (.lst ys) ∧ ((J.stop i H ∧ Q (.ref l) H) ∨ (J.go i H ∧ ys.length < sizeLine ∧ ∀ x H', J.yld i H x H' → tt (σ ++ [some x]) H' fun b H2 =>
        if b = true then te (σ ++ [some x]) H2 fun y H3 => H3 l = some (.lst ys) ∧ ∃ m', m' < m ∧ W (i + 1) m' (ys ++ [y]) (upd H3 l (.lst (ys ++ [y]))) else ∃ m', m' < m ∧ W (i + 1) m' ys H2)))
    (fin : ∀ (l C : Addr) (H' : Hp) (s' : Shared), Q (.ref l) H' → (∃ m, s'.heap.Ns C m) → FpOk X pins H' C → (∀ h', Heap.SameBut C s'.heap h' → Inv X pins σ H' { s' with heap := h' }) → RR (.ref l) C (.ok .next) s') :
    wpAny (model X.prog X.w) X.A (newList []) (fun acc s₃ => wpAny (model X.prog X.w) X.A (newFunctionEnv scope X.env.globals (clOf X.env.cells scope.names []) [] X.env.qual none .none (some X.env)) (fun cenv s₄ =>
      codeAny (model X.prog X.w) X.A (.compStart (.ListComp elt [⟨.Name x px, iter, ifs, 0⟩] scope pos) 0 (.ref it) acc { cenv with scope := relabel scope X.env }) (RR acc cenv.locals) s₄) E s₃) E s2 := by
  obtain ⟨W, ⟨m0, w0⟩, turn⟩ := h s2.heap.objs.size (I2.hok.fresh (Nat.le_refl _))
  refine wpAny_newObj_type ?_
  have I3 : Inv X pins σ (upd H2 s2.heap.objs.size (.lst [])) { s2 with heap := s2.heap.push { cls := .type "list", data := .seq ([] : List Value).toArray } } := I2.lnew (t' := s2.toks) (its := []) .nil (Nat.zero_le _)
  generalize hl : s2.heap.objs.size = l at *
  generalize hH3 : upd H2 l (.lst []) = H3 at *
  generalize hs3 : ({ s2 with heap := s2.heap.push { cls := .type "list", data := .seq ([] : List Value).toArray } } : Shared) = s3 at I3
  have hk3 : ∀ b o, s2.heap.get? b = some o → s3.heap.get? b = some o := fun b o e => by rw [← hs3]; exact Heap.get?_push_of_some _ e
  have lt2 : ∀ b ∈ fp, b < s2.heap.objs.size := fun b hb => by obtain ⟨o, e, _⟩ := T.obj _ _ st2 b hb; exact Heap.lt_size e
  have lt3 : s2.heap.objs.size ≤ s3.heap.objs.size := by rw [← hs3]; show _ ≤ (s2.heap.push _).objs.size; rw [Heap.size_push]; omega
  have hn3 : ∀ b ∈ fp, H3 b = none := fun b hb => by
    rw [← hH3, upd_ne (by rw [← hl]; exact Nat.ne_of_lt (lt2 b hb))]
    exact (f2 b hb).1
  have f3 : ∀ b ∈ fp, FpOk X pins H3 b ∧ b < s3.heap.objs.size := fun b hb => ⟨⟨hn3 b hb, (f2 b hb).2⟩, Nat.lt_of_lt_of_le (lt2 b hb) lt3⟩
  have st3 : tn 0 s3.heap := T.keep _ _ _ st2 fun b _ o e => hk3 b o e
  show wpAny _ _ (newFunctionEnv scope X.env.globals (clOf X.env.cells scope.names []) [] X.env.qual none .none (some X.env)) _ _ _
  refine wpAny_newCompEnv fun h4 hns hk4 hce hap => ?_
  have IB := blk_inv I3 F f3 hns hk4 hce hap
  have statB : ∀ {H' : Hp}, (∀ b ∈ fp, H' b = none) → ∀ b ∈ fp, FpOk (blk X x scope s3.heap.objs.size s3 H3 fp) [] H' b := fun hn b hb =>
    ⟨hn b hb, (IB.ok.exf b hb).1, IB.ok.exfs b hb, .inl hb, (IB.ok.exf b hb).2, fun p hp => by simp [blk] at hp⟩
  have hlenσ : σ.length = X.N.length := I3.len
  have hxi : (blk X x scope s3.heap.objs.size s3 H3 fp).N[σ.length]? = some x := by
    show (blkN X.N x)[σ.length]? = some x
    unfold blkN
    rw [List.getElem?_append_right (by rw [List.length_map, hlenσ]; exact Nat.le_refl _), List.length_map, hlenσ, Nat.sub_self]
    rfl
  have hxl : Loc (blk X x scope s3.heap.objs.size s3 H3 fp).env.scope x := by
    show (relabel scope X.env).names.lookup x = some .local ∨ (relabel scope X.env).names.lookup x = some .cell
    rw [lookup_relabel]
    rcases F.tgt with z | z
    · rw [z]; exact .inl rfl
    · rw [z]; exact .inr rfl
  have hpg : PG (blk X x scope s3.heap.objs.size s3 H3 fp) (.Name x px) (gName σ.length) := pg_name F.nd hxi hxl (.inl (by simp [blk]))
  have loop : codeAny (model X.prog X.w) X.A (.compLoop (.ListComp elt [⟨.Name x px, iter, ifs, 0⟩] scope pos) 0 (.ref it) (.ref l) (blkEnv scope s3.heap.objs.size X.env)) (RR (.ref l) s3.heap.objs.size) { s3 with heap := h4 } := by
    refine codeAny_compLoop_it (fun n s' => ∃ i o H' ys, Inv (blk X x scope s3.heap.objs.size s3 H3 fp) [] (σ ++ [o]) H' s' ∧ tn i s'.heap ∧ (∀ b ∈ fp, H' b = none) ∧ W i n ys H') ?_ m0
      ⟨0, none, H3, [], IB, T.keep _ _ _ st3 fun b _ o e => hk4 b o e, hn3, w0⟩
    rintro n s5 ⟨i, o, H5, ys, I5, st5, fr5, w5⟩
    obtain ⟨hl5, ⟨stop, q5⟩ | ⟨go, hlen, step⟩⟩ := turn i n ys H5 w5
    · refine wpAny_mono (T.done (blk X x scope s3.heap.objs.size s3 H3 fp) rfl rfl rfl hc i [] s5 (σ ++ [o]) H5 (fun _ _ => False) I5 (statB fr5) st5 stop) (fun r s6 ⟨hr, I6⟩ => ?_) fun _ _ z => z
      subst hr
      obtain ⟨m, hm, _⟩ := I6.loc
      exact fin l _ H5 s6 q5 ⟨m, hm⟩ (I3.fpOk (Nat.le_refl _) I6.free) fun h' hs => blk_back I3 f3 I6 (Nat.le_refl _) hs
    · refine wpAny_mono (T.item (blk X x scope s3.heap.objs.size s3 H3 fp) rfl rfl rfl hc i [] s5 (σ ++ [o]) H5 (fun _ _ => False) I5 (statB fr5) st5 go) (fun r s6 ⟨u, hr, h6⟩ => ?_) fun _ _ z => z
      subst hr
      refine wpAny_mono h6 (fun _ s7 ⟨xv, H7, I7, r7, y7, st7, fr7⟩ => ?_) fun _ _ z => z
      have I7' := I7.pinned (statB fr7) (T.obj _ _ st7)
      have keepT : ∀ {σ' : L2.St} {H' : Hp} {s' : Shared}, Inv (blk X x scope s3.heap.objs.size s3 H3 fp) ([] ++ pinsAt fp s7.heap) σ' H' s' → tn (i + 1) s'.heap ∧ ∀ b ∈ fp, H' b = none := fun {σ' H' s'} I' => by
        refine ⟨T.keep _ _ _ st7 fun b hb o e => (I'.pin (b, o) (List.mem_append_right _ (List.mem_append_right _ (mem_pinsAt hb e)))).1, fun b hb => ?_⟩
        obtain ⟨ob, e, d⟩ := T.obj _ _ st7 b hb
        exact (I'.pin (b, ob) (List.mem_append_right _ (List.mem_append_right _ (mem_pinsAt hb e)))).2.1
      refine thn (hpg _ s7 (σ ++ [o]) H7 xv u (fun σ' H' => σ' = σ ++ [some xv] ∧ H' = H7) I7' r7
        ⟨by rw [List.set_append_right _ _ (Nat.le_refl _), Nat.sub_self]; rfl, rfl⟩) fun _ s8 ⟨σ8, H8, I8, e8, e8'⟩ => ?_
      subst e8 e8'
      refine thn (ht _ _ _ _ _ s8 _ _ _ I8 (step xv _ y7)) fun b s9 ⟨H9, I9, q9⟩ => ?_
      cases b with
      | false =>
        obtain ⟨m', hm, w9⟩ := q9
        exact ⟨m', hm, i + 1, some xv, H9, ys, I9.unpinned, (keepT I9).1, (keepT I9).2, w9⟩
      | true =>
        refine thn (he _ _ _ _ _ s9 _ H9 _ I9 q9) fun yv s10 ⟨y, H10, I10, r10, hl10, m', hm, w10⟩ => ?_
        refine thn (mt_append _ s10 _ H10 (.ref l) [y] (.ref l) [yv] (fun _ H' => H' = upd H10 l (.lst (ys ++ [y]))) I10 rfl (.cons r10 .nil) ⟨l, ys, y, rfl, rfl, hl10, hlen, rfl⟩) fun _ s11 ⟨_, H11, I11, _, e11⟩ => ?_
        subst e11
        exact ⟨m', hm, i + 1, some xv, _, ys ++ [y], I11.unpinned, (keepT I11).1, (keepT I11).2, w10⟩
  exact codeAny_compStart_list loop (T.self _ 0 _ _ _ (T.keep _ _ _ st3 fun b _ o e => hk4 b o e) loop)

theorem pe_comp {elt iter : Expr} {x : Str} {px pos : Pos} {ifs : List Expr} {scope sc : Scope} {N : List Str} {wi : TI} {tt : TT} {te : TE}
    (hc : X.calm = true) (hi : PI X (.Name x px) iter wi) (hN : X.N = N) (hsc : X.env.scope = sc) (ok : compOk N sc x scope = true)
    (ht : ∀ C s₀ H₀ ex, PIfs (blk X x scope C s₀ H₀ ex) ifs tt) (he : ∀ C s₀ H₀ ex, PE (blk X x scope C s₀ H₀ ex) elt te)
    (hs : ∀ v, foldedSetIterable iter X.env v = pure v := by intro _; rfl) :
    PE X (.ListComp elt [⟨.Name x px, iter, ifs, 0⟩] scope pos) (tComp wi tt te) := by
  intro pins s σ H Q I h
  subst hN hsc
  have F := compOk_facts ok
  rw [eval_ListComp]
  refine wpAny_comprehension_free (use := none) rfl hs (closureFor_eq (has_free I F)) F.kind F.locs (thn (hi pins s σ H _ I h) fun xv s1 h1 => thn h1 fun itv s2 h2 => ?_)
  obtain ⟨it, fp, tn, J, H2, e, I2, T, st2, f2, hW⟩ := h2
  subst e
  refine comp_run (Q := Q) (RR := fun acc C => compPost (model X.prog X.w) X.A X.xe none (EP X pins σ Q) acc C) hc F ht he I2 T st2 f2 hW fun l C H' s' q hm _ hI => ?_
  obtain ⟨m, hm⟩ := hm
  exact ⟨m, hm, fun h' hs' => ⟨.ref l, H', hI h' hs', rfl, q⟩⟩

/-- y = [..], y a plain local of the def on the comprehension's own row -/
theorem ps_comp {elt iter : Expr} {x y : Str} {px py pos spos : Pos} {ifs : List Expr} {scope sc : Scope} {N : List Str} {wi : TI} {tt : TT} {te : TE} {i : Nat}
    (hc : X.calm = true) (hi : PI X (.Name x px) iter wi) (hN : X.N = N) (hsc : X.env.scope = sc) (ok : compOk N sc x scope = true)
    (ht : ∀ C s₀ H₀ ex, PIfs (blk X x scope C s₀ H₀ ex) ifs tt) (he : ∀ C s₀ H₀ ex, PE (blk X x scope C s₀ H₀ ex) elt te)
    (hnd : X.N.Nodup) (hyi : X.N[i]? = some y) (hyl : X.env.scope.names.lookup y = some .local)
    (hsw : swapsWith (.ListComp elt [⟨.Name x px, iter, ifs, 0⟩] scope pos) (some (.Name y py)) spos.line X.env = pure true)
    (hs : ∀ v, foldedSetIterable iter X.env v = pure v := by intro _; rfl) :
    PS X (.Assign [.Name y py] (.ListComp elt [⟨.Name x px, iter, ifs, 0⟩] scope pos) spos) (tAsg (tComp wi tt te) (gName i)) := by
  intro pins s σ H D I h
  subst hN hsc
  have F := compOk_facts ok
  rw [exec_Assign_Name_used _ _ _ _ hsw]
  refine wpAny_bind (wpAny_standAt (wpAny_bind ?_))
  show wpAny _ _ (do let _ ← comprehension (.ListComp elt [⟨.Name x px, iter, ifs, 0⟩] scope pos) scope X.env _ (newList []) false (eval iter X.env) (some (assign (.Name y py) X.env))) _ _ s
  refine wpAny_bind (wpAny_mono (wpAny_comprehension_free (use := some (assign (.Name y py) X.env)) (Q := fun _ s' => SP X pins D .next s') rfl hs (closureFor_eq (has_free I F)) F.kind F.locs
    (thn (hi pins s σ H _ I h) fun xv s1 h1 => thn h1 fun itv s2 h2 => ?_)) (fun _ s' hq => wpAny_pure (wpAny_pure hq)) fun _ _ e => e)
  obtain ⟨it, fp, tn, J, H2, e, I2, T, st2, f2, hW⟩ := h2
  subst e
  refine comp_run (Q := fun x H1 => gName i x σ H1 D.nx) (RR := fun acc C => compPost (model X.prog X.w) X.A X.xe (some (assign (.Name y py) X.env)) (fun _ s' => SP X pins D .next s') acc C) hc F ht he I2 T st2 f2 hW fun l C H' s' q hm hF hI => ?_
  obtain ⟨m, hm⟩ := hm
  show wpAny _ _ (assign (.Name y py) X.env (.ref l)) _ _ s'
  have I' : Inv X pins σ H' s' := hI s'.heap (.refl ..)
  refine wpAny_assign_Name (store_ok2 I' hnd hyi (.inl hyl) (show RelV (.ref l) (.ref l) from rfl) (fun s'' I'' hch => ?_) (.inr hyl))
  obtain ⟨a, hsa, ha⟩ := hch
  have hCa : C ≠ a := by
    rcases ha with z | z
    · rw [z]; exact hF.2.1
    · exact (hF.2.2.2.2.1 y a z).symm
  refine ⟨m, hm.sameBut hsa hCa, fun h' hs' => ⟨σ.set i (some (.ref l)), H', ?_, q⟩⟩
  exact I''.turned (t' := s''.toks) (fun b o hb e => (hs'.2 b hb).trans e) hF.1 hF.2.1 hF.2.2.2.1 hF.2.2.2.2.1 hF.2.2.2.2.2
end
end DL

end
section
set_option Elab.async false
set_option linter.all false
set_option maxRecDepth 100000
set_option maxHeartbeats 4000000
/-! Values as data: a program that keeps no object but its own new lists. -/
namespace DL
open PySem PySem.Spec PyProof.Rows L2

instance {sc : Scope} {x : Str} : Decidable (L2.Vis sc x) := inferInstanceAs (Decidable (_ ∨ _ ∨ _))
instance {sc : Scope} {x : Str} : Decidable (L2.Loc sc x) := inferInstanceAs (Decidable (_ ∨ _))
inductive D where
  | non | bl (b : Bool) | int (i : Int) | str (x : Str) | tup (ds : List D) | lst (ds : List D)
  /-- a dict from tuples of ints to ints -/
  | dcI (kvs : List (List Int × Int))
/-- its items -/
abbrev dcV (kvs : List (List Int × Int)) : List (List Key × V) := kvs.map fun kv => (kv.1.map Sum.inl, V.int kv.2)

/-- no tuple -/
def NT (o : HO) : Prop := ∀ xs, o ≠ .tup xs
abbrev HN := { o : HO // NT o }
theorem nt_lst {xs : List V} : NT (.lst xs) := fun _ z => by cases z
theorem nt_dT {xs : List (List Key × V)} : NT (.dT xs) := fun _ z => by cases z
/-- where the keys of a dict's object lie -/
def KeysAt (H : Hp) (o : Obj) (kvs : List (List Int × Int)) : Prop := ∃ (es : Array DictEntry) (ep : Nat), o.data = .dict es ep ∧ es.size = kvs.length ∧ ∀ (i : Nat) (k : List Int) (v : Int), kvs[i]? = some (k, v) → ∃ (e : DictEntry) (b : Addr), es[i]? = some e ∧ e.key = .ref b ∧ H b = some (.tup (k.map V.int))
mutual
def Rep (K : PySem.W.Frag) (H : Hp) : D → V → Prop
  | .non, v => v = .non
  | .bl b, v => v = .bl b
  | .int i, v => v = .int i
  | .str x, v => v = .str x
  | .tup ds, v => ∃ a vs, v = .ref a ∧ H a = some (.tup vs) ∧ Reps K H ds vs
  | .lst ds, v => ∃ a vs, v = .ref a ∧ SqL K H a vs ∧ Reps K H ds vs
  | .dcI kvs, v => ∃ a o, v = .ref a ∧ H a = some (.frz o (.dT (dcV kvs))) ∧ KeysAt H o kvs
def Reps (K : PySem.W.Frag) (H : Hp) : List D → List V → Prop
  | [], vs => vs = []
  | d :: ds, vs => ∃ v r, vs = v :: r ∧ Rep K H d v ∧ Reps K H ds r
end

section
variable {K : PySem.W.Frag} {H H' : Hp}
theorem sqT_of {a : Addr} {xs : List V} (e : Same H H') (h : H a = some (.tup xs)) : SqT K H' a xs := SqT.of (e _ _ h)
theorem sqT_mono {a : Addr} {xs : List V} (e : Same H H') (h : SqT K H a xs) : SqT K H' a xs := by
  rcases h with (h | ⟨o, h⟩) | h
  · exact .inl (.inl (e _ _ h))
  · exact .inl (.inr ⟨o, e _ _ h⟩)
  · exact .inr h
theorem KeysAt.mono (e : Same H H') {o : Obj} {kvs : List (List Int × Int)} : KeysAt H o kvs → KeysAt H' o kvs := fun ⟨es, ep, h1, h2, h3⟩ => ⟨es, ep, h1, h2, fun i k v h => let ⟨en, b, a1, a2, a3⟩ := h3 i k v h; ⟨en, b, a1, a2, e _ _ a3⟩⟩
mutual
theorem Rep.mono (e : Same H H') : ∀ (d : D) {v : V}, Rep K H d v → Rep K H' d v
  | .non, _, h => h
  | .bl _, _, h => h
  | .int _, _, h => h
  | .str _, _, h => h
  | .tup ds, _, ⟨a, vs, e1, e2, r⟩ => ⟨a, vs, e1, e _ _ e2, Reps.mono e ds r⟩
  | .lst ds, _, ⟨a, vs, e1, e2, r⟩ => ⟨a, vs, e1, Same.seq e e2, Reps.mono e ds r⟩
  | .dcI _, _, ⟨a, o, e1, e2, k⟩ => ⟨a, o, e1, e _ _ e2, k.mono e⟩
theorem Reps.mono (e : Same H H') : ∀ (ds : List D) {vs : List V}, Reps K H ds vs → Reps K H' ds vs
  | [], _, h => h
  | d :: ds, _, ⟨v, r, e1, h1, h2⟩ => ⟨v, r, e1, Rep.mono e d h1, Reps.mono e ds h2⟩
end
theorem Reps.len : ∀ {ds : List D} {vs : List V}, Reps K H ds vs → vs.length = ds.length
  | [], _, h => by cases (show _ = [] from h); rfl
  | d :: ds, _, ⟨v, r, e1, _, h2⟩ => by subst e1; exact congrArg (· + 1) (Reps.len h2)
theorem Reps.get : ∀ {ds : List D} {vs : List V} {i : Nat} {d : D}, Reps K H ds vs → ds[i]? = some d → ∃ v, vs[i]? = some v ∧ Rep K H d v
  | [], _, _, _, _, e => by simp at e
  | d :: ds, _, 0, d', ⟨v, r, e1, h1, _⟩, e => by
    subst e1
    have e' : d = d' := by simpa using e
    subst e'
    exact ⟨v, rfl, h1⟩
  | d :: ds, _, i + 1, d', ⟨v, r, e1, _, h2⟩, e => by
    subst e1
    exact Reps.get h2 (i := i) (by simpa using e)
theorem Reps.app : ∀ {ds es : List D} {vs ws : List V}, Reps K H ds vs → Reps K H es ws → Reps K H (ds ++ es) (vs ++ ws)
  | [], _, _, _, h, h' => by cases (show _ = [] from h); exact h'
  | d :: ds, es, _, ws, ⟨v, r, e1, h1, h2⟩, h' => by subst e1; exact ⟨v, r ++ ws, rfl, h1, Reps.app h2 h'⟩
theorem Reps.one {d : D} {v : V} (h : Rep K H d v) : Reps K H [d] [v] := ⟨v, [], rfl, h, rfl⟩
theorem Reps.take : ∀ {ds : List D} {vs : List V} (n : Nat), Reps K H ds vs → Reps K H (ds.take n) (vs.take n)
  | _, _, 0, _ => by rw [List.take_zero, List.take_zero]; exact rfl
  | [], _, _ + 1, h => by cases (show _ = [] from h); exact rfl
  | d :: ds, _, n + 1, ⟨v, r, e1, h1, h2⟩ => by subst e1; exact ⟨v, r.take n, rfl, h1, Reps.take n h2⟩
theorem Reps.drop : ∀ {ds : List D} {vs : List V} (n : Nat), Reps K H ds vs → Reps K H (ds.drop n) (vs.drop n)
  | _, _, 0, h => by rw [List.drop_zero, List.drop_zero]; exact h
  | [], _, _ + 1, h => by cases (show _ = [] from h); exact rfl
  | d :: ds, _, n + 1, ⟨v, r, e1, h1, h2⟩ => by subst e1; exact Reps.drop n h2
theorem Reps.set : ∀ {ds : List D} {vs : List V} (n : Nat) {d : D} {v : V}, Reps K H ds vs → Rep K H d v → Reps K H (ds.set n d) (vs.set n v)
  | [], _, _, _, _, h, _ => by cases (show _ = [] from h); exact rfl
  | d :: ds, _, 0, d', v', ⟨v, r, e1, h1, h2⟩, h => by subst e1; exact ⟨v', r, rfl, h, h2⟩
  | d :: ds, _, n + 1, d', v', ⟨v, r, e1, h1, h2⟩, h => by subst e1; exact ⟨v, r.set n v', rfl, h1, Reps.set n h2 h⟩
theorem Reps.ints : ∀ (ns : List Int), Reps K H (ns.map D.int) (ns.map V.int)
  | [] => rfl
  | n :: ns => ⟨.int n, ns.map V.int, rfl, rfl, Reps.ints ns⟩
theorem Reps.at {ds : List D} {vs : List V} {i : Int} {d : D} (h : Reps K H ds vs) (e : atI ds i = some d) : ∃ v, atI vs i = some v ∧ Rep K H d v := by
  unfold atI at e ⊢
  rw [h.len]
  cases q : ixN ds.length i with
  | none => rw [q] at e; cases e
  | some j =>
    rw [q] at e
    exact h.get e
end

/-! ### what is hidden from data: lists that may still change -/
def hidB (χ : Addr → Bool) (H : Hp) : Hp := fun b => if χ b = true then none else H b
theorem hid_some {χ : Addr → Bool} {H : Hp} {b : Addr} {o : HO} (h : hidB χ H b = some o) : χ b = false ∧ H b = some o := by
  unfold hidB at h
  by_cases c : χ b = true
  · rw [if_pos c] at h; cases h
  · rw [if_neg c] at h; exact ⟨by simpa using c, h⟩
theorem hid_of {χ : Addr → Bool} {H : Hp} {b : Addr} {o : HO} (c : χ b = false) (h : H b = some o) : hidB χ H b = some o := by
  unfold hidB
  rw [if_neg (by rw [c]; exact Bool.false_ne_true)]
  exact h
theorem hid_le {χ : Addr → Bool} {H : Hp} : Same (hidB χ H) H := fun _ _ h => (hid_some h).2
theorem hid_same {χ : Addr → Bool} {H H' : Hp} (e : Same H H') : Same (hidB χ H) (hidB χ H') := fun b o h => hid_of (hid_some h).1 (e b o (hid_some h).2)
theorem same_new {H : Hp} {p : Addr} (h : H p = none) (o : HO) : Same H (upd H p o) := fun b u q => by rw [upd_ne (ne_of_none q h)]; exact q

/-- what lies at a slot that owns: a list, or a dict whose keys are tuples of ints -/
inductive Ct where
  | lst (ds : List D) | dct (kvs : List (List Int × D))
inductive Sl where
  | no | val (d : D) | ll (a : Bool) (c : Ct)
/-- a list that this body may write -/
abbrev Sl.li (a : Bool) (ds : List D) : Sl := .ll a (.lst ds)
/-- a list of this body's own -/
abbrev Sl.own (ds : List D) : Sl := .ll false (.lst ds)
/-- a list handed in that this body may write -/
abbrev Sl.arg (ds : List D) : Sl := .ll true (.lst ds)
def DReps (K : PySem.W.Frag) (H : Hp) : List (List Int × D) → List (List Key × V) → Prop
  | [], ho => ho = []
  | (k, d) :: r, ho => ∃ v r', ho = (k.map Sum.inl, v) :: r' ∧ Rep K H d v ∧ DReps K H r r'
theorem DReps.mono {K : PySem.W.Frag} {H H' : Hp} (e : Same H H') : ∀ (kvs : List (List Int × D)) {ho : List (List Key × V)}, DReps K H kvs ho → DReps K H' kvs ho
  | [], _, h => h
  | (_, d) :: r, _, ⟨v, r', e1, h1, h2⟩ => ⟨v, r', e1, h1.mono e d, DReps.mono e r h2⟩
def CRep (K : PySem.W.Frag) (H : Hp) : Ct → HO → Prop
  | .lst ds, ho => ∃ vs, ho = .lst vs ∧ Reps K H ds vs
  | .dct kvs, ho => ∃ kv, ho = .dT kv ∧ DReps K H kvs kv
theorem CRep.nt {K : PySem.W.Frag} {H : Hp} : ∀ {c : Ct} {ho : HO}, CRep K H c ho → NT ho
  | .lst _, _, ⟨_, e, _⟩ => by subst e; exact nt_lst
  | .dct _, _, ⟨_, e, _⟩ => by subst e; exact nt_dT
theorem CRep.mono {K : PySem.W.Frag} {H H' : Hp} (e : Same H H') : ∀ (c : Ct) {ho : HO}, CRep K H c ho → CRep K H' c ho
  | .lst ds, _, ⟨vs, e1, h⟩ => ⟨vs, e1, Reps.mono e ds h⟩
  | .dct kvs, _, ⟨kv, e1, h⟩ => ⟨kv, e1, DReps.mono e kvs h⟩

structure RE (K : PySem.W.Frag) (χ : Addr → Bool) (H : Hp) (σ : L2.St) (Γ : List Sl) : Prop where
  live : ∀ p, χ p = true → ∃ o : HN, H p = some o.1
  len : σ.length = Γ.length
  val : ∀ (i : Nat) (d : D), Γ[i]? = some (.val d) → ∃ v, σ[i]? = some (some v) ∧ Rep K (hidB χ H) d v
  own : ∀ (i : Nat) (a : Bool) (c : Ct), Γ[i]? = some (.ll a c) → ∃ p ho, σ[i]? = some (some (.ref p)) ∧ χ p = true ∧ H p = some ho ∧ CRep K (hidB χ H) c ho
  inj : ∀ (i j : Nat) (a a' : Bool) (ds es : Ct) (p : Addr), Γ[i]? = some (.ll a ds) → Γ[j]? = some (.ll a' es) → σ[i]? = some (some (.ref p)) → σ[j]? = some (some (.ref p)) → i = j
theorem RE.mono {K : PySem.W.Frag} {χ : Addr → Bool} {H H' : Hp} {σ : L2.St} {Γ : List Sl} (r : RE K χ H σ Γ) (e : Same H H') : RE K χ H' σ Γ :=
  ⟨fun p h => let ⟨o, q⟩ := r.live p h; ⟨o, e _ _ q⟩, r.len, fun i d h => let ⟨v, q, p⟩ := r.val i d h; ⟨v, q, p.mono (hid_same e) d⟩, fun i a ds h => let ⟨p, vs, h1, h2, h3, h4⟩ := r.own i a ds h; ⟨p, vs, h1, h2, e _ _ h3, CRep.mono (hid_same e) ds h4⟩, r.inj⟩
theorem RE.ownL {K : PySem.W.Frag} {χ : Addr → Bool} {H : Hp} {σ : L2.St} {Γ : List Sl} (r : RE K χ H σ Γ) (i : Nat) (a : Bool) (ds : List D) (h : Γ[i]? = some (.li a ds)) : ∃ p vs, σ[i]? = some (some (.ref p)) ∧ χ p = true ∧ H p = some (.lst vs) ∧ Reps K (hidB χ H) ds vs := by
  obtain ⟨p, ho, h1, h2, h3, vs, rfl, h4⟩ := r.own i a _ h
  exact ⟨p, vs, h1, h2, h3, h4⟩
theorem RE.fresh {K : PySem.W.Frag} {χ : Addr → Bool} {H : Hp} {σ : L2.St} {Γ : List Sl} (r : RE K χ H σ Γ) {p : Addr} (h : H p = none) : χ p = false := by
  cases c : χ p with
  | false => rfl
  | true => obtain ⟨o, q⟩ := r.live p c; rw [h] at q; cases q

/-! ### what the text says of a body -/
structure Stat where
  P : Program
  w : World
  K : PySem.W.Frag
  mg : Str → Option Value
  base : Heap
  k : Nat
  N : List Str
  sc : Scope
  top : Bool
structure Stat.Of (S : Stat) (X : Cx) : Prop where
  prog : X.prog = S.P
  w : X.w = S.w
  K : X.K = S.K
  mg : X.mg = S.mg
  base : X.base = S.base
  N : X.N = S.N
  sc : X.env.scope = S.sc
  room : Room S.k X.A
  calm : X.calm = true
  own : PassesOwn (model X.prog X.w) X.A X.env X.xe
  fn : S.top = true → ∀ x, X.fn x = true
  stk : S.top = true → X.stack = X.env :: X.outer ∧ X.env.frame = some X.env.locals

def relS (scope sc : Scope) : Scope := { scope with names := scope.names.map fun (n, k) => if (k == .free && sc.kind == .function && sc.names.lookup n == some .cell) then (n, .cell) else (n, k) }
def Stat.blk (S : Stat) (x : Str) (scope : Scope) : Stat := { S with N := blkN S.N x, sc := relS scope S.sc, top := false }
theorem Stat.Of.blk {S : Stat} {X : Cx} (h : S.Of X) (x : Str) (scope : Scope) (C : Addr) (s₀ : Shared) (H₀ : Hp) (ex : List Addr) : (S.blk x scope).Of (DL.blk X x scope C s₀ H₀ ex) where
  prog := h.prog
  w := h.w
  K := h.K
  mg := h.mg
  base := h.base
  N := by show blkN X.N x = blkN S.N x; rw [h.N]
  sc := by show relabel scope X.env = relS scope S.sc; rw [← h.sc]; rfl
  room := h.room
  calm := h.calm
  own := PassesOwn.never
  fn := fun z => (nomatch z)
  stk := fun z => (nomatch z)

/-! ### the readings -/
def dE (K : PySem.W.Frag) (Γ : List Sl) (d : D) : TE := fun σ H Q => ∃ χ, RE K χ H σ Γ ∧ ∀ v H', Same H H' → Rep K (hidB χ H') d v → Q v H'
def dT (K : PySem.W.Frag) (Γ : List Sl) (b : Bool) : TT := fun σ H Q => ∃ χ, RE K χ H σ Γ ∧ ∀ H', Same H H' → Q b H'
def dA (K : PySem.W.Frag) (Γ : List Sl) (ds : List D) : TA := fun σ H Q => ∃ χ, RE K χ H σ Γ ∧ ∀ vs H', Same H H' → Reps K (hidB χ H') ds vs → Q vs H'
/-- a new list that nothing else knows -/
def dF (K : PySem.W.Frag) (Γ : List Sl) (ds : List D) : TE := fun σ H Q => ∃ χ, RE K χ H σ Γ ∧ ∀ l vs H', H l = none → Same H H' → H' l = some (.lst vs) → Reps K (hidB (fun b => χ b || b == l) H') ds vs → Q (.ref l) H'

structure JE (S : Stat) (Γ : List Sl) (e : Expr) (d : D) : Prop where
  run : ∀ X, S.Of X → PE X e (dE S.K Γ d)
instance {S : Stat} {Γ : List Sl} {e : Expr} {d : D} : CoeFun (JE S Γ e d) fun _ => ∀ X, S.Of X → PE X e (dE S.K Γ d) := ⟨fun h => h.run⟩
structure JT (S : Stat) (Γ : List Sl) (e : Expr) (b : Bool) : Prop where
  run : ∀ X, S.Of X → PT X e (dT S.K Γ b)
instance {S : Stat} {Γ : List Sl} {e : Expr} {b : Bool} : CoeFun (JT S Γ e b) fun _ => ∀ X, S.Of X → PT X e (dT S.K Γ b) := ⟨fun h => h.run⟩
structure JA (S : Stat) (Γ : List Sl) (es : List Expr) (ds : List D) : Prop where
  run : ∀ X, S.Of X → PA X es (dA S.K Γ ds)
instance {S : Stat} {Γ : List Sl} {es : List Expr} {ds : List D} : CoeFun (JA S Γ es ds) fun _ => ∀ X, S.Of X → PA X es (dA S.K Γ ds) := ⟨fun h => h.run⟩
structure JF (S : Stat) (Γ : List Sl) (e : Expr) (ds : List D) : Prop where
  run : ∀ X, S.Of X → PE X e (dF S.K Γ ds)
instance {S : Stat} {Γ : List Sl} {e : Expr} {ds : List D} : CoeFun (JF S Γ e ds) fun _ => ∀ X, S.Of X → PE X e (dF S.K Γ ds) := ⟨fun h => h.run⟩

theorem pe_imp {X : Cx} {e : Expr} {t t' : TE} (h : PE X e t) (f : ∀ σ H Q, t' σ H Q → t σ H Q) : PE X e t' := fun pins s σ H Q I q => h pins s σ H Q I (f σ H Q q)
theorem pt_imp {X : Cx} {e : Expr} {t t' : TT} (h : PT X e t) (f : ∀ σ H Q, t' σ H Q → t σ H Q) : PT X e t' := fun pins s σ H Q I q => h pins s σ H Q I (f σ H Q q)
theorem pa_imp {X : Cx} {e : List Expr} {t t' : TA} (h : PA X e t) (f : ∀ σ H Q, t' σ H Q → t σ H Q) : PA X e t' := fun pos pins s σ H Q I q => h pos pins s σ H Q I (f σ H Q q)
theorem ps_imp {X : Cx} {e : Stmt} {t t' : TS} (h : PS X e t) (f : ∀ E σ H, t' E σ H → t E σ H) : PS X e t' := fun pins s σ H Q I q => h pins s σ H Q I (f Q σ H q)
/-- a new tuple, a new list, as data -/
theorem rep_newT {K : PySem.W.Frag} {χ : Addr → Bool} {H : Hp} {p : Addr} {ds : List D} {vs : List V} (hp : H p = none) (c : χ p = false) (r : Reps K (hidB χ H) ds vs) : Rep K (hidB χ (upd H p (.tup vs))) (.tup ds) (.ref p) :=
  ⟨p, vs, rfl, hid_of c upd_same, Reps.mono (hid_same (same_new hp _)) ds r⟩
section
variable {S : Stat} {Γ : List Sl} {pos : Pos} {a b c e : Expr} {es : List Expr}

theorem JE.cast {d d' : D} (h : JE S Γ e d) (q : d = d') : JE S Γ e d' := q ▸ h
theorem JT.cast {d d' : Bool} (h : JT S Γ e d) (q : d = d') : JT S Γ e d' := q ▸ h

/-! ### names and constants -/
theorem e_var (i : Nat) {x : Str} {d : D} (hd : Γ[i]? = some (.val d) := by rfl) (hN : S.N[i]? = some x := by (try dsimp only [DL.Stat.blk]); decide +kernel) (hv : Vis S.sc x := by (try dsimp only [DL.Stat.blk]); decide +kernel)
    (h1 : (x == ("__debug__" : Str)) = false := by (try dsimp only [DL.Stat.blk]); decide +kernel) (h2 : (x == ("__classdict__" : Str)) = false := by (try dsimp only [DL.Stat.blk]); decide +kernel) : JE S Γ (.Name x pos) d := .mk fun X o =>
  pe_imp (pe_var (i := i) (by rw [o.N]; exact hN) (by rw [o.sc]; exact hv) h1 h2) fun σ H Q ⟨χ, r, q⟩ => let ⟨v, e, p⟩ := r.val i d hd; ⟨v, e, q v H (Same.refl H) p⟩
theorem e_c {v : V} {d : D} (h : ∀ X : Cx, S.Of X → PE X e (tC v)) (r : ∀ H, Rep S.K H d v) : JE S Γ e d := .mk fun X o => pe_imp (h X o) fun σ H Q ⟨χ, _, q⟩ => q v H (Same.refl H) (r _)
theorem e_int {i : Int} {j : Nat} : JE S Γ (.Constant (.int i) j pos) (.int i) := e_c (fun _ _ => pe_int) fun _ => rfl
theorem e_bl {i : Bool} {j : Nat} : JE S Γ (.Constant (.bool i) j pos) (.bl i) := e_c (fun _ _ => pe_bl) fun _ => rfl
theorem e_str {i : Str} {j : Nat} : JE S Γ (.Constant (.str i) j pos) (.str i) := e_c (fun _ _ => pe_str) fun _ => rfl
theorem gl_of {X : Cx} (o : S.Of X) {x : Str} (hg : S.sc.names.lookup x = some .globalImplicit) : Gl X x := by
  show X.env.scope.names.lookup x = _
  rw [o.sc]; exact hg
/-- an int of the module -/
theorem e_globI {x : Str} {i : Int} {t : Tok} (hm : S.mg x = some (.int i t)) (hg : S.sc.names.lookup x = some .globalImplicit := by (try dsimp only [DL.Stat.blk]); decide +kernel) (hd : (x == ("__debug__" : Str)) = false := by (try dsimp only [DL.Stat.blk]); decide +kernel) : JE S Γ (.Name x pos) (.int i) :=
  e_c (v := .int i) (fun X o => pe_glob (gl_of o hg) (by rw [o.mg]; exact hm) ⟨t, rfl⟩ hd) fun _ => rfl
theorem e_globS {x y : Str} {t : Tok} (hm : S.mg x = some (.str y t)) (hg : S.sc.names.lookup x = some .globalImplicit := by (try dsimp only [DL.Stat.blk]); decide +kernel) (hd : (x == ("__debug__" : Str)) = false := by (try dsimp only [DL.Stat.blk]); decide +kernel) : JE S Γ (.Name x pos) (.str y) :=
  e_c (v := .str y) (fun X o => pe_glob (gl_of o hg) (by rw [o.mg]; exact hm) ⟨t, rfl⟩ hd) fun _ => rfl

/-! ### operations -/
theorem tOp_imp {K : PySem.W.Frag} {r : R2} {da db d : D} (h : ∀ (χ : Addr → Bool) (H : Hp) (x y : V) (Q : VK), (∀ p, H p = none → χ p = false) → Rep K (hidB χ H) da x → Rep K (hidB χ H) db y → (∀ v H', Same H H' → Rep K (hidB χ H') d v → Q v H') → r x y H Q) :
    ∀ σ H Q, dE K Γ d σ H Q → tOp r (dE K Γ da) (dE K Γ db) σ H Q :=
  fun σ H Q ⟨χ, R, q⟩ => ⟨χ, R, fun x H1 e1 rx => ⟨χ, R.mono e1, fun y H2 e2 ry => h χ H2 x y Q (fun p hp => (R.mono (e1.trans e2)).fresh hp) (rx.mono (hid_same e2)) ry fun v H' e3 rv => q v H' (e1.trans (e2.trans e3)) rv⟩⟩
theorem e_op {op : Operator} {r : R2} {da db d : D} (ho : ∀ X : Cx, S.Of X → OpR X (binaryOp op) r) (ha : JE S Γ a da) (hb : JE S Γ b db)
    (h : ∀ (χ : Addr → Bool) (H : Hp) (x y : V) (Q : VK), (∀ p, H p = none → χ p = false) → Rep S.K (hidB χ H) da x → Rep S.K (hidB χ H) db y → (∀ v H', Same H H' → Rep S.K (hidB χ H') d v → Q v H') → r x y H Q) : JE S Γ (.BinOp a op b pos) d :=
  .mk fun X o => pe_imp (pe_op (ho X o) (ha X o) (hb X o)) (tOp_imp h)
theorem e_add {i j : Int} (ha : JE S Γ a (.int i)) (hb : JE S Γ b (.int j)) : JE S Γ (.BinOp a .Add b pos) (.int (i + j)) := e_op (fun _ _ => op_add) ha hb fun _ H _ _ _ _ rx ry q => ⟨i, j, rx, ry, q _ H (Same.refl H) rfl⟩
theorem e_mul {i j : Int} (ha : JE S Γ a (.int i)) (hb : JE S Γ b (.int j)) (h : CMul i j) : JE S Γ (.BinOp a .Mult b pos) (.int (i * j)) := e_op (fun _ _ => op_mul) ha hb fun _ H _ _ _ _ rx ry q => ⟨i, j, rx, ry, h, q _ H (Same.refl H) rfl⟩
theorem e_fdiv {i j : Int} (ha : JE S Γ a (.int i)) (hb : JE S Γ b (.int j)) (h : CDiv i j) : JE S Γ (.BinOp a .FloorDiv b pos) (.int (i / j)) := e_op (fun _ _ => op_fdiv) ha hb fun _ H _ _ _ _ rx ry q => ⟨i, j, rx, ry, h, q _ H (Same.refl H) rfl⟩
theorem e_mod {i j : Int} (ha : JE S Γ a (.int i)) (hb : JE S Γ b (.int j)) (h : 0 < j) : JE S Γ (.BinOp a .Mod b pos) (.int (i % j)) := e_op (fun _ _ => op_mod) ha hb fun _ H _ _ _ _ rx ry q => ⟨i, j, rx, ry, h, q _ H (Same.refl H) rfl⟩
theorem e_neg {i : Int} (ha : JE S Γ a (.int i)) : JE S Γ (.UnaryOp .USub a pos) (.int (-i)) := .mk fun X o =>
  pe_imp (pe_un un_neg (ha X o)) fun σ H Q ⟨χ, R, q⟩ => ⟨χ, R, fun x H1 e1 rx => ⟨i, rx, q _ H1 e1 rfl⟩⟩

/-! ### comparisons -/
theorem e_cmp {op : CmpOp} {r : R2} {da db d : D} (ho : ∀ X : Cx, S.Of X → OpR X (compareOp op) r) (ha : JE S Γ a da) (hb : JE S Γ b db) (hm : behindInMarks op b = false)
    (h : ∀ (χ : Addr → Bool) (H : Hp) (x y : V) (Q : VK), (∀ p, H p = none → χ p = false) → Rep S.K (hidB χ H) da x → Rep S.K (hidB χ H) db y → (∀ v H', Same H H' → Rep S.K (hidB χ H') d v → Q v H') → r x y H Q) : JE S Γ (.Compare a [op] [b] pos) d :=
  .mk fun X o => pe_imp (pe_cmpR (ho X o) (ha X o) (hb X o) hm) (tOp_imp h)
/-- a op b op' c of ints, the first and the second answer told -/
theorem tChain_imp {K : PySem.W.Frag} {r r' : R2} {i j k : Int} {p p' : Bool} (h1 : ∀ H Q, Q (V.bl p) H → r (.int i) (.int j) H Q) (h2 : ∀ H Q, Q (V.bl p') H → r' (.int j) (.int k) H Q) :
    ∀ σ H Q, dE K Γ (.bl (p && p')) σ H Q → tChain r r' (dE K Γ (.int i)) (dE K Γ (.int j)) (dE K Γ (.int k)) σ H Q := by
  rintro σ H Q ⟨χ, R, q⟩
  refine ⟨χ, R, fun x H1 e1 rx => ⟨χ, R.mono e1, fun y H2 e2 ry => ?_⟩⟩
  cases (show x = _ from rx); cases (show y = _ from ry)
  refine h1 H2 _ ⟨p, rfl, ?_⟩
  cases p with
  | false => exact iteF (q _ H2 (e1.trans e2) rfl)
  | true =>
    refine iteT ⟨χ, R.mono (e1.trans e2), fun z H3 e3 rz => ?_⟩
    cases (show z = _ from rz)
    exact h2 H3 _ (q _ H3 (e1.trans (e2.trans e3)) rfl)
/-! ### tests -/
/-- an expression whose value is a bool, as a test; he: by intro _ _; rfl -/
theorem t_val {p : Bool} (h : JE S Γ e (.bl p)) (he : ∀ (env : Env) (whole : Sem Value), isTrue e env whole = (do let v ← whole; standAt e.pos; holding [v] (truthy v)) := by intro _ _; rfl) : JT S Γ e p := .mk fun X o =>
  pt_imp (pt_val (h X o) (he X.env)) fun σ H Q ⟨χ, R, q⟩ => ⟨χ, R, fun x H1 e1 rx => ⟨p, rx, q H1 e1⟩⟩
theorem t_cmp {op : CmpOp} {r : R2} {da db : D} {p : Bool} (ho : ∀ X : Cx, S.Of X → OpR X (compareOp op) r) (ha : JE S Γ a da) (hb : JE S Γ b db) (hm : behindInMarks op b = false)
    (h : ∀ (χ : Addr → Bool) (H : Hp) (x y : V) (Q : VK), (∀ q, H q = none → χ q = false) → Rep S.K (hidB χ H) da x → Rep S.K (hidB χ H) db y → (∀ v H', Same H H' → Rep S.K (hidB χ H') (.bl p) v → Q v H') → r x y H Q) : JT S Γ (.Compare a [op] [b] pos) p :=
  .mk fun X o => pt_imp (pt_cmpR (ho X o) (ha X o) (hb X o) hm) fun σ H Q ⟨χ, R, q⟩ => tOp_imp h σ H _ ⟨χ, R, fun v H' e rv => ⟨p, rv, q H' e⟩⟩
theorem t_lt {i j : Int} (ha : JE S Γ a (.int i)) (hb : JE S Γ b (.int j)) : JT S Γ (.Compare a [.Lt] [b] pos) (decide (i < j)) := t_cmp (fun _ _ => op_lt) ha hb (nomark _) fun _ H _ _ _ _ rx ry q => ⟨i, j, rx, ry, q _ H (Same.refl H) rfl⟩
theorem t_eqI {i j : Int} (ha : JE S Γ a (.int i)) (hb : JE S Γ b (.int j)) : JT S Γ (.Compare a [.Eq] [b] pos) (decide (i = j)) := t_cmp (fun _ _ => op_eq) ha hb (nomark _) fun _ H x y _ _ rx ry q => by
  cases (show x = _ from rx); cases (show y = _ from ry)
  refine ⟨rfl, ?_⟩
  have e : decide (V.int i = V.int j) = decide (i = j) := by simp
  rw [e]; exact q _ H (Same.refl H) rfl
theorem t_neI {i j : Int} (ha : JE S Γ a (.int i)) (hb : JE S Γ b (.int j)) : JT S Γ (.Compare a [.NotEq] [b] pos) (!decide (i = j)) := t_cmp (fun _ _ => op_ne) ha hb (nomark _) fun _ H x y _ _ rx ry q => by
  cases (show x = _ from rx); cases (show y = _ from ry)
  refine ⟨rfl, ?_⟩
  have e : decide (V.int i = V.int j) = decide (i = j) := by simp
  rw [e]; exact q _ H (Same.refl H) rfl
theorem t_chain {op op' : CmpOp} {r r' : R2} {i j k : Int} {p p' : Bool} (ho : ∀ X : Cx, S.Of X → OpR X (compareOp op) r) (ho' : ∀ X : Cx, S.Of X → OpR X (compareOp op') r') (ha : JE S Γ a (.int i)) (hb : JE S Γ b (.int j)) (hc : JE S Γ c (.int k))
    (h1 : ∀ H Q, Q (V.bl p) H → r (.int i) (.int j) H Q) (h2 : ∀ H Q, Q (V.bl p') H → r' (.int j) (.int k) H Q) (hm : lastMarks [op, op'] [b, c] = false := by with_unfolding_all rfl) : JT S Γ (.Compare a [op, op'] [b, c] pos) (p && p') :=
  .mk fun X o => pt_imp (pt_chain (ho X o) (ho' X o) (ha X o) (hb X o) (hc X o) hm) fun σ H Q ⟨χ, R, q⟩ => tChain_imp h1 h2 σ H _ ⟨χ, R, fun v H' e rv => ⟨_, rv, q H' e⟩⟩
theorem t_lele {i j k : Int} (ha : JE S Γ a (.int i)) (hb : JE S Γ b (.int j)) (hc : JE S Γ c (.int k)) (hm : lastMarks [.LtE, .LtE] [b, c] = false := by with_unfolding_all rfl) : JT S Γ (.Compare a [.LtE, .LtE] [b, c] pos) (decide (i ≤ j) && decide (j ≤ k)) :=
  t_chain (fun _ _ => op_le) (fun _ _ => op_le) ha hb hc (fun H Q q => ⟨i, j, rfl, rfl, q⟩) (fun H Q q => ⟨j, k, rfl, rfl, q⟩) hm
theorem t_not {p : Bool} (h : JT S Γ a p) : JT S Γ (.UnaryOp .Not a pos) (!p) := .mk fun X o => pt_imp (pt_not (h X o)) fun σ H Q ⟨χ, R, q⟩ => ⟨χ, R, q⟩
structure JW (S : Stat) (Γ : List Sl) (e : Expr) (b : Bool) : Prop where
  run : ∀ X, S.Of X → PW X e (dT S.K Γ b)
instance {S : Stat} {Γ : List Sl} {e : Expr} {b : Bool} : CoeFun (JW S Γ e b) fun _ => ∀ X, S.Of X → PW X e (dT S.K Γ b) := ⟨fun h => h.run⟩
theorem JW.t {p : Bool} (h : JW S Γ e p) : JT S Γ e p := .mk fun X o => (h X o).pt
/-! and, or, not as values -/
/-! ### items -/
theorem e_ixT {ds : List D} {i : Int} {d : D} (ha : JE S Γ a (.tup ds)) (hb : JE S Γ b (.int i)) (h : atI ds i = some d) (hs : PlainIx b := by intro _ _; rfl) : JE S Γ (.Subscript a b pos) d := .mk fun X o =>
  pe_imp (pe_ix ix_tup (ha X o) (hb X o) hs) (tOp_imp fun χ H x y Q _ ⟨p, vs, ex, sq, rs⟩ ry q => by
    obtain ⟨v, ev, rv⟩ := rs.at h
    refine ⟨p, vs, i, v, ex, ry, ?_, ev, q v H (Same.refl H) rv⟩
    rw [o.K]; exact sqT_of hid_le sq)
theorem e_ixL {ds : List D} {i : Int} {d : D} (ha : JE S Γ a (.lst ds)) (hb : JE S Γ b (.int i)) (h : atI ds i = some d) (hs : PlainIx b := by intro _ _; rfl) : JE S Γ (.Subscript a b pos) d := .mk fun X o =>
  pe_imp (pe_ix ix_list (ha X o) (hb X o) hs) (tOp_imp fun χ H x y Q _ ⟨p, vs, ex, sq, rs⟩ ry q => by
    obtain ⟨v, ev, rv⟩ := rs.at h
    refine ⟨p, vs, i, v, ex, ry, ?_, ev, q v H (Same.refl H) rv⟩
    rw [o.K]; exact Same.seq hid_le sq)

/-! ### argument lists, displays -/
theorem a_nil : JA S Γ [] [] := .mk fun X o => pa_imp pa_nil fun σ H Q ⟨χ, R, q⟩ => q [] H (Same.refl H) rfl
theorem a_cons {d : D} {ds : List D} (h : JE S Γ e d) (h' : JA S Γ es ds) (hs : ∀ env, starEach (e :: es) env = (false, eval e env) :: starEach es env := by intro _; rfl) : JA S Γ (e :: es) (d :: ds) := .mk fun X o =>
  pa_imp (pa_cons (h X o) (h' X o) (hs X.env)) fun σ H Q ⟨χ, R, q⟩ => ⟨χ, R, fun v H1 e1 rv => ⟨χ, R.mono e1, fun vs H2 e2 rvs => q (v :: vs) H2 (e1.trans e2) ⟨v, vs, rfl, rv.mono (hid_same e2) d, rvs⟩⟩⟩
theorem f_lst {ds : List D} (h : JA S Γ es ds) (hl : ds.length ≤ sizeLine := by exact Nat.le_of_ble_eq_true rfl) : JF S Γ (.List es pos) ds := .mk fun X o =>
  pe_imp (pe_lst (h X o)) fun σ H Q ⟨χ, R, q⟩ => ⟨χ, R, fun vs H1 e1 rvs => ⟨by rw [rvs.len]; exact hl, fun p hp => by
    have hp0 : H p = none := e1.free hp
    refine q p vs _ hp0 (e1.trans (same_new hp _)) upd_same (Reps.mono (fun b u hb => ?_) ds rvs)
    obtain ⟨c1, c2⟩ := hid_some hb
    have hne : b ≠ p := ne_of_none c2 hp
    exact hid_of (by rw [c1, Bool.false_or]; simpa using hne) (by rw [upd_ne hne]; exact c2)⟩⟩
theorem JF.je {ds : List D} (h : JF S Γ e ds) : JE S Γ e (.lst ds) := .mk fun X o =>
  pe_imp (h X o) fun σ H Q ⟨χ, R, q⟩ => ⟨χ, R, fun l vs H' hl e hv rs => q (.ref l) H' e ⟨l, vs, rfl, SqL.of (hid_of (R.fresh hl) hv), Reps.mono (fun b u hb => by
    obtain ⟨c1, c2⟩ := hid_some hb
    exact hid_of (by cases c : χ b with | false => rfl | true => rw [c] at c1; cases c1) c2) ds rs⟩⟩
end
end DL

end
section
set_option Elab.async false
set_option linter.all false
set_option maxRecDepth 100000
set_option maxHeartbeats 4000000
namespace DL
open PySem PySem.Spec PyProof.Rows L2

/-! ### calls of built-in functions and types -/
section
variable {S : Stat} {Γ : List Sl} {pos p : Pos} {a b c e : Expr} {es : List Expr} {x : Str}
theorem e_callB {id : String} {r : List V → Hp → VK → Prop} {ds : List D} {d : D} (hc : ∀ X : Cx, S.Of X → CallR X (.builtin id) r) (ha : JA S Γ (e :: es) ds)
    (h : ∀ (χ : Addr → Bool) (H : Hp) (vs : List V) (Q : VK), (∀ p, H p = none → χ p = false) → Reps S.K (hidB χ H) ds vs → (∀ v H', Same H H' → Rep S.K (hidB χ H') d v → Q v H') → r vs H Q)
    (hm : S.mg x = none) (hv : bootBuiltins x = some (.builtin id)) (hg : S.sc.names.lookup x = some .globalImplicit := by (try dsimp only [DL.Stat.blk]); decide +kernel) (hn : x ≠ "__name__" := by (try dsimp only [DL.Stat.blk]); decide +kernel) (hdb : (x == ("__debug__" : Str)) = false := by (try dsimp only [DL.Stat.blk]); decide +kernel)
    (he : ∀ env, starEach (e :: es) env = (false, eval e env) :: starEach es env := by intro _; rfl) (hpl : ∀ env, (backTo pos (starEach es env)).any (·.1) = false := by intro _; rfl) : JE S Γ (.Call (.Name x p) (e :: es) [] pos) d := .mk fun X o =>
  pe_imp (pe_callB (hc X o) (gl_of o hg) (by rw [o.mg]; exact hm) hv (ha X o) hn hdb (he X.env) (hpl X.env)) fun σ H Q ⟨χ, R, q⟩ => ⟨χ, R, fun vs H1 e1 rvs => h χ H1 vs Q (fun p hp => (R.mono e1).fresh hp) rvs fun v H' e2 rv => q v H' (e1.trans e2) rv⟩
theorem e_callTy {T : String} {r : List V → Hp → VK → Prop} {ds : List D} {d : D} (hc : ∀ X : Cx, S.Of X → CallR X (.type T) r) (ha : JA S Γ (e :: es) ds)
    (h : ∀ (χ : Addr → Bool) (H : Hp) (vs : List V) (Q : VK), (∀ p, H p = none → χ p = false) → Reps S.K (hidB χ H) ds vs → (∀ v H', Same H H' → Rep S.K (hidB χ H') d v → Q v H') → r vs H Q)
    (hm : S.mg x = none) (hv : bootBuiltins x = some (.type T)) (hg : S.sc.names.lookup x = some .globalImplicit := by (try dsimp only [DL.Stat.blk]); decide +kernel) (hn : x ≠ "__name__" := by (try dsimp only [DL.Stat.blk]); decide +kernel) (hdb : (x == ("__debug__" : Str)) = false := by (try dsimp only [DL.Stat.blk]); decide +kernel)
    (he : ∀ env, starEach (e :: es) env = (false, eval e env) :: starEach es env := by intro _; rfl) (hpl : ∀ env, (backTo pos (starEach es env)).any (·.1) = false := by intro _; rfl) : JE S Γ (.Call (.Name x p) (e :: es) [] pos) d := .mk fun X o =>
  pe_imp (pe_callTy (hc X o) (gl_of o hg) (by rw [o.mg]; exact hm) hv (ha X o) hn hdb (he X.env) (hpl X.env)) fun σ H Q ⟨χ, R, q⟩ => ⟨χ, R, fun vs H1 e1 rvs => h χ H1 vs Q (fun p hp => (R.mono e1).fresh hp) rvs fun v H' e2 rv => q v H' (e1.trans e2) rv⟩

theorem reps1 {K : PySem.W.Frag} {H : Hp} {d : D} {vs : List V} (h : Reps K H [d] vs) : ∃ v, vs = [v] ∧ Rep K H d v := by
  obtain ⟨v, r, e, h1, h2⟩ := h
  cases (show r = [] from h2)
  exact ⟨v, e, h1⟩
theorem c_len (X : Cx) (o : S.Of X) : CallR X (.builtin "len") (fun xs H Q => ∃ p ys, xs = [.ref p] ∧ (SqL S.K H p ys ∨ SqT S.K H p ys) ∧ Q (.int ys.length) H) := by
  have h := call_len_seq (X := X)
  rw [o.K] at h
  exact h
theorem e_lenT {ds : List D} (h : JE S Γ a (.tup ds)) (hm : S.mg "len" = none) (hg : S.sc.names.lookup ("len" : Str) = some .globalImplicit := by (try dsimp only [DL.Stat.blk]); decide +kernel) (hs : ∀ env, starEach [a] env = [(false, eval a env)] := by intro _; rfl) : JE S Γ (.Call (.Name "len" p) [a] [] pos) (.int ds.length) :=
  e_callB c_len (a_cons h a_nil hs) (fun χ H vs Q _ rs q => by
    obtain ⟨v, rfl, ad, ws, rfl, sq, rw'⟩ := reps1 rs
    refine ⟨ad, ws, rfl, .inr (sqT_of hid_le sq), ?_⟩
    rw [rw'.len]; exact q _ H (Same.refl H) rfl) hm PySem.boot_len hg (he := hs)
theorem e_lenL {ds : List D} (h : JE S Γ a (.lst ds)) (hm : S.mg "len" = none) (hg : S.sc.names.lookup ("len" : Str) = some .globalImplicit := by (try dsimp only [DL.Stat.blk]); decide +kernel) (hs : ∀ env, starEach [a] env = [(false, eval a env)] := by intro _; rfl) : JE S Γ (.Call (.Name "len" p) [a] [] pos) (.int ds.length) :=
  e_callB c_len (a_cons h a_nil hs) (fun χ H vs Q _ rs q => by
    obtain ⟨v, rfl, ad, ws, rfl, sq, rw'⟩ := reps1 rs
    refine ⟨ad, ws, rfl, .inl (Same.seq hid_le sq), ?_⟩
    rw [rw'.len]; exact q _ H (Same.refl H) rfl) hm PySem.boot_len hg (he := hs)
theorem c_tuple (X : Cx) (o : S.Of X) : CallR X (.type "tuple") (fun xs H Q => ∃ p ys, xs = [.ref p] ∧ ((SqL S.K H p ys ∧ ∀ l, H l = none → Q (.ref l) (upd H l (.tup ys))) ∨ (SqT S.K H p ys ∧ Q (.ref p) H))) := by
  have h := call_tuple_of (X := X)
  rw [o.K] at h
  exact h
/-- tuple(a list) -/
theorem e_tupL {ds : List D} (h : JE S Γ a (.lst ds)) (hm : S.mg "tuple" = none) (hg : S.sc.names.lookup ("tuple" : Str) = some .globalImplicit := by (try dsimp only [DL.Stat.blk]); decide +kernel) (hs : ∀ env, starEach [a] env = [(false, eval a env)] := by intro _; rfl) : JE S Γ (.Call (.Name "tuple" p) [a] [] pos) (.tup ds) :=
  e_callTy c_tuple (a_cons h a_nil hs) (fun χ H vs Q fr rs q => by
    obtain ⟨v, rfl, ad, ws, rfl, sq, rw'⟩ := reps1 rs
    exact ⟨ad, ws, rfl, .inl ⟨Same.seq hid_le sq, fun l hl => q _ _ (same_new hl _) (rep_newT hl (fr l hl) rw')⟩⟩) hm boot_tuple hg (he := hs)
/-- list(a tuple or list): a new list -/
theorem f_list {ds : List D} (h : JE S Γ a (.tup ds) ∨ JE S Γ a (.lst ds)) (hm : S.mg "list" = none) (hg : S.sc.names.lookup ("list" : Str) = some .globalImplicit := by (try dsimp only [DL.Stat.blk]); decide +kernel) (hs : ∀ env, starEach [a] env = [(false, eval a env)] := by intro _; rfl) : JF S Γ (.Call (.Name "list" p) [a] [] pos) ds := .mk fun X o => by
  have key : ∀ {d : D} (h : JE S Γ a d), (∀ H v, Rep S.K H d v → ∃ q ws, v = .ref q ∧ (SqL S.K H q ws ∨ SqT S.K H q ws) ∧ Reps S.K H ds ws) → PE X (.Call (.Name "list" p) [a] [] pos) (dF S.K Γ ds) := fun {d} h hd =>
    pe_imp (pe_callTy call_list_of (gl_of o hg) (by rw [o.mg]; exact hm) boot_list ((a_cons h a_nil hs) X o) (by decide +kernel) (by decide +kernel) (hs X.env)) fun σ H Q ⟨χ, R, q⟩ => ⟨χ, R, fun vs H1 e1 rs => by
      obtain ⟨v, rfl, rv⟩ := reps1 rs
      obtain ⟨ad, ws, rfl, sq, rw'⟩ := hd _ _ rv
      refine ⟨ad, ws, rfl, ?_, fun l hl => ?_⟩
      · rw [o.K]; exact sq.elim (fun z => .inl (Same.seq hid_le z)) fun z => .inr (sqT_mono hid_le z)
      · refine q l ws _ (e1.free hl) (e1.trans (same_new hl _)) upd_same (Reps.mono (fun b u hb => ?_) ds rw')
        obtain ⟨c1, c2⟩ := hid_some hb
        have hne : b ≠ l := ne_of_none c2 hl
        exact hid_of (by rw [c1, Bool.false_or]; simpa using hne) (by rw [upd_ne hne]; exact c2)⟩
  rcases h with h | h
  · exact key h fun H v ⟨ad, ws, e, sq, rs⟩ => ⟨ad, ws, e, .inr (SqT.of sq), rs⟩
  · exact key h fun H v ⟨ad, ws, e, sq, rs⟩ => ⟨ad, ws, e, .inl sq, rs⟩

/-! ### isinstance by a built-in class -/
end

/-! ### == and != -/
mutual
def eqD : D → D → Bool
  | .non, .non => true
  | .bl a, .bl b => a == b
  | .bl a, .int b => (if a then 1 else 0) == b
  | .int a, .bl b => a == (if b then 1 else 0)
  | .int a, .int b => a == b
  | .str a, .str b => a == b
  | .tup a, .tup b => eqDs a b
  | .lst a, .lst b => eqDs a b
  | .dcI a, .dcI b => decide (a = b)
  | _, _ => false
def eqDs : List D → List D → Bool
  | [], [] => true
  | a :: as, b :: bs => eqD a b && eqDs as bs
  | _, _ => false
end
def flatD : D → Bool
  | .tup _ => false
  | .lst _ => false
  | .dcI _ => false
  | _ => true
/-- what may be compared, so many levels deep -/
def CmpOk : Nat → D → D → Prop
  | 0, a, b => flatD a = true ∧ flatD b = true
  | n + 1, a, b => (flatD a = true ∧ flatD b = true) ∨ (∃ as bs, a = .tup as ∧ b = .tup bs ∧ ∀ (j : Nat) x y, as[j]? = some x → bs[j]? = some y → CmpOk n x y) ∨ (∃ as bs, a = .lst as ∧ b = .lst bs ∧ ∀ (j : Nat) x y, as[j]? = some x → bs[j]? = some y → CmpOk n x y)
mutual
theorem eqD_refl : ∀ d : D, eqD d d = true
  | .non => rfl
  | .bl b => by simp [eqD]
  | .int i => by simp [eqD]
  | .str x => by simp [eqD]
  | .tup ds => by simp only [eqD]; exact eqDs_refl ds
  | .lst ds => by simp only [eqD]; exact eqDs_refl ds
  | .dcI _ => by simp [eqD]
theorem eqDs_refl : ∀ ds : List D, eqDs ds ds = true
  | [] => rfl
  | d :: ds => by simp only [eqDs, eqD_refl d, eqDs_refl ds, Bool.and_self]
end
def eAt (as bs : List D) (j : Nat) : Bool := match as[j]?, bs[j]? with
  | some a, some b => eqD a b
  | _, _ => true
theorem eqDs_range : ∀ as bs : List D, eqDs as bs = ((List.range (min as.length bs.length)).all (eAt as bs) && as.length == bs.length)
  | [], [] => rfl
  | [], _ :: _ => by simp [eqDs]
  | _ :: _, [] => by simp [eqDs]
  | a :: as, b :: bs => by
    have ih := eqDs_range as bs
    have e0 : eAt (a :: as) (b :: bs) 0 = eqD a b := rfl
    have e1 : ∀ j, eAt (a :: as) (b :: bs) (j + 1) = eAt as bs j := fun j => by simp [eAt]
    rw [eqDs, ih, List.length_cons, List.length_cons, Nat.succ_min_succ, List.range_succ_eq_map, List.all_cons, e0, List.all_map]
    have e2 : (eAt (a :: as) (b :: bs) ∘ Nat.succ) = eAt as bs := funext e1
    rw [e2, Bool.and_assoc]
    have e3 : (as.length + 1 == bs.length + 1) = (as.length == bs.length) := by
      rw [Bool.eq_iff_iff, beq_iff_eq, beq_iff_eq]; omega
    rw [e3]

section
variable {X : Cx} {pins : List (Addr × Obj)} {σ : L2.St} {H : Hp} {s : Shared}
theorem dcV_inj {a b : List (List Int × Int)} (h : dcV a = dcV b) : a = b := by
  refine (List.map_inj_right fun x y e => ?_).mp h
  obtain ⟨x1, x2⟩ := x
  obtain ⟨y1, y2⟩ := y
  have e1 := congrArg Prod.fst e
  have e2 := congrArg Prod.snd e
  dsimp only at e1 e2
  rw [(List.map_inj_right fun _ _ e => Sum.inl.inj e).mp e1, V.int.inj e2]
mutual
theorem rep_inj (I : Inv X pins σ H s) : ∀ (d : D) {d' : D} {v : V}, Rep X.K H d v → Rep X.K H d' v → d = d'
  | .non, d', v, h, h' => by
    cases (show v = _ from h)
    cases d' with
    | non => rfl
    | bl _ => cases (show V.non = V.bl _ from h')
    | int _ => cases (show V.non = V.int _ from h')
    | str _ => cases (show V.non = V.str _ from h')
    | tup _ => obtain ⟨_, _, e, _⟩ := h'; cases e
    | lst _ => obtain ⟨_, _, e, _⟩ := h'; cases e
    | dcI _ => obtain ⟨_, _, e, _⟩ := h'; cases e
  | .bl b, d', v, h, h' => by
    cases (show v = _ from h)
    cases d' with
    | non => cases (show V.bl b = V.non from h')
    | bl _ => cases (show V.bl b = V.bl _ from h'); rfl
    | int _ => cases (show V.bl b = V.int _ from h')
    | str _ => cases (show V.bl b = V.str _ from h')
    | tup _ => obtain ⟨_, _, e, _⟩ := h'; cases e
    | lst _ => obtain ⟨_, _, e, _⟩ := h'; cases e
    | dcI _ => obtain ⟨_, _, e, _⟩ := h'; cases e
  | .int b, d', v, h, h' => by
    cases (show v = _ from h)
    cases d' with
    | non => cases (show V.int b = V.non from h')
    | bl _ => cases (show V.int b = V.bl _ from h')
    | int _ => cases (show V.int b = V.int _ from h'); rfl
    | str _ => cases (show V.int b = V.str _ from h')
    | tup _ => obtain ⟨_, _, e, _⟩ := h'; cases e
    | lst _ => obtain ⟨_, _, e, _⟩ := h'; cases e
    | dcI _ => obtain ⟨_, _, e, _⟩ := h'; cases e
  | .str b, d', v, h, h' => by
    cases (show v = _ from h)
    cases d' with
    | non => cases (show V.str b = V.non from h')
    | bl _ => cases (show V.str b = V.bl _ from h')
    | int _ => cases (show V.str b = V.int _ from h')
    | str _ => cases (show V.str b = V.str _ from h'); rfl
    | tup _ => obtain ⟨_, _, e, _⟩ := h'; cases e
    | lst _ => obtain ⟨_, _, e, _⟩ := h'; cases e
    | dcI _ => obtain ⟨_, _, e, _⟩ := h'; cases e
  | .tup ds, d', v, h, h' => by
    obtain ⟨a, vs, rfl, sq, rs⟩ := h
    cases d' with
    | non => cases (show V.ref a = V.non from h')
    | bl _ => cases (show V.ref a = V.bl _ from h')
    | int _ => cases (show V.ref a = V.int _ from h')
    | str _ => cases (show V.ref a = V.str _ from h')
    | tup ds' =>
      obtain ⟨a', vs', e, sq', rs'⟩ := h'
      cases e
      rw [I.tuple_inj (SqT.of sq) (SqT.of sq')] at rs
      rw [reps_inj I ds rs rs']
    | lst ds' =>
      obtain ⟨a', vs', e, sq', rs'⟩ := h'
      cases e
      obtain ⟨_, _, ⟨o, h1, h2, _⟩, _⟩ := I.tuple (SqT.of sq)
      obtain ⟨_, _, pl, _⟩ := I.list sq'
      obtain ⟨o', h1', h2', _⟩ := pl.isList
      rw [h1] at h1'; cases h1'
      rw [h2] at h2'
      exact absurd h2' (by decide)
    | dcI _ =>
      obtain ⟨a', o2, e, sq', _⟩ := h'
      cases e
      rw [sq] at sq'; cases sq'
  | .lst ds, d', v, h, h' => by
    obtain ⟨a, vs, rfl, sq, rs⟩ := h
    cases d' with
    | non => cases (show V.ref a = V.non from h')
    | bl _ => cases (show V.ref a = V.bl _ from h')
    | int _ => cases (show V.ref a = V.int _ from h')
    | str _ => cases (show V.ref a = V.str _ from h')
    | lst ds' =>
      obtain ⟨a', vs', e, sq', rs'⟩ := h'
      cases e
      rw [I.list_inj sq sq'] at rs
      rw [reps_inj I ds rs rs']
    | tup ds' =>
      obtain ⟨a', vs', e, sq', rs'⟩ := h'
      cases e
      obtain ⟨_, _, ⟨o, h1, h2, _⟩, _⟩ := I.tuple (SqT.of sq')
      obtain ⟨_, _, pl, _⟩ := I.list sq
      obtain ⟨o', h1', h2', _⟩ := pl.isList
      rw [h1] at h1'; cases h1'
      rw [h2] at h2'
      exact absurd h2' (by decide)
    | dcI _ =>
      obtain ⟨a', o2, e, sq', _⟩ := h'
      cases e
      obtain ⟨_, _, _, _, _, o, _, _, h1, h2, _⟩ := I.hok a _ sq'
      obtain ⟨_, _, pl, _⟩ := I.list sq
      obtain ⟨o', h1', h2', _⟩ := pl.isList
      rw [h1] at h1'; cases h1'
      rw [h2.1] at h2'
      exact absurd h2' (by decide)
  | .dcI kvs, d', v, h, h' => by
    obtain ⟨a, o1, rfl, ha, _⟩ := h
    cases d' with
    | non => cases (show V.ref a = V.non from h')
    | bl _ => cases (show V.ref a = V.bl _ from h')
    | int _ => cases (show V.ref a = V.int _ from h')
    | str _ => cases (show V.ref a = V.str _ from h')
    | tup ds' =>
      obtain ⟨a', vs', e, sq', rs'⟩ := h'
      cases e
      rw [ha] at sq'; cases sq'
    | lst ds' =>
      obtain ⟨a', vs', e, sq', rs'⟩ := h'
      cases e
      obtain ⟨_, _, _, _, _, o, _, _, h1, h2, _⟩ := I.hok a _ ha
      obtain ⟨_, _, pl, _⟩ := I.list sq'
      obtain ⟨o', h1', h2', _⟩ := pl.isList
      rw [h1] at h1'; cases h1'
      rw [h2.1] at h2'
      exact absurd h2' (by decide)
    | dcI kvs' =>
      obtain ⟨a', o2, e, sq', _⟩ := h'
      cases e
      rw [ha] at sq'
      rw [dcV_inj (HO.dT.inj (HO.frz.inj (Option.some.inj sq')).2)]
theorem reps_inj (I : Inv X pins σ H s) : ∀ (ds : List D) {ds' : List D} {vs : List V}, Reps X.K H ds vs → Reps X.K H ds' vs → ds = ds'
  | [], ds', vs, h, h' => by
    cases (show vs = [] from h)
    cases ds' with
    | nil => rfl
    | cons d' ds' => obtain ⟨_, _, e, _⟩ := h'; cases e
  | d :: ds, ds', vs, h, h' => by
    obtain ⟨v, r, rfl, h1, h2⟩ := h
    cases ds' with
    | nil => cases (show v :: r = [] from h')
    | cons d' ds' =>
      obtain ⟨v', r', e, h1', h2'⟩ := h'
      cases e
      rw [rep_inj I d h1 h1', reps_inj I ds h2 h2']
end

theorem rep_flat {K : PySem.W.Frag} {d : D} {v : V} (h : Rep K H d v) (f : flatD d = true) : flatV v = true := by
  cases d with
  | non => cases (show v = _ from h); rfl
  | bl _ => cases (show v = _ from h); rfl
  | int _ => cases (show v = _ from h); rfl
  | str _ => cases (show v = _ from h); rfl
  | tup _ => cases f
  | lst _ => cases f
  | dcI _ => cases f
theorem eqV_eqD {K : PySem.W.Frag} {d d' : D} {v v' : V} (h : Rep K H d v) (h' : Rep K H d' v') (f : flatD d = true) (f' : flatD d' = true) : eqV v v' = eqD d d' := by
  cases d with
  | tup _ => cases f
  | lst _ => cases f
  | dcI _ => cases f
  | _ =>
    cases (show v = _ from h)
    cases d' with
    | tup _ => cases f'
    | lst _ => cases f'
    | dcI _ => cases f'
    | _ => cases (show v' = _ from h'); rfl

/-- the items' answers -/
theorem items_eq {A : Around} (I : Inv X pins σ H s) {as bs : List D} {vs ws : List V} {us zs : List Value} (ra : Reps X.K H as vs) (rb : Reps X.K H bs ws) (ru : Vals vs us) (rz : Vals ws zs)
    (he : ∀ (j : Nat) x y v w u z, as[j]? = some x → bs[j]? = some y → Rep X.K H x v → Rep X.K H y w → RelV v u → RelV w z → SeqAt.EqAt A s u z (eqD x y)) :
    ∀ j (h1 : j < us.toArray.size) (h2 : j < zs.toArray.size), SeqAt.EqAt A s us.toArray[j] zs.toArray[j] (eAt as bs j) := fun j h1 h2 => by
  have l1 := ra.len; have l2 := rb.len; have l3 := ru.length; have l4 := rz.length
  rw [List.size_toArray] at h1 h2
  have ha : j < as.length := by omega
  have hb : j < bs.length := by omega
  have ea : as[j]? = some as[j] := List.getElem?_eq_getElem ha
  have eb : bs[j]? = some bs[j] := List.getElem?_eq_getElem hb
  obtain ⟨v, ev, rv⟩ := ra.get ea
  obtain ⟨w, ew, rw'⟩ := rb.get eb
  obtain ⟨u, eu, ru'⟩ := ru.get ev
  obtain ⟨z, ez, rz'⟩ := rz.get ew
  have q1 : us.toArray[j] = u := by
    have : us[j]? = some us[j] := List.getElem?_eq_getElem h1
    rw [this] at eu
    simpa using Option.some.inj eu
  have q2 : zs.toArray[j] = z := by
    have : zs[j]? = some zs[j] := List.getElem?_eq_getElem h2
    rw [this] at ez
    simpa using Option.some.inj ez
  rw [q1, q2]
  have e : eAt as bs j = eqD as[j] bs[j] := by unfold eAt; rw [ea, eb]
  rw [e]
  exact he j _ _ v w u z ea eb rv rw' ru' rz'

theorem in1_units {A : Around} : A.in1.units = A.units + 1 := rfl

theorem eqAt_D (I : Inv X pins σ H s) : ∀ (n : Nat) (A : Around) (d d' : D) (v v' : V) (u u' : Value), CmpOk n d d' → A.units + n < cLine → Rep X.K H d v → Rep X.K H d' v' → RelV v u → RelV v' u' → SeqAt.EqAt A s u u' (eqD d d')
  | 0, A, d, d', v, v', u, u', ok, hu, r, r', ru, ru' => by
    rw [← eqV_eqD r r' ok.1 ok.2]
    exact eqAt_V ru ru' (rep_flat r ok.1) (rep_flat r' ok.2)
  | n + 1, A, d, d', v, v', u, u', ok, hu, r, r', ru, ru' => by
    rcases ok with ok | ⟨as, bs, rfl, rfl, ok⟩ | ⟨as, bs, rfl, rfl, ok⟩
    · rw [← eqV_eqD r r' ok.1 ok.2]
      exact eqAt_V ru ru' (rep_flat r ok.1) (rep_flat r' ok.2)
    · by_cases hvv : v = v'
      · subst hvv
        have e := rep_inj I _ r r'
        rw [← e, eqD_refl]
        obtain ⟨a, vs, rfl, _⟩ := r
        cases ru; cases ru'
        exact SeqAt.EqAt.same _
      · obtain ⟨a, vs, rfl, sq, rs⟩ := r
        obtain ⟨a', vs', rfl, sq', rs'⟩ := r'
        cases ru; cases ru'
        obtain ⟨its, ri, pl, _⟩ := I.tuple (SqT.of sq)
        obtain ⟨its', ri', pl', _⟩ := I.tuple (SqT.of sq')
        have hne : a ≠ a' := fun z => hvv (by rw [z])
        have q := SeqAt.RcAt.tuples (A := A) (s := s) pl pl' (by omega) (items_eq I rs rs' ri ri' fun j x y v w u z hx hy rx ry rxu ryz => eqAt_D I n A.in1 x y v w u z (ok j x y hx hy) (by rw [in1_units]; omega) rx ry rxu ryz)
        have l1 := rs.len; have l2 := rs'.len; have l3 := ri.length; have l4 := ri'.length
        have e : eqD (.tup as) (.tup bs) = ((List.range (min its.toArray.size its'.toArray.size)).all (eAt as bs) && its.toArray.size == its'.toArray.size) := by
          rw [List.size_toArray, List.size_toArray, ← l3, ← l4, l1, l2]
          exact eqDs_range as bs
        rw [e]
        exact SeqAt.EqAt.of_refs hne q
    · by_cases hvv : v = v'
      · subst hvv
        have e := rep_inj I _ r r'
        rw [← e, eqD_refl]
        obtain ⟨a, vs, rfl, _⟩ := r
        cases ru; cases ru'
        exact SeqAt.EqAt.same _
      · obtain ⟨a, vs, rfl, sq, rs⟩ := r
        obtain ⟨a', vs', rfl, sq', rs'⟩ := r'
        cases ru; cases ru'
        obtain ⟨its, ri, pl, _⟩ := I.list sq
        obtain ⟨its', ri', pl', _⟩ := I.list sq'
        have hne : a ≠ a' := fun z => hvv (by rw [z])
        have l1 := rs.len; have l2 := rs'.len; have l3 := ri.length; have l4 := ri'.length
        have key := eqDs_range as bs
        by_cases hsz : its.toArray.size = its'.toArray.size
        · have q := SeqAt.RcAt.lists (A := A) (s := s) pl.isList pl'.isList hsz (by omega) (items_eq I rs rs' ri ri' fun j x y v w u z hx hy rx ry rxu ryz => eqAt_D I n A.in1 x y v w u z (ok j x y hx hy) (by rw [in1_units]; omega) rx ry rxu ryz)
          have e : eqD (.lst as) (.lst bs) = (List.range its.toArray.size).all (eAt as bs) := by
            rw [List.size_toArray, List.size_toArray] at hsz
            have : as.length = bs.length := by omega
            show eqDs as bs = _
            rw [key, this, Nat.min_self, List.size_toArray, beq_self_eq_true, Bool.and_true, ← l3, l1, this]
          rw [e]
          exact SeqAt.EqAt.of_refs hne q
        · have q := SeqAt.RcAt.lists_lengths (A := A) (s := s) pl.isList pl'.isList (by simpa using hsz) (by omega)
          have e : eqD (.lst as) (.lst bs) = false := by
            rw [List.size_toArray, List.size_toArray] at hsz
            have : (as.length == bs.length) = false := by
              rw [beq_eq_false_iff_ne]; omega
            show eqDs as bs = _
            rw [key, this, Bool.and_false]
          rw [e]
          exact SeqAt.EqAt.of_refs hne q

/-- two tuples, or two lists -/
def SeqD : D → D → Prop
  | .tup _, .tup _ => True
  | .lst _, .lst _ => True
  | _, _ => False
theorem rcAt_D {n : Nat} {A : Around} {d d' : D} {v v' : V} {u u' : Value} (I : Inv X pins σ H s) (sd : SeqD d d') (ok : CmpOk (n + 1) d d') (hu : A.units + n + 1 < cLine) (r : Rep X.K H d v) (r' : Rep X.K H d' v') (ru : RelV v u) (ru' : RelV v' u') :
    SeqAt.RcAt A s u u' (eqD d d') ∧ SeqAt.RcNeAt A s u u' (!eqD d d') := by
  rcases ok with ok | ⟨as, bs, rfl, rfl, ok⟩ | ⟨as, bs, rfl, rfl, ok⟩
  · cases d with
    | tup _ => cases ok.1
    | lst _ => cases ok.1
    | dcI _ => cases ok.1
    | _ => cases sd
  · obtain ⟨a, vs, rfl, sq, rs⟩ := r
    obtain ⟨a', vs', rfl, sq', rs'⟩ := r'
    cases ru; cases ru'
    obtain ⟨its, ri, pl, _⟩ := I.tuple (SqT.of sq)
    obtain ⟨its', ri', pl', _⟩ := I.tuple (SqT.of sq')
    have it := items_eq (A := A.in1) I rs rs' ri ri' fun j x y v w u z hx hy rx ry rxu ryz => eqAt_D I n A.in1 x y v w u z (ok j x y hx hy) (by rw [in1_units]; omega) rx ry rxu ryz
    have l1 := rs.len; have l2 := rs'.len; have l3 := ri.length; have l4 := ri'.length
    have e : eqD (.tup as) (.tup bs) = ((List.range (min its.toArray.size its'.toArray.size)).all (eAt as bs) && its.toArray.size == its'.toArray.size) := by
      rw [List.size_toArray, List.size_toArray, ← l3, ← l4, l1, l2]
      exact eqDs_range as bs
    rw [e]
    exact ⟨SeqAt.RcAt.tuples pl pl' (by omega) it, SeqAt.RcNeAt.tuples pl pl' (by omega) it⟩
  · obtain ⟨a, vs, rfl, sq, rs⟩ := r
    obtain ⟨a', vs', rfl, sq', rs'⟩ := r'
    cases ru; cases ru'
    obtain ⟨its, ri, pl, _⟩ := I.list sq
    obtain ⟨its', ri', pl', _⟩ := I.list sq'
    have it := items_eq (A := A.in1) I rs rs' ri ri' fun j x y v w u z hx hy rx ry rxu ryz => eqAt_D I n A.in1 x y v w u z (ok j x y hx hy) (by rw [in1_units]; omega) rx ry rxu ryz
    have l1 := rs.len; have l2 := rs'.len; have l3 := ri.length; have l4 := ri'.length
    have key := eqDs_range as bs
    by_cases hsz : its.toArray.size = its'.toArray.size
    · have e : eqD (.lst as) (.lst bs) = (List.range its.toArray.size).all (eAt as bs) := by
        have hsz' := hsz
        rw [List.size_toArray, List.size_toArray] at hsz'
        have : as.length = bs.length := by omega
        show eqDs as bs = _
        rw [key, this, Nat.min_self, List.size_toArray, beq_self_eq_true, Bool.and_true, ← l3, l1, this]
      rw [e]
      exact ⟨SeqAt.RcAt.lists pl.isList pl'.isList hsz (by omega) it, SeqAt.RcNeAt.lists pl.isList pl'.isList hsz (by omega) it⟩
    · have e : eqD (.lst as) (.lst bs) = false := by
        have hsz' := hsz
        rw [List.size_toArray, List.size_toArray] at hsz'
        have : (as.length == bs.length) = false := by
          rw [beq_eq_false_iff_ne]; omega
        show eqDs as bs = _
        rw [key, this, Bool.and_false]
      rw [e]
      exact ⟨SeqAt.RcAt.lists_lengths pl.isList pl'.isList (by simpa using hsz) (by omega), SeqAt.RcNeAt.lists_lengths pl.isList pl'.isList (by simpa using hsz) (by omega)⟩
end
section
variable {S : Stat} {Γ : List Sl} {pos p : Pos} {a b : Expr}
def rEqD (K : PySem.W.Frag) (n : Nat) (neg : Bool) (d d' : D) : R2 := fun x y H Q => Rep K H d x ∧ Rep K H d' y ∧ SeqD d d' ∧ CmpOk (n + 1) d d' ∧ Q (.bl (if neg then !eqD d d' else eqD d d')) H
theorem op_eqD {n : Nat} {d d' : D} (hn : n ≤ 60) (X : Cx) (o : S.Of X) : OpR X (compareOp .Eq) (rEqD S.K n false d d') := by
  intro pins s σ H x y v u Q I rx ry h
  obtain ⟨h1, h2, sd, ok, q⟩ := h
  rw [← o.K] at h1 h2
  have hu := o.room.units
  exact (rcAt_D I sd ok (by omega) h1 h2 rx ry).1 _ _ _ _ ⟨.bl (eqD d d'), H, I, rfl, q⟩
theorem e_eqD {n : Nat} {d d' : D} (ha : JE S Γ a d) (hb : JE S Γ b d') (sd : SeqD d d') (ok : CmpOk (n + 1) d d') (hn : n ≤ 60 := by decide) : JE S Γ (.Compare a [.Eq] [b] pos) (.bl (eqD d d')) :=
  e_cmp (op_eqD hn) ha hb (nomark _) fun χ H x y Q _ rx ry q => ⟨rx.mono hid_le d, ry.mono hid_le d', sd, ok, q _ H (Same.refl H) rfl⟩
end
end DL

end
section
set_option Elab.async false
set_option linter.all false
set_option maxRecDepth 100000
set_option maxHeartbeats 4000000
namespace DL
open PySem PySem.Spec PyProof.Rows L2

/-! ### what a loop walks, as data -/
/-- from H on, whatever is hidden later: at turn i the iterator yields the i-th datum, behind the last it stops -/
def ItD (K : PySem.W.Frag) (χ : Addr → Bool) (H : Hp) (J : It) (ds : List D) : Prop := ∀ (χ2 : Addr → Bool) (H2 : Hp), Same (hidB χ H) (hidB χ2 H2) →
  (∀ (i : Nat) d, ds[i]? = some d → J.go i H2 ∧ ∀ x H3, J.yld i H2 x H3 → H3 = H2 ∧ Rep K (hidB χ2 H2) d x) ∧ J.stop ds.length H2
def JI (S : Stat) (Γ : List Sl) (tg iter : Expr) (ds : List D) : Prop := ∃ wi : TI, (∀ X : Cx, S.Of X → PI X tg iter wi) ∧
  ∀ σ H R χ, RE S.K χ H σ Γ → (∀ J H', Same H H' → ItD S.K χ H' J ds → R J H') → wi σ H R
section
variable {S : Stat} {Γ : List Sl} {pos p : Pos} {a b e tg : Expr}
theorem itd_tup {K : PySem.W.Frag} {χ : Addr → Bool} {H : Hp} {a : Addr} {vs : List V} {ds : List D} (sq : hidB χ H a = some (.tup vs)) (rs : Reps K (hidB χ H) ds vs) : ItD K χ H (Itt K a) ds := fun χ2 H2 e => by
  have sq2 : SqT K H2 a vs := sqT_of hid_le (e _ _ sq)
  refine ⟨fun i d hd => ?_, vs, sq2, by rw [rs.len]; exact Nat.le_refl _⟩
  obtain ⟨v, ev, rv⟩ := rs.get hd
  refine ⟨⟨vs, v, sq2, ev⟩, fun x H3 ⟨e3, y⟩ => ⟨e3, ?_⟩⟩
  have := y vs sq2
  rw [ev] at this
  cases this
  exact rv.mono e d
theorem itd_lst {K : PySem.W.Frag} {χ : Addr → Bool} {H : Hp} {a : Addr} {vs : List V} {ds : List D} (sq : SqL K (hidB χ H) a vs) (rs : Reps K (hidB χ H) ds vs) : ItD K χ H (Itl K a) ds := fun χ2 H2 e => by
  have sq2 : SqL K H2 a vs := Same.seq hid_le (Same.seq e sq)
  refine ⟨fun i d hd => ?_, vs, sq2, by rw [rs.len]; exact Nat.le_refl _⟩
  obtain ⟨v, ev, rv⟩ := rs.get hd
  refine ⟨⟨vs, v, sq2, ev⟩, fun x H3 ⟨e3, y⟩ => ⟨e3, ?_⟩⟩
  have := y vs sq2
  rw [ev] at this
  cases this
  exact rv.mono e d
theorem i_tup {ds : List D} (h : JE S Γ e (.tup ds)) : JI S Γ tg e ds := ⟨iTup S.K (dE S.K Γ (.tup ds)), fun X o => by
    have q := pi_tup (tg := tg) (h X o)
    rw [o.K] at q; exact q, fun σ H R χ r q => ⟨χ, r, fun v H' e ⟨ad, vs, ev, sq, rs⟩ => ⟨ad, ev, ⟨vs, sqT_of hid_le sq⟩, q _ H' e (itd_tup sq rs)⟩⟩⟩
theorem i_lst {ds : List D} (h : JE S Γ e (.lst ds)) : JI S Γ tg e ds := ⟨iList S.K (dE S.K Γ (.lst ds)), fun X o => by
    have q := pi_list (tg := tg) (h X o)
    rw [o.K] at q; exact q, fun σ H R χ r q => ⟨χ, r, fun v H' e ⟨ad, vs, ev, sq, rs⟩ => ⟨ad, ev, ⟨vs, Same.seq hid_le sq⟩, q _ H' e (itd_lst sq rs)⟩⟩⟩
abbrev rangeD (lo : Int) (n : Nat) : List D := (List.range n).map fun i : Nat => D.int (lo + (i : Int))
theorem rangeD_length (lo : Int) (n : Nat) : (rangeD lo n).length = n := by unfold rangeD; rw [List.length_map, List.length_range]
theorem itd_rng {K : PySem.W.Frag} {χ : Addr → Bool} {H : Hp} (lo : Int) (n : Nat) : ItD K χ H (Itr lo n) (rangeD lo n) := fun χ2 H2 e => by
  refine ⟨fun i d hd => ?_, by rw [rangeD_length]; exact Nat.le_refl _⟩
  unfold rangeD at hd
  rw [List.getElem?_map] at hd
  cases q : (List.range n)[i]? with
  | none => rw [q] at hd; cases hd
  | some j =>
    rw [q] at hd
    obtain ⟨hi, hj⟩ := List.getElem?_eq_some_iff.mp q
    rw [List.getElem_range] at hj
    subst hj
    have hd' : D.int (lo + (i : Int)) = d := Option.some.inj hd
    subst hd'
    rw [List.length_range] at hi
    exact ⟨hi, fun x H3 ⟨e3, y⟩ => ⟨e3, y⟩⟩
theorem i_rng1 {n : Int} (h : JE S Γ a (.int n)) (hm : S.mg "range" = none) (hn : -(2 ^ 62) ≤ n ∧ n < 2 ^ 62) (hg : S.sc.names.lookup ("range" : Str) = some .globalImplicit := by (try dsimp only [DL.Stat.blk]); decide +kernel) (hs : ∀ env, starEach [a] env = [(false, eval a env)] := by intro _; rfl) : JI S Γ tg (.Call (.Name "range" p) [a] [] pos) (rangeD 0 n.toNat) :=
  ⟨iRng1 (dA S.K Γ [.int n]), fun X o => pi_range1 (gl_of o hg) (by rw [o.mg]; exact hm) ((a_cons h a_nil hs) X o) (hs X.env), fun σ H R χ r q => ⟨χ, r, fun vs H' e rs => by
    obtain ⟨v, rfl, rv⟩ := reps1 rs
    cases (show v = _ from rv)
    exact ⟨n, rfl, hn.1, hn.2, q _ H' e (itd_rng 0 n.toNat)⟩⟩⟩
/-! ### a list comprehension -/
structure JIfs (S : Stat) (Γ : List Sl) (ifs : List Expr) (b : Bool) : Prop where
  run : ∀ X, S.Of X → PIfs X ifs (dT S.K Γ b)
instance {S : Stat} {Γ : List Sl} {ifs : List Expr} {b : Bool} : CoeFun (JIfs S Γ ifs b) fun _ => ∀ X, S.Of X → PIfs X ifs (dT S.K Γ b) := ⟨fun h => h.run⟩
theorem ifs_nil : JIfs S Γ [] true := .mk fun X o pins s σ H Q I ⟨χ, R, q⟩ => pifs_nil pins s σ H Q I (q H (Same.refl H))
theorem own_lt {Γ : List Sl} {d : D} {j : Nat} {a : Bool} {es : Ct} (h : (Γ ++ [.val d])[j]? = some (.ll a es)) : j < Γ.length := by
  by_cases hj : j < Γ.length
  · exact hj
  · have hj' := (List.getElem?_eq_some_iff.mp h).1
    rw [List.length_append, List.length_singleton] at hj'
    have hje : j = Γ.length := by omega
    subst hje
    rw [List.getElem?_append_right (Nat.le_refl _), Nat.sub_self] at h
    cases h
theorem comp_imp {β : Type} {K : PySem.W.Frag} {us : List β} {g F : β → D} {pr : β → Bool} {wi : TI} (hl : us.length ≤ sizeLine) (hw : ∀ σ H R χ, RE K χ H σ Γ → (∀ J H', Same H H' → ItD K χ H' J (us.map g) → R J H') → wi σ H R) (σ : L2.St) (H : Hp) (Q : VK)
    (h : dF K Γ ((us.filter pr).map F) σ H Q) : tComp wi (fun σ' H Q => ∃ u, u ∈ us ∧ dT K (Γ ++ [.val (g u)]) (pr u) σ' H Q) (fun σ' H Q => ∃ u, u ∈ us ∧ pr u = true ∧ dE K (Γ ++ [.val (g u)]) (F u) σ' H Q) σ H Q := by
  obtain ⟨χ, R, q⟩ := h
  refine hw σ H _ χ R fun J H1 e1 itd l hl1 => ?_
  have hl0 : H l = none := e1.free hl1
  have R1 := R.mono e1
  have up : ∀ {H2 : Hp}, Same H1 H2 → Same (hidB χ H1) (hidB (fun b => χ b || b == l) H2) := fun {H2} e2 b o hb => by
    obtain ⟨c1, c2⟩ := hid_some hb
    have hne : b ≠ l := ne_of_none c2 hl1
    exact hid_of (by rw [c1, Bool.false_or]; simpa using hne) (e2 b o c2)
  refine ⟨fun i m ys H2 => m = us.length - i ∧ i ≤ us.length ∧ H2 l = some (.lst ys) ∧ Same H1 H2 ∧ Reps K (hidB (fun b => χ b || b == l) H2) (((us.take i).filter pr).map F) ys,
    ⟨us.length, by simp, Nat.zero_le _, upd_same, same_new hl1 _, rfl⟩, ?_⟩
  rintro i m ys H2 ⟨rfl, hi, hl2, e2, rs⟩
  refine ⟨hl2, ?_⟩
  obtain ⟨it1, it2⟩ := itd (fun b => χ b || b == l) H2 (up e2)
  by_cases hlt : i < us.length
  · have hu : us[i]? = some us[i] := List.getElem?_eq_getElem hlt
    generalize us[i] = u at hu
    have hd : (us.map g)[i]? = some (g u) := by rw [List.getElem?_map, hu]; rfl
    obtain ⟨go, yl⟩ := it1 i (g u) hd
    have hmem : u ∈ us := List.mem_of_getElem? hu
    have htake : us.take (i + 1) = us.take i ++ [u] := by
      rw [List.take_add_one, hu]; rfl
    refine .inr ⟨go, ?_, fun x H3 y => ?_⟩
    · have := rs.len
      rw [List.length_map] at this
      have h1 := List.length_filter_le pr (us.take i)
      rw [List.length_take] at h1
      omega
    · obtain ⟨e3, rx⟩ := yl x H3 y
      subst e3
      have R2 : RE K (fun b => χ b || b == l) H3 (σ ++ [some x]) (Γ ++ [.val (g u)]) := by
        refine ⟨fun b hb => ?_, by rw [List.length_append, List.length_append, R.len]; rfl, fun j d' hj => ?_, fun j a es hj => ?_, fun j j' a a' es es' p h1 h2 h3 h4 => ?_⟩
        · cases c : χ b with
          | true => obtain ⟨o, ho⟩ := R1.live b c; exact ⟨o, e2 _ _ ho⟩
          | false =>
            rw [c, Bool.false_or] at hb
            have : b = l := by simpa using hb
            subst this
            exact ⟨⟨_, nt_lst⟩, hl2⟩
        · by_cases hjl : j < Γ.length
          · rw [List.getElem?_append_left hjl] at hj
            obtain ⟨v, ev, rv⟩ := R1.val j d' hj
            exact ⟨v, by rw [List.getElem?_append_left (by rw [R.len]; exact hjl)]; exact ev, rv.mono (up e2) d'⟩
          · have hj' := (List.getElem?_eq_some_iff.mp hj).1
            rw [List.length_append, List.length_singleton] at hj'
            have hje : j = Γ.length := by omega
            subst hje
            rw [List.getElem?_append_right (Nat.le_refl _), Nat.sub_self] at hj
            have hj2 : Sl.val (g u) = Sl.val d' := Option.some.inj hj
            injection hj2 with hj3
            subst hj3
            refine ⟨x, ?_, rx⟩
            rw [← R.len, List.getElem?_append_right (Nat.le_refl _), Nat.sub_self]
            rfl
        · have hjl := own_lt hj
          rw [List.getElem?_append_left hjl] at hj
          obtain ⟨p, vs, a1, a2, a3, a4⟩ := R1.own j a es hj
          exact ⟨p, vs, by rw [List.getElem?_append_left (by rw [R.len]; exact hjl)]; exact a1, by rw [a2]; rfl, e2 _ _ a3, CRep.mono (up e2) es a4⟩
        · have l1 := own_lt h1
          have l2 := own_lt h2
          rw [List.getElem?_append_left l1] at h1
          rw [List.getElem?_append_left l2] at h2
          rw [List.getElem?_append_left (by rw [R.len]; exact l1)] at h3
          rw [List.getElem?_append_left (by rw [R.len]; exact l2)] at h4
          exact R1.inj j j' a a' es es' p h1 h2 h3 h4
      refine ⟨u, hmem, _, R2, fun H4 e4 => ?_⟩
      have hl4 := e4 _ _ hl2
      have e24 : Same H1 H4 := e2.trans e4
      have rs4 := Reps.mono (hid_same (χ := fun b => χ b || b == l) e4) _ rs
      cases hp : pr u with
      | false =>
        refine iteF ⟨us.length - (i + 1), by omega, rfl, hlt, hl4, e24, ?_⟩
        rw [htake, List.filter_append, List.filter_cons_of_neg (by rw [hp]; exact Bool.false_ne_true), List.filter_nil, List.append_nil]
        exact rs4
      | true =>
        refine iteT ⟨u, hmem, hp, _, R2.mono e4, fun y H5 e5 ry => ⟨e5 _ _ hl4, us.length - (i + 1), by omega, rfl, hlt, upd_same, fun b o hb => ?_, ?_⟩⟩
        · rw [upd_ne (ne_of_none hb hl1)]
          exact e5 _ _ (e24 _ _ hb)
        · rw [htake, List.filter_append, List.filter_cons_of_pos hp, List.filter_nil, List.map_append]
          have hh : Same (hidB (fun b => χ b || b == l) H5) (hidB (fun b => χ b || b == l) (upd H5 l (.lst (ys ++ [y])))) := fun b o hb => by
            obtain ⟨c1, c2⟩ := hid_some hb
            have hne : b ≠ l := fun z => by subst z; simp at c1
            exact hid_of c1 (by rw [upd_ne hne]; exact c2)
          exact Reps.mono hh _ ((Reps.mono (hid_same e5) _ rs4).app (.one ry))
  · have hie : i = us.length := by omega
    subst hie
    rw [List.take_length] at rs
    rw [List.length_map] at it2
    exact .inl ⟨it2, q l ys H2 hl0 (e1.trans e2) hl2 rs⟩

section
variable {elt iter : Expr} {x : Str} {px : Pos} {ifs : List Expr} {scope : Scope} {β : Type} {us : List β} {g : β → D}
theorem f_comp (F : β → D) (pr : β → Bool) (hi : JI S Γ (.Name x px) iter (us.map g)) (hl : us.length ≤ sizeLine) (ht : ∀ u, u ∈ us → JIfs (S.blk x scope) (Γ ++ [.val (g u)]) ifs (pr u)) (he : ∀ u, u ∈ us → pr u = true → JE (S.blk x scope) (Γ ++ [.val (g u)]) elt (F u))
    (ok : compOk S.N S.sc x scope = true := by (try dsimp only [DL.Stat.blk]); decide +kernel) (hs : ∀ env v, foldedSetIterable iter env v = pure v := by intro _ _; rfl) : JF S Γ (.ListComp elt [⟨.Name x px, iter, ifs, 0⟩] scope pos) ((us.filter pr).map F) := .mk fun X o => by
  obtain ⟨wi, hw1, hw2⟩ := hi
  refine pe_imp (pe_comp (tt := fun σ' H Q => ∃ u, u ∈ us ∧ dT S.K (Γ ++ [Sl.val (g u)]) (pr u) σ' H Q) (te := fun σ' H Q => ∃ u, u ∈ us ∧ pr u = true ∧ dE S.K (Γ ++ [Sl.val (g u)]) (F u) σ' H Q) o.calm (hw1 X o) o.N o.sc ok
    (fun C s₀ H₀ ex pins s σ H Q I ⟨u, hd, q⟩ => ht u hd _ (o.blk x scope C s₀ H₀ ex) pins s σ H Q I q) (fun C s₀ H₀ ex pins s σ H Q I ⟨u, hd, hp, q⟩ => he u hd hp _ (o.blk x scope C s₀ H₀ ex) pins s σ H Q I q) (hs X.env)) fun σ H Q h => comp_imp hl hw2 σ H Q h
/-- .. without a test -/
theorem f_map (F : β → D) (hi : JI S Γ (.Name x px) iter (us.map g)) (hl : us.length ≤ sizeLine) (he : ∀ u, u ∈ us → JE (S.blk x scope) (Γ ++ [.val (g u)]) elt (F u))
    (ok : compOk S.N S.sc x scope = true := by (try dsimp only [DL.Stat.blk]); decide +kernel) (hs : ∀ env v, foldedSetIterable iter env v = pure v := by intro _ _; rfl) : JF S Γ (.ListComp elt [⟨.Name x px, iter, [], 0⟩] scope pos) (us.map F) := by
  have h := f_comp (S := S) (Γ := Γ) (pos := pos) (scope := scope) F (fun _ => true) (elt := elt) hi hl (fun d _ => ifs_nil) (fun d hd _ => he d hd) ok hs
  have e : us.filter (fun _ => true) = us := List.filter_eq_self.mpr fun _ _ => rfl
  rw [e] at h
  exact h
end
end
end DL

end
section
set_option Elab.async false
set_option linter.all false
set_option maxRecDepth 100000
set_option maxHeartbeats 4000000
namespace DL
open PySem PySem.Spec PyProof.Rows L2

/-! ### statements: φ hides the callers' lists, ω says which slot owns a list of this body -/
def both (φ : Addr → Bool) (ω : Addr → Option (Bool × Nat)) : Addr → Bool := fun b => φ b || (ω b).isSome
structure RS (K : PySem.W.Frag) (φ : Addr → Bool) (ω : Addr → Option (Bool × Nat)) (H : Hp) (σ : L2.St) (Γ : List Sl) : Prop where
  live : ∀ p, both φ ω p = true → ∃ o : HN, H p = some o.1
  len : σ.length = Γ.length
  val : ∀ (i : Nat) (d : D), Γ[i]? = some (.val d) → ∃ v, σ[i]? = some (some v) ∧ Rep K (hidB (both φ ω) H) d v
  own : ∀ (i : Nat) (a : Bool) (c : Ct), Γ[i]? = some (.ll a c) → ∃ p ho, σ[i]? = some (some (.ref p)) ∧ ω p = some (a, i) ∧ φ p = false ∧ H p = some ho ∧ CRep K (hidB (both φ ω) H) c ho
  argu : ∀ b b' i, ω b = some (true, i) → ω b' = some (true, i) → b = b'
structure Kp (φ : Addr → Bool) (ω : Addr → Option (Bool × Nat)) (H : Hp) (ω' : Addr → Option (Bool × Nat)) (H' : Hp) : Prop where
  same : Same (hidB (both φ ω) H) (hidB (both φ ω') H')
  frn : ∀ b o, φ b = true → H b = some o → H' b = some o
  dom : ∀ b o, H b = some o → ∃ o', H' b = some o'
  new : ∀ b i, ω' b = some i → (∃ j, ω b = some j) ∨ H b = none
  arg : ∀ b i, ω b = some (true, i) → ω' b = some (true, i)
section
variable {K : PySem.W.Frag} {φ : Addr → Bool} {ω ω' ω2 : Addr → Option (Bool × Nat)} {H H' H2 : Hp} {σ : L2.St} {Γ : List Sl}
theorem RS.re (r : RS K φ ω H σ Γ) : RE K (both φ ω) H σ Γ := ⟨r.live, r.len, r.val, fun i a ds h => let ⟨p, vs, h1, h2, _, h4, h5⟩ := r.own i a ds h; ⟨p, vs, h1, by unfold both; rw [h2]; simp, h4, h5⟩, fun i j a a' ds es p h1 h2 h3 h4 => by
  obtain ⟨q, _, a1, a2, _⟩ := r.own i a ds h1
  obtain ⟨q', _, b1, b2, _⟩ := r.own j a' es h2
  rw [h3] at a1; cases a1
  rw [h4] at b1; cases b1
  rw [a2] at b2
  exact congrArg Prod.snd (Option.some.inj b2)⟩
theorem RS.mono (r : RS K φ ω H σ Γ) (e : Same H H') : RS K φ ω H' σ Γ :=
  ⟨fun p h => let ⟨o, q⟩ := r.live p h; ⟨o, e _ _ q⟩, r.len, fun i d h => let ⟨v, q, p⟩ := r.val i d h; ⟨v, q, p.mono (hid_same e) d⟩,
    fun i a ds h => let ⟨p, vs, h1, h2, h3, h4, h5⟩ := r.own i a ds h; ⟨p, vs, h1, h2, h3, e _ _ h4, CRep.mono (hid_same e) ds h5⟩, r.argu⟩
theorem Kp.refl : Kp φ ω H ω H := ⟨Same.refl _, fun _ _ _ h => h, fun _ o h => ⟨o, h⟩, fun _ i h => .inl ⟨i, h⟩, fun _ _ h => h⟩
theorem Kp.of (e : Same H H') : Kp φ ω H ω H' := ⟨hid_same e, fun b o _ h => e b o h, fun b o h => ⟨o, e b o h⟩, fun _ i h => .inl ⟨i, h⟩, fun _ _ h => h⟩
theorem Kp.none (k : Kp φ ω H ω' H') {b : Addr} (h : H' b = none) : H b = none := by
  cases c : H b with
  | none => rfl
  | some o => obtain ⟨o', q⟩ := k.dom b o c; rw [h] at q; cases q
theorem Kp.trans (a : Kp φ ω H ω' H') (b : Kp φ ω' H' ω2 H2) : Kp φ ω H ω2 H2 := ⟨a.same.trans b.same, fun c o hc h => b.frn c o hc (a.frn c o hc h), fun c o h => let ⟨o1, h1⟩ := a.dom c o h; b.dom c o1 h1, fun c i h => by
  rcases b.new c i h with ⟨j, h1⟩ | h1
  · exact a.new c j h1
  · exact .inr (a.none h1), fun c i h => b.arg c i (a.arg c i h)⟩
theorem RS.set (r : RS K φ ω H σ Γ) {i : Nat} {d : D} {v : V} (hv : Rep K (hidB (both φ ω) H) d v) : RS K φ ω H (σ.set i (some v)) (Γ.set i (.val d)) := by
  refine ⟨r.live, by rw [List.length_set, List.length_set]; exact r.len, fun j d' h => ?_, fun j a ds h => ?_, r.argu⟩
  · by_cases hj : i = j
    · subst hj
      have hlt : i < Γ.length := by
        have := (List.getElem?_eq_some_iff.mp h).1
        rwa [List.length_set] at this
      rw [List.getElem?_set_self hlt] at h
      have h' : Sl.val d = Sl.val d' := Option.some.inj h
      cases h'
      exact ⟨v, by rw [List.getElem?_set_self (by rw [r.len]; exact hlt)], hv⟩
    · rw [List.getElem?_set_ne hj] at h
      obtain ⟨v', e, q⟩ := r.val j d' h
      exact ⟨v', by rw [List.getElem?_set_ne hj]; exact e, q⟩
  · by_cases hj : i = j
    · subst hj
      have hlt : i < Γ.length := by
        have := (List.getElem?_eq_some_iff.mp h).1
        rwa [List.length_set] at this
      rw [List.getElem?_set_self hlt] at h
      have h' : Sl.val d = Sl.ll a ds := Option.some.inj h
      cases h'
    · rw [List.getElem?_set_ne hj] at h
      obtain ⟨p, vs, e, q⟩ := r.own j a ds h
      exact ⟨p, vs, by rw [List.getElem?_set_ne hj]; exact e, q⟩
/-- a new list goes to the slot i alone -/
theorem RS.takeC (r : RS K φ ω H σ Γ) {i : Nat} {l : Addr} {vs : HO} {ds : Ct} (hi : i < Γ.length) (hl : H l = none) (e : Same H H') (hv : H' l = some vs) (hr : CRep K (hidB (fun b => both φ ω b || b == l) H') ds vs) :
    RS K φ (fun b => if b = l then some (false, i) else ω b) H' (σ.set i (some (.ref l))) (Γ.set i (.ll false ds)) ∧ Kp φ ω H (fun b => if b = l then some (false, i) else ω b) H' := by
  have fl : both φ ω l = false := r.re.fresh hl
  have φl : φ l = false := by
    unfold both at fl
    cases c : φ l with
    | false => rfl
    | true => rw [c] at fl; cases fl
  have eb : both φ (fun b => if b = l then some (false, i) else ω b) = fun b => both φ ω b || b == l := by
    funext b
    unfold both
    by_cases hb : b = l
    · subst hb; simp
    · have : (b == l) = false := by simpa using hb
      dsimp only
      rw [if_neg hb, this, Bool.or_false]
  have up : Same (hidB (both φ ω) H) (hidB (fun b => both φ ω b || b == l) H') := fun b o hb => by
    obtain ⟨c1, c2⟩ := hid_some hb
    have hne : b ≠ l := ne_of_none c2 hl
    exact hid_of (by rw [c1, Bool.false_or]; simpa using hne) (e b o c2)
  refine ⟨⟨fun p hp => ?_, by rw [List.length_set, List.length_set]; exact r.len, fun j d h => ?_, fun j a es h => ?_, fun b b' k h1 h2 => ?_⟩, ⟨by rw [eb]; exact up, fun b o _ h => e b o h, fun b o h => ⟨o, e b o h⟩, fun b j h => by
    by_cases hb : b = l
    · subst hb; exact .inr hl
    · rw [if_neg hb] at h; exact .inl ⟨j, h⟩, fun b j h => by
    have hb : b ≠ l := fun z => by
      subst z
      unfold both at fl
      rw [h] at fl
      simp at fl
    rw [if_neg hb]; exact h⟩⟩
  · rw [eb] at hp
    by_cases hpl : p = l
    · subst hpl; exact ⟨⟨_, hr.nt⟩, hv⟩
    · have : (p == l) = false := by simpa using hpl
      dsimp only at hp
      rw [this, Bool.or_false] at hp
      obtain ⟨o, ho⟩ := r.live p hp
      exact ⟨o, e _ _ ho⟩
  · by_cases hj : i = j
    · subst hj
      rw [List.getElem?_set_self hi] at h
      have h' : Sl.ll false ds = Sl.val d := Option.some.inj h
      cases h'
    · rw [List.getElem?_set_ne hj] at h
      obtain ⟨v, ev, rv⟩ := r.val j d h
      refine ⟨v, by rw [List.getElem?_set_ne hj]; exact ev, ?_⟩
      rw [eb]; exact rv.mono up d
  · by_cases hj : i = j
    · subst hj
      rw [List.getElem?_set_self hi] at h
      have h' : Sl.ll false ds = Sl.ll a es := Option.some.inj h
      cases h'
      refine ⟨l, vs, by rw [List.getElem?_set_self (by rw [r.len]; exact hi)], by simp, φl, hv, ?_⟩
      rw [eb]; exact hr
    · rw [List.getElem?_set_ne hj] at h
      obtain ⟨p, ws, h1, h2, h3, h4, h5⟩ := r.own j a es h
      have hpl : p ≠ l := ne_of_none h4 hl
      refine ⟨p, ws, by rw [List.getElem?_set_ne hj]; exact h1, by rw [if_neg hpl]; exact h2, h3, e _ _ h4, ?_⟩
      rw [eb]; exact CRep.mono up es h5
  · have g : ∀ c, (if c = l then some (false, i) else ω c) = some (true, k) → ω c = some (true, k) := fun c h => by
      by_cases hc : c = l
      · rw [if_pos hc] at h; cases h
      · rw [if_neg hc] at h; exact h
    exact r.argu b b' k (g b h1) (g b' h2)
/-- the slot's list is written -/
theorem RS.putC (r : RS K φ ω H σ Γ) {i : Nat} {l : Addr} {vs' : HO} {ds' ds : Ct} {a : Bool} (hi : Γ[i]? = some (.ll a ds)) (hl : ω l = some (a, i)) (hσ : σ[i]? = some (some (.ref l))) (hr : CRep K (hidB (both φ ω) H) ds' vs') (φl : φ l = false) :
    RS K φ ω (upd H l vs') σ (Γ.set i (.ll a ds')) ∧ Kp φ ω H ω (upd H l vs') := by
  have hb : both φ ω l = true := by unfold both; rw [hl]; simp
  have up : Same (hidB (both φ ω) H) (hidB (both φ ω) (upd H l vs')) := fun b o h => by
    obtain ⟨c1, c2⟩ := hid_some h
    have hne : b ≠ l := fun z => by subst z; rw [hb] at c1; cases c1
    exact hid_of c1 (by rw [upd_ne hne]; exact c2)
  have hlt := (List.getElem?_eq_some_iff.mp hi).1
  refine ⟨⟨fun p hp => ?_, by rw [List.length_set]; exact r.len, fun j d h => ?_, fun j a' es h => ?_, r.argu⟩, ⟨up, fun b o hφ h => ?_, fun b o h => by
    by_cases hbl : b = l
    · subst hbl; exact ⟨_, upd_same⟩
    · exact ⟨o, by rw [upd_ne hbl]; exact h⟩, fun _ j h => .inl ⟨j, h⟩, fun _ _ h => h⟩⟩
  · by_cases hpl : p = l
    · subst hpl; exact ⟨⟨_, hr.nt⟩, upd_same⟩
    · obtain ⟨o, ho⟩ := r.live p hp
      exact ⟨o, by rw [upd_ne hpl]; exact ho⟩
  · by_cases hj : i = j
    · subst hj
      rw [List.getElem?_set_self hlt] at h
      have h' : Sl.ll a ds' = Sl.val d := Option.some.inj h
      cases h'
    · rw [List.getElem?_set_ne hj] at h
      obtain ⟨v, ev, rv⟩ := r.val j d h
      exact ⟨v, ev, rv.mono up d⟩
  · by_cases hj : i = j
    · subst hj
      rw [List.getElem?_set_self hlt] at h
      have h' : Sl.ll a ds' = Sl.ll a' es := Option.some.inj h
      cases h'
      exact ⟨l, vs', hσ, hl, φl, upd_same, CRep.mono up _ hr⟩
    · rw [List.getElem?_set_ne hj] at h
      obtain ⟨p, ws, h1, h2, h3, h4, h5⟩ := r.own j a' es h
      have hpl : p ≠ l := fun z => by subst z; rw [hl] at h2; exact hj (congrArg Prod.snd (Option.some.inj h2))
      exact ⟨p, ws, h1, h2, h3, by rw [upd_ne hpl]; exact h4, CRep.mono up es h5⟩
  · have hne : b ≠ l := fun z => by subst z; rw [φl] at hφ; cases hφ
    rw [upd_ne hne]; exact h
theorem RS.ownL (r : RS K φ ω H σ Γ) (i : Nat) (a : Bool) (ds : List D) (h : Γ[i]? = some (.li a ds)) : ∃ p vs, σ[i]? = some (some (.ref p)) ∧ ω p = some (a, i) ∧ φ p = false ∧ H p = some (.lst vs) ∧ Reps K (hidB (both φ ω) H) ds vs := by
  obtain ⟨p, ho, h1, h2, h3, h4, vs, rfl, h5⟩ := r.own i a _ h
  exact ⟨p, vs, h1, h2, h3, h4, h5⟩
theorem RS.take (r : RS K φ ω H σ Γ) {i : Nat} {l : Addr} {vs : List V} {ds : List D} (hi : i < Γ.length) (hl : H l = none) (e : Same H H') (hv : H' l = some (.lst vs)) (hr : Reps K (hidB (fun b => both φ ω b || b == l) H') ds vs) :
    RS K φ (fun b => if b = l then some (false, i) else ω b) H' (σ.set i (some (.ref l))) (Γ.set i (.own ds)) ∧ Kp φ ω H (fun b => if b = l then some (false, i) else ω b) H' := r.takeC hi hl e hv ⟨vs, rfl, hr⟩
theorem RS.put (r : RS K φ ω H σ Γ) {i : Nat} {l : Addr} {vs' : List V} {ds' ds : List D} {a : Bool} (hi : Γ[i]? = some (.li a ds)) (hl : ω l = some (a, i)) (hσ : σ[i]? = some (some (.ref l))) (hr : Reps K (hidB (both φ ω) H) ds' vs') (φl : φ l = false) :
    RS K φ ω (upd H l (.lst vs')) σ (Γ.set i (.li a ds')) ∧ Kp φ ω H ω (upd H l (.lst vs')) := r.putC hi hl hσ ⟨vs', rfl, hr⟩ φl
/-- the list is left as it is from now on -/
theorem RS.frzC (r : RS K φ ω H σ Γ) {i : Nat} {c : Ct} {dd : D} (hi : Γ[i]? = some (.ll false c)) (hd : ∀ (H : Hp) (l : Addr) (ho : HO), H l = some ho → CRep K H c ho → Rep K H dd (.ref l)) : ∃ ω', RS K φ ω' H σ (Γ.set i (.val dd)) ∧ Kp φ ω H ω' H := by
  obtain ⟨l, ho, hσ, hl, φl, hv, hr⟩ := r.own i false _ hi
  have hlt := (List.getElem?_eq_some_iff.mp hi).1
  have le : ∀ b, both φ (fun b => if b = l then none else ω b) b = true → both φ ω b = true := fun b h => by
    unfold both at h ⊢
    dsimp only at h
    by_cases hb : b = l
    · subst hb; rw [hl]; simp
    · rw [if_neg hb] at h; exact h
  have up : Same (hidB (both φ ω) H) (hidB (both φ (fun b => if b = l then none else ω b)) H) := fun b o h => by
    obtain ⟨c1, c2⟩ := hid_some h
    refine hid_of ?_ c2
    cases c : both φ (fun b => if b = l then none else ω b) b with
    | false => rfl
    | true => rw [le b c] at c1; cases c1
  refine ⟨fun b => if b = l then none else ω b, ⟨fun p hp => r.live p (le p hp), by rw [List.length_set]; exact r.len, fun j d h => ?_, fun j a es h => ?_, fun b b' k h1 h2 => ?_⟩, ⟨up, fun _ _ _ h => h, fun _ o h => ⟨o, h⟩, fun b j h => by
    by_cases hb : b = l
    · rw [if_pos hb] at h; cases h
    · rw [if_neg hb] at h; exact .inl ⟨j, h⟩, fun b j h => by
    have hb : b ≠ l := fun z => by subst z; rw [hl] at h; cases h
    rw [if_neg hb]; exact h⟩⟩
  · by_cases hj : i = j
    · subst hj
      rw [List.getElem?_set_self hlt] at h
      have h' : Sl.val dd = Sl.val d := Option.some.inj h
      cases h'
      refine ⟨.ref l, hσ, hd _ l ho (hid_of ?_ hv) (CRep.mono up _ hr)⟩
      unfold both
      dsimp only
      rw [φl, if_pos rfl]; rfl
    · rw [List.getElem?_set_ne hj] at h
      obtain ⟨v, ev, rv⟩ := r.val j d h
      exact ⟨v, ev, rv.mono up d⟩
  · by_cases hj : i = j
    · subst hj
      rw [List.getElem?_set_self hlt] at h
      have h' : Sl.val dd = Sl.ll a es := Option.some.inj h
      cases h'
    · rw [List.getElem?_set_ne hj] at h
      obtain ⟨p, ws, h1, h2, h3, h4, h5⟩ := r.own j a es h
      have hpl : p ≠ l := fun z => by subst z; rw [hl] at h2; exact hj (congrArg Prod.snd (Option.some.inj h2))
      exact ⟨p, ws, h1, by rw [if_neg hpl]; exact h2, h3, h4, CRep.mono up es h5⟩
  · have g : ∀ c, (if c = l then none else ω c) = some (true, k) → ω c = some (true, k) := fun c h => by
      by_cases hc : c = l
      · rw [if_pos hc] at h; cases h
      · rw [if_neg hc] at h; exact h
    exact r.argu b b' k (g b h1) (g b' h2)
theorem RS.frz (r : RS K φ ω H σ Γ) {i : Nat} {ds : List D} (hi : Γ[i]? = some (.own ds)) : ∃ ω', RS K φ ω' H σ (Γ.set i (.val (.lst ds))) ∧ Kp φ ω H ω' H :=
  r.frzC hi fun _ l _ e ⟨vs, e2, h⟩ => ⟨l, vs, rfl, SqL.of (by rw [e, e2]), h⟩
end

/-- a comprehension goes to a cell: no swap; to a plain local on its own row: a swap -/
theorem sw_cell {S : Stat} {X : Cx} {elt : Expr} {gs : List Comprehension} {scope : Scope} {pos py : Pos} {y : Str} {ln : Nat} (o : S.Of X) (h : S.sc.names.lookup y = some .cell) : swapsWith (.ListComp elt gs scope pos) (some (.Name y py)) ln X.env = pure false := by
  have e : X.env.kindOf y = some .cell := by unfold Env.kindOf; rw [o.sc]; exact h
  show (pure (X.env.blockKind == .function && X.env.kindOf y == some .local && _ && _) : Sem Bool) = pure false
  rw [e]
  have : (some NameKind.cell == some NameKind.local) = false := by decide
  rw [this, Bool.and_false, Bool.false_and, Bool.false_and]
theorem sw_loc {S : Stat} {X : Cx} {elt : Expr} {gs : List Comprehension} {scope : Scope} {pos py : Pos} {y : Str} {ln : Nat} (o : S.Of X)
    (h : ((if S.sc.kind.isAnnotationScope then ScopeKind.function else S.sc.kind) == .function && S.sc.names.lookup y == some .local && py.line == pos.line && !(scope.names.any fun (n, k) => n == y && (k == .local || k == .cell))) = true) : swapsWith (.ListComp elt gs scope pos) (some (.Name y py)) ln X.env = pure true := by
  rw [← o.sc] at h
  show (pure _ : Sem Bool) = pure true
  exact congrArg pure h

structure DEnds where
  nx : List Sl → Prop
  rt : D → List Sl → Prop
  bk : List Sl → Prop := fun _ => False
  ct : List Sl → Prop := fun _ => False
  rf : List D → List Sl → Prop := fun _ _ => False
/-- what is wanted behind: nx, bk, ct with the slots; rt a value; rf a list that is new (or a slot's own) -/
structure Cn (K : PySem.W.Frag) (φ : Addr → Bool) (ω : Addr → Option (Bool × Nat)) (H : Hp) (E : DEnds) (Z : Ends) : Prop where
  n : ∀ ω' σ' H' Γ', E.nx Γ' → RS K φ ω' H' σ' Γ' → Kp φ ω H ω' H' → Z.nx σ' H'
  rt : ∀ ω' σ' v H' d Γ', E.rt d Γ' → RS K φ ω' H' σ' Γ' → Kp φ ω H ω' H' → Rep K (hidB (both φ ω') H') d v → Z.rt v H'
  bk : ∀ ω' σ' H' Γ', E.bk Γ' → RS K φ ω' H' σ' Γ' → Kp φ ω H ω' H' → Z.bk σ' H'
  ct : ∀ ω' σ' H' Γ', E.ct Γ' → RS K φ ω' H' σ' Γ' → Kp φ ω H ω' H' → Z.ct σ' H'
  rf : ∀ ω' σ' l vs H' ds Γ', E.rf ds Γ' → RS K φ ω' H' σ' Γ' → Kp φ ω H ω' H' → ((∃ j, ω l = some j) ∨ H l = none) → H' l = some (.lst vs) → Reps K (hidB (fun b => both φ ω' b || b == l) H') ds vs → Z.rt (.ref l) H'
theorem Cn.step {K : PySem.W.Frag} {φ : Addr → Bool} {ω ω1 : Addr → Option (Bool × Nat)} {H H1 : Hp} {E : DEnds} {Z : Ends} (c : Cn K φ ω H E Z) (k : Kp φ ω H ω1 H1) : Cn K φ ω1 H1 E Z where
  n := fun ω' σ' H' Γ' h r k2 => c.n ω' σ' H' Γ' h r (k.trans k2)
  rt := fun ω' σ' v H' d Γ' h r k2 => c.rt ω' σ' v H' d Γ' h r (k.trans k2)
  bk := fun ω' σ' H' Γ' h r k2 => c.bk ω' σ' H' Γ' h r (k.trans k2)
  ct := fun ω' σ' H' Γ' h r k2 => c.ct ω' σ' H' Γ' h r (k.trans k2)
  rf := fun ω' σ' l vs H' ds Γ' h r k2 hl => c.rf ω' σ' l vs H' ds Γ' h r (k.trans k2) (by
    rcases hl with ⟨j, hl⟩ | hl
    · exact k.new l j hl
    · exact .inr (k.none hl))
def dS (K : PySem.W.Frag) (Γ : List Sl) (E : DEnds) : TS := fun Z σ H => ∃ φ ω, RS K φ ω H σ Γ ∧ Cn K φ ω H E Z
structure JS (S : Stat) (Γ : List Sl) (st : Stmt) (E : DEnds) : Prop where
  run : ∀ X, S.Of X → PS X st (dS S.K Γ E)
instance {S : Stat} {Γ : List Sl} {st : Stmt} {E : DEnds} : CoeFun (JS S Γ st E) fun _ => ∀ X, S.Of X → PS X st (dS S.K Γ E) := ⟨fun h => h.run⟩
structure JB (S : Stat) (Γ : List Sl) (st : List Stmt) (E : DEnds) : Prop where
  run : ∀ X, S.Of X → PSs X st (dS S.K Γ E)
instance {S : Stat} {Γ : List Sl} {st : List Stmt} {E : DEnds} : CoeFun (JB S Γ st E) fun _ => ∀ X, S.Of X → PSs X st (dS S.K Γ E) := ⟨fun h => h.run⟩

section
variable {S : Stat} {Γ : List Sl} {E : DEnds} {pos pos' p : Pos} {st : Stmt} {rest : List Stmt} {e a b c : Expr} {x : Str}
theorem b_nil (h : E.nx Γ) : JB S Γ [] E := .mk fun X o pins s σ H Z I ⟨φ, ω, r, c⟩ => pss_nil pins s σ H Z I (c.n ω σ H Γ h r Kp.refl)
theorem b_cons (h : JS S Γ st { E with nx := fun Γ' => JB S Γ' rest E }) : JB S Γ (st :: rest) E := .mk fun X o => by
  have h2 : PSs X rest (fun Z σ H => ∃ Γ', JB S Γ' rest E ∧ dS S.K Γ' E Z σ H) := fun pins s σ H Z I ⟨Γ', hb, q⟩ => hb X o pins s σ H Z I q
  refine fun pins s σ H Z I ⟨φ, ω, r, c⟩ => pss_cons (h X o) h2 pins s σ H Z I ?_
  exact ⟨φ, ω, r, { n := fun ω' σ' H' Γ' hb r' k => ⟨Γ', hb, φ, ω', r', c.step k⟩, rt := c.rt, bk := c.bk, ct := c.ct, rf := c.rf }⟩
/-- the slot i's list is complete -/
theorem b_frz (i : Nat) {ds : List D} (hi : Γ[i]? = some (.own ds)) (h : JB S (Γ.set i (.val (.lst ds))) rest E) : JB S Γ rest E := .mk fun X o pins s σ H Z I ⟨φ, ω, r, c⟩ => by
  obtain ⟨ω', r', k⟩ := r.frz hi
  exact h X o pins s σ H Z I ⟨φ, ω', r', c.step k⟩

theorem s_ret {d : D} (he : JE S Γ e d) (h : E.rt d Γ) : JS S Γ (.Return (some e) pos) E := .mk fun X o =>
  ps_imp (ps_ret (he X o)) fun Z σ H ⟨φ, ω, r, c⟩ => ⟨both φ ω, r.re, fun v H' e' rv => c.rt ω σ v H' d Γ h (r.mono e') (Kp.of e') rv⟩
theorem s_drop {d : D} (he : JE S Γ e d) (h : E.nx Γ) (hs : ∀ X : Cx, swapsWith e none pos.line X.env = pure false := by intro _; rfl) : JS S Γ (.Expr e pos) E := .mk fun X o =>
  ps_imp (ps_expr (he X o) (hs X)) fun Z σ H ⟨φ, ω, r, c⟩ => ⟨both φ ω, r.re, fun v H' e' rv => c.n ω σ H' Γ h (r.mono e') (Kp.of e')⟩
theorem s_if {q : Bool} {sa sb : List Stmt} (hc : JT S Γ c q) (ha : q = true → JB S Γ sa E) (hb : q = false → JB S Γ sb E) : JS S Γ (.If c sa sb pos) E := .mk fun X o => by
  cases q with
  | true => exact ps_imp (ps_if (hc X o) (ha rfl X o) pss_never) fun Z σ H ⟨φ, ω, r, c⟩ => ⟨both φ ω, r.re, fun H1 e => iteT ⟨φ, ω, r.mono e, c.step (Kp.of e)⟩⟩
  | false => exact ps_imp (ps_if (hc X o) pss_never (hb rfl X o)) fun Z σ H ⟨φ, ω, r, c⟩ => ⟨both φ ω, r.re, fun H1 e => iteF ⟨φ, ω, r.mono e, c.step (Kp.of e)⟩⟩

/-- x = e -/
theorem s_set (i : Nat) {d : D} (he : JE S Γ e d) (h : E.nx (Γ.set i (.val d))) (hN : S.N.Nodup := by (try dsimp only [DL.Stat.blk]); decide +kernel) (hi : S.N[i]? = some x := by (try dsimp only [DL.Stat.blk]); decide +kernel) (hx : Loc S.sc x := by (try dsimp only [DL.Stat.blk]); decide +kernel)
    (hs : ∀ X : Cx, S.Of X → swapsWith e (some (.Name x pos')) pos.line X.env = pure false := by intro _ _; rfl) (htop : S.top = true := by rfl) : JS S Γ (.Assign [.Name x pos'] e pos) E := .mk fun X o =>
  ps_imp (ps_set (i := i) (by rw [o.N]; exact hN) (by rw [o.N]; exact hi) (by rw [o.sc]; exact hx) (he X o) (hs X o) (.inl (o.fn htop x))) fun Z σ H ⟨φ, ω, r, c⟩ =>
    ⟨both φ ω, r.re, fun v H' e' rv => c.n ω _ H' _ h ((r.mono e').set rv) (Kp.of e')⟩
/-- x = a new list that only x knows -/
theorem s_own (i : Nat) {ds : List D} (he : JF S Γ e ds) (h : E.nx (Γ.set i (.own ds))) (hiΓ : i < Γ.length := by exact Nat.le_of_ble_eq_true rfl) (hN : S.N.Nodup := by (try dsimp only [DL.Stat.blk]); decide +kernel) (hi : S.N[i]? = some x := by (try dsimp only [DL.Stat.blk]); decide +kernel) (hx : Loc S.sc x := by (try dsimp only [DL.Stat.blk]); decide +kernel)
    (hs : ∀ X : Cx, S.Of X → swapsWith e (some (.Name x pos')) pos.line X.env = pure false := by first | (intro _ _; rfl) | (intro _ o; exact DL.sw_cell o (by (try dsimp only [DL.Stat.blk]); decide +kernel))) (htop : S.top = true := by rfl) : JS S Γ (.Assign [.Name x pos'] e pos) E := .mk fun X o =>
  ps_imp (ps_set (i := i) (by rw [o.N]; exact hN) (by rw [o.N]; exact hi) (by rw [o.sc]; exact hx) (he X o) (hs X o) (.inl (o.fn htop x))) fun Z σ H ⟨φ, ω, r, c⟩ =>
    ⟨both φ ω, r.re, fun l vs H' hl e' hv hr => let ⟨r', k⟩ := r.take hiΓ hl e' hv hr; c.n _ _ H' _ h r' k⟩
/-- x.append(e), x a list of this body -/
theorem s_app (i : Nat) {ds : List D} {d : D} {al : Bool} {apos cpos : Pos} (hΓ : Γ[i]? = some (.li al ds)) (he : JE S Γ e d) (hl : ds.length < sizeLine) (h : E.nx (Γ.set i (.li al (ds ++ [d])))) (hi : S.N[i]? = some x := by (try dsimp only [DL.Stat.blk]); decide +kernel) (hv : Vis S.sc x := by (try dsimp only [DL.Stat.blk]); decide +kernel)
    (h1 : (x == ("__debug__" : Str)) = false := by (try dsimp only [DL.Stat.blk]); decide +kernel) (h2 : (x == ("__classdict__" : Str)) = false := by (try dsimp only [DL.Stat.blk]); decide +kernel)
    (hbase : ∀ env, attributeBase (.Name x p) "append" env (eval (.Name x p) env) = eval (.Name x p) env := by intro _; rfl)
    (hfew : ∀ env, ((backTo cpos (starEach [e] env)).all (fun x => !x.1) && (backToKw cpos (keywordEach [] env)).all (fun x => x.1.isSome)
      && decide ([e].length + ([] : List Keyword).length + (if ([] : List Keyword).isEmpty then 0 else 1) < 30)) = true := by intro _; rfl)
    (hline : (apos.endLine == cpos.line) = true := by rfl) (hs : ∀ env, starEach [e] env = [(false, eval e env)] := by intro _; rfl) (hsw : ∀ X : Cx, swapsWith (.Call (.Attribute (.Name x p) "append" apos) [e] [] cpos) none pos.line X.env = pure false := by intro _; rfl) :
    JS S Γ (.Expr (.Call (.Attribute (.Name x p) "append" apos) [e] [] cpos) pos) E := .mk fun X o => by
  have hA := (a_cons he a_nil hs) X o
  refine ps_imp (ps_expr (pe_bm PySem.F.plainAttrs_list PySem.F.slot_list_append PySem.F.type_list_append mt_append (pe_var (i := i) (by rw [o.N]; exact hi) (by rw [o.sc]; exact hv) h1 h2) hA (hbase X.env) (hfew X.env) hline (hs X.env)) (hsw X)) fun Z σ H ⟨φ, ω, r, c⟩ => ?_
  obtain ⟨l, vs, hσ, hω, φl, hH, hr⟩ := r.ownL i al ds hΓ
  refine ⟨.ref l, hσ, .inl ⟨rfl, vs, SqL.of hH⟩, both φ ω, r.re, fun ws H1 e1 rws => ?_⟩
  obtain ⟨v, rfl, rv⟩ := reps1 rws
  refine ⟨l, vs, v, rfl, rfl, e1 _ _ hH, by rw [hr.len]; exact hl, ?_⟩
  obtain ⟨r', k⟩ := (r.mono e1).put (ds' := ds ++ [d]) (vs' := vs ++ [v]) hΓ hω hσ ((Reps.mono (hid_same e1) _ hr).app (.one rv)) φl
  exact c.n ω σ _ _ h r' ((Kp.of e1).trans k)

/-- for x in iter -/
theorem s_for (i : Nat) {iter : Expr} {body : List Stmt} {β : Type} {us : List β} {g : β → D} {px : Pos} (hi : JI S Γ (.Name x px) iter (us.map g)) (Iv : Nat → List Sl → Prop) (h0 : Iv 0 Γ)
    (hb : ∀ (k : Nat) u Γ', us[k]? = some u → Iv k Γ' → JB S (Γ'.set i (.val (g u))) body { nx := Iv (k + 1), rt := E.rt, bk := E.nx, ct := Iv (k + 1), rf := E.rf }) (hd : ∀ Γ', Iv us.length Γ' → E.nx Γ')
    (hN : S.N.Nodup := by (try dsimp only [DL.Stat.blk]); decide +kernel) (hxi : S.N[i]? = some x := by (try dsimp only [DL.Stat.blk]); decide +kernel) (hx : Loc S.sc x := by (try dsimp only [DL.Stat.blk]); decide +kernel) (hs : ∀ env v, foldedSetIterable iter env v = pure v := by intro _ _; rfl)
    (htop : S.top = true := by rfl) : JS S Γ (.For (.Name x px) iter body [] pos) E := .mk fun X o => by
  obtain ⟨wi, hw1, hw2⟩ := hi
  have hB : PSs X body (fun Z σ H => ∃ k u Γ', us[k]? = some u ∧ Iv k Γ' ∧ dS S.K (Γ'.set i (.val (g u))) { nx := Iv (k + 1), rt := E.rt, bk := E.nx, ct := Iv (k + 1), rf := E.rf } Z σ H) := fun pins s σ H Z I ⟨k, u, Γ', h1, h2, q⟩ => hb k u Γ' h1 h2 X o pins s σ H Z I q
  refine ps_imp (ps_for o.own o.calm (hw1 X o) (pg_name (i := i) (by rw [o.N]; exact hN) (by rw [o.N]; exact hxi) (by rw [o.sc]; exact hx) (.inl (o.fn htop x))) hB (hs X.env)) fun Z σ H ⟨φ, ω, r, c⟩ => ?_
  refine hw2 σ H _ (both φ ω) r.re fun J H1 e1 itd => ?_
  refine ⟨fun k m σ' H' => m = us.length - k ∧ k ≤ us.length ∧ ∃ ω' Γ', Iv k Γ' ∧ RS S.K φ ω' H' σ' Γ' ∧ Kp φ ω H ω' H' ∧ Same (hidB (both φ ω) H1) (hidB (both φ ω') H'), ⟨us.length, by simp, Nat.zero_le _, ω, Γ, h0, r.mono e1, Kp.of e1, Same.refl _⟩, ?_⟩
  rintro k m σ' H' ⟨rfl, hk, ω', Γ', iv, r', kp, sm⟩
  obtain ⟨it1, it2⟩ := itd (both φ ω') H' sm
  by_cases hlt : k < us.length
  · have huk : us[k]? = some us[k] := List.getElem?_eq_getElem hlt
    generalize us[k] = u at huk
    have hdk : (us.map g)[k]? = some (g u) := by rw [List.getElem?_map, huk]; rfl
    obtain ⟨go, yl⟩ := it1 k (g u) hdk
    refine .inr ⟨go, fun σ2 H2 => k + 1 ≤ us.length ∧ ∃ ω2 Γ2, Iv (k + 1) Γ2 ∧ RS S.K φ ω2 H2 σ2 Γ2 ∧ Kp φ ω H ω2 H2 ∧ Same (hidB (both φ ω) H1) (hidB (both φ ω2) H2), fun σ2 H2 q => ⟨us.length - (k + 1), by omega, rfl, q⟩, fun y H3 hy => ?_⟩
    obtain ⟨e3, ry⟩ := yl y H3 hy
    subst e3
    have c' := c.step kp
    exact ⟨k, u, Γ', huk, iv, φ, ω', r'.set ry, { n := fun ω2 σ2 H2 Γ2 h2 r2 k2 => ⟨hlt, ω2, Γ2, h2, r2, kp.trans k2, sm.trans k2.same⟩, rt := c'.rt, bk := c'.n, ct := fun ω2 σ2 H2 Γ2 h2 r2 k2 => ⟨hlt, ω2, Γ2, h2, r2, kp.trans k2, sm.trans k2.same⟩, rf := c'.rf }⟩
  · have hke : k = us.length := by omega
    subst hke
    rw [List.length_map] at it2
    exact .inl ⟨it2, c.n ω' σ' H' Γ' (hd Γ' iv) r' kp⟩

/-- x = [..], x a plain local on the comprehension's own row -/
theorem comp_stmt (i : Nat) {elt iter : Expr} {y : Str} {py px : Pos} {spos : Pos} {ifs : List Expr} {scope : Scope} {β : Type} {us : List β} {g : β → D} (F : β → D) (pr : β → Bool) (hi : JI S Γ (.Name x px) iter (us.map g)) (hl : us.length ≤ sizeLine) (ht : ∀ u, u ∈ us → JIfs (S.blk x scope) (Γ ++ [.val (g u)]) ifs (pr u)) (he : ∀ u, u ∈ us → pr u = true → JE (S.blk x scope) (Γ ++ [.val (g u)]) elt (F u))
    (h : E.nx (Γ.set i (.own ((us.filter pr).map F)))) (hiΓ : i < Γ.length := by exact Nat.le_of_ble_eq_true rfl) (ok : compOk S.N S.sc x scope = true := by (try dsimp only [DL.Stat.blk]); decide +kernel) (hN : S.N.Nodup := by (try dsimp only [DL.Stat.blk]); decide +kernel) (hyi : S.N[i]? = some y := by (try dsimp only [DL.Stat.blk]); decide +kernel) (hyl : S.sc.names.lookup y = some .local := by (try dsimp only [DL.Stat.blk]); decide +kernel)
    (hsw : ∀ X : Cx, S.Of X → swapsWith (.ListComp elt [⟨.Name x px, iter, ifs, 0⟩] scope pos) (some (.Name y py)) spos.line X.env = pure true := by intro _ o; exact DL.sw_loc o (by (try dsimp only [DL.Stat.blk]); decide +kernel)) (hs : ∀ env v, foldedSetIterable iter env v = pure v := by intro _ _; rfl) :
    JS S Γ (.Assign [.Name y py] (.ListComp elt [⟨.Name x px, iter, ifs, 0⟩] scope pos) spos) E := .mk fun X o => by
  obtain ⟨wi, hw1, hw2⟩ := hi
  refine ps_imp (ps_comp (i := i) (tt := fun σ' H Q => ∃ u, u ∈ us ∧ dT S.K (Γ ++ [Sl.val (g u)]) (pr u) σ' H Q) (te := fun σ' H Q => ∃ u, u ∈ us ∧ pr u = true ∧ dE S.K (Γ ++ [Sl.val (g u)]) (F u) σ' H Q) o.calm (hw1 X o) o.N o.sc ok
    (fun C s₀ H₀ ex pins s σ H Q I ⟨u, hd, q⟩ => ht u hd _ (o.blk x scope C s₀ H₀ ex) pins s σ H Q I q) (fun C s₀ H₀ ex pins s σ H Q I ⟨u, hd, hp, q⟩ => he u hd hp _ (o.blk x scope C s₀ H₀ ex) pins s σ H Q I q) (by rw [o.N]; exact hN) (by rw [o.N]; exact hyi) (by rw [o.sc]; exact hyl) (hsw X o) (hs X.env)) fun Z σ H ⟨φ, ω, r, c⟩ => ?_
  exact comp_imp hl hw2 σ H _ ⟨both φ ω, r.re, fun l vs H' hl' e' hv hr => let ⟨r', k⟩ := r.take hiΓ hl' e' hv hr; c.n _ _ H' _ h r' k⟩
end

/-! ### defs -/
/-- a def's promise: at the arguments enc u, where dom u holds, it hands back res u and leaves all as it was -/
def spF {α : Type} (enc : α → List D) (dom : α → Prop) (res : α → D) (K : PySem.W.Frag) : Sp := fun vs H Q _ => ∃ (χ : Addr → Bool) (u : α), (∀ p, χ p = true → ∃ o : HN, H p = some o.1) ∧ Reps K (hidB χ H) (enc u) vs ∧ dom u ∧ ∀ v H', Same H H' → Rep K (hidB χ H') (res u) v → Q v H'
def startΓ (N : List Str) (ds : List D) : List Sl := ds.map Sl.val ++ List.replicate (N.length - ds.length) Sl.no
theorem kp_same {φ : Addr → Bool} {ω' : Addr → Option (Bool × Nat)} {H H' : Hp} (k : Kp φ (fun _ => none) H ω' H') : Same H H' := fun b o h => by
  cases c : φ b with
  | true => exact k.frn b o c h
  | false => exact hid_le b o (k.same b o (hid_of (by unfold both; rw [c]; rfl) h))
theorem start_RS {K : PySem.W.Frag} {N : List Str} {χ : Addr → Bool} {H : Hp} {ds : List D} {vs : List V} (hl : ∀ p, χ p = true → ∃ o : HN, H p = some o.1) (r : Reps K (hidB χ H) ds vs) : RS K χ (fun _ => none) H (L2.start N vs) (startΓ N ds) := by
  have eb : both χ (fun _ => none) = χ := by funext b; unfold both; simp
  refine ⟨by rw [eb]; exact hl, ?_, fun i d h => ?_, fun i a es h => ?_, fun _ _ _ h => nomatch h⟩
  · unfold L2.start startΓ
    rw [List.length_append, List.length_append, List.length_map, List.length_map, List.length_replicate, List.length_replicate, r.len]
  · unfold startΓ at h
    unfold L2.start
    by_cases hi : i < ds.length
    · rw [List.getElem?_append_left (by rw [List.length_map]; exact hi), List.getElem?_map] at h
      cases q : ds[i]? with
      | none => rw [q] at h; cases h
      | some d' =>
        rw [q] at h
        have h' : Sl.val d' = Sl.val d := Option.some.inj h
        cases h'
        obtain ⟨v, ev, rv⟩ := r.get q
        refine ⟨v, ?_, by rw [eb]; exact rv⟩
        rw [List.getElem?_append_left (by rw [List.length_map, r.len]; exact hi), List.getElem?_map, ev]
        rfl
    · rw [List.getElem?_append_right (by rw [List.length_map]; omega), List.getElem?_replicate] at h
      split at h <;> cases h
  · unfold startΓ at h
    by_cases hi : i < ds.length
    · rw [List.getElem?_append_left (by rw [List.length_map]; exact hi), List.getElem?_map] at h
      cases q : ds[i]? with
      | none => rw [q] at h; cases h
      | some d' => rw [q] at h; cases h
    · rw [List.getElem?_append_right (by rw [List.length_map]; omega), List.getElem?_replicate] at h
      split at h <;> cases h
section
variable {P : Program} {w : World} {K : PySem.W.Frag} {mg : Str → Option Value} {base : Heap} {α : Type} {enc : α → List D} {dom : α → Prop} {res : α → D}
/-- THE RULE for a def that raises nothing -/
theorem fn_D {x qual : Str} {st : Stmt} {f : Addr} {fd : FuncData} {N ps : List Str} {k : Nat} (F : Fun K x qual st f fd) (Sc : FnScope N ps (defScope st)) (hlen : ∀ u, dom u → (enc u).length = ps.length)
    (hb : ∀ u, dom u → JB ⟨P, w, K, mg, base, k, N, defScope st, true⟩ (startΓ N (enc u)) (defBody st) { nx := fun _ => res u = .non, rt := fun d _ => d = res u }) : FnOk P w K mg base CX0 (k + 1) f fd ps (spF enc dom res K) := by
  refine F.ok Sc (fun vs H Q E h => ?_) (fun cdv A outer s H vs Q E hr h => ?_)
  · obtain ⟨χ, u, _, r, hd, _⟩ := h
    rw [r.len, hlen u hd]
  · obtain ⟨χ, u, hl, r, hd, q⟩ := h
    refine ⟨_, hb u hd _ ⟨rfl, rfl, rfl, rfl, rfl, rfl, rfl, hr, rfl, PassesOwn.never, fun _ _ => rfl, fun _ => ⟨rfl, rfl⟩⟩, χ, fun _ => none, start_RS hl r, ?_, ?_, ?_, ?_, ?_⟩
    · intro ω' σ' H' Γ' hn _ k
      refine q .non H' (kp_same k) ?_
      rw [show res u = .non from hn]; exact rfl
    · intro ω' σ' v H' d Γ' hd' _ k rv
      cases (show d = res u from hd')
      refine q v H' (kp_same k) (rv.mono (fun b o h => ?_) _)
      obtain ⟨c1, c2⟩ := hid_some h
      refine hid_of ?_ c2
      cases c : χ b with
      | false => rfl
      | true => unfold both at c1; rw [c] at c1; cases c1
    · intro _ _ _ _ h; exact h.elim
    · intro _ _ _ _ h; exact h.elim
    · intro _ _ _ _ _ _ _ h; exact h.elim
/-- a call -/
theorem e_call {S : Stat} {Γ : List Sl} {f : Addr} {fd : FuncData} {ps : List Str} {x : Str} {p pos : Pos} {e : Expr} {es : List Expr} {j : Nat} (u : α) (F : FnOk S.P S.w S.K S.mg S.base CX0 j f fd ps (spF enc dom res S.K)) (hj : j ≤ S.k) (hm : S.mg x = some (.ref f)) (hk : PySem.W.keepIn S.K (.ref f) = true) (hb : Binds S.K fd ps [])
    (ha : JA S Γ (e :: es) (enc u)) (hd : dom u) (hg : S.sc.names.lookup x = some .globalImplicit := by (try dsimp only [DL.Stat.blk]); decide +kernel) (hdb : (x == ("__debug__" : Str)) = false := by (try dsimp only [DL.Stat.blk]); decide +kernel)
    (he : ∀ env, starEach (e :: es) env = (false, eval e env) :: starEach es env := by intro _; rfl) (hpl : ∀ env, (backTo pos (starEach es env)).any (·.1) = false := by intro _; rfl) : JE S Γ (.Call (.Name x p) (e :: es) [] pos) (res u) := .mk fun X o => by
  have F' : FnOk X.prog X.w X.K X.mg X.base CX0 j f fd ps (spF enc dom res S.K) := by rw [o.prog, o.w, o.K, o.mg, o.base]; exact F
  refine pe_imp (pe_call F' (o.room.mono hj) (gl_of o hg) (by rw [o.mg]; exact hm) (by rw [o.K]; exact hk) (by rw [o.K]; exact hb) .nil pass0 (ha X o) hdb (he X.env) (hpl X.env)) fun σ H Q ⟨χ, R, q⟩ => ⟨χ, R, fun vs H1 e1 rvs => ?_⟩
  show spF enc dom res S.K (vs ++ []) H1 Q E0
  rw [List.append_nil]
  exact ⟨χ, u, (R.mono e1).live, rvs, hd, fun v H' e2 rv => q v H' (e1.trans e2) rv⟩
/-! ### defs by name -/
def Def (K : PySem.W.Frag) (mg : Str → Option Value) (x : Str) (st : Stmt) (ps : List Str) : Prop := ∃ f fd, Fun K x x st f fd ∧ Binds K fd ps [] ∧ mg x = some (.ref f)
def FnAt (P : Program) (w : World) (K : PySem.W.Frag) (mg : Str → Option Value) (base : Heap) (k : Nat) (x : Str) (ps : List Str) (sp : Sp) : Prop := ∃ f fd, mg x = some (.ref f) ∧ PySem.W.keepIn K (.ref f) = true ∧ Binds K fd ps [] ∧ FnOk P w K mg base CX0 k f fd ps sp
theorem fn_at {x : Str} {st : Stmt} {N ps : List Str} {k : Nat} (F : Def K mg x st ps) (Sc : FnScope N ps (defScope st)) (hlen : ∀ u, dom u → (enc u).length = ps.length)
    (hb : ∀ u, dom u → JB ⟨P, w, K, mg, base, k, N, defScope st, true⟩ (startΓ N (enc u)) (defBody st) { nx := fun _ => res u = .non, rt := fun d _ => d = res u }) : FnAt P w K mg base (k + 1) x ps (spF enc dom res K) := by
  obtain ⟨f, fd, F, b, m⟩ := F
  exact ⟨f, fd, m, F.kp, b, fn_D F Sc hlen hb⟩
theorem e_fn {S : Stat} {Γ : List Sl} {ps : List Str} {x : Str} {p pos : Pos} {e : Expr} {es : List Expr} {j : Nat} (F : FnAt S.P S.w S.K S.mg S.base j x ps (spF enc dom res S.K)) (u : α) (ha : JA S Γ (e :: es) (enc u)) (hd : dom u) (hj : j ≤ S.k := by exact Nat.le_of_ble_eq_true rfl)
    (hg : S.sc.names.lookup x = some .globalImplicit := by (try dsimp only [DL.Stat.blk]); decide +kernel) (hdb : (x == ("__debug__" : Str)) = false := by (try dsimp only [DL.Stat.blk]); decide +kernel)
    (he : ∀ env, starEach (e :: es) env = (false, eval e env) :: starEach es env := by intro _; rfl) (hpl : ∀ env, (backTo pos (starEach es env)).any (·.1) = false := by intro _; rfl) : JE S Γ (.Call (.Name x p) (e :: es) [] pos) (res u) := by
  obtain ⟨f, fd, m, kp, b, F⟩ := F
  exact e_call u F hj m kp b ha hd hg hdb he hpl
/-! ### the law -/
def spLaw (K : PySem.W.Frag) : Sp := spF (fun ns : List Int => [D.lst (ns.map D.int)]) (fun ns => ns.length ≤ 63) (fun _ => .bl true) K
theorem hid_none {H : Hp} : hidB (fun _ => false) H = H := by funext b; unfold hidB; rw [if_neg Bool.false_ne_true]
theorem walk {l : PySem.W.OpenLaw} {q : Program} {loose : List Str} {XP : (Str → Option Value) → Heap → Prop} {YP : World → Heap → Prop} {d : DefRec} {K : Params → PySem.W.Frag} (hn : l.most = some 63) (hdf : d.params.defaults = [])
    (hY : ∀ (w : World) (h : Heap), YP w h → (K w.params).In h)
    (F : ∀ (w : World) (mg : Str → Option Value) (fa : Addr) (h : Heap), (K w.params).In h → h.Ns mainGlobals mg → mg d.name = some (.ref fa) →
      ∃ fd : FuncData, (∀ (s : Shared) (u : Value), BindsTo s fd ⟨[u], []⟩ [("script", u)]) ∧ ∀ base : Heap, (K w.params).In base → base.Ns mainGlobals mg → FnOk l.prog w (K w.params) mg base CX0 40 fa fd ["script"] (spLaw (K w.params))) :
    PySem.W.WalkO q loose XP YP l.row.toRowW d [] (fun f vs => PySem.call f vs) :=
  L2.walk_of (n := 63) (k := 40) (x := "script") (CX := fun _ => CX0) (sp := fun w => spLaw (K w.params)) hn (by decide) hdf ⟨rfl, rfl, by decide, by decide⟩ hY F (fun w H a ns hl _ hS => ⟨fun _ => false, ns, fun p hp => (nomatch hp), ⟨.ref a, [], rfl, ⟨a, ns.map V.int, rfl, by rw [hid_none]; exact hS, Reps.ints ns⟩, rfl⟩, hl, fun v H' _ rv => rv⟩) fun _ _ _ _ _ z => z
end
end DL

end
section
set_option Elab.async false
set_option linter.all false
set_option maxRecDepth 100000
set_option maxHeartbeats 400000
/-! reversed(a tuple): the object, its turns, tuple(reversed(t)), a loop over it. -/
namespace DRv
open PySem PySem.Spec PyProof.Rows
open Sem (wp)
open AutoSeq1 (wpAny_loadPart')
theorem s_next : Slot "reversed" "__next__" "reversed.__next__" :=
  .of (owner := "reversed") (n := "__next__") (by rw [typeLookup_type, builtinLookup_eq_fast]; kernel_rfl) (by decide +kernel) (by decide +kernel) (by decide +kernel) (by first | exact .inl (by decide +kernel) | exact .inr (by decide +kernel)) (by rw [isSubtype_type]; kernel_rfl)
theorem n_next : entryFor table "reversed.__next__" = some Builtin.«reversed.__next__» := entryFor_of_tree (by kernel_rfl)
theorem owner : Manifest.owners.lookup (String.ofList ['d', 'e', 's', 'r', 'e', 'v', 'e', 'r'].reverse) = some Manifest.sig_reversed := by kernel_rfl
theorem a_next (a : Value) : argsOk "reversed.__next__" ⟨[a], []⟩ := by
  unfold argsOk; rw [signature?_of (id := "reversed.__next__") (n := ['_', '_', 't', 'x', 'e', 'n', '_', '_']) (o := ['d', 'e', 's', 'r', 'e', 'v', 'e', 'r']) (by kernel_rfl) owner]; kernel_rfl
theorem s_iter : Slot "reversed" "__iter__" "reversed.__iter__" :=
  .of (owner := "reversed") (n := "__iter__") (by rw [typeLookup_type, builtinLookup_eq_fast]; kernel_rfl) (by decide +kernel) (by decide +kernel) (by decide +kernel) (by first | exact .inl (by decide +kernel) | exact .inr (by decide +kernel)) (by rw [isSubtype_type]; kernel_rfl)
theorem a_iter (a : Value) : argsOk "reversed.__iter__" ⟨[a], []⟩ := by
  unfold argsOk; rw [signature?_of (id := "reversed.__iter__") (n := ['_', '_', 'r', 'e', 't', 'i', '_', '_']) (o := ['d', 'e', 's', 'r', 'e', 'v', 'e', 'r']) (by kernel_rfl) owner]; kernel_rfl
theorem n_iter : entryFor table "reversed.__iter__" = some Builtin.«dict_keyiterator.__iter__» :=
  entryFor_alias (id' := "dict_keyiterator.__iter__") (by kernel_rfl) (by first | rfl | decide +kernel | (unfold String.splitOn; simp +decide [String.splitOnAux])) (by decide +kernel) (by kernel_rfl)
theorem get_tuple : typeLookup (.type "tuple") "__getitem__" = pure (some (.builtin "tuple.__getitem__")) := slot_tuple_getitem.lookup
def IsRv (h : Heap) (a t : Addr) (i : Int) : Prop := ∃ o, h.get? a = some o ∧ o.cls = .type "reversed" ∧ o.data = .fields #[.ref t, rawInt i]

section
variable {prog : Program} {w : World} {A : Around} {E : Value → Shared → Prop} {s : Shared}
theorem IsRv.typeIs {a t : Addr} {i : Int} (x : IsRv s.heap a t i) : s.TypeIs (.ref a) "reversed" := let ⟨o, ho, hc, _⟩ := x; ⟨o, ho, hc⟩
theorem IsRv.at {h h' : Heap} {a t : Addr} {i : Int} (x : IsRv h a t i) (e : ∀ o, h.get? a = some o → h'.get? a = some o) : IsRv h' a t i := let ⟨o, ho, r⟩ := x; ⟨o, e _ ho, r⟩

end
end DRv

end
section
set_option Elab.async false
set_option linter.all false
set_option maxRecDepth 100000
set_option maxHeartbeats 1000000
namespace DRv
open PySem PySem.Spec PyProof.Rows
open Sem (wp)
open AutoSeq1 (wpAny_loadPart')
section
variable {prog : Program} {w : World} {A : Around} {E : Value → Shared → Prop} {s : Shared}
theorem next_item {it t : Addr} {i : Nat} {items : Array Value} {x : Value} {Q : Option Value → Shared → Prop} (hz : items.size ≤ sizeLine) (hit : IsRv s.heap it t (i : Int)) (ht : s.heap.IsTuple t items) (hx : items[i]? = some x) (hne : t ≠ it)
    (hQ : ∀ h' tk, s.toks ≤ tk → IsRv h' it t ((i : Int) - 1) → Heap.SameBut it s.heap h' → Q (some x) { s with heap := h', toks := tk }) : wpAny (model prog w) A (pyNext (.ref it)) Q E s := by
  obtain ⟨o, ho, hc, hd⟩ := id hit
  have hi : i < items.size := (Array.getElem?_eq_some_iff.mp hx).1
  have hs := sizeLine_eq
  unfold pyNext
  refine wpAny_bind (wpAny_attempt (wpAny_callSpecial?_slot (name := Str.ofString "__next__") hit.typeIs s_next
    (wpAny_call_entry s_next hit.typeIs n_next ?_ (a_next _))))
  unfold Builtin.«reversed.__next__»
  refine wpAny_bind (wpAny_of_eq (a := (Value.ref it, [])) rfl ?_)
  try dsimp only
  refine wpAny_bind (wpAny_field ho hd (x := .ref t) rfl ?_)
  refine wpAny_bind (wpAny_field ho hd (x := rawInt (i : Int)) rfl ?_)
  show wpAny _ _ (if (i : Int) < 0 then _ else _) _ _ s
  rw [if_neg (by omega)]
  refine wpAny_bind (wpAny_specialOf ht.typeIs get_tuple ?_)
  show wpAny _ _ (if (some (Value.builtin "tuple.__getitem__")).isNone = true then _ else _) _ _ s
  rw [if_neg (by decide)]
  refine wpAny_bind (wpAny_mkInt ?_)
  refine wpAny_bind (wpAny_attempt (getItem_tuple (k := (i : Int)) (j := i) (s := { s with toks := s.toks + 1 }) ht (by omega) (by omega) ?_ hx ?_))
  · rw [seqIndex_of (by omega) (by omega), Int.toNat_natCast]
  dsimp only
  refine wpAny_bind (wpAny_field (s := { s with toks := s.toks + 1 }) ho hd (x := rawInt (i : Int)) rfl ?_)
  show wpAny _ _ (setField (.ref it) 1 (rawInt ((i : Int) - 1)) >>= fun _ => ret x) _ _ _
  refine wpAny_bind (wpAny_setField (s := { s with toks := s.toks + 1 }) ho hd (by simp) ?_)
  refine wpAny_pure ⟨x, rfl, wpAny_pure (hQ _ _ (Nat.le_succ _) ?_ (Heap.SameBut.update ..))⟩
  exact ⟨_, Heap.get?_update_self _ ho (Obj.isFreed_of_fields (Obj.data_mapFields hd _)), (Obj.cls_mapFields ..).trans hc, by
    rw [Obj.data_mapFields hd]; simp⟩

theorem next_end {it t : Addr} {Q : Option Value → Shared → Prop} (hh : A.handled = none) (hit : IsRv s.heap it t (-1))
    (hQ : ∀ h', Heap.ExtBut it s.heap h' → (∃ o, h'.get? it = some o) → Q none { s with heap := h' }) : wpAny (model prog w) A (pyNext (.ref it)) Q E s := by
  obtain ⟨o, ho, hc, hd⟩ := id hit
  unfold pyNext
  refine wpAny_bind (wpAny_attempt (wpAny_callSpecial?_slot (name := Str.ofString "__next__") hit.typeIs s_next
    (wpAny_call_entry s_next hit.typeIs n_next ?_ (a_next _))))
  unfold Builtin.«reversed.__next__»
  refine wpAny_bind (wpAny_of_eq (a := (Value.ref it, [])) rfl ?_)
  try dsimp only
  refine wpAny_bind (wpAny_field ho hd (x := .ref t) rfl ?_)
  refine wpAny_bind (wpAny_field ho hd (x := rawInt (-1)) rfl ?_)
  show wpAny _ _ (if (-1 : Int) < 0 then _ else _) _ _ s
  rw [if_pos (by decide)]
  refine wpAny_bind (wpAny_rule ?_)
  refine wpAny_bind ?_
  refine wpAny_bind (m := setField (.ref it) 1 (rawInt (-1))) (wpAny_setField ho hd (by simp) ?_)
  have ho1 := Heap.get?_update_self (Obj.mapFields (·.setIfInBounds 1 (rawInt (-1)))) ho (Obj.isFreed_of_fields (Obj.data_mapFields hd _))
  have hd1 := Obj.data_mapFields hd (·.setIfInBounds 1 (rawInt (-1)))
  refine wpAny_setField (s := { s with heap := _ }) ho1 hd1 (by simp) ?_
  have ho2 := Heap.get?_update_self (Obj.mapFields (·.setIfInBounds 0 .none)) ho1 (Obj.isFreed_of_fields (Obj.data_mapFields hd1 _))
  have ext : Heap.ExtBut it s.heap ((s.heap.update it (Obj.mapFields fun x => x.setIfInBounds 1 (rawInt (-1)))).update it (Obj.mapFields fun x => x.setIfInBounds 0 Value.none)) := fun b ob hb e =>
    (Heap.get?_update_other _ _ (Ne.symm hb)).trans ((Heap.get?_update_other _ _ (Ne.symm hb)).trans e)
  dsimp only
  generalize (s.heap.update it (Obj.mapFields fun x => x.setIfInBounds 1 (rawInt (-1)))).update it (Obj.mapFields fun x => x.setIfInBounds 0 Value.none) = h2 at ext ho2 ⊢
  refine wpAny_bind ?_
  show wpAny _ _ (newExc (.type "StopIteration") [] >>= fun x => raiseNew x) _ _ _
  refine wpAny_bind ?_
  simp only [newExc, newTuple]
  refine wpAny_bind (wpAny_newObj_type ?_ (by size_fits))
  refine wpAny_bind (m := firstArgMember _ _) (wpAny_of_eq (a := Value.none) (by first | rfl | (simp only [firstArgMember]; rfl)) ?_)
  refine wpAny_newObj_type ?_ (by size_fits)
  simp only [raiseNew]
  refine wpAny_bind (wpAny_handled ?_)
  first | rw [show A.in1.handled = none from hh] | rw [hh]
  refine wpAny_bind (wpAny_pure (wpAny_throw ?_))
  refine wpAny_bind (wpAny_isInstance (T := "StopIteration") (b := true) ⟨_, Heap.get?_push_size _ rfl, rfl⟩ isSubtype_stop ?_)
  exact wpAny_pure (hQ _ ((ext.push _).push _) ⟨_, Heap.get?_push_of_some _ (Heap.get?_push_of_some _ ho2)⟩)

theorem iter_self {it t : Addr} {i : Int} {Q : Value → Shared → Prop} (hit : IsRv s.heap it t i) (h : Q (.ref it) s) : wpAny (model prog w) A (pyIter (.ref it)) Q E s := by
  refine wpAny_pyIter_slot hit.typeIs s_iter (wpAny_call_entry s_iter hit.typeIs n_iter ?_ (a_iter _))
  show wpAny _ _ (ret (.ref it)) _ _ s
  exact wpAny_pure ⟨_, rfl, "reversed", _, hit.typeIs, s_next.lookup, h⟩

end

theorem walks {prog : Program} {w : World} {A : Around} (hh : A.handled = none) (I t : Addr) (hne : t ≠ I) (items : Array Value) (hz : items.size ≤ sizeLine) :
    Walks prog w A I [I, t] [I] items.size (fun i v => items[items.size - 1 - i]? = some v) (fun i h => i ≤ items.size ∧ IsRv h I t ((items.size : Int) - 1 - (i : Int)) ∧ h.IsTuple t items) where
  sub := fun b hb => by simp at hb; simp [hb]
  frame := fun _ _ _ x hk => ⟨x.1, x.2.1.at fun o e => hk I (by simp) o e, let ⟨o, ho, r⟩ := x.2.2; ⟨o, hk t (by simp) o ho, r⟩⟩
  item := fun i s Q E hi x hQ => by
    have e : (items.size : Int) - 1 - (i : Int) = ((items.size - 1 - i : Nat) : Int) := by omega
    have hit := x.2.1
    rw [e] at hit
    have hx : items[items.size - 1 - i]? = some (items[items.size - 1 - i]'(by omega)) := Array.getElem?_eq_getElem (by omega)
    refine next_item hz hit x.2.2 hx hne fun h' tk _ hit' hs' => ?_
    have e2 : ((items.size - 1 - i : Nat) : Int) - 1 = (items.size : Int) - 1 - ((i + 1 : Nat) : Int) := by omega
    rw [e2] at hit'
    exact hQ _ h' tk hx ⟨hi, hit', let ⟨o, ho, r⟩ := x.2.2; ⟨o, (hs'.2 t hne).trans ho, r⟩⟩ fun b o hb eo => hs'.extBut b o (fun h => hb (by simp [h])) eo
  done := fun s Q E x hQ => by
    have e : (items.size : Int) - 1 - (items.size : Int) = -1 := by omega
    have hit := x.2.1
    rw [e] at hit
    exact next_end hh hit fun h' he' _ => hQ h' s.toks fun b o hb eo => he' b o (fun h => hb (by simp [h])) eo
  self := fun _ _ _ _ x hQ => iter_self x.2.1 hQ

section
variable {prog : Program} {w : World} {A : Around} {E : Value → Shared → Prop} {s : Shared}
end

/-! ### over the layer -/
open L2
section
variable {X : Cx}
variable {e : Expr} {te : TE} {pins : List (Addr × Obj)} {σ : L2.St} {H : Hp} {s : Shared} {tg : Expr} {p p' pos pos' : Pos}
end
end DRv
namespace DL
open PySem PySem.Spec PyProof.Rows L2 DRv
section
variable {S : Stat} {Γ : List Sl} {pos pos' p p' : Pos} {e tg : Expr}
end
end DL

end
section
set_option linter.all false
/-! Boards as lists of rows: turning, sliding, in the program's way and in the law's. -/
namespace BM
abbrev Bd := List (List Int)
structure Rect (w h : Nat) (b : Bd) : Prop where
  len : b.length = h
  row : ∀ r ∈ b, r.length = w

/-! ### the program's -/
def mir (b : Bd) : Bd := b.map List.reverse
def col (b : Bd) (x : Nat) : List Int := b.reverse.map fun r => r.getD x 0
def qt (w : Nat) (b : Bd) : Bd := (List.range w).map (col b)
/-- n quarters of a board whose width is w and height h -/
def qts : Nat → Nat → Nat → Bd → Bd
  | 0, _, _, b => b
  | n + 1, w, h, b => qts n h w (qt w b)
def turn (w h : Nat) (t : Nat) (b : Bd) : Bd := qts (t % 4) w h (if 4 ≤ t then mir b else b)
def rowSlid (r : List Int) (a : Int) : List Int := (List.range r.length).map fun x : Nat => r.getD (((x : Int) - a) % (r.length : Int)).toNat 0
def slid (b : Bd) (a c : Int) : Bd := (List.range b.length).map fun y : Nat => (b.map (rowSlid · a)).getD (((y : Int) - c) % (b.length : Int)).toNat []
/-! ### the law's -/
theorem getD_lt {α : Type} (l : List α) (i : Nat) (d : α) (h : i < l.length) : l.getD i d = l[i] := by
  rw [List.getD_eq_getElem?_getD, List.getElem?_eq_getElem h]; rfl
end BM

end
section
set_option linter.all false
namespace BM
/-! the law's boards: a row of numbers -/
def nxt (c : Int) : Int := (c * 48271 + 13) % 2147483647
def it : Nat → Int → Int
  | 0, c => c
  | n + 1, c => nxt (it n c)
def genRow (c col : Int) (k n : Nat) : List Int := (List.range n).map fun x => it (k + x + 1) c / 7 % col
def gen (c col : Int) (w h : Nat) : Bd := (List.range h).map fun y => genRow c col (y * w) w
theorem gen_rect (c col : Int) (w h : Nat) : Rect w h (gen c col w h) := by
  refine ⟨by unfold gen; rw [List.length_map, List.length_range], fun r hr => ?_⟩
  obtain ⟨y, _, rfl⟩ := List.mem_map.mp hr
  unfold genRow; rw [List.length_map, List.length_range]
end BM

end
section
set_option linter.all false
namespace BM
/-! ### boards as cells over all whole numbers -/
def cell (w h : Nat) (b : Bd) (x y : Int) : Int := (b.getD (y % (h : Int)).toNat []).getD (x % (w : Int)).toNat 0
section
variable {w h : Nat} {b : Bd}
end
/-! ### turnings as maps of places -/
def gq : Nat → Int × Int → Int × Int
  | 0, p => p
  | k + 1, p => ((gq k p).2, -1 - (gq k p).1)
def ga (t : Nat) (p : Int × Int) : Int × Int := if 4 ≤ t then (-1 - (gq (t % 4) p).1, (gq (t % 4) p).2) else gq (t % 4) p
/-! ### deeds -/
structure Deed where
  t : Nat
  a : Int
  b : Int
deriving DecidableEq
def dn (w h : Nat) (B : Bd) (d : Deed) : Bd := slid (turn w h d.t B) d.a d.b
def tb (s t : Nat) : Nat := ((if 4 ≤ t then (t : Int) - s else (s : Int) + t) % 4).toNat + (if (decide (4 ≤ s)) != decide (4 ≤ t) then 4 else 0)
/-! the law's turning, by nine unlike cells -/
def B9 : Bd := [[0, 1, 2], [3, 4, 5], [6, 7, 8]]
theorem nine {s t : Nat} (hs : s < 8) (ht : t < 8) : ∃ l, (List.range 8).filter (fun u => decide (dn 3 3 B9 ⟨u, 0, 0⟩ = dn 3 3 (dn 3 3 B9 ⟨s, 0, 0⟩) ⟨t, 0, 0⟩)) = tb s t :: l := by
  have key : ∀ s < 8, ∀ t < 8, ((List.range 8).filter (fun u => decide (dn 3 3 B9 ⟨u, 0, 0⟩ = dn 3 3 (dn 3 3 B9 ⟨s, 0, 0⟩) ⟨t, 0, 0⟩))).head? = some (tb s t) := by decide +kernel
  have := key s hs t ht
  generalize (List.range 8).filter _ = l at this
  cases l with
  | nil => cases this
  | cons a l => exact ⟨l, by rw [Option.some.inj this]⟩
end BM

end
section
set_option Elab.async false
set_option linter.all false
set_option maxRecDepth 100000
set_option maxHeartbeats 4000000
namespace DL
open PySem PySem.Spec PyProof.Rows L2
/-! ### data as maps over lists: len, items, ranges of naturals -/
abbrev rowD (r : List Int) : D := .tup (r.map D.int)
abbrev bdD (b : BM.Bd) : D := .tup (b.map rowD)
abbrev intsD (r : List Int) : D := .lst (r.map D.int)
section
variable {S : Stat} {Γ : List Sl} {pos p : Pos} {e a b : Expr} {tg : Expr} {α : Type} {l : List α} {f : α → D}
theorem e_lenTM (h : JE S Γ a (.tup (l.map f))) (hm : S.mg "len" = none) (hg : S.sc.names.lookup ("len" : Str) = some .globalImplicit := by (try dsimp only [DL.Stat.blk]); decide +kernel) (hs : ∀ env, starEach [a] env = [(false, eval a env)] := by intro _; rfl) : JE S Γ (.Call (.Name "len" p) [a] [] pos) (.int (l.length : Nat)) :=
  (e_lenT h hm hg hs).cast (by rw [List.length_map])
theorem e_lenLM (h : JE S Γ a (.lst (l.map f))) (hm : S.mg "len" = none) (hg : S.sc.names.lookup ("len" : Str) = some .globalImplicit := by (try dsimp only [DL.Stat.blk]); decide +kernel) (hs : ∀ env, starEach [a] env = [(false, eval a env)] := by intro _; rfl) : JE S Γ (.Call (.Name "len" p) [a] [] pos) (.int (l.length : Nat)) :=
  (e_lenL h hm hg hs).cast (by rw [List.length_map])
theorem atI_get {i : Int} (d : α) (h0 : 0 ≤ i) (h1 : i < (l.length : Nat)) : atI (l.map f) i = some (f (l.getD i.toNat d)) := by
  have hn : i.toNat < l.length := by omega
  unfold atI ixN
  rw [List.length_map, if_pos h0, if_pos h1]
  show (l.map f)[i.toNat]? = _
  rw [List.getElem?_map, List.getElem?_eq_getElem hn, BM.getD_lt l _ d hn]
  rfl
theorem e_ixTM {i : Int} (d : α) (ha : JE S Γ a (.tup (l.map f))) (hb : JE S Γ b (.int i)) (h0 : 0 ≤ i) (h1 : i < (l.length : Nat)) (hs : PlainIx b := by intro _ _; rfl) : JE S Γ (.Subscript a b pos) (f (l.getD i.toNat d)) := e_ixT ha hb (atI_get d h0 h1) hs
theorem e_ixLM {i : Int} (d : α) (ha : JE S Γ a (.lst (l.map f))) (hb : JE S Γ b (.int i)) (h0 : 0 ≤ i) (h1 : i < (l.length : Nat)) (hs : PlainIx b := by intro _ _; rfl) : JE S Γ (.Subscript a b pos) (f (l.getD i.toNat d)) := e_ixL ha hb (atI_get d h0 h1) hs
theorem JW.cast {d d' : Bool} (h : JW S Γ e d) (q : d = d') : JW S Γ e d' := q ▸ h
abbrev natD (i : Nat) : D := .int (i : Nat)
theorem rangeD0 (n : Nat) : rangeD 0 n = (List.range n).map natD := by
  unfold rangeD; apply List.map_congr_left; intro i _; rw [Int.zero_add]
theorem i_rngN {n : Nat} (h : JE S Γ a (.int (n : Nat))) (hm : S.mg "range" = none) (hn : n < 2 ^ 62) (hg : S.sc.names.lookup ("range" : Str) = some .globalImplicit := by (try dsimp only [DL.Stat.blk]); decide +kernel) (hs : ∀ env, starEach [a] env = [(false, eval a env)] := by intro _; rfl) : JI S Γ tg (.Call (.Name "range" p) [a] [] pos) ((List.range n).map natD) := by
  have q := i_rng1 (tg := tg) (p := p) (pos := pos) h hm (by omega) hg hs
  rw [Int.toNat_natCast, rangeD0] at q
  exact q
theorem i_tupM (h : JE S Γ e (.tup (l.map f))) : JI S Γ tg e (l.map f) := i_tup h
end
/-! ### boards and deeds compared -/
section
variable {S : Stat} {Γ : List Sl} {pos : Pos} {a b : Expr}
end
/-! ### the sizes of boards -/
open BM
structure BdIn (w h : Nat) (b : Bd) : Prop where
  r : Rect w h b
  w0 : 0 < w
  h0 : 0 < h
  w1 : w ≤ 1000
  h1 : h ≤ 1000
theorem m8 (c : Int) (n : Nat) (hn : 0 < n) : ∃ w : Nat, 1 + c % (n : Int) = (w : Int) ∧ 1 ≤ w ∧ w ≤ n := by
  have h1 := Int.emod_nonneg c (show (n : Int) ≠ 0 by omega)
  have h2 := Int.emod_lt_of_pos c (show (0 : Int) < n by omega)
  exact ⟨(1 + c % (n : Int)).toNat, by omega, by omega, by omega⟩
theorem m0 (c : Int) (n : Nat) (hn : 0 < n) : ∃ w : Nat, c % (n : Int) = (w : Int) ∧ w < n := by
  have h1 := Int.emod_nonneg c (show (n : Int) ≠ 0 by omega)
  have h2 := Int.emod_lt_of_pos c (show (0 : Int) < n by omega)
  exact ⟨(c % (n : Int)).toNat, by omega, by omega⟩
end DL

end
section
set_option Elab.async false
set_option linter.all false
set_option maxRecDepth 100000
set_option maxHeartbeats 4000000
namespace DL
open PySem PySem.Spec PyProof.Rows L2
/-! ### texts: walked, joined, split, str(), int() -/
section
variable {X : Cx}
theorem vals_strs : ∀ {ts : List Str} {us : List Value}, Vals (ts.map V.str) us → ∃ l, us = strValues l ∧ l.map (·.1) = ts
  | [], _, .nil => ⟨[], rfl, rfl⟩
  | t :: ts, _, .cons r h => by
    obtain ⟨k, rfl⟩ := r
    obtain ⟨l, rfl, e⟩ := vals_strs h
    exact ⟨(t, k) :: l, rfl, by rw [List.map_cons, e]⟩
theorem strs_vals : ∀ (l : List (Str × Tok)), Vals ((l.map (·.1)).map V.str) (strValues l)
  | [] => .nil
  | (t, k) :: l => .cons ⟨k, rfl⟩ (strs_vals l)
theorem mt_join : MtR X "str.join" (fun x xs H Q => ∃ sep p ts, x = .str sep ∧ xs = [.ref p] ∧ SqL X.K H p (ts.map V.str) ∧ JoinOk sep ts = true ∧ Q (.str (Str.join sep ts)) H) := by
  intro pins s σ H x vs v us Q I rx rv h
  obtain ⟨sep, p, ts, rfl, rfl, sq, ok, q⟩ := h
  obtain ⟨t, rfl⟩ := rx
  obtain ⟨u, rfl, ru⟩ := rv.one
  cases ru
  obtain ⟨its, rvs, pl, _⟩ := I.list sq
  obtain ⟨l, rfl, el⟩ := vals_strs rvs
  refine SC.join pl.isList el ok fun t' k => ⟨.str (Str.join sep ts), H, I.tok k, ⟨t', ?_⟩, q⟩
  show Value.str (Builtin.Str.glued sep ts) t' = _
  rw [StrLaws.glued_eq_join]
theorem mt_endswith : MtR X "str.endswith" (fun x xs H Q => ∃ a b, x = .str a ∧ xs = [.str b] ∧ Q (.bl (Txt.endswith a b)) H) := by
  intro pins s σ H x vs v us Q I rx rv h
  obtain ⟨a, b, rfl, rfl, q⟩ := h
  obtain ⟨t, rfl⟩ := rx
  obtain ⟨u, rfl, ru⟩ := rv.one
  obtain ⟨t', rfl⟩ := ru
  exact SC.endswith ⟨.bl _, H, I, rfl, q⟩
theorem call_split {s : Shared} {x y : Str} {t u : Tok} {P : Program} {w : World} {A : Around} {E : Value → Shared → Prop} {Q : Value → Shared → Prop} (hy : (y.length == 0) = false)
    (hq : ∀ (l : List (Str × Tok)) tk, l.map (·.1) = Txt.split x y → Q (.ref s.heap.objs.size) { s with heap := s.heap.push { cls := .type "list", data := .seq (strValues l).toArray }, toks := tk })
    (hsz : x.length ≤ sizeLine) (hsz2 : (Txt.split x y).length ≤ sizeLine) : wpAny (model P w) A (call (.builtin "str.split") [.str x t, .str y u]) Q E s := by
  cases h1 : (decide (x.length < y.length) || decide (Builtin.Str.strKind x < Builtin.Str.strKind y))
  · cases hf : (Builtin.Str.occurrences x y 0 x.length (x.length + 1)).isEmpty
    · have es : Txt.split x y = Builtin.Str.partsBetween x (Builtin.Str.occurrences x y 0 x.length (x.length + 1)) y.length := (if_neg (ne_true_of_eq_false h1)).trans (if_neg (ne_true_of_eq_false hf))
      rw [es] at hsz2
      refine call_meets F.slot_str_split (typeIs_str _ _ _) F.entry_str_split (F.args_str_split_2 _ _) (meets_str_split_sep x y t u h1 hy hf hsz hsz2) ?_
      show wants Q E _ { s with toks := _, heap := s.heap.push { cls := .type "list", data := .seq (strsFrom s.toks (Builtin.Str.partsBetween x (Builtin.Str.occurrences x y 0 x.length (x.length + 1)) y.length)).toArray } }
      rw [strsFrom_eq]
      exact hq (numbered s.toks _) _ ((numbered_texts _ _).trans es.symm)
    · exact call_meets F.slot_str_split (typeIs_str _ _ _) F.entry_str_split (F.args_str_split_2 _ _) (meets_str_split_not_found x y t u h1 hy hf)
        (hq [(x, t)] _ ((if_neg (ne_true_of_eq_false h1)).trans (if_pos hf)).symm)
  · exact call_meets F.slot_str_split (typeIs_str _ _ _) F.entry_str_split (F.args_str_split_2 _ _) (meets_str_split_cannot_occur x y t u h1)
      (hq [(x, t)] _ (if_pos h1).symm)
theorem mt_split : MtR X "str.split" (fun x xs H Q => ∃ a b, x = .str a ∧ xs = [.str b] ∧ (b.length == 0) = false ∧ a.length ≤ sizeLine ∧ (Txt.split a b).length ≤ sizeLine ∧ ∀ l, H l = none → Q (.ref l) (upd H l (.lst ((Txt.split a b).map V.str)))) := by
  intro pins s σ H x vs v us Q I rx rv h
  obtain ⟨a, b, rfl, rfl, hb, ha, hl, q⟩ := h
  obtain ⟨t, rfl⟩ := rx
  obtain ⟨u, rfl, ru⟩ := rv.one
  obtain ⟨t', rfl⟩ := ru
  refine call_split hb (fun l tk el => ?_) ha hl
  have vs := strs_vals l
  rw [el] at vs
  exact ⟨.ref s.heap.objs.size, _, I.lnew (ys := (Txt.split a b).map V.str) vs (by rw [List.length_map]; exact hl), rfl, q _ I.fresh⟩
theorem c_intS : CallR X (.type "int") (fun xs H Q => ∃ x n, xs = [.str x] ∧ PySem.intText? x = some n ∧ x.length ≤ 640 ∧ Q (.int n) H) := by
  intro pins s σ H xs us Q I r h
  obtain ⟨x, n, rfl, hn, hl, q⟩ := h
  obtain ⟨u, rfl, ru⟩ := r.one
  obtain ⟨t, rfl⟩ := ru
  exact PySem.W.KIN.call_text hn hl ⟨.int n, H, I.tok _, ⟨_, rfl⟩, q⟩
def chD (c : Nat) : D := .str ⟨#[c]⟩
/-! #### for x in a text -/
def Its (x : Str) : It := ⟨fun i _ => i < x.cps.size, fun i H y H' => H' = H ∧ ∃ c, x.cps[i]? = some c ∧ y = .str ⟨#[c]⟩, fun i _ => x.cps.size ≤ i⟩
theorem turn_str {P : Program} {w : World} {K : PySem.W.Frag} {tg : Expr} (it : Addr) (x : Str) (t : Tok) (wd : Bool) : Turn P w K tg (Its x) [it] it (fun i h => i ≤ x.cps.size ∧ h.IsStrIter it (if wd then "str_iterator" else "str_ascii_iterator") x t i) where
  mem := by simp
  obj := fun i h st b hb => by
    have e : b = it := by simpa using hb
    subst e
    obtain ⟨_, o, e, c, d⟩ := st
    exact ⟨o, e, fun v z => by rw [d] at z; cases z⟩
  keep := fun i h h' st k => let ⟨z, o, e, r⟩ := st; ⟨z, o, k it (by simp) o e, r⟩
  item := by
    intro X hP hw hK hc i pins s σ H E I hf st hg
    subst hP hw hK
    obtain ⟨hz, st⟩ := st
    obtain ⟨f0, f1, f2, f3, f4, f5⟩ := hf it (by simp)
    have hi : i < x.cps.size := hg
    have go : ∀ (h' : Heap) (tk : Tok), h'.IsStrIter it (if wd then "str_iterator" else "str_ascii_iterator") x t (i + 1) → (∀ b o, b ≠ it → s.heap.get? b = some o → h'.get? b = some o) →
        ∃ u, some (Value.str ⟨#[x.cps[i]]⟩ tk) = some u ∧ wpAny (model X.prog X.w) X.A (letOwnedTupleGo tg (.ref it) u) (fun _ s2 => ∃ y H', L2.Inv X pins σ H' s2 ∧ RelV y u ∧ (Its x).yld i H y H' ∧ (i + 1 ≤ x.cps.size ∧ s2.heap.IsStrIter it (if wd then "str_iterator" else "str_ascii_iterator") x t (i + 1)) ∧ ∀ b ∈ [it], H' b = none) E { s with heap := h', toks := s.toks + 1 } := by
      intro h' tk st' kk
      have I1 : L2.Inv X pins σ H { s with heap := h', toks := s.toks + 1 } := I.turned (fun b o hb e => kk b o hb e) f0 f1 f3 f4 f5
      obtain ⟨o, e, c, d⟩ := id st'
      refine ⟨_, rfl, go_of (s := { s with heap := h', toks := s.toks + 1 }) e c d (by cases wd <;> decide) ⟨.str ⟨#[x.cps[i]]⟩, H, I1, ⟨tk, rfl⟩, ⟨rfl, x.cps[i], by simp [hi], rfl⟩, ⟨hi, st'⟩, fun b hb => (hf b hb).1⟩⟩
    cases wd with
    | true => exact wpAny_pyNext_wide_item st (c := x.cps[i]) (by simp [hi]) fun h' st' sb => go h' _ st' fun b o hb e => (sb.2 b hb).trans e
    | false => exact wpAny_pyNext_ascii_item st (c := x.cps[i]) (by simp [hi]) fun h' st' sb => go h' _ st' fun b o hb e => (sb.2 b hb).trans e
  done := by
    intro X hP hw hK hc i pins s σ H E I hf st hg
    subst hP hw hK
    obtain ⟨hz, st⟩ := st
    have hg' : x.cps.size ≤ i := hg
    have hi : i = x.cps.size := Nat.le_antisymm hz hg'
    obtain ⟨f0, f1, f2, f3, f4, f5⟩ := hf it (by simp)
    subst hi
    cases wd with
    | true => exact wpAny_pyNext_wide_end (I.ok.hd hc) st (by simp) fun h' eb => ⟨rfl, I.turned (t' := s.toks) (fun b o hb e => eb b o hb e) f0 f1 f3 f4 f5⟩
    | false => exact wpAny_pyNext_ascii_end (I.ok.hd hc) st (by simp) fun h' eb => ⟨rfl, I.turned (t' := s.toks) (fun b o hb e => eb b o hb e) f0 f1 f3 f4 f5⟩
  self := fun _ _ _ _ _ st h => by
    obtain ⟨_, st⟩ := st
    cases wd with
    | true => exact wpAny_pyIter_striter_wide st h
    | false => exact wpAny_pyIter_striter_ascii st h
def iStr (te : TE) : TI := fun σ H R => te σ H fun y H1 => ∃ x, y = .str x ∧ R (Its x) H1
theorem pi_str {tg e : Expr} {te : TE} (he : PE X e te) : PI X tg e (iStr te) := by
  intro pins s σ H R I h
  refine thn (he pins s σ H _ I h) fun v s1 ⟨y, H1, I1, r1, q1⟩ => ?_
  obtain ⟨x, rfl, q⟩ := q1
  obtain ⟨t, rfl⟩ := r1
  have fp : ∀ b ∈ [s1.heap.objs.size], FpOk X pins H1 b := fun b hb => by
    have e : b = s1.heap.objs.size := by simpa using hb
    subst e
    exact I1.fpOk (Nat.le_refl _) (I1.hok.fresh (Nat.le_refl _))
  cases ha : x.cps.all (· < 128) with
  | true =>
    refine wpAny_pyIter_ascii ha ⟨s1.heap.objs.size, [s1.heap.objs.size], _, _, H1, rfl, I1.kept (t' := s1.toks) fun b o e => Heap.get?_push_of_some _ e, turn_str _ x t false, ⟨Nat.zero_le _, _, Heap.get?_push_size _ rfl, rfl, rfl⟩, fp, q⟩
  | false =>
    refine wpAny_pyIter_wide ha ⟨s1.heap.objs.size, [s1.heap.objs.size], _, _, H1, rfl, I1.kept (t' := s1.toks) fun b o e => Heap.get?_push_of_some _ e, turn_str _ x t true, ⟨Nat.zero_le _, _, Heap.get?_push_size _ rfl, rfl, rfl⟩, fp, q⟩
end
section
variable {S : Stat} {Γ : List Sl} {E : DEnds} {pos p p' apos cpos : Pos} {e a b o : Expr} {tg : Expr}
theorem i_str {x : Str} (h : JE S Γ e (.str x)) : JI S Γ tg e (x.cps.toList.map chD) := ⟨iStr (dE S.K Γ (.str x)), fun X o => pi_str (h X o), fun σ H R χ r q => ⟨χ, r, fun v H' e' rv => by
  cases (show v = _ from rv)
  refine ⟨x, rfl, q _ H' e' fun χ2 H2 e2 => ⟨fun i d hd => ?_, ?_⟩⟩
  · rw [List.getElem?_map] at hd
    obtain ⟨c, hc, rfl⟩ := Option.map_eq_some_iff.mp hd
    have hc' : x.cps[i]? = some c := by rw [← Array.getElem?_toList]; exact hc
    refine ⟨(Array.getElem?_eq_some_iff.mp hc').1, fun y H3 ⟨e3, c', h1, h2⟩ => ⟨e3, ?_⟩⟩
    rw [hc'] at h1
    cases h1
    exact h2
  · rw [List.length_map, Array.length_toList]; exact Nat.le_refl _⟩⟩
theorem e_addS {i j : Str} (ha : JE S Γ a (.str i)) (hb : JE S Γ b (.str j)) (hl : i.length + j.length ≤ sizeLine) : JE S Γ (.BinOp a .Add b pos) (.str (i ++ j)) := e_op (fun _ _ => op_add_str) ha hb fun _ H _ _ _ _ rx ry q => ⟨i, j, rx, ry, hl, q _ H (Same.refl H) rfl⟩
theorem e_ixS {x : Str} {i : Int} {c : Nat} (ha : JE S Γ a (.str x)) (hb : JE S Γ b (.int i)) (h : atI x.cps.toList i = some c) (hx : x.length ≤ sizeLine) (hs : PlainIx b := by intro _ _; rfl) : JE S Γ (.Subscript a b pos) (chD c) := .mk fun X o =>
  pe_imp (pe_ix ix_str (ha X o) (hb X o) hs) (tOp_imp fun χ H x' y Q _ rx ry q => ⟨x, i, c, rx, ry, hx, h, q _ H (Same.refl H) rfl⟩)
theorem inS_one (x : Str) (c : Nat) : (!(Builtin.Str.occurrences x ⟨#[c]⟩ 0 x.length 1).isEmpty) = decide (c ∈ x.cps.toList) := StrLaws.found_one x c
theorem t_notinS {x : Str} {c : Nat} (ha : JE S Γ a (chD c)) (hb : JE S Γ b (.str x)) (hm : behindInMarks .NotIn b = false := by rfl) : JT S Γ (.Compare a [.NotIn] [b] pos) (!decide (c ∈ x.cps.toList)) :=
  t_cmp (fun _ _ => op_notin_str) ha hb hm fun _ H x' y _ _ rx ry q => ⟨⟨#[c]⟩, x, rx, ry, by rw [inS_one]; exact q _ H (Same.refl H) rfl⟩
theorem reps_strs {K : PySem.W.Frag} {H : Hp} : ∀ {ts : List Str} {vs : List V}, Reps K H (ts.map D.str) vs → vs = ts.map V.str
  | [], _, h => h
  | t :: ts, _, ⟨v, r, e, rv, rs⟩ => by rw [e, show v = .str t from rv, reps_strs rs]; rfl
theorem strs_reps {K : PySem.W.Frag} {H : Hp} : ∀ (ts : List Str), Reps K H (ts.map D.str) (ts.map V.str)
  | [] => rfl
  | t :: ts => ⟨.str t, ts.map V.str, rfl, rfl, strs_reps ts⟩
theorem e_join {sep : Str} {ts : List Str} (ho : JE S Γ o (.str sep)) (ha : JE S Γ e (.lst (ts.map D.str))) (ok : JoinOk sep ts = true) (hbase : ∀ env, attributeBase o "join" env (eval o env) = eval o env := by intro _; rfl)
    (hfew : ∀ env, ((backTo cpos (starEach [e] env)).all (fun x => !x.1) && (backToKw cpos (keywordEach [] env)).all (fun x => x.1.isSome)
      && decide ([e].length + ([] : List Keyword).length + (if ([] : List Keyword).isEmpty then 0 else 1) < 30)) = true := by intro _; rfl)
    (hline : (apos.endLine == cpos.line) = true := by rfl) (hs : ∀ env, starEach [e] env = [(false, eval e env)] := by intro _; rfl) : JE S Γ (.Call (.Attribute o "join" apos) [e] [] cpos) (.str (Str.join sep ts)) := .mk fun X oo =>
  pe_imp (pe_bm PySem.F.plainAttrs_str PySem.F.slot_str_join PySem.F.type_str_join mt_join (ho X oo) ((a_cons ha a_nil hs) X oo) (hbase X.env) (hfew X.env) hline (hs X.env)) fun σ H Q ⟨χ, R, q⟩ => ⟨χ, R, fun v H1 e1 rv => by
    cases (show v = _ from rv)
    refine ⟨rfl, χ, R.mono e1, fun ws H2 e2 rws => ?_⟩
    obtain ⟨v, rfl, ad, vs, rfl, sq, rs⟩ := reps1 rws
    cases (reps_strs rs)
    refine ⟨sep, ad, ts, rfl, rfl, ?_, ok, q _ H2 (e1.trans e2) rfl⟩
    rw [oo.K]; exact Same.seq hid_le sq⟩
theorem e_endswith {x y : Str} (ho : JE S Γ o (.str x)) (ha : JE S Γ e (.str y)) (hbase : ∀ env, attributeBase o "endswith" env (eval o env) = eval o env := by intro _; rfl)
    (hfew : ∀ env, ((backTo cpos (starEach [e] env)).all (fun x => !x.1) && (backToKw cpos (keywordEach [] env)).all (fun x => x.1.isSome)
      && decide ([e].length + ([] : List Keyword).length + (if ([] : List Keyword).isEmpty then 0 else 1) < 30)) = true := by intro _; rfl)
    (hline : (apos.endLine == cpos.line) = true := by rfl) (hs : ∀ env, starEach [e] env = [(false, eval e env)] := by intro _; rfl) : JE S Γ (.Call (.Attribute o "endswith" apos) [e] [] cpos) (.bl (Txt.endswith x y)) := .mk fun X oo =>
  pe_imp (pe_bm PySem.F.plainAttrs_str PySem.F.slot_str_endswith PySem.F.type_str_endswith mt_endswith (ho X oo) ((a_cons ha a_nil hs) X oo) (hbase X.env) (hfew X.env) hline (hs X.env)) fun σ H Q ⟨χ, R, q⟩ => ⟨χ, R, fun v H1 e1 rv => by
    cases (show v = _ from rv)
    refine ⟨rfl, χ, R.mono e1, fun ws H2 e2 rws => ?_⟩
    obtain ⟨v, rfl, rv'⟩ := reps1 rws
    cases (show v = _ from rv')
    exact ⟨x, y, rfl, rfl, q _ H2 (e1.trans e2) rfl⟩⟩
theorem f_split {x y : Str} (ho : JE S Γ o (.str x)) (ha : JE S Γ e (.str y)) (hy : (y.length == 0) = false) (hx : x.length ≤ sizeLine) (hl : (Txt.split x y).length ≤ sizeLine) (hbase : ∀ env, attributeBase o "split" env (eval o env) = eval o env := by intro _; rfl)
    (hfew : ∀ env, ((backTo cpos (starEach [e] env)).all (fun x => !x.1) && (backToKw cpos (keywordEach [] env)).all (fun x => x.1.isSome)
      && decide ([e].length + ([] : List Keyword).length + (if ([] : List Keyword).isEmpty then 0 else 1) < 30)) = true := by intro _; rfl)
    (hline : (apos.endLine == cpos.line) = true := by rfl) (hs : ∀ env, starEach [e] env = [(false, eval e env)] := by intro _; rfl) : JF S Γ (.Call (.Attribute o "split" apos) [e] [] cpos) ((Txt.split x y).map D.str) := .mk fun X oo =>
  pe_imp (pe_bm PySem.F.plainAttrs_str PySem.F.slot_str_split PySem.F.type_str_split mt_split (ho X oo) ((a_cons ha a_nil hs) X oo) (hbase X.env) (hfew X.env) hline (hs X.env)) fun σ H Q ⟨χ, R, q⟩ => ⟨χ, R, fun v H1 e1 rv => by
    cases (show v = _ from rv)
    refine ⟨rfl, χ, R.mono e1, fun ws H2 e2 rws => ?_⟩
    obtain ⟨v, rfl, rv'⟩ := reps1 rws
    cases (show v = _ from rv')
    have hn : ∀ l, H2 l = none → H l = none := fun l h => by
      cases c : H l with
      | none => rfl
      | some ob => rw [e2 _ _ (e1 _ _ c)] at h; cases h
    exact ⟨x, y, rfl, rfl, hy, hx, hl, fun l h => q l _ _ (hn l h) ((e1.trans e2).trans (same_new h _)) upd_same (strs_reps _)⟩⟩
theorem e_intS {x : Str} {n : Int} (h : JE S Γ a (.str x)) (hn : PySem.intText? x = some n) (hl : x.length ≤ 640) (hm : S.mg "int" = none) (hg : S.sc.names.lookup ("int" : Str) = some .globalImplicit := by (try dsimp only [DL.Stat.blk]); decide +kernel) (hs : ∀ env, starEach [a] env = [(false, eval a env)] := by intro _; rfl) : JE S Γ (.Call (.Name "int" p) [a] [] pos) (.int n) :=
  e_callTy (fun _ _ => c_intS) (a_cons h a_nil hs) (fun χ H vs Q fr rs q => by
    obtain ⟨v, rfl, rv⟩ := reps1 rs
    cases (show v = _ from rv)
    exact ⟨x, n, rfl, hn, hl, q _ H (Same.refl H) rfl⟩) hm boot_int hg (he := hs)
/-! #### try, where nothing is raised -/
theorem inv_xe {X : Cx} {pins : List (Addr × Obj)} {σ : L2.St} {H : Hp} {s : Shared} {xe : Value → Shared → Prop} (I : L2.Inv X pins σ H s) : L2.Inv { X with xe := xe } pins σ H s :=
  ⟨⟨I.ok.mod, I.ok.kind, I.ok.glob, I.ok.blt, I.ok.above, I.ok.inj, I.ok.has, I.ok.cab, I.ok.hd, I.ok.frames, I.ok.stk, I.ok.exf, I.ok.bs, I.ok.bsz, I.ok.noex, I.ok.exfs, I.ok.funs, I.ok.frf⟩, I.os, I.bare, I.base, I.loc, I.cell, I.free, I.freeC, I.pin, I.hok, I.len⟩
theorem of_xe {X : Cx} {xe : Value → Shared → Prop} (o : S.Of X) (h : PassesOwn (model X.prog X.w) X.A X.env xe) : S.Of { X with xe := xe } := ⟨o.prog, o.w, o.K, o.mg, o.base, o.N, o.sc, o.room, o.calm, h, o.fn, o.stk⟩
end
end DL

end
section
set_option Elab.async false
set_option linter.all false
set_option maxRecDepth 100000
set_option maxHeartbeats 4000000
namespace DL
open PySem PySem.Spec PyProof.Rows L2
/-! ### texts as lists of signs -/
def sl (l : List Nat) : Str := ⟨l.toArray⟩
theorem sl_inj {a b : List Nat} (h : sl a = sl b) : a = b := by
  have := congrArg (fun s : Str => s.cps.toList) h
  simpa [sl] using this
theorem sl_of (s : Str) : sl s.cps.toList = s := by cases s; simp [sl]
theorem sl_cps (l : List Nat) : (sl l).cps.toList = l := by simp [sl]
theorem sl_len (l : List Nat) : (sl l).length = l.length := by simp [sl, Str.length]
theorem sl_app (a b : List Nat) : sl a ++ sl b = sl (a ++ b) := StrLaws.mk_of_toList (by rw [Str.cps_append]; simp [sl])
theorem joinE (ls : List (List Nat)) : Str.join (sl []) (ls.map sl) = sl ls.flatten := by
  induction ls with
  | nil => rfl
  | cons x r ih =>
    cases r with
    | nil => show sl x = _; simp
    | cons y r =>
      show sl x ++ sl [] ++ Str.join (sl []) ((y :: r).map sl) = _
      rw [ih, sl_app, sl_app]; simp
def inter (c : Nat) : List (List Nat) → List Nat
  | [] => []
  | [x] => x
  | x :: r => x ++ [c] ++ inter c r
theorem join_inter (c : Nat) (ls : List (List Nat)) : Str.join (sl [c]) (ls.map sl) = sl (inter c ls) := by
  induction ls with
  | nil => rfl
  | cons x r ih =>
    cases r with
    | nil => rfl
    | cons y r =>
      show sl x ++ sl [c] ++ Str.join (sl [c]) ((y :: r).map sl) = _
      rw [ih, sl_app, sl_app]; rfl
theorem app_inj {c : Nat} : ∀ {x y u v : List Nat}, c ∉ x → c ∉ y → x ++ c :: u = y ++ c :: v → x = y ∧ u = v
  | [], [], _, _, _, _, h => by simpa using h
  | [], b :: y, _, _, _, hy, h => by
    simp at h
    exact (hy (by simp [h.1])).elim
  | a :: x, [], _, _, hx, _, h => by
    simp at h
    exact (hx (by simp [h.1])).elim
  | a :: x, b :: y, u, v, hx, hy, h => by
    simp at h hx hy
    obtain ⟨e1, e2⟩ := app_inj hx.2 hy.2 h.2
    exact ⟨by rw [h.1, e1], e2⟩
theorem inter_inj {c : Nat} : ∀ {a b : List (List Nat)}, a ≠ [] → b ≠ [] → (∀ x ∈ a, c ∉ x) → (∀ x ∈ b, c ∉ x) → inter c a = inter c b → a = b
  | [], _, h, _, _, _, _ => (h rfl).elim
  | _, [], _, h, _, _, _ => (h rfl).elim
  | [x], [y], _, _, _, _, h => by rw [show x = y from h]
  | [x], y :: z :: r, _, _, ha, _, h => by
    have h : x = y ++ [c] ++ inter c (z :: r) := h
    exact (ha x (by simp) (by rw [h]; simp)).elim
  | x :: z :: r, [y], _, _, _, hb, h => by
    have h : x ++ [c] ++ inter c (z :: r) = y := h
    exact (hb y (by simp) (by rw [← h]; simp)).elim
  | x :: x' :: r, y :: y' :: r', _, _, ha, hb, h => by
    have h : x ++ [c] ++ inter c (x' :: r) = y ++ [c] ++ inter c (y' :: r') := h
    simp only [List.append_assoc, List.singleton_append] at h
    obtain ⟨e1, e2⟩ := app_inj (ha x (by simp)) (hb y (by simp)) h
    rw [e1, inter_inj (a := x' :: r) (b := y' :: r') (by simp) (by simp) (fun z hz => ha z (by simp at hz ⊢; exact .inr hz)) (fun z hz => hb z (by simp at hz ⊢; exact .inr hz)) e2]
theorem inter_end (c : Nat) : ∀ rows : List (List Nat), inter c (rows ++ [[]]) = (rows.map (· ++ [c])).flatten
  | [] => rfl
  | [x] => by simp [inter]
  | x :: y :: r => by
    show x ++ [c] ++ inter c (y :: r ++ [[]]) = _
    rw [inter_end c (y :: r)]; simp
theorem map_sl (l : List Str) : l = (l.map fun s => s.cps.toList).map sl := by
  rw [List.map_map]
  conv => lhs; rw [← List.map_id l]
  exact List.map_congr_left fun s _ => (sl_of s).symm
theorem split_pos' (x y : Str) : Txt.split x y ≠ [] := fun h => by
  have := PyProof.Rows.split_pos x y
  rw [h] at this
  exact absurd this (by decide)
theorem split_uniq {c : Nat} {ls : List (List Nat)} (h0 : ls ≠ []) (h : ∀ x ∈ ls, c ∉ x) : Txt.split (sl (inter c ls)) (sl [c]) = ls.map sl := by
  have e := StrLaws.join_split (sl (inter c ls)) (sl [c])
  have fr := StrLaws.split_free (sl (inter c ls)) c
  rw [show (⟨#[c]⟩ : Str) = sl [c] from rfl] at fr
  have ne := split_pos' (sl (inter c ls)) (sl [c])
  generalize Txt.split (sl (inter c ls)) (sl [c]) = ps at *
  have e2 := map_sl ps
  rw [e2, join_inter] at e
  have e3 := inter_inj (c := c) (a := ps.map fun s => s.cps.toList) (b := ls) (by simpa using ne) h0 (fun x hx => by
    obtain ⟨s, hs, rfl⟩ := List.mem_map.mp hx
    exact fr s hs) h (sl_inj e)
  rw [e2, e3]
theorem split_lines {rows : List (List Nat)} (h : ∀ x ∈ rows, 10 ∉ x) : Txt.split (sl (rows.map (· ++ [10])).flatten) (sl [10]) = rows.map sl ++ [sl []] := by
  rw [← inter_end 10 rows, split_uniq (by simp) (fun x hx => by
    rcases List.mem_append.mp hx with q | q
    · exact h x q
    · simp at q; subst q; simp)]
  simp
theorem ends_one (l : List Nat) (c : Nat) : Txt.endswith (sl (l ++ [c])) (sl [c]) = true := by
  unfold Txt.endswith
  rw [StrLaws.subAt_eq, sl_len, sl_len, sl_cps, sl_cps]
  simp
theorem join_ok {sep : Str} {ts : List Str} {B : Nat} (hB : ∀ y ∈ ts, y.length ≤ B) (h : ts.length * B + ts.length * sep.length ≤ 16777216) : JoinOk sep ts = true := by
  unfold JoinOk
  rw [StrLaws.joinFits hB h]; rfl
/-! ### slices of lists -/
def cutD (ds : List D) (lo hi : Option Int) : List D := (ds.drop (HT.sIx ds.length 0 lo)).take (HT.sIx ds.length ds.length hi - HT.sIx ds.length 0 lo)
section
variable {S : Stat} {Γ : List Sl} {pos p2 : Pos} {a b : Expr}
theorem reps_cut {K : PySem.W.Frag} {H : Hp} {ds : List D} {vs : List V} (lo hi : Option Int) (h : Reps K H ds vs) : Reps K H (cutD ds lo hi) (cutV vs lo hi) := by
  unfold cutD cutV
  rw [h.len]
  exact (h.drop _).take _
theorem same_none {H H' : Hp} (e : Same H H') {l : Addr} (h : H' l = none) : H l = none := by
  cases c : H l with
  | none => rfl
  | some o => rw [e _ _ c] at h; cases h
theorem hid_new {χ : Addr → Bool} {H : Hp} {l : Addr} {o : HO} (h : H l = none) : Same (hidB χ H) (hidB (fun b => χ b || b == l) (upd H l o)) := fun b u q => by
  obtain ⟨c1, c2⟩ := hid_some q
  have hne : b ≠ l := ne_of_none c2 h
  exact hid_of (by rw [c1, Bool.false_or]; simpa using hne) (by rw [upd_ne hne]; exact c2)
theorem f_cutHi {ds : List D} {i : Int} (ha : JE S Γ a (.lst ds)) (hb : JE S Γ b (.int i)) : JF S Γ (.Subscript a (.Slice none (some b) none p2) pos) (cutD ds none (some i)) := .mk fun X o =>
  pe_imp (pe_slice sl_list (ha X o) po_none (po_some (hb X o))) fun σ H Q ⟨χ, R, q⟩ => ⟨χ, R, fun x H1 e1 ⟨ad, vs, ex, sq, rs⟩ => ⟨χ, R.mono e1, fun y H2 e2 ry => ⟨i, ry, by
    refine ⟨ad, vs, ex, ?_, fun l hl => ?_⟩
    · rw [o.K]; exact Same.seq hid_le (Same.seq (hid_same e2) sq)
    · exact q l _ _ (same_none (e1.trans e2) hl) ((e1.trans e2).trans (same_new hl _)) upd_same (Reps.mono (hid_new hl) _ (reps_cut none (some i) (Reps.mono (hid_same e2) _ rs)))⟩⟩⟩
end
theorem cut_last (ds : List D) (d : D) : cutD (ds ++ [d]) none (some (-1)) = ds := by
  unfold cutD HT.sIx
  simp only [List.length_append, List.length_singleton]
  rw [if_pos (by decide), List.drop_zero, show ((-1 : Int) + ((ds.length + 1 : Nat) : Int)).toNat - 0 = ds.length by omega, List.take_left']
  rfl
/-! ### boards written -/
def figL (r : List Int) : List Nat := r.map fun c => 48 + c.toNat
/-- colours from 0 to 9 -/
def Col (r : List Int) : Prop := ∀ c ∈ r, 0 ≤ c ∧ c ≤ 9
theorem ten {c : Int} (h : 0 ≤ c ∧ c ≤ 9) : c = 0 ∨ c = 1 ∨ c = 2 ∨ c = 3 ∨ c = 4 ∨ c = 5 ∨ c = 6 ∨ c = 7 ∨ c = 8 ∨ c = 9 := by omega
theorem int_fig {c : Int} (h : 0 ≤ c ∧ c ≤ 9) : PySem.intText? (sl [48 + c.toNat]) = some c := by
  rcases ten h with rfl | rfl | rfl | rfl | rfl | rfl | rfl | rfl | rfl | rfl <;> decide +kernel
theorem log_fig {c : Int} (h : 0 ≤ c ∧ c ≤ 9) : c.natAbs.log2 < 1920 := by
  rcases ten h with rfl | rfl | rfl | rfl | rfl | rfl | rfl | rfl | rfl | rfl <;> decide +kernel
theorem fig_at {c : Int} (h : 0 ≤ c ∧ c ≤ 9) : atI (Str.ofString "0123456789").cps.toList c = some (48 + c.toNat) := by
  rcases ten h with rfl | rfl | rfl | rfl | rfl | rfl | rfl | rfl | rfl | rfl <;> decide +kernel
theorem fig_in {c : Int} (h : 0 ≤ c ∧ c ≤ 9) : 48 + c.toNat ∈ (Str.ofString "0123456789").cps.toList := by
  rcases ten h with rfl | rfl | rfl | rfl | rfl | rfl | rfl | rfl | rfl | rfl <;> decide +kernel
theorem fig_no10 (r : List Int) : 10 ∉ figL r := fun h => by
  obtain ⟨c, _, e⟩ := List.mem_map.mp h
  omega
theorem gen_col {c : Int} {co w h : Nat} (h0 : 1 ≤ co) (h1 : co ≤ 10) : ∀ r ∈ BM.gen c co w h, Col r := fun r hr x hx => by
  obtain ⟨y, _, rfl⟩ := List.mem_map.mp hr
  obtain ⟨z, _, rfl⟩ := List.mem_map.mp hx
  have := Int.emod_nonneg (BM.it (y * w + z + 1) c / 7) (show (co : Int) ≠ 0 by omega)
  have := Int.emod_lt_of_pos (BM.it (y * w + z + 1) c / 7) (show (0 : Int) < co by omega)
  omega
end DL

end
section
set_option Elab.async false
set_option linter.all false
set_option maxRecDepth 100000
set_option maxHeartbeats 4000000
namespace DL
open PySem PySem.Spec PyProof.Rows L2
/-! ### an own list that is read: for the time of an expression it is a list as any other -/
mutual
def noL : D → Bool
  | .lst _ => false
  | .tup ds => noLs ds
  | _ => true
def noLs : List D → Bool
  | [] => true
  | d :: ds => noL d && noLs ds
end
mutual
theorem rep_noL {K : PySem.W.Frag} {χ χ' : Addr → Bool} {H : Hp} (h : ∀ b o, (∀ xs, o ≠ .lst xs) → hidB χ' H b = some o → χ b = false) : ∀ (d : D) {v : V}, noL d = true → Rep K (hidB χ' H) d v → Rep K (hidB χ H) d v
  | .non, _, _, r => r
  | .bl _, _, _, r => r
  | .int _, _, _, r => r
  | .str _, _, _, r => r
  | .lst _, _, n, _ => nomatch n
  | .tup ds, v, n, ⟨a, vs, e1, e2, r⟩ => by
    exact ⟨a, vs, e1, hid_of (h a _ (fun _ z => by cases z) e2) (hid_some e2).2, reps_noL h ds n r⟩
  | .dcI _, v, _, ⟨a, o, e1, e2, es, ep, k1, k2, k3⟩ => ⟨a, o, e1, hid_of (h a _ (fun _ z => by cases z) e2) (hid_some e2).2, es, ep, k1, k2, fun i k v q => by
      obtain ⟨en, b, a1, a2, a3⟩ := k3 i k v q
      exact ⟨en, b, a1, a2, hid_of (h b _ (fun _ z => by cases z) a3) (hid_some a3).2⟩⟩
theorem reps_noL {K : PySem.W.Frag} {χ χ' : Addr → Bool} {H : Hp} (h : ∀ b o, (∀ xs, o ≠ .lst xs) → hidB χ' H b = some o → χ b = false) : ∀ (ds : List D) {vs : List V}, noLs ds = true → Reps K (hidB χ' H) ds vs → Reps K (hidB χ H) ds vs
  | [], _, _, r => r
  | d :: ds, _, n, ⟨v, r, e, h1, h2⟩ => by
    have n' : noL d = true ∧ noLs ds = true := by
      have : (noL d && noLs ds) = true := n
      simpa using this
    exact ⟨v, r, e, rep_noL h d n'.1 h1, reps_noL h ds n'.2 h2⟩
end
/-- the slot's list shown -/
def unh (χ : Addr → Bool) (p : Addr) : Addr → Bool := fun b => χ b && !(b == p)
theorem unh_same {χ : Addr → Bool} {p : Addr} {H : Hp} : Same (hidB χ H) (hidB (unh χ p) H) := fun b o h => by
  obtain ⟨c1, c2⟩ := hid_some h
  exact hid_of (by unfold unh; rw [c1]; rfl) c2
theorem RE.lend {K : PySem.W.Frag} {χ : Addr → Bool} {H : Hp} {σ : L2.St} {Γ : List Sl} (r : RE K χ H σ Γ) {i : Nat} {a : Bool} {ds : List D} (hi : Γ[i]? = some (.li a ds)) :
    ∃ p vs, H p = some (.lst vs) ∧ χ p = true ∧ RE K (unh χ p) H σ (Γ.set i (.val (.lst ds))) := by
  obtain ⟨p, vs, h1, h2, h3, h4⟩ := r.ownL i a ds hi
  have hlt := (List.getElem?_eq_some_iff.mp hi).1
  refine ⟨p, vs, h3, h2, ⟨fun b hb => ?_, by rw [List.length_set]; exact r.len, fun j d hj => ?_, fun j a2 es hj => ?_, fun j j' b b' es es' q a1 a2 a3 a4 => ?_⟩⟩
  · refine r.live b ?_
    unfold unh at hb
    rw [Bool.and_eq_true] at hb
    exact hb.1
  · by_cases e : i = j
    · subst e
      rw [List.getElem?_set_self hlt] at hj
      cases hj
      exact ⟨.ref p, h1, p, vs, rfl, SqL.of (hid_of (by unfold unh; simp) h3), Reps.mono unh_same _ h4⟩
    · rw [List.getElem?_set_ne e] at hj
      obtain ⟨v, ev, rv⟩ := r.val j d hj
      exact ⟨v, ev, rv.mono unh_same d⟩
  · by_cases e : i = j
    · subst e
      rw [List.getElem?_set_self hlt] at hj
      cases hj
    · rw [List.getElem?_set_ne e] at hj
      obtain ⟨q, ws, b1, b2, b3, b4⟩ := r.own j a2 es hj
      have hne : q ≠ p := fun z => by
        subst z
        exact e (r.inj i j a a2 _ es q hi hj h1 b1)
      exact ⟨q, ws, b1, by unfold unh; rw [b2]; simpa using hne, b3, CRep.mono unh_same _ b4⟩
  · have ne : ∀ {k : Nat} {c : Bool} {fs : Ct}, (Γ.set i (.val (.lst ds)))[k]? = some (.ll c fs) → i ≠ k := fun {k c fs} h z => by
      subst z
      rw [List.getElem?_set_self hlt] at h
      cases h
    have n1 := ne a1
    have n2 := ne a2
    rw [List.getElem?_set_ne n1] at a1
    rw [List.getElem?_set_ne n2] at a2
    exact r.inj j j' b b' es es' q a1 a2 a3 a4
theorem lend_back {χ : Addr → Bool} {p : Addr} {H : Hp} {vs : List V} (hp : H p = some (.lst vs)) : ∀ b o, (∀ xs, o ≠ .lst xs) → hidB (unh χ p) H b = some o → χ b = false := fun b o hn h => by
  obtain ⟨c1, c2⟩ := hid_some h
  by_cases e : b = p
  · subst e
    rw [hp] at c2
    cases c2
    exact (hn _ rfl).elim
  · unfold unh at c1
    have : (b == p) = false := by simpa using e
    rw [this] at c1
    simpa using c1
section
variable {S : Stat} {Γ : List Sl} {e : Expr}
theorem e_bor (i : Nat) {a : Bool} {ds : List D} {d : D} (hi : Γ[i]? = some (.li a ds)) (h : JE S (Γ.set i (.val (.lst ds))) e d) (nl : noL d = true) : JE S Γ e d := .mk fun X o => pe_imp (h X o) fun σ H Q ⟨χ, R, q⟩ => by
  obtain ⟨p, vs, hp, _, R'⟩ := R.lend hi
  exact ⟨unh χ p, R', fun v H' e' rv => q v H' e' (rep_noL (lend_back (e' _ _ hp)) d nl rv)⟩
end
end DL

end
section
set_option Elab.async false
set_option linter.all false
set_option maxRecDepth 100000
set_option maxHeartbeats 4000000
namespace DL
open PySem PySem.Spec PyProof.Rows L2
/-! ### defs that hand back a new list -/
section
variable {P : Program} {w : World} {K : PySem.W.Frag} {mg : Str → Option Value} {base : Heap} {α : Type} {enc : α → List D} {dom : α → Prop} {res : α → List D}
end
/-! ### defs that write the list that comes last -/
/-- all but the list at p stays -/
def But (p : Addr) (H H' : Hp) : Prop := ∀ b o, b ≠ p → H b = some o → H' b = some o
section
variable {P : Program} {w : World} {K : PySem.W.Frag} {mg : Str → Option Value} {base : Heap} {α : Type} {enc ow ow' : α → List D} {dom : α → Prop} {res : α → D}
end
end DL

end
section
set_option Elab.async false
set_option linter.all false
set_option maxRecDepth 100000
set_option maxHeartbeats 4000000
namespace DL
open PySem PySem.Spec PyProof.Rows L2
/-! ### a call that writes the slot i's list -/
def dM (K : PySem.W.Frag) (Γ : List Sl) (i : Nat) (ds' : List D) (d : D) : TE := fun σ H Q => ∃ χ, RE K χ H σ Γ ∧ ∀ p, σ[i]? = some (some (.ref p)) → ∀ v ws' H', But p H H' → H' p = some (.lst ws') → Reps K (hidB χ H') ds' ws' → Rep K (hidB χ H') d v → Q v H'
structure JM (S : Stat) (Γ : List Sl) (i : Nat) (e : Expr) (ds' : List D) (d : D) : Prop where
  run : ∀ X, S.Of X → PE X e (dM S.K Γ i ds' d)
instance {S : Stat} {Γ : List Sl} {i : Nat} {e : Expr} {ds' : List D} {d : D} : CoeFun (JM S Γ i e ds' d) fun _ => ∀ X, S.Of X → PE X e (dM S.K Γ i ds' d) := ⟨fun h => h.run⟩
/-- arguments, the last one the slot i's list itself -/
def dAM (K : PySem.W.Frag) (Γ : List Sl) (i : Nat) (ds : List D) : TA := fun σ H Q => ∃ χ, RE K χ H σ Γ ∧ ∀ p vs H', σ[i]? = some (some (.ref p)) → Same H H' → Reps K (hidB χ H') ds vs → Q (vs ++ [.ref p]) H'
structure JAM (S : Stat) (Γ : List Sl) (i : Nat) (es : List Expr) (ds : List D) : Prop where
  run : ∀ X, S.Of X → PA X es (dAM S.K Γ i ds)
section
variable {S : Stat} {Γ : List Sl} {E : DEnds} {i : Nat} {e : Expr} {es : List Expr} {x : Str} {p pos : Pos}
end
section
variable {K : PySem.W.Frag} {φ : Addr → Bool} {ω : Addr → Option (Bool × Nat)} {H H' : Hp} {σ : L2.St} {Γ : List Sl}
end
section
variable {S : Stat} {Γ : List Sl} {E : DEnds} {i j : Nat} {e a b : Expr} {x y : Str} {p pos pos' : Pos}
/-- x[a] = b, x a slot's list -/
theorem s_setI (i : Nat) {ds : List D} {d : D} {k : Int} {n : Nat} {al : Bool} {px : Pos} (hΓ : Γ[i]? = some (.li al ds)) (ha : JE S Γ a (.int k)) (hb : JE S Γ b d) (hk : ixN ds.length k = some n) (h : E.nx (Γ.set i (.li al (ds.set n d)))) (hi : S.N[i]? = some x := by (try dsimp only [DL.Stat.blk]); decide +kernel) (hv : Vis S.sc x := by (try dsimp only [DL.Stat.blk]); decide +kernel)
    (h1 : (x == ("__debug__" : Str)) = false := by (try dsimp only [DL.Stat.blk]); decide +kernel) (h2 : (x == ("__classdict__" : Str)) = false := by (try dsimp only [DL.Stat.blk]); decide +kernel)
    (hs : ∀ X : Cx, swapsWithSole [.Subscript (.Name x px) a pos'] b pos.line X.env = pure false := by intro _; rfl) (hw : ∀ X : Cx, swappedStores [.Subscript (.Name x px) a pos'] b X.env = pure none := by intro _; rfl)
    (hm : ∀ X : Cx, (assignEach [.Subscript (.Name x px) a pos'] X.env).map (·.2) = [assign (.Subscript (.Name x px) a pos') X.env] := by intro _; rfl)
    (hg : ∀ (X : Cx) v, assign (.Subscript (.Name x px) a pos') X.env v = (do
      let ov ← holding [v] (eval (.Name x px) X.env)
      let iv ← holding [v, ov] (eval a X.env)
      standAt pos'
      holding [v, ov, iv] (setItem ov iv v)
      release [v, ov, iv] []) := by intro _ _; rfl) : JS S Γ (.Assign [.Subscript (.Name x px) a pos'] b pos) E := .mk fun X o => by
  refine ps_imp (ps_asg (hb X o) (pg_sub (pe_var (i := i) (by rw [o.N]; exact hi) (by rw [o.sc]; exact hv) h1 h2) (ha X o) set_list (hg X)) (hs X) (hw X) (hm X)) fun Z σ H ⟨φ, ω, r, c⟩ => ?_
  obtain ⟨l, vs, hσ, hω, φl, hH, hr⟩ := r.ownL i al ds hΓ
  refine ⟨both φ ω, r.re, fun v H1 e1 rv => ⟨.ref l, hσ, both φ ω, (r.mono e1).re, fun y H2 e2 ry => ⟨l, vs, k, n, rfl, ry, e2 _ _ (e1 _ _ hH), by rw [hr.len]; exact hk, ?_⟩⟩⟩
  obtain ⟨r', kp⟩ := (r.mono (e1.trans e2)).put (ds' := ds.set n d) (vs' := vs.set n v) hΓ hω hσ ((Reps.mono (hid_same (e1.trans e2)) _ hr).set n (rv.mono (hid_same e2) d)) φl
  exact c.n ω σ _ _ h r' ((Kp.of (e1.trans e2)).trans kp)
end
end DL

end
section
set_option Elab.async false
set_option linter.all false
set_option maxRecDepth 100000
set_option maxHeartbeats 4000000
namespace DRg
open PySem PySem.Spec PyProof.Rows
open Sem (wp)
open AutoSeq1 (wpAny_loadPart')
section
variable {prog : Program} {w : World} {A : Around} {E : Value → Shared → Prop} {s : Shared}
/-! ### tuple(range(..)) -/
end
end DRg
namespace DL
open PySem PySem.Spec PyProof.Rows L2
section
variable {X : Cx} {pins : List (Addr × Obj)} {σ : L2.St} {H : Hp} {s : Shared}
end
section
variable {S : Stat} {Γ : List Sl} {pos p p' pos' : Pos} {a b : Expr}
end
end DL

end
section
set_option Elab.async false
set_option linter.all false
set_option maxRecDepth 100000
set_option maxHeartbeats 4000000
namespace DL
open PySem PySem.Spec PyProof.Rows L2
open AutoSeq1 (wpAny_loadPart')
/-! ### x in a list of data, x not in -/
section
variable {X : Cx} {pins : List (Addr × Obj)} {σ : L2.St} {H : Hp} {s : Shared}
open Classical in
noncomputable def eqW (X : Cx) (H : Hp) (d : D) (u : Value) : Bool := if ∃ y d', RelV y u ∧ Rep X.K H d' y ∧ eqD d' d = true then true else false
end
section
variable {S : Stat} {Γ : List Sl} {pos p : Pos} {a b : Expr} {ds : List D} {d : D}
end
/-! ### xs.extend(ys) -/
section
variable {S : Stat} {Γ : List Sl} {E : DEnds} {pos p : Pos} {e a b : Expr} {x : Str}
/-! ### [d] * n, sorted(ints) -/
end
theorem reps_ints {K : PySem.W.Frag} {H : Hp} : ∀ {ns : List Int} {vs : List V}, Reps K H (ns.map D.int) vs → vs = ns.map V.int
  | [], _, h => h
  | n :: ns, _, ⟨v, r, e, rv, rs⟩ => by rw [e, show v = .int n from rv, reps_ints rs]; rfl
section
variable {S : Stat} {Γ : List Sl} {pos p : Pos} {a : Expr}
end
end DL

end
section
set_option Elab.async false
set_option linter.all false
set_option maxRecDepth 100000
set_option maxHeartbeats 4000000
namespace DL
open PySem PySem.Spec PyProof.Rows L2
section
variable {S : Stat} {Γ : List Sl} {E : DEnds} {pos p pos' : Pos} {e a b : Expr} {x y z : Str}
end
end DL

end
section
set_option Elab.async false
set_option linter.all false
set_option maxRecDepth 100000
set_option maxHeartbeats 4000000
namespace DL
open PySem PySem.Spec PyProof.Rows L2
/-! ### sum(ints), list(range(a, b, c)) -/
section
variable {S : Stat} {Γ : List Sl} {pos p p' pos' : Pos} {a b c : Expr}
end
/-! #### list(range(a, b, c)) -/
section
variable {X : Cx} {pins : List (Addr × Obj)} {σ : L2.St} {H : Hp} {s : Shared}
end
section
variable {S : Stat} {Γ : List Sl} {pos p p' pos' : Pos} {a b c : Expr}
end
end DL

end
section
set_option Elab.async false
set_option linter.all false
set_option maxRecDepth 100000
set_option maxHeartbeats 4000000
namespace DL
open PySem PySem.Spec PyProof.Rows L2
/-! ### list + list of any two lists; x.insert(i, e); i ** j -/
def rIns : V → List V → Hp → VK → Prop := fun x vs H Q => ∃ l xs i y, x = .ref l ∧ vs = [.int i, y] ∧ H l = some (.lst xs) ∧ xs.length < sizeLine ∧ 0 ≤ i ∧ i ≤ xs.length ∧ Q .non (upd H l (.lst (xs.take i.toNat ++ [y] ++ xs.drop i.toNat)))
theorem vals_take : ∀ {xs : List V} {us : List Value} (k : Nat), Vals xs us → Vals (xs.take k) (us.take k)
  | _, _, 0, _ => by rw [List.take_zero, List.take_zero]; exact .nil
  | _, _, _ + 1, .nil => .nil
  | _, _, k + 1, .cons r t => .cons r (vals_take k t)
theorem vals_drop : ∀ {xs : List V} {us : List Value} (k : Nat), Vals xs us → Vals (xs.drop k) (us.drop k)
  | _, _, 0, r => r
  | _, _, _ + 1, .nil => .nil
  | _, _, k + 1, .cons r t => vals_drop k t
theorem mt_insert {X : Cx} : MtM X "list.insert" rIns := by
  intro pins s σ H x vs v us Q I rx rv h
  obtain ⟨l, xs, i, y, rfl, rfl, hH, hz, i0, i1, q⟩ := h
  cases rx
  obtain ⟨ui, rv1, rfl, rui, rv'⟩ : ∃ ui r1, us = ui :: r1 ∧ RelV (.int i) ui ∧ Vals [y] r1 := by
    cases rv with
    | cons a b => exact ⟨_, _, rfl, a, b⟩
  obtain ⟨u, rfl, ru⟩ := rv'.one
  obtain ⟨t, rfl⟩ := rui
  obtain ⟨z, its, n, r, hl, e⟩ := I.lstM hH
  have sz : xs.length < 2 ^ 63 := Nat.lt_of_lt_of_le hz (by decide)
  refine call_meets F.slot_list_insert ⟨_, e, rfl⟩ F.entry_list_insert (F.args_list_insert_3 _ _ _) (AutoSeq1.list_insert_list_int_val_1 l its.toArray n i t u (by rw [fitsIndex_both (by omega) (by omega)]; simp) (by rw [List.size_toArray]; omega)) ⟨e, ?_⟩
  refine ⟨.non, _, I.lset (its' := its.take i.toNat ++ [u] ++ its.drop i.toNat) hH e ?_ (((vals_take _ r).append (.cons ru .nil)).append (vals_drop _ r)) ?_, rfl, q⟩
  · dsimp only
    rw [if_neg (by omega), List.size_toArray, Nat.min_eq_left (by omega)]
    apply Array.toList_inj.mp
    simp [List.take_of_length_le]
  · simp only [List.length_append, List.length_take, List.length_drop, List.length_singleton]
    omega
section
variable {S : Stat} {Γ : List Sl} {E : DEnds} {pos p pos' : Pos} {e a b : Expr} {x y z : Str}
/-- x.insert(i, e), x a list of this body -/
theorem s_ins (j : Nat) {ds : List D} {i : Int} {d : D} {al : Bool} {apos cpos : Pos} (hΓ : Γ[j]? = some (.li al ds)) (ha : JE S Γ a (.int i)) (he : JE S Γ e d) (hl : ds.length < sizeLine) (i0 : 0 ≤ i) (i1 : i ≤ ds.length) (h : E.nx (Γ.set j (.li al (ds.take i.toNat ++ [d] ++ ds.drop i.toNat)))) (hi : S.N[j]? = some x := by (try dsimp only [DL.Stat.blk]); decide +kernel) (hv : Vis S.sc x := by (try dsimp only [DL.Stat.blk]); decide +kernel)
    (h1 : (x == ("__debug__" : Str)) = false := by (try dsimp only [DL.Stat.blk]); decide +kernel) (h2 : (x == ("__classdict__" : Str)) = false := by (try dsimp only [DL.Stat.blk]); decide +kernel)
    (hbase : ∀ env, attributeBase (.Name x p) "insert" env (eval (.Name x p) env) = eval (.Name x p) env := by intro _; rfl)
    (hfew : ∀ env, ((backTo cpos (starEach [a, e] env)).all (fun x => !x.1) && (backToKw cpos (keywordEach [] env)).all (fun x => x.1.isSome)
      && decide ([a, e].length + ([] : List Keyword).length + (if ([] : List Keyword).isEmpty then 0 else 1) < 30)) = true := by intro _; rfl)
    (hline : (apos.endLine == cpos.line) = true := by rfl) (hs : ∀ env, starEach [a, e] env = (false, eval a env) :: starEach [e] env := by intro _; rfl) (hs1 : ∀ env, starEach [e] env = [(false, eval e env)] := by intro _; rfl) (hpl : ∀ env, (backTo cpos (starEach [e] env)).any (·.1) = false := by intro _; rfl) (hsw : ∀ X : Cx, swapsWith (.Call (.Attribute (.Name x p) "insert" apos) [a, e] [] cpos) none pos.line X.env = pure false := by intro _; rfl) :
    JS S Γ (.Expr (.Call (.Attribute (.Name x p) "insert" apos) [a, e] [] cpos) pos) E := .mk fun X o => by
  have hA := (a_cons ha (a_cons he a_nil hs1) hs) X o
  refine ps_imp (ps_expr (pe_bm PySem.F.plainAttrs_list PySem.F.slot_list_insert PySem.F.type_list_insert mt_insert (pe_var (i := j) (by rw [o.N]; exact hi) (by rw [o.sc]; exact hv) h1 h2) hA (hbase X.env) (hfew X.env) hline (hs X.env) (hpl X.env)) (hsw X)) fun Z σ H ⟨φ, ω, r, c⟩ => ?_
  obtain ⟨l, vs, hσ, hω, φl, hH, hr⟩ := r.ownL j al ds hΓ
  refine ⟨.ref l, hσ, .inl ⟨rfl, vs, SqL.of hH⟩, both φ ω, r.re, fun ws H1 e1 rws => ?_⟩
  obtain ⟨vi, r1, rfl, rvi, rws'⟩ := rws
  cases (show vi = .int i from rvi)
  obtain ⟨v, rfl, rv⟩ := reps1 rws'
  refine ⟨l, vs, i, v, rfl, rfl, e1 _ _ hH, by rw [hr.len]; exact hl, i0, by rw [hr.len]; exact i1, ?_⟩
  have hr1 := Reps.mono (hid_same e1) _ hr
  obtain ⟨r', k⟩ := (r.mono e1).put (ds' := ds.take i.toNat ++ [d] ++ ds.drop i.toNat) (vs' := vs.take i.toNat ++ [v] ++ vs.drop i.toNat) hΓ hω hσ (((hr1.take _).app (.one rv)).app (hr1.drop _)) φl
  exact c.n ω σ _ _ h r' ((Kp.of e1).trans k)
end
end DL

end
section
set_option Elab.async false
set_option linter.all false
set_option maxRecDepth 100000
set_option maxHeartbeats 4000000
namespace DL
open PySem PySem.Spec PyProof.Rows L2
/-! ### a list of new lists of ints, one of which is written -/
structure Lol (K : PySem.W.Frag) (φ : Addr → Bool) (ω : Addr → Option (Bool × Nat)) (H0 H : Hp) (σ : L2.St) (Γ : List Sl) (i : Nat) (rs : List (List Int)) : Prop where
  r : RS K φ ω H σ Γ
  k : Kp φ ω H0 ω H
  at_ : ∃ (p : Addr) (qs : List Addr), σ[i]? = some (some (.ref p)) ∧ H p = some (.lst (qs.map V.ref)) ∧ H0 p = none ∧ both φ ω p = false ∧ qs.length = rs.length ∧ qs.Nodup ∧ p ∉ qs ∧
    ∀ (j : Nat) q r, qs[j]? = some q → rs[j]? = some r → H0 q = none ∧ both φ ω q = false ∧ H q = some (.lst (r.map V.int))
def dR (K : PySem.W.Frag) (Γ : List Sl) (i : Nat) (rs : List (List Int)) (E : DEnds) : TS := fun Z σ H => ∃ φ ω H0, Lol K φ ω H0 H σ Γ i rs ∧ Cn K φ ω H0 E Z
structure JR (S : Stat) (Γ : List Sl) (i : Nat) (rs : List (List Int)) (st : List Stmt) (E : DEnds) : Prop where
  run : ∀ X, S.Of X → PSs X st (dR S.K Γ i rs E)
section
variable {S : Stat} {Γ : List Sl} {E : DEnds} {pos p pos' : Pos} {rest sa sb : List Stmt} {e a b c : Expr} {x y z : Str} {rs : List (List Int)}
theorem Lol.up {K : PySem.W.Frag} {φ : Addr → Bool} {ω : Addr → Option (Bool × Nat)} {H0 H H' : Hp} {σ : L2.St} {i : Nat} (L : Lol K φ ω H0 H σ Γ i rs) (e : Same H H') : Lol K φ ω H0 H' σ Γ i rs :=
  ⟨L.r.mono e, L.k.trans (Kp.of e), let ⟨p, qs, h1, h2, h3, h4, h5, h6, h7, h8⟩ := L.at_; ⟨p, qs, h1, e _ _ h2, h3, h4, h5, h6, h7, fun j q r a b => let ⟨c1, c2, c3⟩ := h8 j q r a b; ⟨c1, c2, e _ _ c3⟩⟩⟩
end
end DL

end
section
set_option Elab.async false
set_option linter.all false
set_option maxRecDepth 100000
namespace L2
open PySem PySem.Spec PyProof.Rows

/-! ### lists of pairs as tables -/
section
variable {κ : Type} [DecidableEq κ]
def valV (kvs : List (κ × V)) (k : κ) : Option V := (kvs.find? fun kv => decide (kv.1 = k)).map (·.2)
/-- in its place, or at the end -/
def putK (kvs : List (κ × V)) (k : κ) (v : V) : List (κ × V) :=
  if (kvs.any fun kv => decide (kv.1 = k)) = true then kvs.map (fun kv => if kv.1 = k then (kv.1, v) else kv) else kvs ++ [(k, v)]
def dropK (kvs : List (κ × V)) (k : κ) : List (κ × V) := kvs.filter fun kv => decide (kv.1 ≠ k)

theorem valV_pos {p : κ × V} {r : List (κ × V)} {k : κ} (e : p.1 = k) : valV (p :: r) k = some p.2 := by simp [valV, List.find?_cons, e]
theorem valV_neg {p : κ × V} {r : List (κ × V)} {k : κ} (e : ¬ p.1 = k) : valV (p :: r) k = valV r k := by simp [valV, List.find?_cons, e]
theorem valV_any (k : κ) : ∀ kvs : List (κ × V), (kvs.any fun kv => decide (kv.1 = k)) = (valV kvs k).isSome
  | [] => rfl
  | p :: r => by
    rw [List.any_cons]
    by_cases e : p.1 = k
    · simp only [valV_pos e, decide_eq_true e, Bool.true_or, Option.isSome_some]
    · rw [valV_neg e, decide_eq_false e, Bool.false_or]; exact valV_any k r
theorem RelO.isSome_eq {o : Option V} {u : Option Value} (r : RelO o u) : o.isSome = u.isSome := by
  cases o with
  | none => cases u with
    | none => rfl
    | some _ => exact (show False from r).elim
  | some _ => cases u with
    | none => exact (show False from r).elim
    | some _ => rfl
theorem RelO.getD {o : Option V} {u : Option Value} {d : V} {d' : Value} (r : RelO o u) (rd : RelV d d') : RelV (o.getD d) (u.getD d') := by
  cases o with
  | none => cases u with
    | none => exact rd
    | some _ => exact (show False from r).elim
  | some _ => cases u with
    | none => exact (show False from r).elim
    | some _ => exact r

/-- raw tables of the same keys -/
theorem KV.val {kvs : List (κ × V)} {vs : List (κ × Value)} (r : KV kvs vs) (k : κ) : RelO (valV kvs k) (valueAt vs k) := by
  unfold KV at r
  induction r with
  | nil => exact True.intro
  | @cons p q ps qs h t ih =>
    obtain ⟨h1, h2⟩ := h
    by_cases e : p.1 = k
    · have e' : q.1 = k := h1.symm.trans e
      have b : valueAt (q :: qs) k = some q.2 := by simp [valueAt, List.find?_cons, e']
      rw [valV_pos e, b]; exact h2
    · have e' : ¬ q.1 = k := fun z => e (h1.trans z)
      have b : valueAt (q :: qs) k = valueAt qs k := by simp [valueAt, List.find?_cons, e']
      rw [valV_neg e, b]; exact ih
theorem KV.any {kvs : List (κ × V)} {vs : List (κ × Value)} (r : KV kvs vs) (k : κ) : (kvs.any fun kv => decide (kv.1 = k)) = vs.any fun kv => decide (kv.1 = k) := by
  unfold KV at r
  induction r with
  | nil => rfl
  | cons h t ih => rw [List.any_cons, List.any_cons, ih, h.1]
theorem KV.repl {kvs : List (κ × V)} {vs : List (κ × Value)} (r : KV kvs vs) (k : κ) {y : V} {u : Value} (ry : RelV y u) :
    KV (kvs.map fun kv => if kv.1 = k then (kv.1, y) else kv) (vs.map fun kv => if kv.1 = k then (kv.1, u) else kv) := by
  unfold KV at r ⊢
  induction r with
  | nil => exact .nil
  | @cons p q ps qs h t ih =>
    rw [List.map_cons, List.map_cons]
    refine .cons ?_ ih
    obtain ⟨h1, h2⟩ := h
    by_cases e : p.1 = k
    · rw [if_pos e, if_pos (h1.symm.trans e)]; exact ⟨h1, ry⟩
    · rw [if_neg e, if_neg (fun z => e (h1.trans z))]; exact ⟨h1, h2⟩
theorem KV.put {kvs : List (κ × V)} {vs : List (κ × Value)} (r : KV kvs vs) (k : κ) {y : V} {u : Value} (ry : RelV y u) : KV (putK kvs k y) (stored vs k u) := by
  unfold putK stored
  rw [r.any k]
  by_cases e : (vs.any fun kv => decide (kv.1 = k)) = true
  · rw [if_pos e, if_pos e]; exact r.repl k ry
  · rw [if_neg e, if_neg e]; exact Paired.snoc r ⟨rfl, ry⟩
theorem KV.drop {kvs : List (κ × V)} {vs : List (κ × Value)} (r : KV kvs vs) (k : κ) : KV (dropK kvs k) (without vs k) := by
  unfold KV at r ⊢
  unfold dropK without
  induction r with
  | nil => exact .nil
  | @cons p q ps qs h t ih =>
    obtain ⟨h1, h2⟩ := h
    rw [List.filter_cons, List.filter_cons]
    by_cases e : p.1 = k
    · have a : ¬ decide (p.1 ≠ k) = true := by simp [e]
      have b : ¬ decide (q.1 ≠ k) = true := by simp [h1.symm.trans e]
      rw [if_neg a, if_neg b]; exact ih
    · have e' : ¬ q.1 = k := fun z => e (h1.trans z)
      have a : decide (p.1 ≠ k) = true := by simp [e]
      have b : decide (q.1 ≠ k) = true := by simp [e']
      rw [if_pos a, if_pos b]; exact .cons ⟨h1, h2⟩ ih
theorem KV.keys {kvs : List (κ × V)} {vs : List (κ × Value)} (r : KV kvs vs) : kvs.map (·.1) = vs.map (·.1) := by
  unfold KV at r
  induction r with
  | nil => rfl
  | cons h t ih => rw [List.map_cons, List.map_cons, ih, h.1]
theorem KV.length {kvs : List (κ × V)} {vs : List (κ × Value)} (r : KV kvs vs) : kvs.length = vs.length := Paired.length r
end


/-! ### a tracked dict, its keys ints and texts or tuples of these -/
/-- raw entries of a dict with tuple keys -/
abbrev KT (H : Hp) : List (List Key × V) → List (List Key × Addr × Value) → Prop := Paired fun p q => p.1 = q.1 ∧ H q.2.1 = some (.tup (p.1.map kV)) ∧ RelV p.2 q.2.2
theorem KT.val {H : Hp} {kvs : List (List Key × V)} {xs : List (List Key × Addr × Value)} (r : KT H kvs xs) (k : List Key) : RelO (valV kvs k) ((atKey xs k).map (·.2)) := by
  induction r with
  | nil => exact True.intro
  | @cons p q ps qs h t ih =>
    obtain ⟨h1, _, h2⟩ := h
    by_cases e : p.1 = k
    · have e' : q.1 = k := h1.symm.trans e
      have b : atKey (q :: qs) k = some q.2 := by simp [atKey, List.find?_cons, e']
      rw [valV_pos e, b]; exact h2
    · have e' : ¬ q.1 = k := fun z => e (h1.trans z)
      have b : atKey (q :: qs) k = atKey qs k := by simp [atKey, List.find?_cons, e']
      rw [valV_neg e, b]; exact ih
theorem KT.repl {H : Hp} {kvs : List (List Key × V)} {xs : List (List Key × Addr × Value)} (r : KT H kvs xs) (k : List Key) {y : V} {u : Value} (ry : RelV y u) :
    KT H (kvs.map fun kv => if kv.1 = k then (kv.1, y) else kv) (xs.map (putAt k u)) := by
  induction r with
  | nil => exact .nil
  | @cons p q ps qs h t ih =>
    rw [List.map_cons, List.map_cons]
    refine .cons ?_ ih
    obtain ⟨h1, h2, h3⟩ := h
    unfold putAt
    by_cases e : p.1 = k
    · rw [if_pos e, if_pos (h1.symm.trans e)]; exact ⟨h1, h2, ry⟩
    · rw [if_neg e, if_neg (fun z => e (h1.trans z))]; exact ⟨h1, h2, h3⟩
theorem KT.put {H : Hp} {kvs : List (List Key × V)} {xs : List (List Key × Addr × Value)} (r : KT H kvs xs) (k : List Key) {b : Addr} {y : V} {u : Value} (hb : H b = some (.tup (k.map kV))) (ry : RelV y u) :
    KT H (putK kvs k y) (storedH xs k b u) := by
  have e : (kvs.any fun kv => decide (kv.1 = k)) = (atKey xs k).isSome := by
    rw [valV_any, (r.val k).isSome_eq, Option.isSome_map]
  unfold putK storedH
  rw [e]
  by_cases q : (atKey xs k).isSome = true
  · rw [if_pos q, if_pos q]; exact r.repl k ry
  · rw [if_neg q, if_neg q]; exact Paired.snoc r ⟨rfl, hb, ry⟩
theorem KT.keeps {H H' : Hp} {kvs : List (List Key × V)} {xs : List (List Key × Addr × Value)} (r : KT H kvs xs) (ht : ∀ b ys, H b = some (.tup ys) → H' b = some (.tup ys)) : KT H' kvs xs :=
  Paired.mapP r fun _ _ z => ⟨z.1, ht _ _ z.2.1, z.2.2⟩

section
variable {P : Program} {w : World} {H : Hp} {h : Heap} {a : Addr}
end

/-- what the dict at a holds at the key y -/
def DGet (H : Hp) (a : Addr) (y : V) (r : Option V) : Prop :=
  (∃ kvs k, Rd H a (.dK kvs) ∧ y = kV k ∧ r = valV kvs k) ∨ ∃ kvs k b, Rd H a (.dT kvs) ∧ y = .ref b ∧ H b = some (.tup (k.map kV)) ∧ r = valV kvs k
/-- the heap behind a[y] = v -/
def DPut (H : Hp) (a : Addr) (y v : V) (H' : Hp) : Prop :=
  (∃ kvs k, H a = some (.dK kvs) ∧ y = kV k ∧ kvs.length < sizeLine ∧ H' = upd H a (.dK (putK kvs k v))) ∨
  ∃ kvs k b, H a = some (.dT kvs) ∧ y = .ref b ∧ H b = some (.tup (k.map kV)) ∧ kvs.length < sizeLine ∧ H' = upd H a (.dT (putK kvs k v))
theorem DGet.k {H : Hp} {a : Addr} {kvs : List (Key × V)} {k : Key} (e : H a = some (.dK kvs)) : DGet H a (kV k) (valV kvs k) := .inl ⟨kvs, k, .inl e, rfl, rfl⟩
theorem DGet.t {H : Hp} {a b : Addr} {kvs : List (List Key × V)} {k : List Key} (e : H a = some (.dT kvs)) (eb : H b = some (.tup (k.map kV))) : DGet H a (.ref b) (valV kvs k) := .inr ⟨kvs, k, b, .inl e, rfl, eb, rfl⟩
theorem DPut.k {H : Hp} {a : Addr} {kvs : List (Key × V)} {k : Key} {v : V} (e : H a = some (.dK kvs)) (hl : kvs.length < sizeLine) : DPut H a (kV k) v (upd H a (.dK (putK kvs k v))) := .inl ⟨kvs, k, e, rfl, hl, rfl⟩
theorem DPut.t {H : Hp} {a b : Addr} {kvs : List (List Key × V)} {k : List Key} {v : V} (e : H a = some (.dT kvs)) (eb : H b = some (.tup (k.map kV))) (hl : kvs.length < sizeLine) :
    DPut H a (.ref b) v (upd H a (.dT (putK kvs k v))) := .inr ⟨kvs, k, b, e, rfl, eb, hl, rfl⟩


section
variable {X : Cx} {pins : List (Addr × Obj)} {σ : St} {H : Hp} {s : Shared} {a : Addr} {y v : V} {u r : Value} {o : Option V} {A : Around} {E : Value → Shared → Prop}

theorem Inv.big (I : Inv X pins σ H s) : sysModules < s.heap.objs.size := by
  have h : mainGlobals < s.heap.objs.size := (I.mod.glob.keeps I.bk).lt
  exact Nat.lt_trans (by decide) h

end

section
variable {X : Cx} {pins : List (Addr × Obj)} {σ : St} {H : Hp} {s : Shared} {a : Addr} {kvs : List (Key × V)} {k : Key} {u : Value} {A : Around} {E : Value → Shared → Prop}
end


/-! ### readings and rules -/
section
variable {X : Cx} {o i e value : Expr} {pos pos' tpos : Pos} {td ty tv : TE}
end


/-! ### displays -/
section
variable {X : Cx} {pos : Pos}
end

/-! ### methods -/
/-- a method call o.m(e) of a built-in, with one argument: what must be seen of the text -/
structure M1 (X : Cx) (o : Expr) (m : Str) (apos : Pos) (e : Expr) (cpos : Pos) : Prop where
  base : attributeBase o m X.env (eval o X.env) = eval o X.env
  few : ((backTo cpos (starEach [e] X.env)).all (fun x => !x.1) && (backToKw cpos (keywordEach [] X.env)).all (fun x => x.1.isSome)
    && decide (([e] : List Expr).length + ([] : List Keyword).length + (if ([] : List Keyword).isEmpty then 0 else 1) < 30)) = true
  line : (apos.endLine == cpos.line) = true
  trees : backTo cpos (starEach [e] X.env) = [(false, eval e X.env)]
structure M2 (X : Cx) (o : Expr) (m : Str) (apos : Pos) (e f : Expr) (cpos : Pos) : Prop where
  base : attributeBase o m X.env (eval o X.env) = eval o X.env
  few : ((backTo cpos (starEach [e, f] X.env)).all (fun x => !x.1) && (backToKw cpos (keywordEach [] X.env)).all (fun x => x.1.isSome)
    && decide (([e, f] : List Expr).length + ([] : List Keyword).length + (if ([] : List Keyword).isEmpty then 0 else 1) < 30)) = true
  line : (apos.endLine == cpos.line) = true
  trees : backTo cpos (starEach [e, f] X.env) = [(false, eval e X.env), (false, eval f X.env)]

section
variable {X : Cx} {pins : List (Addr × Obj)} {σ : St} {H : Hp} {s : Shared} {a : Addr} {y d : V} {u r : Value} {o : Option V} {A : Around} {E : Value → Shared → Prop}
end

section
variable {X : Cx} {o e f : Expr} {apos cpos : Pos} {td ty tx : TE}
end

/-! ### dict(d): a copy -/
section
variable {X : Cx} {pins : List (Addr × Obj)} {σ : St} {H : Hp} {s : Shared} {a : Addr} {kvs : List (Key × V)} {A : Around} {E : Value → Shared → Prop}
end


section
variable {X : Cx} {pins : List (Addr × Obj)} {σ : St} {H : Hp} {s : Shared} {a : Addr} {y : V} {u : Value} {A : Around} {E : Value → Shared → Prop}
end
end L2

end
section
set_option Elab.async false
set_option linter.all false
set_option maxRecDepth 100000
set_option maxHeartbeats 4000000
namespace DL
open PySem PySem.Spec PyProof.Rows L2
/-! ### dicts whose keys are tuples of ints -/
def valD (kvs : List (List Int × D)) (k : List Int) : Option D := (kvs.find? fun kv => decide (kv.1 = k)).map (·.2)
def putD (kvs : List (List Int × D)) (k : List Int) (d : D) : List (List Int × D) := if (kvs.any fun kv => decide (kv.1 = k)) = true then kvs.map (fun kv => if kv.1 = k then (kv.1, d) else kv) else kvs ++ [(k, d)]
abbrev kK (k : List Int) : List Key := k.map Sum.inl
theorem kK_inj {a b : List Int} : kK a = kK b ↔ a = b := ⟨fun h => List.map_inj_right (fun _ _ e => by injection e) |>.mp h, fun h => by rw [h]⟩
section
variable {K : PySem.W.Frag} {H : Hp}
theorem DReps.val : ∀ {kvs : List (List Int × D)} {ho : List (List Key × V)} (k : List Int), DReps K H kvs ho → (valV ho (kK k)).isSome = (valD kvs k).isSome ∧ ∀ d, valD kvs k = some d → ∃ v, valV ho (kK k) = some v ∧ Rep K H d v
  | [], _, k, h => by
    cases (show _ = [] from h)
    exact ⟨rfl, fun d z => nomatch z⟩
  | (k', d') :: r, _, k, ⟨v, r', e, h1, h2⟩ => by
    subst e
    obtain ⟨i1, i2⟩ := DReps.val k h2
    by_cases q : k' = k
    · subst q
      rw [valV_pos rfl]
      have e2 : valD ((k', d') :: r) k' = some d' := by simp [valD, List.find?_cons]
      rw [e2]
      exact ⟨rfl, fun d z => by cases z; exact ⟨v, rfl, h1⟩⟩
    · have q2 : ¬ (kK k', v).1 = kK k := fun z => q (kK_inj.mp z)
      rw [valV_neg q2]
      have e2 : valD ((k', d') :: r) k = valD r k := by simp [valD, List.find?_cons, q]
      rw [e2]
      exact ⟨i1, i2⟩
theorem DReps.len : ∀ {kvs : List (List Int × D)} {ho : List (List Key × V)}, DReps K H kvs ho → ho.length = kvs.length
  | [], _, h => by cases (show _ = [] from h); rfl
  | (_, _) :: r, _, ⟨v, r', e, _, h2⟩ => by subst e; exact congrArg (· + 1) (DReps.len h2)
theorem DReps.any : ∀ {kvs : List (List Int × D)} {ho : List (List Key × V)} (k : List Int), DReps K H kvs ho → (ho.any fun kv => decide (kv.1 = kK k)) = (kvs.any fun kv => decide (kv.1 = k))
  | [], _, k, h => by cases (show _ = [] from h); rfl
  | (k', _) :: r, _, k, ⟨v, r', e, _, h2⟩ => by
    subst e
    rw [List.any_cons, List.any_cons, DReps.any k h2]
    congr 1
    exact decide_eq_decide.mpr kK_inj
theorem DReps.upd : ∀ {kvs : List (List Int × D)} {ho : List (List Key × V)} (k : List Int) {d : D} {v : V}, DReps K H kvs ho → Rep K H d v → DReps K H (kvs.map fun kv => if kv.1 = k then (kv.1, d) else kv) (ho.map fun kv => if kv.1 = kK k then (kv.1, v) else kv)
  | [], _, k, _, _, h, _ => by cases (show _ = [] from h); rfl
  | (k', d') :: r, _, k, d, v, ⟨v', r', e, h1, h2⟩, hd => by
    subst e
    have ih := DReps.upd k h2 hd
    rw [List.map_cons, List.map_cons]
    by_cases q : k' = k
    · subst q
      rw [if_pos rfl, if_pos rfl]
      exact ⟨v, _, rfl, hd, ih⟩
    · have q2 : ¬ kK k' = kK k := fun z => q (kK_inj.mp z)
      rw [if_neg q, if_neg q2]
      exact ⟨v', _, rfl, h1, ih⟩
theorem DReps.snoc : ∀ {kvs : List (List Int × D)} {ho : List (List Key × V)} (k : List Int) {d : D} {v : V}, DReps K H kvs ho → Rep K H d v → DReps K H (kvs ++ [(k, d)]) (ho ++ [(kK k, v)])
  | [], _, k, d, v, h, hd => by cases (show _ = [] from h); exact ⟨v, [], rfl, hd, rfl⟩
  | (k', d') :: r, _, k, d, v, ⟨v', r', e, h1, h2⟩, hd => by
    subst e
    exact ⟨v', _, rfl, h1, DReps.snoc k h2 hd⟩
theorem DReps.put {kvs : List (List Int × D)} {ho : List (List Key × V)} (k : List Int) {d : D} {v : V} (h : DReps K H kvs ho) (hd : Rep K H d v) : DReps K H (putD kvs k d) (putK ho (kK k) v) := by
  unfold putD putK
  rw [h.any k]
  split
  · exact h.upd k hd
  · exact h.snoc k hd
end
section
variable {S : Stat} {Γ : List Sl} {E : DEnds} {pos p pos' : Pos} {e value : Expr} {x : Str}
end
section
variable {S : Stat} {Γ : List Sl} {pos : Pos} {a b : Expr}
end
end DL

end
section
set_option Elab.async false
set_option linter.all false
set_option maxRecDepth 100000
set_option maxHeartbeats 4000000
namespace BM
open DL
/-! what is no board -/
def okR (w : Nat) (r : List Int) : Prop := r.length = w ∧ Col r
def okB (rs : Bd) : Prop := (1 ≤ rs.length ∧ rs.length ≤ 8) ∧ (1 ≤ (rs.getD 0 []).length ∧ (rs.getD 0 []).length ≤ 8) ∧ ∀ r ∈ rs, okR (rs.getD 0 []).length r
/-- rows that can be told -/
def SmR (r : List Int) : Prop := r.length ≤ 100 ∧ ∀ c ∈ r, c.natAbs.log2 < 1920
def SmB (rs : Bd) : Prop := rs.length ≤ 100 ∧ ∀ r ∈ rs, SmR r
theorem first_bad {α : Type} {p : α → Prop} : ∀ {l : List α}, ¬ (∀ x ∈ l, p x) → ∃ (n : Nat) (x : α), l[n]? = some x ∧ ¬ p x ∧ ∀ (k : Nat) y, k < n → l[k]? = some y → p y
  | [], h => (h fun _ h => nomatch h).elim
  | a :: l, h => by
    by_cases ha : p a
    · obtain ⟨n, x, h1, h2, h3⟩ := first_bad (p := p) (l := l) fun q => h fun x hx => by
        rcases List.mem_cons.mp hx with rfl | hx
        · exact ha
        · exact q x hx
      refine ⟨n + 1, x, h1, h2, fun k y hk hy => ?_⟩
      cases k with
      | zero => cases hy; exact ha
      | succ k => exact h3 k y (by omega) hy
    · exact ⟨0, a, rfl, ha, fun k y hk _ => absurd hk (Nat.not_lt_zero _)⟩
theorem nat_log {n : Nat} (h : n ≤ 1000) : ((n : Int)).natAbs.log2 < 1920 := by
  rw [Int.natAbs_natCast]
  by_cases hn : n = 0
  · subst hn; decide
  · rw [Nat.log2_lt hn]
    exact Nat.lt_of_lt_of_le (show n < 2 ^ 10 by omega) (Nat.pow_le_pow_right (by omega) (by omega))
end BM

end
section
set_option Elab.async false
set_option linter.all false
set_option maxRecDepth 100000
set_option maxHeartbeats 4000000
/-! texts that are no board -/
namespace BM
open DL PySem
def lines (R : List (List Nat)) : List Nat := (R.map (· ++ [10])).flatten
abbrev Fg (c : Nat) : Prop := 48 ≤ c ∧ c ≤ 57
theorem lines_cons (x : List Nat) (R : List (List Nat)) : lines (x :: R) = x ++ [10] ++ lines R := by unfold lines; rw [List.map_cons, List.flatten_cons]
theorem lines_len {a : Nat} : ∀ {R : List (List Nat)}, (∀ x ∈ R, x.length ≤ a) → (lines R).length ≤ R.length * (a + 1)
  | [], _ => by simp [lines]
  | x :: R, h => by
    have ih := lines_len (R := R) fun y hy => h y (by simp [hy])
    have hx := h x (by simp)
    have e : (x :: R).length * (a + 1) = R.length * (a + 1) + (a + 1) := by rw [List.length_cons, Nat.succ_mul]
    rw [lines_cons, e, List.length_append, List.length_append, List.length_singleton]
    omega
theorem lines_cps : ∀ {R : List (List Nat)}, (∀ x ∈ R, ∀ c ∈ x, c < 1000) → ∀ c ∈ lines R, c < 1000
  | [], _, c, hc => by simp [lines] at hc
  | x :: R, h, c, hc => by
    rw [lines_cons] at hc
    rcases List.mem_append.mp hc with q | q
    · rcases List.mem_append.mp q with q | q
      · exact h x (by simp) c q
      · rw [List.mem_singleton.mp q]; decide
    · exact lines_cps (fun y hy => h y (by simp [hy])) c q
structure TxtOk (l : List Nat) : Prop where
  len : l.length ≤ 200
  cps : ∀ c ∈ l, c < 1000
def BadA (l : List Nat) : Prop := TxtOk l ∧ Txt.endswith (sl l) (sl [10]) = false
def BadB (l : List Nat) : Prop := TxtOk l ∧ ∃ R : List (List Nat), R ≠ [] ∧ R.length ≤ 20 ∧ (∀ x ∈ R, 10 ∉ x ∧ x.length ≤ 20 ∧ ∀ c ∈ x, c < 1000) ∧ l = lines R ∧ ∃ x ∈ R, ∃ c ∈ x, ¬ Fg c
def BadC (l : List Nat) : Prop := TxtOk l ∧ ∃ bd : Bd, bd ≠ [] ∧ bd.length ≤ 20 ∧ (∀ r ∈ bd, Col r ∧ r.length ≤ 20) ∧ l = lines (bd.map figL) ∧ ¬ okB bd
theorem ends_no {l : List Nat} {c : Nat} (h : l.getLast? ≠ some c) : Txt.endswith (sl l) (sl [c]) = false := by
  unfold Txt.endswith
  rw [StrLaws.subAt_eq, sl_len, sl_len, sl_cps, sl_cps]
  cases e : l.getLast? with
  | none =>
    rw [List.getLast?_eq_none_iff] at e
    subst e
    simp
  | some d =>
    rw [e] at h
    obtain ⟨ys, rfl⟩ := List.getLast?_eq_some_iff.mp e
    have : d ≠ c := fun z => h (by rw [z])
    simp [this]
theorem mkB {R : List (List Nat)} (h0 : R ≠ []) (h1 : R.length ≤ 9) (h2 : ∀ x ∈ R, 10 ∉ x ∧ x.length ≤ 9 ∧ ∀ c ∈ x, c < 1000) (h3 : ∃ x ∈ R, ∃ c ∈ x, ¬ Fg c) : BadB (lines R) :=
  ⟨⟨Nat.le_trans (lines_len fun x hx => (h2 x hx).2.1) (Nat.le_trans (Nat.mul_le_mul_right _ h1) (by decide)), lines_cps fun x hx => (h2 x hx).2.2⟩, R, h0, by omega, fun x hx => ⟨(h2 x hx).1, by have := (h2 x hx).2.1; omega, (h2 x hx).2.2⟩, rfl, h3⟩
theorem fig_fg {r : List Int} (h : Col r) : ∀ c ∈ figL r, Fg c := fun c hc => by
  obtain ⟨d, hd, rfl⟩ := List.mem_map.mp hc
  have := h d hd
  constructor <;> omega
theorem mkC {bd : Bd} (h0 : bd ≠ []) (h1 : bd.length ≤ 9) (h2 : ∀ r ∈ bd, Col r ∧ r.length ≤ 9) (h3 : ¬ okB bd) : BadC (lines (bd.map figL)) :=
  ⟨⟨Nat.le_trans (lines_len (a := 9) fun x hx => by
      obtain ⟨r, hr, rfl⟩ := List.mem_map.mp hx
      unfold figL; rw [List.length_map]; exact (h2 r hr).2) (Nat.le_trans (Nat.mul_le_mul_right _ (by rw [List.length_map]; exact h1)) (by decide)), lines_cps fun x hx c hc => by
      obtain ⟨r, hr, rfl⟩ := List.mem_map.mp hx
      have := fig_fg (h2 r hr).1 c hc
      obtain ⟨_, _⟩ := this
      omega⟩, bd, h0, by omega, fun r hr => ⟨(h2 r hr).1, by have := (h2 r hr).2; omega⟩, rfl, h3⟩
theorem not_okB {bd : Bd} {r s : List Int} (hr : r ∈ bd) (hs : s ∈ bd) (h : r.length ≠ s.length) : ¬ okB bd := fun ⟨_, _, q⟩ => h ((q r hr).1.trans (q s hs).1.symm)
def tY (R : List (List Nat)) (c : Int) : Nat := (c / 9 % (R.length : Int)).toNat
def tA (R : List (List Nat)) (c : Int) : Nat := (c / 72 % ((R.getD (tY R c) []).length : Int)).toNat
def signs : List Nat := [32, 45, 43, 95, 46, 44, 97, 120, 58, 126]
def tS (c : Int) : Nat := signs.getD (c / 700 % 10).toNat 0
def tZ (R : List (List Nat)) (c : Int) : Nat := (c / 9 % ((R.length : Int) + 1)).toNat
def oddT : List (List Nat) := [[], [10], [10, 10], [48], [32, 10], [120, 10], [48, 10, 10], [48, 9, 10]]
def spR (R : List (List Nat)) (c : Int) : List (List Nat) :=
  if c % 9 = 0 then R.set (tY R c) ((R.getD (tY R c) []).take (tA R c) ++ [tS c] ++ (R.getD (tY R c) []).drop (tA R c))
  else if c % 9 = 1 then R.set (tY R c) ((R.getD (tY R c) []).take (tA R c) ++ [tS c] ++ (R.getD (tY R c) []).drop (tA R c + 1))
  else if c % 9 = 2 then R.take (tY R c) ++ [R.getD (tY R c) [] ++ [48]] ++ R.drop (tY R c)
  else if c % 9 = 3 then R.take (tY R c) ++ [(R.getD (tY R c) []).take ((R.getD (tY R c) []).length - 1)] ++ R.drop (tY R c)
  else if c % 9 = 4 then List.replicate 9 (R.getD 0 [])
  else if c % 9 = 5 then R.map fun _ => [49, 50, 51, 52, 53, 54, 55, 56, 57]
  else R.take (tZ R c) ++ [[]] ++ R.drop (tZ R c)
def tSpo (R : List (List Nat)) (c : Int) : List Nat :=
  if c % 9 = 6 then inter 10 R else if c % 9 = 8 then oddT.getD (c / 9 % 8).toNat [] else lines (spR R c)
theorem sign_all : ∀ k < 10, signs.getD k 0 ≠ 10 ∧ signs.getD k 0 < 1000 ∧ ¬ Fg (signs.getD k 0) := by decide
theorem sign_no (c : Int) : tS c ≠ 10 ∧ tS c < 1000 ∧ ¬ Fg (tS c) := by
  have h1 := Int.emod_nonneg (c / 700) (show (10 : Int) ≠ 0 by decide)
  have h2 := Int.emod_lt_of_pos (c / 700) (show (0 : Int) < 10 by decide)
  exact sign_all _ (by omega)
theorem inter_last {x : List Nat} {d : Nat} : ∀ {R : List (List Nat)}, inter 10 (R ++ [x ++ [d]]) = (inter 10 (R ++ [x])) ++ [d]
  | [] => rfl
  | [a] => by simp [inter]
  | a :: b :: R => by
    show a ++ [10] ++ inter 10 (b :: R ++ [x ++ [d]]) = (a ++ [10] ++ inter 10 (b :: R ++ [x])) ++ [d]
    rw [inter_last (R := b :: R), List.append_assoc, List.append_assoc, List.append_assoc]
theorem inter_len {a : Nat} : ∀ {R : List (List Nat)}, (∀ x ∈ R, x.length ≤ a) → (inter 10 R).length ≤ R.length * (a + 1)
  | [], _ => by simp [inter]
  | [x], h => by
    have := h x (by simp)
    simp [inter]; omega
  | x :: y :: R, h => by
    have ih := inter_len (R := y :: R) fun z hz => h z (by simp at hz ⊢; exact .inr hz)
    have hx := h x (by simp)
    have e : (x :: y :: R).length * (a + 1) = (y :: R).length * (a + 1) + (a + 1) := by rw [List.length_cons, Nat.succ_mul]
    show (x ++ [10] ++ inter 10 (y :: R)).length ≤ _
    rw [e, List.length_append, List.length_append, List.length_singleton]
    omega
theorem inter_cps : ∀ {R : List (List Nat)}, (∀ x ∈ R, ∀ c ∈ x, c < 1000) → ∀ c ∈ inter 10 R, c < 1000
  | [], _, c, hc => by simp [inter] at hc
  | [x], h, c, hc => h x (by simp) c hc
  | x :: y :: R, h, c, hc => by
    have hc : c ∈ x ++ [10] ++ inter 10 (y :: R) := hc
    rcases List.mem_append.mp hc with q | q
    · rcases List.mem_append.mp q with q | q
      · exact h x (by simp) c q
      · rw [List.mem_singleton.mp q]; decide
    · exact inter_cps (R := y :: R) (fun z hz => h z (by simp at hz ⊢; exact .inr hz)) c q
theorem odd_bad : ∀ k < 8, BadA (oddT.getD k []) ∨ BadB (oddT.getD k []) ∨ BadC (oddT.getD k []) := by
  have nb : ∀ bd : Bd, (∀ r ∈ bd, Col r ∧ r.length ≤ 9) → ((bd.getD 0 []).length = 0 ∨ ∃ r ∈ bd, ∃ s ∈ bd, r.length ≠ s.length) → ¬ okB bd := fun bd _ h => by
    rcases h with h | ⟨r, hr, s, hs, h⟩
    · rintro ⟨_, ⟨q, _⟩, _⟩; omega
    · exact not_okB hr hs h
  have c0 : Col [] := fun _ h => nomatch h
  have c1 : Col [0] := fun c h => by rw [List.mem_singleton.mp h]; decide
  intro k hk
  match k, hk with
  | 0, _ => exact .inl ⟨⟨by decide, by decide⟩, ends_no (by decide)⟩
  | 1, _ =>
    have hh : ∀ r ∈ ([[]] : Bd), Col r ∧ r.length ≤ 9 := fun r hr => by rw [List.mem_singleton.mp hr]; exact ⟨c0, by decide⟩
    exact .inr (.inr (mkC (bd := [[]]) (by decide) (by decide) hh (nb _ hh (.inl rfl))))
  | 2, _ =>
    have hh : ∀ r ∈ ([[], []] : Bd), Col r ∧ r.length ≤ 9 := fun r hr => by
      have : r = [] := by simpa using hr
      rw [this]; exact ⟨c0, by decide⟩
    exact .inr (.inr (mkC (bd := [[], []]) (by decide) (by decide) hh (nb _ hh (.inl rfl))))
  | 3, _ => exact .inl ⟨⟨by decide, by decide⟩, ends_no (by decide)⟩
  | 4, _ => exact .inr (.inl (mkB (R := [[32]]) (by decide) (by decide) (by decide) ⟨[32], by decide, 32, by decide, by decide⟩))
  | 5, _ => exact .inr (.inl (mkB (R := [[120]]) (by decide) (by decide) (by decide) ⟨[120], by decide, 120, by decide, by decide⟩))
  | 6, _ =>
    have hh : ∀ r ∈ ([[0], []] : Bd), Col r ∧ r.length ≤ 9 := fun r hr => by
      have : r = [0] ∨ r = [] := by simpa using hr
      rcases this with e | e
      · rw [e]; exact ⟨c1, by decide⟩
      · rw [e]; exact ⟨c0, by decide⟩
    exact .inr (.inr (mkC (bd := [[0], []]) (by decide) (by decide) hh (nb _ hh (.inr ⟨[0], by simp, [], by simp, by decide⟩))))
  | 7, _ => exact .inr (.inl (mkB (R := [[48, 9]]) (by decide) (by decide) (by decide) ⟨[48, 9], by decide, 9, by decide, by decide⟩))
theorem tSpo_bad {w h : Nat} {B : Bd} (q : BdIn w h B) (w8 : w ≤ 8) (h8 : h ≤ 8) (hc : ∀ r ∈ B, Col r) (c : Int) : BadA (tSpo (B.map figL) c) ∨ BadB (tSpo (B.map figL) c) ∨ BadC (tSpo (B.map figL) c) := by
  have hl := q.r.len
  have h0 := q.h0
  have w0 := q.w0
  have hR : (B.map figL).length = h := by rw [List.length_map, hl]
  have hrow : ∀ r ∈ B, r.length = w := q.r.row
  have hRx : ∀ x ∈ B.map figL, x.length = w ∧ ∀ c ∈ x, Fg c := fun x hx => by
    obtain ⟨r, hr, rfl⟩ := List.mem_map.mp hx
    exact ⟨by unfold figL; rw [List.length_map]; exact hrow r hr, fig_fg (hc r hr)⟩
  have hyl : tY (B.map figL) c < h := by
    unfold tY
    have h1 := Int.emod_nonneg (c / 9) (show (((B.map figL).length : Nat) : Int) ≠ 0 by omega)
    have h2 := Int.emod_lt_of_pos (c / 9) (show (0 : Int) < ((B.map figL).length : Nat) by omega)
    omega
  have hgR : (B.map figL).getD (tY (B.map figL) c) [] = figL (B.getD (tY (B.map figL) c) []) := by
    rw [getD_lt _ _ _ (by rw [hR]; exact hyl), getD_lt B _ _ (by rw [hl]; exact hyl), List.getElem_map]
  have hgm : B.getD (tY (B.map figL) c) [] ∈ B := by rw [getD_lt B _ _ (by rw [hl]; exact hyl)]; exact List.getElem_mem _
  have hgm' : (B.map figL).getD (tY (B.map figL) c) [] ∈ B.map figL := by rw [hgR]; exact List.mem_map_of_mem hgm
  have hgd : B.getD (tY (B.map figL) c) [] ∈ B.drop (tY (B.map figL) c) := by
    rw [getD_lt B _ _ (by rw [hl]; exact hyl), List.drop_eq_getElem_cons (by rw [hl]; exact hyl)]
    exact List.mem_cons_self
  have hg0 : (B.map figL).getD 0 [] = figL (B.getD 0 []) := by
    rw [getD_lt _ _ _ (by rw [hR]; exact h0), getD_lt B _ _ (by rw [hl]; exact h0), List.getElem_map]
  have hm0 : B.getD 0 [] ∈ B := by rw [getD_lt B _ _ (by rw [hl]; exact h0)]; exact List.getElem_mem _
  obtain ⟨s1, s2, s3⟩ := sign_no c
  unfold tSpo
  by_cases k6 : c % 9 = 6
  · rw [if_pos k6]
    refine .inl ⟨⟨Nat.le_trans (inter_len (a := 8) fun x hx => by rw [(hRx x hx).1]; exact w8) (Nat.le_trans (Nat.mul_le_mul_right _ (by rw [hR]; exact h8)) (by decide)), inter_cps fun x hx c hcx => by
      obtain ⟨_, z⟩ := (hRx x hx).2 c hcx; omega⟩, ends_no ?_⟩
    have hne : B.map figL ≠ [] := fun z => by rw [z] at hR; simp at hR; omega
    have e1 : B.map figL = (B.map figL).dropLast ++ [(B.map figL).getLast hne] := (List.dropLast_concat_getLast hne).symm
    have hm := List.getLast_mem hne
    generalize (B.map figL).getLast hne = x at e1 hm
    have hx := hRx x hm
    have hxne : x ≠ [] := fun z => by rw [z] at hx; have := hx.1; simp at this; omega
    have e2 : x = x.dropLast ++ [x.getLast hxne] := (List.dropLast_concat_getLast hxne).symm
    have hd := hx.2 _ (List.getLast_mem hxne)
    generalize x.getLast hxne = d at e2 hd
    rw [e1, e2, inter_last, List.getLast?_append]
    simp only [List.getLast?_singleton, Option.some_or, ne_eq, Option.some.injEq]
    obtain ⟨_, _⟩ := hd
    omega
  rw [if_neg k6]
  by_cases k8 : c % 9 = 8
  · rw [if_pos k8]
    have h1 := Int.emod_nonneg (c / 9) (show (8 : Int) ≠ 0 by decide)
    have h2 := Int.emod_lt_of_pos (c / 9) (show (0 : Int) < 8 by decide)
    exact odd_bad _ (by omega)
  rw [if_neg k8]
  have setB : ∀ n, BadB (lines ((B.map figL).set (tY (B.map figL) c) (((B.map figL).getD (tY (B.map figL) c) []).take (tA (B.map figL) c) ++ [tS c] ++ ((B.map figL).getD (tY (B.map figL) c) []).drop n))) ∨ n < tA (B.map figL) c := fun n => by
    by_cases hn : n < tA (B.map figL) c
    · exact .inr hn
    refine .inl (mkB (fun z => ?_) (by rw [List.length_set, hR]; omega) (fun x hx => ?_) ⟨((B.map figL).getD (tY (B.map figL) c) []).take (tA (B.map figL) c) ++ [tS c] ++ ((B.map figL).getD (tY (B.map figL) c) []).drop n, List.mem_set (by rw [hR]; exact hyl) _, tS c, List.mem_append_left _ (List.mem_append_right _ (List.mem_singleton.mpr rfl)), s3⟩)
    · have := congrArg List.length z
      rw [List.length_set, hR] at this; simp at this; omega
    · rcases List.mem_or_eq_of_mem_set hx with hx | rfl
      · obtain ⟨a1, a2⟩ := hRx x hx
        exact ⟨fun z => by obtain ⟨_, _⟩ := a2 10 z; omega, by omega, fun d hd => by obtain ⟨_, _⟩ := a2 d hd; omega⟩
      · obtain ⟨a1, a2⟩ := hRx _ hgm'
        have all : ∀ d ∈ ((B.map figL).getD (tY (B.map figL) c) []).take (tA (B.map figL) c) ++ [tS c] ++ ((B.map figL).getD (tY (B.map figL) c) []).drop n, Fg d ∨ d = tS c := fun d hd => by
          rcases List.mem_append.mp hd with z | z
          · rcases List.mem_append.mp z with z | z
            · exact .inl (a2 d (List.mem_of_mem_take z))
            · exact .inr (List.mem_singleton.mp z)
          · exact .inl (a2 d (List.mem_of_mem_drop z))
        refine ⟨fun z => ?_, ?_, fun d hd => ?_⟩
        · rcases all 10 z with ⟨z1, z2⟩ | z
          · omega
          · exact s1 z.symm
        · simp only [List.length_append, List.length_take, List.length_drop, List.length_singleton, a1]
          omega
        · rcases all d hd with ⟨z1, z2⟩ | z
          · omega
          · rw [z]; exact s2
  have insC : ∀ (r : List Int) (n : Nat), Col r → r.length ≤ 9 → (∀ s ∈ B, r.length ≠ s.length) → n < h + 1 → BadC (lines ((B.map figL).take n ++ [figL r] ++ (B.map figL).drop n)) := fun r n hr hr9 hrl hn => by
    have e : (B.map figL).take n ++ [figL r] ++ (B.map figL).drop n = (B.take n ++ [r] ++ B.drop n).map figL := by
      rw [List.map_append, List.map_append, List.map_take, List.map_drop]; rfl
    rw [e]
    refine mkC (by simp) (by simp; omega) (fun s hs => ?_) (not_okB (r := r) (s := B.getD 0 []) (by simp) ?_ (hrl _ hm0))
    · rcases List.mem_append.mp hs with z | z
      · rcases List.mem_append.mp z with z | z
        · have := List.mem_of_mem_take z; exact ⟨hc s this, by rw [hrow s this]; omega⟩
        · rw [List.mem_singleton.mp z]; exact ⟨hr, hr9⟩
      · have := List.mem_of_mem_drop z; exact ⟨hc s this, by rw [hrow s this]; omega⟩
    · have : B.getD 0 [] ∈ B.take n ++ B.drop n := by rw [List.take_append_drop]; exact hm0
      rcases List.mem_append.mp this with z | z
      · exact List.mem_append_left _ (List.mem_append_left _ z)
      · exact List.mem_append_right _ z
  unfold spR
  by_cases k0 : c % 9 = 0
  · rw [if_pos k0]
    rcases setB (tA (B.map figL) c) with z | z
    · exact .inr (.inl z)
    · omega
  rw [if_neg k0]
  by_cases k1 : c % 9 = 1
  · rw [if_pos k1]
    rcases setB (tA (B.map figL) c + 1) with z | z
    · exact .inr (.inl z)
    · omega
  rw [if_neg k1]
  have hgl := hrow _ hgm
  by_cases k2 : c % 9 = 2
  · rw [if_pos k2, hgR, show figL (B.getD (tY (B.map figL) c) []) ++ [48] = figL (B.getD (tY (B.map figL) c) [] ++ [0]) by unfold figL; rw [List.map_append]; rfl]
    refine .inr (.inr (insC _ _ (fun d hd => ?_) (by rw [List.length_append, hgl]; simp; omega) (fun s hs => by rw [List.length_append, hgl, hrow s hs]; simp) (by omega)))
    rcases List.mem_append.mp hd with z | z
    · exact hc _ hgm d z
    · rw [List.mem_singleton.mp z]; decide
  rw [if_neg k2]
  by_cases k3 : c % 9 = 3
  · have f3 : ∀ b : List Int, (figL b).take ((figL b).length - 1) = figL (b.take (b.length - 1)) := fun b => by unfold figL; rw [List.length_map, List.map_take]
    rw [if_pos k3, hgR, f3, hgl]
    refine .inr (.inr (insC _ _ (fun d hd => hc _ hgm d (List.mem_of_mem_take hd)) (by rw [List.length_take, hgl]; omega) (fun s hs => by rw [List.length_take, hgl, hrow s hs]; omega) (by omega)))
  rw [if_neg k3]
  by_cases k4 : c % 9 = 4
  · rw [if_pos k4, hg0, show List.replicate 9 (figL (B.getD 0 [])) = (List.replicate 9 (B.getD 0 [])).map figL by rw [List.map_replicate]]
    exact .inr (.inr (mkC (by simp) (by simp) (fun r hr => by rw [List.eq_of_mem_replicate hr]; exact ⟨hc _ hm0, by rw [hrow _ hm0]; omega⟩) fun z => by have := z.1.2; simp at this))
  rw [if_neg k4]
  by_cases k5 : c % 9 = 5
  · rw [if_pos k5, show ((B.map figL).map fun _ => [49, 50, 51, 52, 53, 54, 55, 56, 57]) = (B.map fun _ => ([1, 2, 3, 4, 5, 6, 7, 8, 9] : List Int)).map figL by rw [List.map_map, List.map_map]; rfl]
    refine .inr (.inr (mkC (fun z => ?_) (by rw [List.length_map, hl]; omega) (fun r hr => ?_) fun z => ?_))
    · have := congrArg List.length z
      rw [List.length_map, hl] at this; simp at this; omega
    · obtain ⟨_, _, rfl⟩ := List.mem_map.mp hr
      exact ⟨fun d hd => by simp at hd; omega, by decide⟩
    · have z2 := z.2.1.2
      rw [getD_lt _ _ _ (by rw [List.length_map, hl]; exact h0), List.getElem_map] at z2
      simp at z2
  rw [if_neg k5]
  have hz : tZ (B.map figL) c < h + 1 := by
    unfold tZ
    have h1 := Int.emod_nonneg (c / 9) (show (((B.map figL).length : Nat) : Int) + 1 ≠ 0 by omega)
    have h2 := Int.emod_lt_of_pos (c / 9) (show (0 : Int) < ((B.map figL).length : Nat) + 1 by omega)
    omega
  exact .inr (.inr (insC [] _ (fun _ h => nomatch h) (by simp) (fun s hs => by rw [hrow s hs]; simp; omega) hz))
end BM

end
section
set_option Elab.async false
set_option linter.all false
set_option maxRecDepth 100000
set_option maxHeartbeats 4000000
/-! What a frame writes to an exception that passes: its trace, never its context. -/
namespace DL
open PySem PySem.Spec PyProof.Rows
/-- the exception at e has no context -/
def Ctx0 (e : Addr) (h : Heap) : Prop := ∃ oe vs, h.get? e = some oe ∧ oe.data = .fields vs ∧ vs[2]? = some .none
section
variable {M : Model} {A : Around} {E : Value → Shared → Prop} {s : Shared} {B : Heap} {env : Env} {out : List Env} {L e : Addr} {cls a0 : Value}
/-- a new entry of the trace -/
theorem sta_entry {oe : Obj} {vs : Array Value} {hd : Value} {had : Bool} {Q : Unit → Shared → Prop} (fr : A.frames = some (env :: out)) (ff : s.heap.FunFrames B (env :: out)) (fL : env.frame = some L) (he : s.heap.get? e = some oe) (kb : B.StaysIn s.heap) (en : B.get? e = none)
    (dt : oe.data = .fields vs) (sz : 1 < vs.size) (h0 : vs[0]? = some a0) (hQ : ∀ h', Heap.HeldW B (env :: out) e oe.cls a0 L h' → s.heap.UpToSlots h' → (vs[2]? = some .none → Ctx0 e h') → Q () { s with heap := h' }) :
    wpAny M A (do let a ← frameOf env; let pl ← entryPlaceOf L had; let b ← EntryCells.newEntry hd a .none (rawInt L) .none pl; setField (.ref e) 1 b) Q E s := by
  have nf : e ∉ (env :: out).filterMap (·.frame) := fun m => by
    obtain ⟨_, o, ho, no⟩ := ff.mem m
    rw [he] at ho; cases ho
    exact no vs dt
  refine wpAny_bind (wpAny_frameOf_fun fr ff fL fun h1 so => wpAny_bind (wpAny_entryPlaceOf fun pl ip => ?_))
  unfold EntryCells.newEntry newFields
  refine wpAny_bind (wpAny_newObj_type ?_ (ip.sizeOk5 _ _ _ _ _))
  have e1 : h1.get? e = some oe := (so.2.1 e nf).trans he
  have kb1 : B.StaysIn h1 := fun b o q => (so.2.1 b fun m => by rw [(ff.mem m).1] at q; cases q).trans (kb b o q)
  generalize tO : ({ cls := .type "traceback", dict := none, data := .fields ([hd, .ref L, .none, rawInt L, .none] ++ (if pl.isEmpty then List.replicate 6 Value.none else pl)).toArray } : Obj) = to
  have td : to.data = .fields ([hd, .ref L, .none, rawInt L, .none] ++ (if pl.isEmpty then List.replicate 6 Value.none else pl)).toArray := by rw [← tO]
  have tf : to.isFreed = false := Obj.isFreed_of_fields td
  have e2 : (h1.push to).get? e = some oe := Heap.get?_push_of_some to e1
  refine wpAny_setField e2 dt sz ?_
  have ne : h1.objs.size ≠ e := Nat.ne_of_gt (Heap.lt_size e1)
  have d3 := Obj.data_mapFields dt (·.setIfInBounds 1 (Value.ref h1.objs.size))
  have e3 := Heap.get?_update_self (Obj.mapFields (·.setIfInBounds 1 (Value.ref h1.objs.size))) e2 (Obj.isFreed_of_fields d3)
  have t3 := (Heap.get?_update_other (h1.push to) (Obj.mapFields (·.setIfInBounds 1 (Value.ref h1.objs.size))) (Ne.symm ne)).trans (Heap.get?_push_size h1 tf)
  have kp : ∀ b o, b ≠ e → h1.get? b = some o → ((h1.push to).update e (Obj.mapFields (·.setIfInBounds 1 (Value.ref h1.objs.size)))).get? b = some o := fun b o hb q =>
    (Heap.get?_update_other _ _ (Ne.symm hb)).trans (Heap.get?_push_of_some to q)
  have nr : ∀ b o, s.heap.get? b = some o → (∀ ws, o.data ≠ .fields ws) → b ≠ e := fun b o q no z => by
    rw [z, he] at q; cases q
    exact no vs dt
  refine hQ _ ⟨fun b o q => kp b o (fun z => by rw [z, en] at q; cases q) (kb1 b o q), en, ff.of_keeps fun b o q no => ?_, ?_⟩ (fun b o q no => ?_) fun v2 => ?_
  · obtain ⟨sl, z⟩ := so.2.2 b o q
    exact ⟨_, kp b _ (nr b o q no) z, rfl⟩
  · refine ⟨_, _, h1.objs.size, to, _, e3, ⟨Obj.cls_mapFields _ _, by rw [Array.getElem?_setIfInBounds_ne (by decide)]; exact h0⟩, d3, by simp [sz], kb1.fresh, ne, t3, td, ?_⟩
    simp
  · obtain ⟨sl, z⟩ := so.2.2 b o q
    exact ⟨sl, kp b _ (nr b o q no) z⟩
  · exact ⟨_, _, e3, d3, by rw [Array.getElem?_setIfInBounds_ne (by decide)]; exact v2⟩
/-- the frame is noted: for the first time, of an exception without a trace -/
theorem sta_note0 {oe : Obj} {vs : Array Value} {Q : Unit → Shared → Prop} (fr : A.frames = some (env :: out)) (ff : s.heap.FunFrames B (env :: out)) (fL : env.frame = some L) (he : s.heap.get? e = some oe) (kb : B.StaysIn s.heap) (en : B.get? e = none)
    (dt : oe.data = .fields vs) (v1 : vs[1]? = some .none) (h0 : vs[0]? = some a0) (hQ : ∀ h', Heap.HeldW B (env :: out) e oe.cls a0 L h' → s.heap.UpToSlots h' → (vs[2]? = some .none → Ctx0 e h') → Q () { s with heap := h' }) : wpAny M A (noteFrame (.ref e) env) Q E s := by
  unfold noteFrame
  simp only [fL]
  refine wpAny_bind (wpAny_field he dt v1 ?_)
  rw [if_neg (by simp)]
  exact sta_entry fr ff fL he kb en dt (Array.getElem?_eq_some_iff.mp v1).1 h0 hQ
/-- the frame is noted, of an exception that has a trace -/
theorem sta_note {fv : Value} {Q : Unit → Shared → Prop} (fr : A.frames = some (env :: out)) (fL : env.frame = some L) (kb : B.StaysIn s.heap) (en : B.get? e = none) (ff : s.heap.FunFrames B (env :: out)) (tr : s.heap.TracedAtW B e cls a0 fv)
    (hQ : ∀ h', Heap.HeldW B (env :: out) e cls a0 L h' → s.heap.UpToSlots h' → (Ctx0 e s.heap → Ctx0 e h') → Q () { s with heap := h' }) : wpAny M A (noteFrame (.ref e) env) Q E s := by
  obtain ⟨oe, vs, T, oT, ts, he, ⟨hc, h0⟩, dt, v1, nT, Te, hT, dT, t3⟩ := id tr
  subst hc
  unfold noteFrame
  simp only [fL]
  refine wpAny_bind (wpAny_field he dt v1 ?_)
  rw [if_pos (by simp)]
  refine wpAny_bind (wpAny_field hT dT t3 ?_)
  by_cases hv : (fv == rawInt L) = true
  · rw [if_pos hv]
    cases beq_iff_eq.mp hv
    exact wpAny_pure (hQ s.heap ⟨kb, en, ff, tr⟩ (fun b o q _ => ⟨o.slots, q⟩) fun c => c)
  rw [if_neg hv]
  refine wpAny_bind (wpAny_setField hT dT (Array.getElem?_eq_some_iff.mp t3).1 ?_)
  have ot : ∀ b, b ≠ T → (s.heap.update T (Obj.mapFields (·.setIfInBounds 3 Value.none))).get? b = s.heap.get? b := fun b hb => Heap.get?_update_other _ _ (Ne.symm hb)
  have nr : ∀ b o, s.heap.get? b = some o → (∀ ws, o.data ≠ .fields ws) → b ≠ T := fun b o q no z => by
    rw [z, hT] at q; cases q
    exact no ts dT
  refine sta_entry (s := { s with heap := s.heap.update T (Obj.mapFields (·.setIfInBounds 3 Value.none)) }) fr (ff.of_keeps fun b o q no => ⟨o, (ot b (nr b o q no)).trans q, rfl⟩) fL ((ot e (Ne.symm Te)).trans he)
    (fun b o q => (ot b fun z => by rw [z, nT] at q; cases q).trans (kb b o q)) en dt (Array.getElem?_eq_some_iff.mp v1).1 h0 fun h' x1 x2 x3 => hQ h' x1 (fun b o q no => x2 b o ((ot b (nr b o q no)).trans q) no) fun ⟨oe', vs', c1, c2, c3⟩ => ?_
  rw [he] at c1; cases c1
  rw [dt] at c2; cases c2
  exact x3 c3
/-- the flight ends -/
theorem sta_land {fl : Value} {l : List Env} {Q : Unit → Shared → Prop} (kb : B.StaysIn s.heap) (en : B.get? e = none) (ff : s.heap.FunFrames B l) (tr : s.heap.TracedAtW B e cls a0 fl)
    (hQ : ∀ h', Heap.FlyingW B l e cls a0 h' → s.heap.UpToSlots h' → (Ctx0 e s.heap → Ctx0 e h') → Q () { s with heap := h' }) : wpAny M A (setFlight (.ref e) none) Q E s := by
  obtain ⟨oe, vs, T, oT, ts, he, hc, dt, v1, nT, Te, hT, dT, t3⟩ := tr
  have sz : 3 < ts.size := (Array.getElem?_eq_some_iff.mp t3).1
  have ot : ∀ b, b ≠ T → (s.heap.update T (Obj.mapFields (·.setIfInBounds 3 ((none : Option Addr).elim Value.none fun f => rawInt f)))).get? b = s.heap.get? b := fun b hb => Heap.get?_update_other _ _ (Ne.symm hb)
  have nr : ∀ b o, s.heap.get? b = some o → (∀ ws, o.data ≠ .fields ws) → b ≠ T := fun b o q no z => by
    rw [z, hT] at q; cases q
    exact no ts dT
  unfold setFlight
  refine wpAny_bind (wpAny_field he dt v1 ?_)
  rw [if_pos (by simp)]
  refine wpAny_setField hT dT sz (hQ _ ⟨fun b o q => (ot b fun z => by rw [z, nT] at q; cases q).trans (kb b o q), en, ff.of_keeps fun b o q no => ⟨o, (ot b (nr b o q no)).trans q, rfl⟩, ?_⟩ (fun b o q no => ⟨o.slots, (ot b (nr b o q no)).trans q⟩) fun ⟨oe', vs', c1, c2, c3⟩ => ⟨oe', vs', (ot e (Ne.symm Te)).trans c1, c2, c3⟩)
  exact ⟨oe, vs, T, _, _, (ot e (Ne.symm Te)).trans he, hc, dt, v1, nT, Te, Heap.get?_update_self _ hT (Obj.isFreed_of_fields (Obj.data_mapFields dT _)), Obj.data_mapFields dT _, by simp [sz]⟩
/-- the flight is set -/
theorem sta_fly {fl : Value} {l : List Env} {f : Option Addr} {Q : Unit → Shared → Prop} (kb : B.StaysIn s.heap) (en : B.get? e = none) (ff : s.heap.FunFrames B l) (tr : s.heap.TracedAtW B e cls a0 fl)
    (hQ : ∀ h', B.StaysIn h' → h'.FunFrames B l → h'.TracedAtW B e cls a0 (f.elim Value.none fun f => rawInt f) → s.heap.UpToSlots h' → (Ctx0 e s.heap → Ctx0 e h') → Q () { s with heap := h' }) : wpAny M A (setFlight (.ref e) f) Q E s := by
  obtain ⟨oe, vs, T, oT, ts, he, hc, dt, v1, nT, Te, hT, dT, t3⟩ := tr
  have sz : 3 < ts.size := (Array.getElem?_eq_some_iff.mp t3).1
  have ot : ∀ b, b ≠ T → (s.heap.update T (Obj.mapFields (·.setIfInBounds 3 (f.elim Value.none fun f => rawInt f)))).get? b = s.heap.get? b := fun b hb => Heap.get?_update_other _ _ (Ne.symm hb)
  have nr : ∀ b o, s.heap.get? b = some o → (∀ ws, o.data ≠ .fields ws) → b ≠ T := fun b o q no z => by
    rw [z, hT] at q; cases q
    exact no ts dT
  unfold setFlight
  refine wpAny_bind (wpAny_field he dt v1 ?_)
  rw [if_pos (by simp)]
  refine wpAny_setField hT dT sz (hQ _ (fun b o q => (ot b fun z => by rw [z, nT] at q; cases q).trans (kb b o q)) (ff.of_keeps fun b o q no => ⟨o, (ot b (nr b o q no)).trans q, rfl⟩) ?_ (fun b o q no => ⟨o.slots, (ot b (nr b o q no)).trans q⟩) fun ⟨oe', vs', c1, c2, c3⟩ => ⟨oe', vs', (ot e (Ne.symm Te)).trans c1, c2, c3⟩)
  exact ⟨oe, vs, T, _, _, (ot e (Ne.symm Te)).trans he, hc, dt, v1, nT, Te, Heap.get?_update_self _ hT (Obj.isFreed_of_fields (Obj.data_mapFields dT _)), Obj.data_mapFields dT _, by simp [sz]⟩
end
end DL

end
section
set_option Elab.async false
set_option linter.all false
set_option maxRecDepth 100000
set_option maxHeartbeats 4000000
/-! Exceptions of the program's own classes. -/
namespace DL
open PySem PySem.Spec PyProof.Rows L2

/-- an exception's class, and whether it has no context -/
abbrev XC := Value × Bool
def flagA (b : Bool) : Option Addr := if b = true then some 0 else none
theorem flagA_inj {a b : Bool} (h : flagA a = flagA b) : a = b := by cases a <;> cases b <;> first | rfl | (unfold flagA at h; simp at h)
/-- on its way: whichever frame its flight is told of -/
def FlyS (B : Heap) (l : List Env) (e : Addr) (cls a0 : Value) (h : Heap) : Prop := B.StaysIn h ∧ B.get? e = none ∧ h.FunFrames B l ∧ ∃ fv, h.TracedAtW B e cls a0 fv
theorem FlyS.out {B : Heap} {l : List Env} {e : Addr} {cls a0 : Value} {h : Heap} (x : FlyS B l e cls a0 h) : B.get? e = none := x.2.1
theorem FlyS.fr {B : Heap} {l : List Env} {e : Addr} {cls a0 : Value} {h : Heap} (x : FlyS B l e cls a0 h) : h.FunFrames B l := x.2.2.1
theorem FlyS.of {B : Heap} {l : List Env} {e : Addr} {cls a0 : Value} {h : Heap} (x : Heap.FlyingW B l e cls a0 h) : FlyS B l e cls a0 h := ⟨x.1, x.2.1, x.2.2.1, _, x.2.2.2.at⟩
section
variable {M : Model} {A : Around} {E : Value → Shared → Prop} {s : Shared} {B : Heap} {env : Env} {out : List Env} {L e : Addr} {cls a0 : Value} {Q : Unit → Shared → Prop}
theorem sta_look (fr : A.frames = some (env :: out)) (fL : env.frame = some L) (fl : FlyS B (env :: out) e cls a0 s.heap)
    (hQ : ∀ h', Heap.HeldW B (env :: out) e cls a0 L h' → s.heap.UpToSlots h' → (Ctx0 e s.heap → Ctx0 e h') → Q () { s with heap := h' }) : wpAny M A (noteFrame (.ref e) env) Q E s :=
  let ⟨k, n, f, _, t⟩ := fl
  sta_note fr fL k n f t hQ
theorem sta_leave (fr : A.frames = some (env :: out)) (fL : env.frame = some L) (fl : FlyS B (env :: out) e cls a0 s.heap)
    (hQ : ∀ h', Heap.FlyingW B out e cls a0 h' → s.heap.UpToSlots h' → (Ctx0 e s.heap → Ctx0 e h') → Q () { s with heap := h' }) : wpAny M A (leaving env (.ref e)) Q E s := by
  unfold leaving
  refine wpAny_bind (sta_look fr fL fl fun h1 x1 u1 c1 => sta_land x1.1 x1.2.1 x1.2.2.1 x1.2.2.2 fun h2 x2 u2 c2 => ?_)
  exact hQ h2 ⟨x2.1, x2.2.1, x2.2.2.1.2.2, x2.2.2.2⟩ (u1.trans u2) fun c => c2 (c1 c)
end
/-- an exception of the class cls has left a callee: all that was tracked is as it was -/
structure FlyG (P : Program) (w : World) (low outer : List Env) (H : Hp) (s : Shared) (cls : XC) (a : Addr) (s' : Shared) (H' : Hp) (B : Heap) (t : Addr) : Prop where
  os : s'.os = s.os
  bare : AllBare s'.gens
  fly : FlyS B outer a cls.1 (.ref t) s'.heap
  ctx : cls.2 = true → Ctx0 a s'.heap
  hok : HOk P w H' B
  same : Same H H'
  keep : ∀ b o, s.heap.get? b = some o → H b = none → b ∉ frs outer → B.get? b = some o
  slot : ∀ b o, s.heap.get? b = some o → H b = none → b ∈ frs low → ∃ sl, s'.heap.get? b = some { o with slots := sl }
  free : ∀ b o, s.heap.get? b = some o → H b = none → H' b = none
abbrev Fly (P : Program) (w : World) (outer : List Env) := FlyG P w outer outer
theorem FlyG.lower {P : Program} {w : World} {low low' outer : List Env} {H : Hp} {s : Shared} {cls : XC} {a : Addr} {s' : Shared} {H' : Hp} {B : Heap} {t : Addr} (f : FlyG P w low outer H s cls a s' H' B t) (h : ∀ b ∈ frs low', b ∈ frs low) : FlyG P w low' outer H s cls a s' H' B t :=
  ⟨f.os, f.bare, f.fly, f.ctx, f.hok, f.same, f.keep, fun b o e n hb => f.slot b o e n (h b hb), f.free⟩
abbrev CX1 (P : Program) (w : World) : CXT := fun outer H s E e s' => ∃ cls a H' B t, e = .ref a ∧ Fly P w outer H s cls a s' H' B t ∧ E cls.1 (flagA cls.2) H'

theorem hok_hide {P : Program} {w : World} {H : Hp} {h : Heap} {fs : List Addr} (x : HOk P w H h) (hf : ∀ b ∈ fs, H b = none) : HOk P w H (PySem.W.hideAll h fs) := fun a o e =>
  (x a o e).stay (fun b u hb q => PySem.W.hideAll_get _ q fun hm => by
    have n := hf b hm
    rcases hb with rfl | hb
    · rw [n] at e; cases e
    · rw [n] at hb; cases hb) (fun _ q => q) fun _ _ q => q
theorem frames_dict {base h : Heap} : ∀ {l : List Env}, h.FunFrames base l → ∀ b ∈ frs l, ∃ o, h.get? b = some o ∧ ∀ vs, o.data ≠ .fields vs := fun {l} x b hb => by
  obtain ⟨_, o, ho, hd⟩ := x.mem hb
  exact ⟨o, ho, hd⟩

/-- what this body's wanted exception is met by: an exception just made, one that comes out of a callee -/
structure XOk (X : Cx) (H₁ : Hp) (cls : XC) : Prop where
  made : ∀ (pins : List (Addr × Obj)) (σ : L2.St) (H : Hp) (s : Shared) (h' : Heap) (a : Addr) (vs : List Value), Inv X pins σ H s → Same H₁ H → Heap.MadeExcOf s.heap h' a cls.1 vs → X.xe (.ref a) { s with heap := h' }
  onG : ∀ (pins : List (Addr × Obj)) (σ : L2.St) (H : Hp) (s : Shared) (a : Addr) (s' : Shared) (H' : Hp) (B : Heap) (t : Addr), Inv X pins σ H s → Same H₁ H → FlyG X.prog X.w X.outer X.stack H s cls a s' H' B t → X.xe (.ref a) s'
theorem outer_sub {X : Cx} (ok : X.Ok) : ∀ b ∈ frs X.outer, b ∈ frs X.stack := fun b hb => by
  rcases ok.stk with e | ⟨e, hf⟩
  · rw [e]; exact hb
  · rw [e]; unfold frs; rw [List.filterMap_cons, hf]; exact List.mem_cons_of_mem _ hb
theorem XOk.on {X : Cx} {H₁ : Hp} {cls : XC} (k : XOk X H₁ cls) (pins : List (Addr × Obj)) (σ : L2.St) (H : Hp) (s : Shared) (a : Addr) (s' : Shared) (H' : Hp) (B : Heap) (t : Addr) (I : Inv X pins σ H s) (e : Same H₁ H) (fl : Fly X.prog X.w X.stack H s cls a s' H' B t) : X.xe (.ref a) s' :=
  k.onG pins σ H s a s' H' B t I e (fl.lower (outer_sub I.ok))

section
variable {P : Program} {w : World} {K : PySem.W.Frag} {mg : Str → Option Value} {base : Heap} {N : List Str} {qual : Str} {scope : Scope} {f : Addr} {cd : Value} {A : Around} {outer : List Env} {s₀ : Shared} {H₀ : Hp} {E : XK} {cls : XC}
theorem xok_def (hE : ∀ H', Same H₀ H' → E cls.1 (flagA cls.2) H') : XOk (cxOf (CX1 P w) P w K mg base N qual scope f cd A outer s₀ H₀ E) H₀ cls := by
  have fr0 : (envOfC qual scope s₀.heap.objs.size f cd).frame = some s₀.heap.objs.size := rfl
  constructor
  · intro pins σ H s h' a vs I sm hx
    have hst : (cxOf (CX1 P w) P w K mg base N qual scope f cd A outer s₀ H₀ E).A.frames = some (envOfC qual scope s₀.heap.objs.size f cd :: outer) := I.ok.frames
    have fun1 := I.stack
    have hin : ∀ env ∈ (envOfC qual scope s₀.heap.objs.size f cd :: outer), ∀ b, env.frame = some b → b ∈ frs (envOfC qual scope s₀.heap.objs.size f cd :: outer) := fun env he b hb => List.mem_filterMap.mpr ⟨env, he, hb⟩
    obtain ⟨t, he, htn, ht⟩ := hx.there
    have kb : (PySem.W.hideAll s.heap (frs (envOfC qual scope s₀.heap.objs.size f cd :: outer))).StaysIn h' := fun b o q => hx.keeps b o (PySem.W.of_hideAll _ q)
    have en : (PySem.W.hideAll s.heap (frs (envOfC qual scope s₀.heap.objs.size f cd :: outer))).get? a = none := by
      cases c : (PySem.W.hideAll s.heap (frs (envOfC qual scope s₀.heap.objs.size f cd :: outer))).get? a with
      | none => rfl
      | some o => have := PySem.W.of_hideAll _ c; rw [hx.new] at this; cases this
    have ff := (PySem.W.funFrames_hide fun1 hin).of_keeps (h' := h') fun b o q _ => ⟨o, hx.keeps b o q, rfl⟩
    show wpAny _ _ (leaving (envOfC qual scope s₀.heap.objs.size f cd) (.ref a)) _ _ _
    unfold leaving
    refine wpAny_bind (sta_note0 (s := { s with heap := h' }) hst ff fr0 he kb en rfl rfl rfl fun h1 y1 u1 c1 => sta_land (s := { s with heap := h1 }) y1.1 y1.2.1 y1.2.2.1 y1.2.2.2 fun h'' y2 u2 c2 => ?_)
    have x1 : Heap.FlyingW _ outer a cls.1 (.ref t) h'' := ⟨y2.1, y2.2.1, y2.2.2.1.2.2, y2.2.2.2⟩
    have x4 := u1.trans u2
    refine ⟨cls, a, H, _, t, rfl, ⟨I.os, I.bare, .of x1, fun _ => c2 (c1 rfl), hok_hide I.hok fun b hb => I.stkFree b hb, sm, fun b o e n hb => ?_, fun b o e n hb => ?_, fun b o e n => I.base.free b o e n (by exact List.not_mem_nil)⟩, hE H sm⟩
    · refine PySem.W.hideAll_get _ (I.base.keep b o e n hb (by exact List.not_mem_nil)) fun hm => ?_
      rcases List.mem_cons.mp (show b ∈ s₀.heap.objs.size :: frs outer from hm) with z | z
      · exact absurd (Heap.lt_size e) (by rw [z]; exact Nat.lt_irrefl _)
      · exact hb z
    · obtain ⟨sl, e1⟩ := I.base.slot b o e n hb (by exact List.not_mem_nil)
      obtain ⟨o2, e2, hd⟩ := frames_dict I.funs b hb
      rw [e1] at e2; cases e2
      obtain ⟨sl', e3⟩ := x4 b _ (hx.keeps _ _ e1) hd
      exact ⟨sl', e3⟩
  · intro pins σ H s a s' H' B t I sm fl
    have hst : (cxOf (CX1 P w) P w K mg base N qual scope f cd A outer s₀ H₀ E).A.frames = some (envOfC qual scope s₀.heap.objs.size f cd :: outer) := I.ok.frames
    have nL : ∀ b, b ∈ frs outer → b ∈ frs (envOfC qual scope s₀.heap.objs.size f cd :: outer) := fun b hb => by show b ∈ s₀.heap.objs.size :: frs outer; exact List.mem_cons_of_mem _ hb
    refine sta_leave hst fr0 fl.fly fun h'' x1 x2 x3 => ?_
    refine ⟨cls, a, H', B, t, rfl, ⟨fl.os.trans I.os, fl.bare, .of x1, fun c => x3 (fl.ctx c), fl.hok, sm.trans fl.same, fun b o e n hb => ?_, fun b o e n hb => ?_, fun b o e n => ?_⟩, hE H' (sm.trans fl.same)⟩
    · refine fl.keep b o (I.base.keep b o e n hb (by exact List.not_mem_nil)) (I.base.free b o e n (by exact List.not_mem_nil)) fun hm => ?_
      rcases List.mem_cons.mp (show b ∈ s₀.heap.objs.size :: frs outer from hm) with z | z
      · exact absurd (Heap.lt_size e) (by rw [z]; exact Nat.lt_irrefl _)
      · exact hb z
    · obtain ⟨sl, e1⟩ := I.base.slot b o e n hb (by exact List.not_mem_nil)
      obtain ⟨sl2, e2⟩ := fl.slot b _ e1 (I.base.free b o e n (by exact List.not_mem_nil)) hb
      obtain ⟨o2, e3, hd⟩ := frames_dict I.funs b hb
      rw [e1] at e3; cases e3
      obtain ⟨sl', e4⟩ := x2 b _ e2 hd
      exact ⟨sl', e4⟩
    · have hn := I.base.free b o e n (by exact List.not_mem_nil)
      by_cases hb : b ∈ frs outer
      · obtain ⟨sl, e1⟩ := I.base.slot b o e n hb (by exact List.not_mem_nil)
        exact fl.free b _ e1 hn
      · exact fl.free b o (I.base.keep b o e n hb (by exact List.not_mem_nil)) hn
end
end DL

end
section
set_option Elab.async false
set_option linter.all false
set_option maxRecDepth 100000
set_option maxHeartbeats 4000000
namespace DL
open PySem PySem.Spec PyProof.Rows L2
/-! ### what raises: expressions (in this frame, out of a callee), statements, blocks -/
structure JXE (S : Stat) (Γ : List Sl) (e : Expr) (cls : XC) : Prop where
  run : ∀ X, S.Of X → ∀ (pins : List (Addr × Obj)) (s : Shared) (σ : L2.St) (H : Hp) (χ : Addr → Bool), Inv X pins σ H s → RE S.K χ H σ Γ →
    (∀ (H2 : Hp) (s2 : Shared) (a : Addr) (s' : Shared) (H' : Hp) (B : Heap) (t : Addr), Inv X pins σ H2 s2 → Same H H2 → Fly X.prog X.w X.stack H2 s2 cls a s' H' B t → X.xe (.ref a) s') → ∀ Q, wpAny (model X.prog X.w) X.A (eval e X.env) Q X.xe s
structure JXS (S : Stat) (Γ : List Sl) (st : Stmt) (cls : XC) : Prop where
  run : ∀ X, S.Of X → ∀ (pins : List (Addr × Obj)) (s : Shared) (σ : L2.St) (H H₁ : Hp) (φ : Addr → Bool) (ω : Addr → Option (Bool × Nat)), Inv X pins σ H s → RS S.K φ ω H σ Γ → Kp φ (fun _ => none) H₁ ω H → XOk X H₁ cls → ∀ Q, wpAny (model X.prog X.w) X.A (exec st X.env) Q X.xe s
structure JX (S : Stat) (Γ : List Sl) (st : List Stmt) (cls : XC) : Prop where
  run : ∀ X, S.Of X → ∀ (pins : List (Addr × Obj)) (s : Shared) (σ : L2.St) (H H₁ : Hp) (φ : Addr → Bool) (ω : Addr → Option (Bool × Nat)), Inv X pins σ H s → RS S.K φ ω H σ Γ → Kp φ (fun _ => none) H₁ ω H → XOk X H₁ cls → ∀ Q, wpAny (model X.prog X.w) X.A (execs st X.env) Q X.xe s

section
variable {S : Stat} {Γ : List Sl} {pos pos' p : Pos} {st : Stmt} {rest : List Stmt} {e a b c : Expr} {x : Str} {cls : XC}
theorem x_head (h : JXS S Γ st cls) : JX S Γ (st :: rest) cls := .mk fun X o pins s σ H H₁ φ ω I r k ok Q =>
  wpAny_execs_cons (thn (h.run X o pins s σ H H₁ φ ω I r k ok (fun _ _ => False)) fun _ _ z => z.elim)
theorem x_cons (h : JS S Γ st { nx := fun Γ' => JX S Γ' rest cls, rt := fun _ _ => False }) : JX S Γ (st :: rest) cls := .mk fun X o pins s σ H H₁ φ ω I r k ok Q => by
  have h2 : PSs X rest (fun _ σ' H' => ∃ Γ' ω', JX S Γ' rest cls ∧ RS S.K φ ω' H' σ' Γ' ∧ Kp φ (fun _ => none) H₁ ω' H') := fun pins s σ H Z I ⟨Γ', ω', hb, q, kk⟩ => hb.run X o pins s σ H H₁ φ ω' I q kk ok _
  refine thn (pss_cons (h X o) h2 pins s σ H { nx := fun _ _ => False, rt := fun _ _ => False } I ?_) fun f s' z => ?_
  · exact ⟨φ, ω, r, { n := fun ω' σ' H' Γ' hb r' k' => ⟨Γ', ω', hb, r', k.trans k'⟩, rt := fun _ _ _ _ _ _ z => z.elim, bk := fun _ _ _ _ z => z.elim, ct := fun _ _ _ _ z => z.elim, rf := fun _ _ _ _ _ _ _ z => z.elim }⟩
  · cases f with
    | next => obtain ⟨_, _, _, q⟩ := z; exact q.elim
    | brk => obtain ⟨_, _, _, q⟩ := z; exact q.elim
    | cont => obtain ⟨_, _, _, q⟩ := z; exact q.elim
    | ret u => obtain ⟨_, _, _, _, _, q⟩ := z; exact q.elim
theorem x_expr (h : JXE S Γ e cls) (hs : ∀ X : Cx, swapsWith e none pos.line X.env = pure false := by intro _; rfl) : JXS S Γ (.Expr e pos) cls := .mk fun X o pins s σ H H₁ φ ω I r k ok Q =>
  wpAny_Expr_any (thn (h.run X o pins s σ H (both φ ω) I r.re (fun H2 s2 a s' H' B t I2 e2 fl => ok.on pins σ H2 s2 a s' H' B t I2 ((kp_same k).trans e2) fl) (fun _ _ => False)) fun _ _ z => z.elim) I.quiet (hs X)
/-- x = e, e raises -/
theorem x_set {px : Pos} (h : JXE S Γ e cls) (hs : ∀ X : Cx, S.Of X → swapsWith e (some (.Name x px)) pos.line X.env = pure false := by intro _ _; rfl) : JXS S Γ (.Assign [.Name x px] e pos) cls := .mk fun X o pins s σ H H₁ φ ω I r k ok Q =>
  wpAny_Assign_Name (thn (h.run X o pins s σ H (both φ ω) I r.re (fun H2 s2 a s' H' B t I2 e2 fl => ok.on pins σ H2 s2 a s' H' B t I2 ((kp_same k).trans e2) fl) (fun _ _ => False)) fun _ _ z => z.elim) (hs X o)
theorem x_if {q : Bool} {sa sb : List Stmt} (hc : JT S Γ c q) (ha : q = true → JX S Γ sa cls) (hb : q = false → JX S Γ sb cls) : JXS S Γ (.If c sa sb pos) cls := .mk fun X o pins s σ H H₁ φ ω I r k ok Q => by
  refine wpAny_If (thn (hc X o pins s σ H (fun b H' => b = q ∧ Same H H') I ⟨both φ ω, r.re, fun H' e => ⟨rfl, e⟩⟩) fun d s1 ⟨H1, I1, hd, e1⟩ => ?_)
  subst hd
  cases d with
  | true => exact (ha rfl).run X o pins s1 σ H1 H₁ φ ω I1 (r.mono e1) (k.trans (Kp.of e1)) ok Q
  | false => exact (hb rfl).run X o pins s1 σ H1 H₁ φ ω I1 (r.mono e1) (k.trans (Kp.of e1)) ok Q
/-- for x in iter: the turns ahead of the n-th go on, the n-th raises -/
theorem x_for (i n : Nat) {iter : Expr} {body : List Stmt} {β : Type} {us : List β} {g : β → D} {px : Pos} (hi : JI S Γ (.Name x px) iter (us.map g)) (Iv : Nat → List Sl → Prop) (h0 : Iv 0 Γ) (hn : n < us.length)
    (hb : ∀ (k : Nat) u Γ', k < n → us[k]? = some u → Iv k Γ' → JB S (Γ'.set i (.val (g u))) body { nx := Iv (k + 1), rt := fun _ _ => False, ct := Iv (k + 1) }) (hx' : ∀ u Γ', us[n]? = some u → Iv n Γ' → JX S (Γ'.set i (.val (g u))) body cls)
    (hN : S.N.Nodup := by (try dsimp only [DL.Stat.blk]); decide +kernel) (hxi : S.N[i]? = some x := by (try dsimp only [DL.Stat.blk]); decide +kernel) (hx : Loc S.sc x := by (try dsimp only [DL.Stat.blk]); decide +kernel) (hs : ∀ env v, foldedSetIterable iter env v = pure v := by intro _ _; rfl)
    (htop : S.top = true := by rfl) : JXS S Γ (.For (.Name x px) iter body [] pos) cls := .mk fun X o pins s σ H H₁ φ ω I r kk ok Q => by
  obtain ⟨wi, hw1, hw2⟩ := hi
  have hB : PSs X body (fun Z σ H => (∃ k u Γ', k < n ∧ us[k]? = some u ∧ Iv k Γ' ∧ dS S.K (Γ'.set i (.val (g u))) { nx := Iv (k + 1), rt := fun _ _ => False, ct := Iv (k + 1) } Z σ H) ∨ ∃ u Γ' ω', us[n]? = some u ∧ Iv n Γ' ∧ RS S.K φ ω' H σ (Γ'.set i (.val (g u))) ∧ Kp φ (fun _ => none) H₁ ω' H) := fun pins s σ H Z I q => by
    rcases q with ⟨k, u, Γ', h1, h2, h3, q⟩ | ⟨u, Γ', ω', h2, h3, r', k'⟩
    · exact hb k u Γ' h1 h2 h3 X o pins s σ H Z I q
    · exact (hx' u Γ' h2 h3).run X o pins s σ H H₁ φ ω' I r' k' ok _
  refine thn (ps_for o.own o.calm (hw1 X o) (pg_name (i := i) (by rw [o.N]; exact hN) (by rw [o.N]; exact hxi) (by rw [o.sc]; exact hx) (.inl (o.fn htop x))) hB (hs X.env) pins s σ H { nx := fun _ _ => False, rt := fun _ _ => False } I ?_) fun f s' z => ?_
  · refine hw2 σ H _ (both φ ω) r.re fun J H1 e1 itd => ?_
    refine ⟨fun k m σ' H' => m = us.length - k ∧ k ≤ n ∧ ∃ ω' Γ', Iv k Γ' ∧ RS S.K φ ω' H' σ' Γ' ∧ Kp φ (fun _ => none) H₁ ω' H' ∧ Same (hidB (both φ ω) H1) (hidB (both φ ω') H'), ⟨us.length, by simp, Nat.zero_le _, ω, Γ, h0, r.mono e1, kk.trans (Kp.of e1), Same.refl _⟩, ?_⟩
    rintro k m σ' H' ⟨rfl, hk, ω', Γ', iv, r', kp, sm⟩
    obtain ⟨it1, it2⟩ := itd (both φ ω') H' sm
    have hlt : k < us.length := by omega
    have huk : us[k]? = some us[k] := List.getElem?_eq_getElem hlt
    generalize us[k] = u at huk
    have hdk : (us.map g)[k]? = some (g u) := by rw [List.getElem?_map, huk]; rfl
    obtain ⟨go, yl⟩ := it1 k (g u) hdk
    refine .inr ⟨go, fun σ2 H2 => k + 1 ≤ n ∧ ∃ ω2 Γ2, Iv (k + 1) Γ2 ∧ RS S.K φ ω2 H2 σ2 Γ2 ∧ Kp φ (fun _ => none) H₁ ω2 H2 ∧ Same (hidB (both φ ω) H1) (hidB (both φ ω2) H2), fun σ2 H2 q => ⟨us.length - (k + 1), by omega, rfl, q⟩, fun y H3 hy => ?_⟩
    obtain ⟨e3, ry⟩ := yl y H3 hy
    subst e3
    by_cases hkn : k < n
    · exact .inl ⟨k, u, Γ', hkn, huk, iv, φ, ω', r'.set ry, { n := fun ω2 σ2 H2 Γ2 h2 r2 k2 => ⟨hkn, ω2, Γ2, h2, r2, kp.trans k2, sm.trans k2.same⟩, rt := fun _ _ _ _ _ _ z => z.elim, bk := fun _ _ _ _ z => z.elim, ct := fun ω2 σ2 H2 Γ2 h2 r2 k2 => ⟨hkn, ω2, Γ2, h2, r2, kp.trans k2, sm.trans k2.same⟩, rf := fun _ _ _ _ _ _ _ z => z.elim }⟩
    · have : k = n := by omega
      subst this
      exact .inr ⟨u, Γ', ω', huk, iv, r'.set ry, kp⟩
  · cases f with
    | next => obtain ⟨_, _, _, q⟩ := z; exact q.elim
    | brk => obtain ⟨_, _, _, q⟩ := z; exact q.elim
    | cont => obtain ⟨_, _, _, q⟩ := z; exact q.elim
    | ret u => obtain ⟨_, _, _, _, _, q⟩ := z; exact q.elim
end
end DL

end
section
set_option Elab.async false
set_option linter.all false
set_option maxRecDepth 100000
set_option maxHeartbeats 4000000
namespace DL
open PySem PySem.Spec PyProof.Rows L2
/-! ### defs that raise, and calls of them -/
def spX {α : Type} (enc : α → List D) (bad : α → Prop) (cls : XC) (K : PySem.W.Frag) : Sp := fun vs H Q E => ∃ (χ : Addr → Bool) (u : α), (∀ p, χ p = true → ∃ o : HN, H p = some o.1) ∧ Reps K (hidB χ H) (enc u) vs ∧ bad u ∧ ∀ H', Same H H' → E cls.1 (flagA cls.2) H'
def FnX (P : Program) (w : World) (K : PySem.W.Frag) (mg : Str → Option Value) (base : Heap) (k : Nat) (x : Str) (ps : List Str) (sp : Sp) : Prop := ∃ f fd, mg x = some (.ref f) ∧ PySem.W.keepIn K (.ref f) = true ∧ Binds K fd ps [] ∧ FnOk P w K mg base (CX1 P w) k f fd ps sp
section
variable {P : Program} {w : World} {K : PySem.W.Frag} {mg : Str → Option Value} {base : Heap} {α : Type} {enc : α → List D} {bad : α → Prop} {cls : XC}
theorem fx_D {x qual : Str} {st : Stmt} {f : Addr} {fd : FuncData} {N ps : List Str} {k : Nat} (F : Fun K x qual st f fd) (Sc : FnScope N ps (defScope st)) (hlen : ∀ u, bad u → (enc u).length = ps.length)
    (hb : ∀ u, bad u → JX ⟨P, w, K, mg, base, k, N, defScope st, true⟩ (startΓ N (enc u)) (defBody st) cls) : FnOk P w K mg base (CX1 P w) (k + 1) f fd ps (spX enc bad cls K) := by
  obtain ⟨oc, od, kV, doc, pm, an, cdv, ct, osl, rfl, lk, hcd⟩ := F.ex
  refine fn_of lk hcd Sc (fun vs H Q E h => ?_) fun A outer s H vs Q E hr h => ?_
  · obtain ⟨χ, u, _, r, hd, _⟩ := h
    rw [r.len, hlen u hd]
  · obtain ⟨χ, u, hl, r, hd, q⟩ := h
    exact ⟨fun _ σ' H' => H' = H ∧ σ' = start N vs, fun pins s' σ' H' Z I z => by
      obtain ⟨rfl, rfl⟩ := z
      exact (hb u hd).run _ ⟨rfl, rfl, rfl, rfl, rfl, rfl, rfl, hr, rfl, PassesOwn.leaving, fun _ _ => rfl, fun _ => ⟨rfl, rfl⟩⟩ pins s' _ _ _ χ (fun _ => none) I (start_RS hl r) Kp.refl (xok_def q) _, rfl, rfl⟩
theorem fx_at {x : Str} {st : Stmt} {N ps : List Str} {k : Nat} (F : Def K mg x st ps) (Sc : FnScope N ps (defScope st)) (hlen : ∀ u, bad u → (enc u).length = ps.length)
    (hb : ∀ u, bad u → JX ⟨P, w, K, mg, base, k, N, defScope st, true⟩ (startΓ N (enc u)) (defBody st) cls) : FnX P w K mg base (k + 1) x ps (spX enc bad cls K) := by
  obtain ⟨f, fd, F, b, m⟩ := F
  exact ⟨f, fd, m, F.kp, b, fx_D F Sc hlen hb⟩
/-- f(..) raises -/
theorem e_fnx {S : Stat} {Γ : List Sl} {ps : List Str} {x : Str} {p pos : Pos} {e : Expr} {es : List Expr} {j : Nat} (F : FnX S.P S.w S.K S.mg S.base j x ps (spX enc bad cls S.K)) (u : α) (ha : JA S Γ (e :: es) (enc u)) (hd : bad u) (hj : j ≤ S.k := by exact Nat.le_of_ble_eq_true rfl)
    (hg : S.sc.names.lookup x = some .globalImplicit := by (try dsimp only [DL.Stat.blk]); decide +kernel) (hdb : (x == ("__debug__" : Str)) = false := by (try dsimp only [DL.Stat.blk]); decide +kernel)
    (he : ∀ env, starEach (e :: es) env = (false, eval e env) :: starEach es env := by intro _; rfl) (hpl : ∀ env, (backTo pos (starEach es env)).any (·.1) = false := by intro _; rfl) : JXE S Γ (.Call (.Name x p) (e :: es) [] pos) cls := .mk fun X o pins s σ H χ I R hx Q => by
  obtain ⟨f, fd, hm, hk, hb, F⟩ := F
  have F' : FnOk X.prog X.w X.K X.mg X.base (CX1 X.prog X.w) j f fd ps (spX enc bad cls S.K) := by rw [o.prog, o.w, o.K, o.mg, o.base]; exact F
  have hb' : Binds X.K fd ps [] := by rw [o.K]; exact hb
  refine wpAny_Call_Name_kw (ld_glob I (gl_of o hg) (by rw [o.mg]; exact hm) ?_ hdb)
  refine PySem.W.callWith_K (h₀ := X.base) I.ok.mod.kin (by rw [o.K]; exact hk) (thn (ha X o pos pins s σ H (fun vs H1 => Same H H1 ∧ Reps S.K (hidB χ H1) (enc u) vs) I ⟨χ, R, fun vs H1 e1 rv => ⟨e1, rv⟩⟩) fun us s1 ⟨vs, H1, I1, r, e1, rv⟩ => ⟨I1.kIn, ?_⟩) (he X.env) (hpl X.env)
  have hsp : spX enc bad cls S.K vs H1 (fun _ _ => False) (fun c f _ => c = cls.1 ∧ f = flagA cls.2) := ⟨χ, u, (R.mono e1).live, rv, hd, fun _ _ => ⟨rfl, rfl⟩⟩
  have hl : us.length = ps.length := by rw [← r.length]; exact F'.len _ _ _ _ hsp
  refine wpAny_call (codeAny_mono (F'.run X.A X.stack s1 H1 ⟨us, []⟩ us vs (fun _ _ => False) (fun c f _ => c = cls.1 ∧ f = flagA cls.2) (o.room.mono hj) I1.env0 (by have := hb' s1 us I1.kIn (by rw [List.append_nil]; exact hl); rw [List.append_nil] at this; exact this) r hsp) fun r s' hq => ?_)
  cases r with
  | error ev =>
    obtain ⟨c, a, H', B, t, rfl, fl, q1, q2⟩ := hq
    have ec : c = cls := Prod.ext q1 (flagA_inj q2)
    subst ec
    exact hx H1 s1 a s' H' B t I1 e1 fl
  | ok fl =>
    cases fl with
    | ret u => obtain ⟨_, _, _, _, _, _, _, q⟩ := hq; exact q.elim
    | next => exact False.elim hq
    | brk => exact False.elim hq
    | cont => exact False.elim hq
end
/-! ### raise C(message) -/
abbrev bmV : List Value := [.type "ValueError", .type "Exception", .type "BaseException", .type "object"]
/-- a class of the module under ValueError, without an __init__ -/
structure ExCls (K : PySem.W.Frag) (mg : Str → Option Value) (x : Str) (C : Addr) : Prop where
  bound : mg x = some (.ref C)
  exc : PySem.W.excIn K C bmV "ValueError.__new__" = true
theorem exc_of_in {K : PySem.W.Frag} {h : Heap} {C : Addr} {bmB : List Value} {newId : String} (X : K.In h) (q : PySem.W.excIn K C bmB newId = true) :
    ∃ bm N nm q bs hdct sn sub ab col dd k0 k1 k2 k3 k5 mN, h.get? C = some (excClassObj nm q C N bs bm hdct sn sub ab col dd k0 k1 k2 k3 k5 newId) ∧ h.Ns N mN ∧ mN "__init__" = none ∧ OwnTail h bmB bm := by
  unfold PySem.W.excIn at q
  split at q
  · rename_i dd cd sl ho
    split at q
    · rename_i C' bm k0 k1 k2 k3 n k5 hm hs
      simp only [Bool.and_eq_true, beq_iff_eq, Bool.not_eq_true'] at q
      obtain ⟨⟨⟨⟨⟨rfl, rfl⟩, hdel⟩, ht⟩, hok⟩, hni⟩ := q
      obtain ⟨nm, bs, mro, ns, qn, hd, sn, sub, ab, col, del⟩ := cd
      dsimp only at hm hdel hok hni
      subst hm hdel
      have hsl : sl = #[k0, k1, k2, k3, some (.builtin n), k5] := by
        obtain ⟨l⟩ := sl
        simp only at hs
        rw [hs]
      subst hsl
      exact ⟨bm, ns, nm, qn, bs, hd, sn, sub, ab, col, dd, k0, k1, k2, k3, k5, _, X _ _ ho, .of_isNs (PySem.W.isNs_of_in X hok), PySem.W.nsMap_none_of_in X hok hni, PySem.W.tail_of_in X ht⟩
    · cases q
  · cases q
section
variable {S : Stat} {Γ : List Sl} {pos cpos np p : Pos} {e : Expr} {x : Str}
theorem x_raise {C : Addr} {d : D} (hC : ExCls S.K S.mg x C) (hm : JE S Γ e d) (hg : S.sc.names.lookup x = some .globalImplicit := by (try dsimp only [DL.Stat.blk]); decide +kernel) (hdb : (x == ("__debug__" : Str)) = false := by (try dsimp only [DL.Stat.blk]); decide +kernel)
    (hs : ∀ env, starEach [e] env = [(false, eval e env)] := by intro _; rfl) : JXS S Γ (.Raise (some (.Call (.Name x np) [e] [] cpos)) none pos) (.ref C, true) := .mk fun X o pins s σ H H₁ φ ω I r k ok Q => by
  have XK := I.mod.kin
  rw [o.K] at XK
  obtain ⟨tl, N, nm, q, bs, hdct, sn, sub, ab, col, dd, k0, k1, k2, k3, k5, mN, hCo, hN, hni, T⟩ := exc_of_in XK hC.exc
  refine wpAny_Raise_call_subT (C := C) (nm := nm) (q := q) (N := N) (bs := bs) (bm := tl) (hdct := hdct) (sn := sn) (sub := sub) (ab := ab) (col := col) (dd := dd) (k0 := k0) (k1 := k1) (k2 := k2) (k3 := k3) (k5 := k5)
    PySem.F.excBase_ValueError (mN := mN) (T.hasType PySem.F.excBase_ValueError.hasBase) (I.ok.hd o.calm) (by rw [hs]; rfl) hni (ld_glob I (gl_of o hg) (by rw [o.mg]; exact hC.bound) ⟨rfl, ?_⟩ hdb)
  have hA := (a_cons hm a_nil hs) X o cpos pins s σ H (fun vs H1 => Same H H1 ∧ vs.length = 1) I ⟨both φ ω, r.re, fun vs H1 e1 rv => ⟨e1, by rw [rv.len]; rfl⟩⟩
  rw [hs] at hA ⊢
  refine Calls.evalArgs_plain (thn hA fun us s1 ⟨vs, H1, I1, rvs, e1, hl⟩ => ?_)
  have hlen : us.length = 1 := by rw [← rvs.length]; exact hl
  exact ⟨rfl, by dsimp only; rw [hlen]; decide, I1.bk _ _ hCo, hN.keeps I1.bk, T.keeps I1.bk, fun h' a hx => ok.made pins σ H1 s1 h' a us I1 ((kp_same k).trans e1) hx⟩
end
end DL

end
section
set_option Elab.async false
set_option linter.all false
set_option maxRecDepth 100000
set_option maxHeartbeats 4000000
namespace DL
open PySem PySem.Spec PyProof.Rows L2
/-! ### f-strings: what is written, and how long it is at most -/
section
variable {S : Stat} {Γ : List Sl} {pos p : Pos} {e a : Expr}
theorem e_fmtS {x : Str} (h : JE S Γ a (.str x)) (hx : x.length ≤ sizeLine) : JE S Γ (.FormattedValue a (-1) none pos) (.str x) := .mk fun X o pins s σ H Q I ⟨χ, R, q⟩ => by
  refine wpAny_FormattedValue_plain (thn (h X o pins s σ H (fun v H1 => Same H H1 ∧ Rep S.K (hidB χ H1) (.str x) v) I ⟨χ, R, fun v H1 e1 rv => ⟨e1, rv⟩⟩) fun u s1 ⟨v, H1, I1, ru, e1, rv⟩ => ?_)
  cases (show v = V.str x from rv)
  obtain ⟨t, rfl⟩ := (show ∃ t, u = Value.str x t from ru)
  exact wpAny_formatField_str ⟨.str x, H1, I1, ⟨_, rfl⟩, q _ H1 e1 rfl⟩ ⟨.str x, H1, I1.tok _, ⟨_, rfl⟩, q _ H1 e1 rfl⟩ hx
theorem e_fmtI {i : Int} (h : JE S Γ a (.int i)) (hi : i.natAbs.log2 < 1920) : JE S Γ (.FormattedValue a (-1) none pos) (.str (toString i)) := .mk fun X o pins s σ H Q I ⟨χ, R, q⟩ => by
  refine wpAny_FormattedValue_plain (thn (h X o pins s σ H (fun v H1 => Same H H1 ∧ Rep S.K (hidB χ H1) (.int i) v) I ⟨χ, R, fun v H1 e1 rv => ⟨e1, rv⟩⟩) fun u s1 ⟨v, H1, I1, ru, e1, rv⟩ => ?_)
  cases (show v = V.int i from rv)
  obtain ⟨t, rfl⟩ := (show ∃ t, u = Value.int i t from ru)
  exact wpAny_formatField_int hi ⟨.str (toString i), H1, I1.tok _, ⟨_, rfl⟩, q _ H1 e1 rfl⟩
/-- {a!r} of a text -/
theorem e_fmtR {x : Str} (h : JE S Γ a (.str x)) (hx : (reprText x).length ≤ sizeLine) : JE S Γ (.FormattedValue a 114 none pos) (.str (reprText x)) := .mk fun X o pins s σ H Q I ⟨χ, R, q⟩ => by
  refine wpAny_FormattedValue_repr (thn (h X o pins s σ H (fun v H1 => Same H H1 ∧ Rep S.K (hidB χ H1) (.str x) v) I ⟨χ, R, fun v H1 e1 rv => ⟨e1, rv⟩⟩) fun u s1 ⟨v, H1, I1, ru, e1, rv⟩ => ?_)
  cases (show v = V.str x from rv)
  obtain ⟨t, rfl⟩ := (show ∃ t, u = Value.str x t from ru)
  exact pyReprObj_str (wpAny_formatField_str ⟨.str _, H1, I1.tok _, ⟨_, rfl⟩, q _ H1 e1 rfl⟩ ⟨.str _, H1, (I1.tok _).tok _, ⟨_, rfl⟩, q _ H1 e1 rfl⟩ hx) hx
def dataI (ns : List Int) : PyData := .tuple (ns.map PyData.int)
theorem reads_ints {h : Heap} : ∀ {ns : List Int} {us : List Value}, Vals (ns.map V.int) us → ∃ as, ReadsAll h us (ns.map PyData.int) as
  | [], _, r => by cases r; exact ⟨_, .nil⟩
  | n :: ns, _, r => by
    cases r with
    | cons r rr =>
      obtain ⟨t, rfl⟩ := (show ∃ t, _ = Value.int n t from r)
      obtain ⟨as, q⟩ := reads_ints rr
      exact ⟨_, .cons (.int n t) q⟩
theorem showable_ints : ∀ {ns : List Int}, (∀ n ∈ ns, n.natAbs.log2 < 1920) → PyData.showableAll (ns.map PyData.int) = true
  | [], _ => rfl
  | n :: ns, h => by
    rw [List.map_cons, PyData.showableAll, showable_ints fun m hm => h m (by simp [hm]), Bool.and_true]
    exact decide_eq_true (h n (by simp))
theorem nodict_ints : ∀ {ns : List Int}, PyData.hasDictAll (ns.map PyData.int) = false
  | [] => rfl
  | n :: ns => by rw [List.map_cons, PyData.hasDictAll, nodict_ints]; rfl
theorem piled_ints : ∀ {ns : List Int}, (∀ n ∈ ns, n.natAbs.log2 < 1920) → piled (PyData.shownAll (ns.map PyData.int)) ≤ 2000 * ns.length
  | [], _ => by simp [PyData.shownAll, piled]
  | n :: ns, h => by
    have h1 := piled_ints (ns := ns) fun m hm => h m (List.mem_cons_of_mem _ hm)
    have h2 := int_text_len_1921 (h n (by simp))
    rw [List.map_cons, PyData.shownAll, PyData.shown, List.length_cons]
    unfold piled at h1 ⊢
    simp only [List.map_cons, List.sum_cons] at h1 ⊢
    omega
theorem shown_ints {ns : List Int} (h : ∀ n ∈ ns, n.natAbs.log2 < 1920) (hl : ns.length ≤ 100) : (dataI ns).shown.length ≤ 200010 := by
  unfold dataI
  rw [PyData.shown]
  have h1 := piled_ints h
  cases ns with
  | nil => decide
  | cons n ns =>
    have h2 := join_length_add (PyData.shownAll ((n :: ns).map PyData.int)) (by simp [PyData.shownAll])
    unfold tupleText
    rw [strLen_append, strLen_append]
    have e1 : ("(" : Str).length = 1 := by decide
    have e2 : ∀ b : Bool, ((if b = true then ",)" else ")" : String) : Str).length ≤ 2 := by decide
    have e3 := e2 ((PyData.shownAll ((n :: ns).map PyData.int)).length == 1)
    omega
theorem e_fmtT {ns : List Int} (h : JE S Γ a (rowD ns)) (hi : ∀ n ∈ ns, n.natAbs.log2 < 1920) (hl : ns.length ≤ 100) : JE S Γ (.FormattedValue a (-1) none pos) (.str (dataI ns).shown) := .mk fun X o pins s σ H Q I ⟨χ, R, q⟩ => by
  refine wpAny_FormattedValue_plain (thn (h X o pins s σ H (fun v H1 => Same H H1 ∧ Rep S.K (hidB χ H1) (rowD ns) v) I ⟨χ, R, fun v H1 e1 rv => ⟨e1, rv⟩⟩) fun u s1 ⟨v, H1, I1, ru, e1, rv⟩ => ?_)
  obtain ⟨ad, vs, rfl, ha, rvs⟩ := rv
  cases (show u = Value.ref ad from ru)
  have ev : vs = ns.map V.int := reps_ints rvs
  subst ev
  obtain ⟨_, its, rits, ob, hob, hoc, nn, hod⟩ := I1.hok ad _ (hid_some ha).2
  obtain ⟨as, hr⟩ := reads_ints (h := s1.heap) rits
  have rd : Reads s1.heap (.ref ad) (dataI ns) as := .tuple hob hoc hod (by simpa using hr)
  have sz := shown_ints hi hl
  have dp : (dataI ns).depth ≤ 5 := by
    unfold dataI
    rw [PyData.depth]
    have : ∀ ns : List Int, PyData.depthAll (ns.map PyData.int) ≤ 1 := by
      intro ns
      induction ns with
      | nil => simp [PyData.depthAll]
      | cons n ns ih => rw [List.map_cons, PyData.depthAll, PyData.depth]; omega
    have := this ns
    omega
  have un := o.room.un
  exact formatField_of_reads rd (by unfold dataI; rw [PyData.showable]; exact showable_ints hi) (fun z => by unfold dataI at z; rw [PyData.hasDict, nodict_ints] at z; cases z) o.room.gd (by omega) (fun _ _ e => e) (fun h' u tk hk => ⟨.str _, H1, I1.kept hk, ⟨_, rfl⟩, q _ H1 e1 rfl⟩) (Nat.le_trans sz (by decide))
/-- the parts of a text, each shorter than a million -/
def JP (S : Stat) (Γ : List Sl) (L : Nat) : List Expr → List Str → Prop
  | [], xs => xs = []
  | e :: es, xs => ∃ x r, xs = x :: r ∧ JE S Γ e (.str x) ∧ x.length ≤ L ∧ JP S Γ L es r
theorem p_nil {L : Nat} : JP S Γ L [] [] := rfl
theorem p_cons {L : Nat} {es : List Expr} {x : Str} {xs : List Str} (h : JE S Γ e (.str x)) (hl : x.length ≤ L) (r : JP S Γ L es xs) : JP S Γ L (e :: es) (x :: xs) := ⟨x, xs, rfl, h, hl, r⟩
def catS (acc : Str) (xs : List Str) : Str := xs.foldl (· ++ ·) acc
theorem joins_ok {X : Cx} {L : Nat} (o : S.Of X) {pins : List (Addr × Obj)} {σ : L2.St} {χ : Addr → Bool} : ∀ (es : List Expr) (xs : List Str) (acc : Str) (k : Nat) (s : Shared) (H : Hp) (Q : Str → Shared → Prop), JP S Γ L es xs → acc.length ≤ k * L → (k + es.length) * L ≤ sizeLine → Inv X pins σ H s → RE S.K χ H σ Γ →
    (∀ s1 H1, Inv X pins σ H1 s1 → Same H H1 → (catS acc xs).length ≤ sizeLine → Q (catS acc xs) s1) → Joins (model X.prog X.w) X.A X.xe (evalEach es X.env) acc Q s
  | [], xs, acc, k, s, H, Q, hp, hk, hl, I, R, q => by
    cases (show xs = [] from hp)
    exact q s H I (Same.refl H) (Nat.le_trans hk hl)
  | e :: es, xs, acc, k, s, H, Q, hp, hk, hl, I, R, q => by
    obtain ⟨x, r, rfl, hx, hxl, hr⟩ := hp
    rw [List.length_cons] at hl
    have hl2 : (acc ++ x).length ≤ (k + 1) * L := by rw [strLen_append, Nat.succ_mul]; omega
    show wpAny _ _ (eval e X.env) _ _ s
    refine thn (hx X o pins s σ H (fun v H1 => Same H H1 ∧ Rep S.K (hidB χ H1) (.str x) v) I ⟨χ, R, fun v H1 e1 rv => ⟨e1, rv⟩⟩) fun u s1 ⟨v, H1, I1, ru, e1, rv⟩ => ?_
    cases (show v = V.str x from rv)
    obtain ⟨t, rfl⟩ := (show ∃ t, u = Value.str x t from ru)
    refine ⟨x, t, rfl, Nat.le_trans hl2 (Nat.le_trans (Nat.mul_le_mul_right L (by omega)) hl), ?_⟩
    exact joins_ok o es r (acc ++ x) (k + 1) s1 H1 Q hr hl2 (by rw [show k + 1 + es.length = k + (es.length + 1) by omega]; exact hl) I1 (R.mono e1) fun s2 H2 I2 e2 hz => q s2 H2 I2 (e1.trans e2) hz
theorem e_fstr {e' : Expr} {es : List Expr} {xs : List Str} (h : JP S Γ 1000000 (e :: e' :: es) xs) (hl : es.length ≤ 10) : JE S Γ (.JoinedStr (e :: e' :: es) pos) (.str (catS Str.empty xs)) := .mk fun X o pins s σ H Q I ⟨χ, R, q⟩ => by
  refine wpAny_JoinedStr (joins_ok o _ xs Str.empty 0 s H _ h (Nat.zero_le _) ?_ I R fun s1 H1 I1 e1 hz => ⟨hz, .str _, H1, I1.tok _, ⟨_, rfl⟩, q _ H1 e1 rfl⟩)
  rw [List.length_cons, List.length_cons]
  exact Nat.le_trans (Nat.mul_le_mul_right _ (show 0 + (es.length + 1 + 1) ≤ 12 by omega)) (by decide)
end
end DL

end
section
set_option Elab.async false
set_option linter.all false
set_option maxRecDepth 100000
set_option maxHeartbeats 4000000
namespace DL
open PySem PySem.Spec PyProof.Rows L2
/-! ### e.__class__ of an exception of an own class, isinstance(e, ..) -/
/-- what is looked up at the class C: nothing of its own -/
structure ExLook (K : PySem.W.Frag) (C : Addr) : Prop where
  exc : PySem.W.excIn K C bmV "ValueError.__new__" = true
  cl : PySem.W.findIn K (.ref C) "__class__" = some (some (.builtin "object.__class__"))
  ga : PySem.W.findIn K (.ref C) "__getattribute__" = some (some (.builtin "BaseException.__getattribute__"))
  gt : PySem.W.findIn K (.ref C) "__getattr__" = some none
def XcAt (a C : Addr) (h : Heap) : Prop := ∃ o, h.get? a = some o ∧ o.cls = .ref C
section
variable {prog : Program} {w : World} {A : Around} {E : Value → Shared → Prop} {h : Heap} {g : Array GenState} {d : Drawn} {t : Nat} {os : OsState} {a C : Addr} {o : Obj} {K : PySem.W.Frag}
theorem xc_sub {M : Model} {T : String} {Q : Bool → Shared → Prop} (X : K.In h) (L : ExLook K C) (hT : bmV.contains (.type T) = true) (hq : Q true ⟨h, g, d, t, os⟩) : wpAny M A (isSubtype (.ref C) (.type T)) Q E ⟨h, g, d, t, os⟩ := by
  obtain ⟨bm, N, nm, q, bs, hdct, sn, sub, ab, col, dd, k0, k1, k2, k3, k5, mN, hC, hN, hni, T'⟩ := exc_of_in X L.exc
  refine wpAny_isSubtype_exc hC ?_
  rw [show (Value.ref C :: bm).contains (.type T) = true from by rw [List.contains_cons, T'.hasType hT]; exact Bool.or_true _]
  exact hq
theorem xc_get {R : Result → Shared → Prop} (X : K.In h) (L : ExLook K C) (hx : h.get? a = some o) (hc : o.cls = .ref C) (hq : R (.ok (.ret (.ref C))) ⟨h, g, d, t, os⟩) :
    codeAny (model prog w) A (.call (.builtin "getset_descriptor.__get__") ⟨[.builtin "object.__class__", .ref a, .ref C], []⟩) R ⟨h, g, d, t, os⟩ := by
  have hT5 : (⟨h, g, d, t, os⟩ : Shared).TypeIs (.builtin "object.__class__") "getset_descriptor" := F.typeOf_object_class
  have hcB : bmV.contains (.type (".".intercalate ("object.__class__".cutAt '.').dropLast)) = true := by
    rw [F.owner_object_class]; decide +kernel
  refine codeAny_call_builtin F.slot_gs_get.plain F.entry_gs_get (F.slot_gs_get.check _ _ _ _ _ _ _ _ hT5 (F.args_gs_get _ _ _) ?_)
  repeat (any_goals (first | assumption | (with_reducible refine wpAny_loadPart_at hx ?_; rw [hc]) | with_reducible refine xc_sub X L hcB ?_ | wp_step))
  refine ⟨Code.quiet_builtin _ (by decide +kernel), codeAny_builtin F.entry_object_class ?_⟩
  repeat (any_goals (first | assumption | (with_reducible refine wpAny_loadPart_at hx ?_; rw [hc]) | wp_step))
theorem xc_entry {tk : Tok} {Q : Fin → Shared → Prop} (X : K.In h) (L : ExLook K C) (hx : h.get? a = some o) (hc : o.cls = .ref C) (hq : Q (.done (.ret (.ref C))) ⟨h, g, d, t, os⟩) :
    wpAny (model prog w) A (Builtin.«object.__getattribute__» ⟨[.ref a, .str "__class__" tk], []⟩) Q E ⟨h, g, d, t, os⟩ := by
  have hT5 : (⟨h, g, d, t, os⟩ : Shared).TypeIs (.builtin "object.__class__") "getset_descriptor" := F.typeOf_object_class
  have f5 := F.typeOf_object_class
  have f6 := F.slot_gs_get.lookup
  have f7 := F.slot_gs_set.lookup
  have LK : PySem.W.Looks (model prog w) h (typeLookup (.ref C) "__class__") (some (.builtin "object.__class__")) := PySem.W.looks_findIn X L.cl
  repeat (any_goals (first | assumption | (with_reducible refine wpAny_loadPart_at hx ?_; rw [hc]) | with_reducible refine LK.at ?_ | wp_step))
  refine xc_get X L hx hc ?_
  repeat (any_goals (first | assumption | wp_step))
theorem xc_check {M : Model} {nameV : Value} {Q : Unit → Shared → Prop} (X : K.In h) (L : ExLook K C) (hx : h.get? a = some o) (hc : o.cls = .ref C) (hq : Q () ⟨h, g, d, t, os⟩) : wpAny M A (checkBuiltinCall "BaseException.__getattribute__" ⟨[.ref a, nameV], []⟩) Q E ⟨h, g, d, t, os⟩ := by
  have hk : builtinKind "BaseException.__getattribute__" = some .slot := by decide +kernel
  have hsplit : splitId "BaseException.__getattribute__" = some ("BaseException", "__getattribute__") := by decide +kernel
  have ha := F.args_bexc_ga (.ref a) nameV
  have hcB : bmV.contains (.type "BaseException") = true := by decide +kernel
  simp only [checkBuiltinCall, hk, hsplit]
  refine wpAny_bind ?_
  · unfold isInstance
    repeat (first | (with_reducible refine wpAny_loadPart_at hx ?_; rw [hc]) | with_reducible refine xc_sub X L hcB ?_ | wp_step)
    exact hq
theorem xc_call {tk : Tok} {R : Result → Shared → Prop} (X : K.In h) (L : ExLook K C) (hx : h.get? a = some o) (hc : o.cls = .ref C) (hq : R (.ok (.ret (.ref C))) ⟨h, g, d, t, os⟩) :
    codeAny (model prog w) A (.call (.builtin "BaseException.__getattribute__") ⟨[.ref a, .str "__class__" tk], []⟩) R ⟨h, g, d, t, os⟩ :=
  codeAny_call_builtin F.attr_ValueError.ga.plain F.entry_bexc_ga (xc_check X L hx hc (xc_entry X L hx hc hq))
theorem xc_by {tk : Tok} {Q : Value → Shared → Prop} (X : K.In h) (L : ExLook K C) (hx : h.get? a = some o) (hc : o.cls = .ref C) (hq : Q (.ref C) ⟨h, g, d, t, os⟩) :
    wpAny (model prog w) A (getAttrBy (.ref a) (.str "__class__" tk) false) Q E ⟨h, g, d, t, os⟩ := by
  have f3 := F.attr_ValueError.ga.bind (.ref a)
  have hx2 : (Value.builtin "BaseException.__getattribute__" == Value.builtin "object.__getattribute__") = false := by decide +kernel
  have hx1 : (onTheHeap (Value.ref C) && Value.builtin "BaseException.__getattribute__" == Value.builtin "object.__getattribute__") = false := by rw [hx2]; rfl
  have L1 : PySem.W.Looks (model prog w) h (typeLookup (.ref C) "__getattribute__") (some (.builtin "BaseException.__getattribute__")) := PySem.W.looks_findIn X L.ga
  have L2 : PySem.W.Looks (model prog w) h (typeLookup (.ref C) "__getattr__") none := PySem.W.looks_findIn X L.gt
  repeat (any_goals (first | assumption | (with_reducible refine wpAny_loadPart_at hx ?_; rw [hc]) | with_reducible refine L1.at ?_ | with_reducible refine L2.at ?_ | wp_step))
  refine xc_call X L hx hc ?_
  repeat (any_goals (first | assumption | wp_step))
theorem xc_attr {Q : Option Value → Shared → Prop} (X : K.In h) (L : ExLook K C) (hx : h.get? a = some o) (hc : o.cls = .ref C) (hq : Q (some (.ref C)) ⟨h, g, d, t + 1, os⟩) : wpAny (model prog w) A (getAttr? (.ref a) "__class__") Q E ⟨h, g, d, t, os⟩ := by
  unfold getAttr? getAttrBy?
  repeat (any_goals (first | assumption | with_reducible apply xc_by X L hx hc | wp_step))
theorem kitx_exc (L : ExLook K C) : PySem.W.KitX K (.ref a) (.ref C) (XcAt a C) where
  ty := fun M h _ ⟨o, h1, h2⟩ => h2 ▸ (PySem.W.Looks.ld h1).andThen .now
  it := fun M h X _ => by
    obtain ⟨bm, N, nm, q, bs, hdct, sn, sub, ab, col, dd, k0, k1, k2, k3, k5, mN, hC, hN, hni, T'⟩ := exc_of_in X L.exc
    intro A' Q' E' s' k q
    unfold isType loadHead
    exact wpAny_bind (wpAny_loadPart (k _ _ hC) (wpAny_pure q))
  ne := fun h tp dd its n sl X htp => by
    obtain ⟨bm, N, nm, q, bs, hdct, sn, sub, ab, col, dd, k0, k1, k2, k3, k5, mN, hC, hN, hni, T'⟩ := exc_of_in X L.exc
    refine Bool.eq_false_iff.mpr fun q => ?_
    have e : C = tp := Value.ref.inj (beq_iff_eq.mp q)
    subst e
    have z := congrArg Obj.data (Option.some.inj (hC.symm.trans htp))
    unfold excClassObj at z
    nomatch z
  ca := fun {_ _ _ _ _ s} X ⟨o, h1, h2⟩ k => by obtain ⟨h, g, d, t, os⟩ := s; exact xc_attr X L h1 h2 k
end
end DL

end
section
set_option Elab.async false
set_option linter.all false
set_option maxRecDepth 100000
set_option maxHeartbeats 4000000
namespace DL
open PySem PySem.Spec PyProof.Rows L2
/-! ### try: what is raised in it is caught -/
theorem objOk_there {P : Program} {w : World} {H : Hp} {h : Heap} {a : Addr} {o : HO} (x : ObjOk P w H h a o) : ∃ ob, h.get? a = some ob := by
  cases o with
  | lst xs => obtain ⟨_, _, _, _, e⟩ := x; exact ⟨_, e⟩
  | tup xs => obtain ⟨_, _, _, ob, e, _⟩ := x; exact ⟨_, e⟩
  | dK kvs => obtain ⟨_, _, _, _, o, _, _, e, _⟩ := x; exact ⟨_, e⟩
  | dT kvs => obtain ⟨_, _, _, _, o, _, _, e, _⟩ := x; exact ⟨_, e⟩
  | set S n => obtain ⟨o, _, _, _, e, _⟩ := x; exact ⟨_, e⟩
  | ins C dx fs => obtain ⟨_, _, _, e, _⟩ := x; exact ⟨_, e⟩
  | own y => exact x
  | xd fs => obtain ⟨_, ⟨_, _, _, e, _⟩, _⟩ := x; exact ⟨_, e⟩
  | rng lo hi => obtain ⟨_, _, _, e⟩ := x; exact ⟨_, e⟩
  | frz ob u => obtain ⟨e, _⟩ := x; exact ⟨_, e⟩
  | tbl ps => exact ⟨_, (show h.get? a = some _ from x)⟩
  | met f y => exact ⟨_, (show h.get? a = some _ from x)⟩
  | ext φ => obtain ⟨_, e, _⟩ := x; exact e
section
variable {X : Cx} {pins : List (Addr × Obj)} {σ : L2.St} {H H' : Hp} {s s' : Shared} {B h5 : Heap} {a t : Addr} {cls : XC}
theorem fly_out (fl : Fly X.prog X.w X.stack H s cls a s' H' B t) : H' a = none := by
  cases c : H' a with
  | none => rfl
  | some o =>
    obtain ⟨ob, e⟩ := objOk_there (fl.hok a o c)
    have := fl.fly.out
    rw [e] at this; cases this
theorem inv_fly (I : L2.Inv X pins σ H s) (fl : Fly X.prog X.w X.stack H s cls a s' H' B t) (hB : B.StaysIn h5) (hU : s'.heap.UpToSlots h5) : L2.Inv X pins σ H' { s' with heap := h5 } := by
  refine I.call' (s' := { s' with heap := h5 }) (ch := []) fl.os ⟨fun b o e n hb _ => hB _ _ (fl.keep b o e n hb), fun b o e n hb _ => ?_, fun b o e n _ => fl.free b o e n, fun b o e _ => ?_, fun b xs e => fl.same _ _ e, fun b o u e => fl.same _ _ e, fun b ps e => ⟨#[], by rw [fl.same _ _ e]; simp⟩⟩ (fl.hok.kept hB) fl.bare (fun b hb => nomatch hb)
  · obtain ⟨sl, e1⟩ := fl.slot b o e n hb
    obtain ⟨o2, e2, hd⟩ := frames_dict fl.fly.fr b hb
    rw [e1] at e2; cases e2
    obtain ⟨sl', e3⟩ := hU b _ e1 hd
    exact ⟨sl', e3⟩
  · cases c : H b with
    | some u =>
      obtain ⟨ob, q⟩ := objOk_there (fl.hok b u (fl.same _ _ c))
      exact ⟨ob, hB _ _ q⟩
    | none =>
      by_cases hb : b ∈ frs X.stack
      · obtain ⟨sl, e1⟩ := fl.slot b o e c hb
        obtain ⟨o2, e2, hd⟩ := frames_dict fl.fly.fr b hb
        rw [e1] at e2; cases e2
        obtain ⟨sl', e3⟩ := hU b _ e1 hd
        exact ⟨_, e3⟩
      · exact ⟨o, hB _ _ (fl.keep b o e c hb)⟩
/-- in a handler: the exception is held -/
def mkd (X : Cx) (a : Addr) (oe : Obj) : Cx := { X with A := X.A.mark (some (.ref a)), calm := false, pn := (a, oe) :: X.pn, xe := fun _ _ => False }
theorem inv_mkd {oe : Obj} {vs : Array Value} (I : L2.Inv X pins σ H s) (he : s.heap.get? a = some oe) (hd : oe.data = .fields vs) (hn : H a = none) : L2.Inv (mkd X a oe) pins σ H s := by
  refine ⟨⟨I.ok.mod, I.ok.kind, I.ok.glob, I.ok.blt, I.ok.above, I.ok.inj, I.ok.has, I.ok.cab, (fun z => Bool.noConfusion z), I.ok.frames, I.ok.stk, I.ok.exf, I.ok.bs, I.ok.bsz, I.ok.noex, I.ok.exfs, I.ok.funs, I.ok.frf⟩, I.os, I.bare, I.base, I.loc, I.cell, I.free, I.freeC, fun p hp => ?_, I.hok, I.len⟩
  rcases List.mem_cons.mp (show p ∈ (a, oe) :: (X.pn ++ pins) from hp) with rfl | hp
  · refine ⟨he, hn, fun z => ?_, fun z => ?_, fun v z => by rw [hd] at z; cases z⟩
    · obtain ⟨m, ⟨o', es, ep, ho', hd', _⟩, _⟩ := I.loc
      have z' : a = X.env.locals := z
      rw [← z', he] at ho'; cases ho'
      rw [hd] at hd'; cases hd'
    · obtain ⟨o2, e2, hd2⟩ := frames_dict I.funs a z
      rw [he] at e2; cases e2
      exact hd2 vs hd
  · exact I.pin p hp
theorem inv_unmkd {oe : Obj} (ok : X.Ok) (I : L2.Inv (mkd X a oe) pins σ H s) : L2.Inv X pins σ H s :=
  ⟨ok, I.os, I.bare, I.base, I.loc, I.cell, I.free, I.freeC, fun p hp => I.pin p (List.mem_cons_of_mem _ hp), I.hok, I.len⟩
theorem mkd_at {oe : Obj} (I : L2.Inv (mkd X a oe) pins σ H s) : s.heap.get? a = some oe := (I.pin (a, oe) (List.mem_cons_self ..)).1
/-- a local name goes -/
theorem inv_gone {n : Str} {i : Nat} {h' : Heap} {m m' : Str → Option Value} {t' : Nat} (I : L2.Inv X pins σ H s) (hN : X.N.Nodup) (hi : X.N[i]? = some n) (hk : X.env.kindOf n = some .local) (hn : s.heap.Ns X.env.locals m)
    (hn' : h'.Ns X.env.locals m') (hm : ∀ x, x ≠ n → m' x = m x) (hs : Heap.SameBut X.env.locals s.heap h') : L2.Inv X pins (σ.set i none) H { s with heap := h', toks := t' } := by
  have cne := I.cne
  obtain ⟨oL, _, _, hoL, _⟩ := id hn
  have tracked : HOk X.prog X.w H h' := fun b ob e => by
    refine (I.hok b ob e).stay (fun c w' hc q => (hs.2 c ?_).trans q) (fun _ q => q) fun _ _ q => q
    rintro rfl
    rcases hc with rfl | hc
    · rw [I.free] at e; cases e
    · rw [I.free] at hc; cases hc
  refine ⟨I.ok, I.os, I.bare, ⟨fun b o e n hb hx => ?_, fun b o e n hb hx => ?_, I.base.free, fun b o e hx => ?_, I.base.tups, I.base.frzs, I.base.tbls⟩, ⟨_, hn', fun j y v' e1 e2 e3 => ?_⟩, fun y c e => ?_, I.free, I.freeC, fun p hp => ?_, tracked, by simpa using I.len⟩
  · exact (hs.2 b (Nat.ne_of_lt (Nat.lt_of_lt_of_le (Heap.lt_size e) I.ok.above))).trans (I.base.keep b o e n hb hx)
  · obtain ⟨sl, e1⟩ := I.base.slot b o e n hb hx
    exact ⟨sl, (hs.2 b (Nat.ne_of_lt (Nat.lt_of_lt_of_le (Heap.lt_size e) I.ok.above))).trans e1⟩
  · obtain ⟨o', e1⟩ := I.base.there b o e hx
    exact ⟨o', (hs.2 b (Nat.ne_of_lt (Nat.lt_of_lt_of_le (Heap.lt_size e) I.ok.above))).trans e1⟩
  · obtain ⟨m0, hn0, hl0⟩ := I.loc
    have em : m0 = m := hn0.eq_nsMap.trans hn.eq_nsMap.symm
    subst em
    by_cases hj : j = i
    · subst hj
      have hiσ : j < σ.length := by rw [I.len]; exact (List.getElem?_eq_some_iff.mp hi).1
      rw [List.getElem?_set_self hiσ] at e2
      cases e2
    · rw [List.getElem?_set_ne (Ne.symm hj)] at e2
      obtain ⟨u', r', q⟩ := hl0 j y v' e1 e2 e3
      refine ⟨u', r', ?_⟩
      rcases q with ⟨k, e⟩ | ⟨k, c, e, z⟩
      · refine .inl ⟨k, ?_⟩
        have : y ≠ n := fun e => hj (nodup_ix hN e1 (e ▸ hi))
        rw [hm y this]; exact e
      · exact .inr ⟨k, c, e, z.sameBut hs (cne y c e)⟩
  · obtain ⟨w', z⟩ := I.cell y c e
    exact ⟨w', z.sameBut hs (cne y c e)⟩
  · obtain ⟨e, n, ne, nf, d⟩ := I.pin p hp
    exact ⟨(hs.2 p.1 ne).trans e, n, ne, nf, d⟩
end
end DL

end
section
set_option Elab.async false
set_option linter.all false
set_option maxRecDepth 100000
set_option maxHeartbeats 4000000
namespace DL
open PySem PySem.Spec PyProof.Rows L2
section
variable {K : PySem.W.Frag} {A : Around} {E : Value → Shared → Prop} {h : Heap} {g : Array GenState} {d : Drawn} {t : Nat} {os : OsState} {a C D : Addr} {o : Obj}
/-- an exception of the class C under the class D -/
theorem excMatches_sup {prog : Program} {w : World} {Q : Bool → Shared → Prop} (X : K.In h) (hD : PySem.W.excIn K D bmV "ValueError.__new__" = true) (hs : PySem.W.subIn K (.ref C) (.ref D) = some true) (he : h.get? a = some o) (hcls : o.cls = .ref C) (hq : Q true ⟨h, g, d, t, os⟩) :
    wpAny (model prog w) A (excMatches (.ref a) (.ref D)) Q E ⟨h, g, d, t, os⟩ := by
  obtain ⟨bm, N, nm, q, bs, hdct, sn, sub, ab, col, dd, k0, k1, k2, k3, k5, mN, hDo, hN, hni, T⟩ := exc_of_in X hD
  have hcB : (Value.ref D :: bm).contains (.type "BaseException") = true := by rw [List.contains_cons, T.hasType (by decide +kernel : bmV.contains (.type "BaseException") = true), Bool.or_true]
  have L1 : PySem.W.Looks (model prog w) h (isSubtype (.ref C) (.ref D)) true := PySem.W.looks_subIn X hs
  have f := tc_notTuple
  unfold excMatches
  repeat (first | (with_reducible refine wpAny_loadPart_at he ?_; rw [hcls]) | with_reducible refine wpAny_loadPart_at hDo ?_ | (with_reducible refine wpAny_isSubtype_exc hDo ?_; rw [hcB]) | with_reducible refine L1.at ?_ | wp_step)
  exact hq
end
/-- the name y stands for a class, and an exception of the class C is or is not of it -/
def IsC (S : Stat) (y : Str) (C : Addr) (b : Bool) : Prop := (∃ D, S.mg y = some (.ref D) ∧ PySem.W.kitOne S.K (.ref C) (.ref D) = some b) ∨ (∃ T, S.mg y = none ∧ bootBuiltins y = some (.type T) ∧ PySem.W.kitOne S.K (.ref C) (.type T) = some b)
def tMk (i : Nat) (a : Addr) (b : Bool) : TE := fun σ H Q => σ[i]? = some (some (.ref a)) ∧ Q (.bl b) H
section
variable {S : Stat} {Γ : List Sl} {pos p p1 p2 : Pos} {C a : Addr} {oe : Obj} {b : Bool} {x y : Str} {i : Nat}
theorem pe_isi {X : Cx} (o : S.Of X) (L : ExLook S.K C) (hc : oe.cls = .ref C) (hy : IsC S y C b) (hm : S.mg "isinstance" = none) (hN : S.N[i]? = some x) (hx : Loc S.sc x) (h1 : (x == ("__debug__" : Str)) = false) (h2 : (x == ("__classdict__" : Str)) = false)
    (hg : S.sc.names.lookup ("isinstance" : Str) = some .globalImplicit) (hgy : S.sc.names.lookup y = some .globalImplicit) (hn : y ≠ "__name__") (hdb : (y == ("__debug__" : Str)) = false) :
    PE (mkd X a oe) (.Call (.Name "isinstance" p) [.Name x p1, .Name y p2] [] pos) (tMk i a b) := by
  have gl : ∀ z : Str, S.sc.names.lookup z = some .globalImplicit → Gl (mkd X a oe) z := fun z q => gl_of o q
  have ev : ∃ (v : V) (u : Value), PE (mkd X a oe) (.Name y p2) (tC v) ∧ (∀ u', RelV v u' → u' = u) ∧ PySem.W.kitOne S.K (.ref C) u = some b := by
    rcases hy with ⟨D, m1, k1⟩ | ⟨T, m1, m2, k1⟩
    · exact ⟨.ref D, .ref D, pe_glob (gl y hgy) (by show X.mg y = _; rw [o.mg]; exact m1) rfl hdb, fun _ z => z, k1⟩
    · exact ⟨.ty T, .type T, pe_bltn (gl y hgy) (by show X.mg y = _; rw [o.mg]; exact m1) m2 rfl hn hdb, fun _ z => z, k1⟩
  obtain ⟨v, u, hv, ru, hk⟩ := ev
  intro pins s σ H Q I ⟨hσ, q⟩
  refine wpAny_Call_Name_kw (ld_blt I (gl _ hg) (by show X.mg _ = _; rw [o.mg]; exact hm) boot_isinstance ?_)
  have ha := pa_cons (pe_var (X := mkd X a oe) (i := i) (x := x) (pos := p1) (by show X.N[i]? = _; rw [o.N]; exact hN) (by show Vis X.env.scope x; rw [o.sc]; exact hx.elim .inl fun z => .inr (.inl z)) h1 h2) (pa_cons hv pa_nil)
  refine PyProof.Rows.callWith_builtin1 (thn (ha pos pins s σ H (fun vs H1 => vs = [.ref a, v] ∧ H1 = H) I ⟨.ref a, hσ, rfl, rfl⟩) fun us s1 ⟨vs, H1, I1, r1, e1, e2⟩ => ?_)
  subst e1 e2
  cases r1 with
  | cons ra r1 =>
    cases r1 with
    | cons rb r1 =>
      cases r1
      cases (show _ = Value.ref a from ra)
      cases ru _ rb
      have Kin : S.K.In s1.heap := by have := I1.kIn; rw [show (mkd X a oe).K = S.K from o.K] at this; exact this
      exact PySem.W.kia_one (kitx_exc L) Kin ⟨oe, mkd_at I1, hc⟩ hk (by intro z; cases z) fun tk => ⟨.bl b, H1, I1.tok _, rfl, q⟩
end
end DL

end
section
set_option Elab.async false
set_option linter.all false
set_option maxRecDepth 100000
set_option maxHeartbeats 4000000
namespace DL
open PySem PySem.Spec PyProof.Rows L2
theorem handleBy_sup {prog : Program} {w : World} {A : Around} {E : Value → Shared → Prop} {s : Shared} {env : Env} {K : PySem.W.Frag} {e C D : Addr} {t : Expr} {n : Str} {b₀ : Stmt} {suite : List Stmt} {pos : Pos} {rest : List ExceptHandler} {Q : Flow → Shared → Prop} (hD : PySem.W.excIn K D bmV "ValueError.__new__" = true)
    (hs : PySem.W.subIn K (.ref C) (.ref D) = some true)
    (h : wpAny (model prog w) (A.mark (some (.ref e))) (eval t env) (fun c s₁ => c = .ref D ∧ K.In s₁.heap ∧ (∃ oe, s₁.heap.get? e = some oe ∧ oe.cls = .ref C) ∧
      wpAny (model prog w) (A.mark (some (.ref e))) (setFlight (.ref e) none) (fun _ s₂ =>
          wpAny (model prog w) (A.mark (some (.ref e))) (storeName env n (.ref e)) (fun _ s₃ =>
            wpAny (model prog w) (A.mark (some (.ref e))) (execs (b₀ :: suite) env)
              (fun f s₄ => wpAny (model prog w) A (do bindName env n .none; unbindBehindTheSuite env n pos) (fun _ s₅ => Q f s₅) E s₄)
              (AsSuiteRaised (model prog w) (A.mark (some (.ref e))) env n pos (notedBy (model prog w) (A.mark (some (.ref e))) env (cameBackBy (model prog w) A env E))) s₃) (notedBy (model prog w) (A.mark (some (.ref e))) env (cameBackBy (model prog w) A env E)) s₂) (notedBy (model prog w) (A.mark (some (.ref e))) env (cameBackBy (model prog w) A env E)) s₁) (notedBy (model prog w) (A.mark (some (.ref e))) env (cameBackBy (model prog w) A env E)) s) :
    wpAny (model prog w) A (handleBy (.ref e) env (.ExceptHandler (some t) (some n) (b₀ :: suite) pos :: rest)) Q E s := by
  refine wpAny_handleBy_cons (codeAny_handlers_test (wpAny_mono h (fun c s₁ h₁ => ?_) fun _ _ y => y)) (by intro q; cases q)
  obtain ⟨rfl, X, ⟨oe, he, hcls⟩, hk⟩ := h₁
  obtain ⟨hh, g, d, tk, os⟩ := s₁
  exact excMatches_sup X hD hs he hcls (codeAny_handlers_suite_as hk)
section
variable {K : PySem.W.Frag} {φ : Addr → Bool} {ω : Addr → Option (Bool × Nat)} {H : Hp} {σ : L2.St} {Γ : List Sl}
/-- a slot of which nothing is said -/
theorem RS.skip (r : RS K φ ω H σ Γ) {i : Nat} (hi : Γ[i]? = some .no) (v : Option V) : RS K φ ω H (σ.set i v) Γ := by
  refine ⟨r.live, by rw [List.length_set]; exact r.len, fun j d h => ?_, fun j a ds h => ?_, r.argu⟩
  · have hj : i ≠ j := fun z => by rw [← z, hi] at h; cases h
    obtain ⟨v', e, q⟩ := r.val j d h
    exact ⟨v', by rw [List.getElem?_set_ne hj]; exact e, q⟩
  · have hj : i ≠ j := fun z => by rw [← z, hi] at h; cases h
    obtain ⟨p, vs, e, q⟩ := r.own j a ds h
    exact ⟨p, vs, by rw [List.getElem?_set_ne hj]; exact e, q⟩
end
theorem inv_unxe {X : Cx} {xe : Value → Shared → Prop} {pins : List (Addr × Obj)} {σ : L2.St} {H : Hp} {s : Shared} (I : L2.Inv { X with xe := xe } pins σ H s) : L2.Inv X pins σ H s :=
  ⟨⟨I.ok.mod, I.ok.kind, I.ok.glob, I.ok.blt, I.ok.above, I.ok.inj, I.ok.has, I.ok.cab, I.ok.hd, I.ok.frames, I.ok.stk, I.ok.exf, I.ok.bs, I.ok.bsz, I.ok.noex, I.ok.exfs, I.ok.funs, I.ok.frf⟩, I.os, I.bare, I.base, I.loc, I.cell, I.free, I.freeC, I.pin, I.hok, I.len⟩
section
variable {S : Stat} {Γ : List Sl} {E : DEnds} {pos p1 dp hp mp lp ap q1 q2 q3 q4 r1 r2 r3 r4 t1 t2 t3 t4 : Pos} {C D : Addr} {b1 b2 b3 : Bool} {dn en mn y1 y2 y3 : Str} {call : Expr}
theorem s_tryM (ie im : Nat) {nc : Bool} (hx : JXE S Γ call (.ref C, nc)) (L : ExLook S.K C) (hD : S.mg dn = some (.ref D)) (xD : PySem.W.excIn S.K D bmV "ValueError.__new__" = true) (sub : PySem.W.subIn S.K (.ref C) (.ref D) = some true)
    (hy1 : IsC S y1 C b1) (hy2 : IsC S y2 C b2) (hy3 : IsC S y3 C b3) (hm : S.mg "isinstance" = none) (hΓ : Γ[ie]? = some .no) (h : E.nx (Γ.set im (.own [.bl b1, .bl b2, .bl b3])))
    (him : im < Γ.length := by exact Nat.le_of_ble_eq_true rfl) (hne : ie ≠ im := by decide)
    (hN : S.N.Nodup := by (try dsimp only [DL.Stat.blk]); decide +kernel) (hie : S.N[ie]? = some en := by (try dsimp only [DL.Stat.blk]); decide +kernel) (hen : S.sc.names.lookup en = some .local := by (try dsimp only [DL.Stat.blk]); decide +kernel)
    (himn : S.N[im]? = some mn := by (try dsimp only [DL.Stat.blk]); decide +kernel) (hmn : Loc S.sc mn := by (try dsimp only [DL.Stat.blk]); decide +kernel)
    (h1 : (en == ("__debug__" : Str)) = false := by decide +kernel) (h2 : (en == ("__classdict__" : Str)) = false := by decide +kernel) (hg : S.sc.names.lookup ("isinstance" : Str) = some .globalImplicit := by (try dsimp only [DL.Stat.blk]); decide +kernel)
    (hdn : S.sc.names.lookup dn = some .globalImplicit := by (try dsimp only [DL.Stat.blk]); decide +kernel) (hdd : (dn == ("__debug__" : Str)) = false := by decide +kernel)
    (hg1 : S.sc.names.lookup y1 = some .globalImplicit := by (try dsimp only [DL.Stat.blk]); decide +kernel) (hn1 : y1 ≠ "__name__" := by decide +kernel) (hd1 : (y1 == ("__debug__" : Str)) = false := by decide +kernel)
    (hg2 : S.sc.names.lookup y2 = some .globalImplicit := by (try dsimp only [DL.Stat.blk]); decide +kernel) (hn2 : y2 ≠ "__name__" := by decide +kernel) (hd2 : (y2 == ("__debug__" : Str)) = false := by decide +kernel)
    (hg3 : S.sc.names.lookup y3 = some .globalImplicit := by (try dsimp only [DL.Stat.blk]); decide +kernel) (hn3 : y3 ≠ "__name__" := by decide +kernel) (hd3 : (y3 == ("__debug__" : Str)) = false := by decide +kernel)
    (hs : ∀ X : Cx, swapsWith call none p1.line X.env = pure false := by intro _; rfl) (htop : S.top = true := by rfl) :
    JS S Γ (.Try [.Expr call p1] [.ExceptHandler (some (.Name dn dp)) (some en) [.Assign [.Name mn mp] (.List [.Call (.Name "isinstance" q1) [.Name en q2, .Name y1 q3] [] q4, .Call (.Name "isinstance" r1) [.Name en r2, .Name y2 r3] [] r4, .Call (.Name "isinstance" t1) [.Name en t2, .Name y3 t3] [] t4] lp) ap] hp] [] [] pos) E := .mk fun X o pins s σ H Z I ⟨φ, ω, r, c⟩ => by
  obtain ⟨stk, fr0⟩ := o.stk htop
  have o' := of_xe (S := S) (xe := fun e s1 => wpAny (model X.prog X.w) X.A (noteFrame e X.env) (fun _ s2 => wpAny (model X.prog X.w) X.A (setFlight e none) (fun _ s3 => wpAny (model X.prog X.w) X.A (handleBy e X.env [.ExceptHandler (some (.Name dn dp)) (some en) [.Assign [.Name mn mp] (.List [.Call (.Name "isinstance" q1) [.Name en q2, .Name y1 q3] [] q4, .Call (.Name "isinstance" r1) [.Name en r2, .Name y2 r3] [] r4, .Call (.Name "isinstance" t1) [.Name en t2, .Name y3 t3] [] t4] lp) ap] hp]) (SP X pins Z) X.xe s3) X.xe s2) X.xe s1) o PassesOwn.looking
  refine wpAny_Try_except (wpAny_execs_cons (thn (wpAny_Expr_any (thn (hx.run _ o' pins s σ H (both φ ω) (inv_xe I) r.re (fun H2 s2 a s' H' B t I2 e2 fl => ?_) (fun _ _ => False)) fun _ _ z => z.elim) I.quiet (hs X)) fun _ _ z => z))
  have I2' : L2.Inv X pins σ H2 s2 := inv_unxe I2
  have fl' : Fly X.prog X.w X.stack H2 s2 (.ref C, nc) a s' H' B t := fl
  have hfr : X.A.frames = some (X.env :: X.outer) := by rw [I.ok.frames, stk]
  have ff := fl'.fly
  rw [stk] at ff
  refine sta_look hfr fr0 ff fun h1' x1 u1 _ => ?_
  refine sta_land x1.1 x1.2.1 x1.2.2.1 x1.2.2.2 fun h2' x2 u2 _ => ?_
  obtain ⟨oe, vs, he, hcls, hd, _⟩ := x2.first
  have I3 := inv_fly I2' fl' x2.1 (u1.trans u2)
  have Im := inv_mkd I3 he hd (fly_out fl')
  have gl : ∀ (b : Addr) (ob : Obj) (z : Str), S.sc.names.lookup z = some .globalImplicit → Gl (mkd X b ob) z := fun b ob z q => gl_of o q
  refine handleBy_sup (K := S.K) (C := C) (D := D) xD sub (ld_glob Im (gl _ _ _ hdn) (by show X.mg _ = _; rw [o.mg]; exact hD) ⟨rfl, ?_, ⟨oe, he, hcls⟩, ?_⟩ hdd)
  · have := Im.kIn; rw [show (mkd X a oe).K = S.K from o.K] at this; exact this
  refine sta_land x2.1 x2.2.1 x2.2.2.1 x2.2.2.2.at fun h4 x4 u4 _ => ?_
  obtain ⟨oe4, vs4, he4, hcls4, hd4, _⟩ := x4.first
  have I4 := inv_fly I2' fl' x4.1 ((u1.trans u2).trans u4)
  have Im4 := inv_mkd I4 he4 hd4 (fly_out fl')
  refine store_ok (X := mkd X a oe4) Im4 (by show X.N.Nodup; rw [o.N]; exact hN) (by show X.N[ie]? = _; rw [o.N]; exact hie) (by show Loc X.env.scope en; rw [o.sc]; exact .inl hen) (v := .ref a) rfl (fun s5 I5 => ?_) (.inl (o.fn htop en))
  have P : PS (mkd X a oe4) (.Assign [.Name mn mp] (.List [.Call (.Name "isinstance" q1) [.Name en q2, .Name y1 q3] [] q4, .Call (.Name "isinstance" r1) [.Name en r2, .Name y2 r3] [] r4, .Call (.Name "isinstance" t1) [.Name en t2, .Name y3 t3] [] t4] lp) ap) _ :=
    ps_set (i := im) (by show X.N.Nodup; rw [o.N]; exact hN) (by show X.N[im]? = _; rw [o.N]; exact himn) (by show Loc X.env.scope mn; rw [o.sc]; exact hmn)
      (pe_lst (pa_cons (pe_isi o L hcls4 hy1 hm hie (.inl hen) h1 h2 hg hg1 hn1 hd1) (pa_cons (pe_isi o L hcls4 hy2 hm hie (.inl hen) h1 h2 hg hg2 hn2 hd2) (pa_cons (pe_isi o L hcls4 hy3 hm hie (.inl hen) h1 h2 hg hg3 hn3 hd3) pa_nil)))) rfl (.inl (o.fn htop mn))
  have hσ : (σ.set ie (some (V.ref a)))[ie]? = some (some (V.ref a)) := List.getElem?_set_self (by rw [r.len]; exact (List.getElem?_eq_some_iff.mp hΓ).1)
  refine wpAny_mono ((pss_cons P pss_nil) pins s5 _ H' { nx := fun σ' H'' => ∃ p, H' p = none ∧ σ' = (σ.set ie (some (V.ref a))).set im (some (.ref p)) ∧ H'' = upd H' p (.lst [.bl b1, .bl b2, .bl b3]), rt := fun _ _ => False } I5 ⟨hσ, hσ, hσ, by show 3 ≤ sizeLine; decide, fun p hp => ⟨p, hp, rfl, rfl⟩⟩) (fun f s6 z => ?_) fun _ _ z => z.elim
  cases f with
  | brk => obtain ⟨_, _, _, q⟩ := z; exact q.elim
  | cont => obtain ⟨_, _, _, q⟩ := z; exact q.elim
  | ret u => obtain ⟨_, _, _, _, _, q⟩ := z; exact q.elim
  | next =>
    obtain ⟨_, _, I6, p, hp, rfl, rfl⟩ := z
    have I6' := inv_unmkd I.ok I6
    obtain ⟨m, hn, _⟩ := id I6'.loc
    refine wpAny_nameGoes_keeps (by show X.env.scope.names.lookup en = _; rw [o.sc]; exact hen) hn (by rw [I.ok.kind]; rfl) fun h7 v hn7 hs7 => ?_
    have hsm : Same H H' := e2.trans fl'.same
    obtain ⟨r', k'⟩ := ((r.mono hsm).skip hΓ (some (.ref a))).takeC (H' := upd H' p (.lst [.bl b1, .bl b2, .bl b3])) (vs := .lst [.bl b1, .bl b2, .bl b3]) (ds := .lst [.bl b1, .bl b2, .bl b3]) him hp (same_new hp _) upd_same ⟨_, rfl, _, _, rfl, rfl, _, _, rfl, rfl, _, _, rfl, rfl, rfl⟩
    refine ⟨_, _, inv_gone I6' (by rw [o.N]; exact hN) (by rw [o.N]; exact hie) (by show X.env.scope.names.lookup en = _; rw [o.sc]; exact hen) hn hn7 (fun x hx => by simp [hx]) hs7, c.n _ _ _ _ h (r'.skip ?_ none) ((Kp.of hsm).trans k')⟩
    rw [List.getElem?_set_ne (Ne.symm hne)]; exact hΓ
end
end DL

end
section
set_option Elab.async false
set_option linter.all false
set_option maxRecDepth 100000
set_option maxHeartbeats 4000000
namespace DL
open PySem PySem.Spec PyProof.Rows L2
/-! ### what raises within an expression: an argument, what a loop walks -/
structure JXA (S : Stat) (Γ : List Sl) (es : List Expr) (cls : XC) : Prop where
  run : ∀ X, S.Of X → ∀ (pos : Pos) (pins : List (Addr × Obj)) (s : Shared) (σ : L2.St) (H : Hp) (χ : Addr → Bool), Inv X pins σ H s → RE S.K χ H σ Γ →
    (∀ (H2 : Hp) (s2 : Shared) (a : Addr) (s' : Shared) (H' : Hp) (B : Heap) (t : Addr), Inv X pins σ H2 s2 → Same H H2 → Fly X.prog X.w X.stack H2 s2 cls a s' H' B t → X.xe (.ref a) s') → ∀ Q, wpAny (model X.prog X.w) X.A (spliced (backTo pos (starEach es X.env))) Q X.xe s
section
variable {S : Stat} {Γ : List Sl} {pos pos' p : Pos} {e a b : Expr} {es : List Expr} {x : Str} {cls : XC} {d : D}
theorem xa_head (h : JXE S Γ e cls) (hs : ∀ env, starEach (e :: es) env = (false, eval e env) :: starEach es env := by intro _; rfl) : JXA S Γ (e :: es) cls := .mk fun X o pos pins s σ H χ I R hx Q => by
  rw [hs]
  show wpAny _ _ (spliced ((false, eval e X.env) :: backTo pos (starEach es X.env))) _ _ s
  exact Calls.spliced_cons (thn (h.run X o pins s σ H χ I R hx (fun _ _ => False)) fun _ _ z => z.elim)
theorem xe_call (hn : (∃ u, S.mg x = some u) ∨ (S.mg x = none ∧ (∃ u, bootBuiltins x = some u) ∧ x ≠ "__name__")) (ha : JXA S Γ (e :: es) cls) (hg : S.sc.names.lookup x = some .globalImplicit := by (try dsimp only [DL.Stat.blk]); decide +kernel) (hdb : (x == ("__debug__" : Str)) = false := by (try dsimp only [DL.Stat.blk]); decide +kernel)
    (he : ∀ env, starEach (e :: es) env = (false, eval e env) :: starEach es env := by intro _; rfl) (hpl : ∀ env, (backTo pos (starEach es env)).any (·.1) = false := by intro _; rfl) : JXE S Γ (.Call (.Name x p) (e :: es) [] pos) cls := .mk fun X o pins s σ H χ I R hx Q => by
  have key : ∀ f, wpAny (model X.prog X.w) X.A (callWith pos f [] (backTo pos (starEach (e :: es) X.env)) []) Q X.xe s := fun f => by
    unfold callWith
    have hA := ha.run X o pos pins s σ H χ I R hx (fun _ _ => False)
    rw [he] at hA ⊢
    exact wpAny_bind (wpAny_holding (Calls.evalArgs_plain (thn hA fun _ _ z => z.elim)))
  rcases hn with ⟨u, hm⟩ | ⟨hm, ⟨u, hb⟩, hnn⟩
  · exact wpAny_Call_Name_kw (ld_glob I (gl_of o hg) (by rw [o.mg]; exact hm) (key u) hdb)
  · exact wpAny_Call_Name_kw (ld_blt I (gl_of o hg) (by rw [o.mg]; exact hm) hb (key u) hnn hdb)
end
end DL

end
section
set_option Elab.async false
set_option linter.all false
set_option maxRecDepth 100000
set_option maxHeartbeats 4000000
namespace DL
open PySem PySem.Spec PyProof.Rows L2
/-! ### raise .. from .. within a handler -/
theorem entry_unchain : entryFor table "proto.unchain" = some Builtin.«proto.unchain» := entryFor_of_tree (by kernel_rfl)
theorem wpAny_typeOf_ref {M : Model} {A : Around} {E : Value → Shared → Prop} {s : Shared} {b : Addr} {o : Obj} {Q : Value → Shared → Prop} (h : s.heap.get? b = some o) (hQ : Q o.cls s) : wpAny M A (typeOf (.ref b)) Q E s :=
  (show PySem.W.Looks M s.heap (typeOf (.ref b)) o.cls from (PySem.W.Looks.ld h).andThen .now) A Q E s (fun _ _ e => e) hQ
section
variable {prog : Program} {w : World} {A : Around} {E : Value → Shared → Prop} {s : Shared} {env : Env} {K : PySem.W.Frag} {C C1 a : Addr}
/-- an exception of an own class is made, in whatever place -/
theorem eval_exc {x : Str} {np cpos : Pos} {args : List Expr} {Q : Value → Shared → Prop} (hC : PySem.W.excIn K C bmV "ValueError.__new__" = true) (hpl : (backTo cpos (starEach args env)).any (·.1) = false)
    (h : wpAny (model prog w) A (eval (.Name x np) env) (fun f s1 => f = .ref C ∧ wpAny (model prog w) A (evalArgs (.ref C) true (backTo cpos (starEach args env)) []) (fun a s2 => a.kw = [] ∧ a.pos.length ≤ sizeLine ∧ K.In s2.heap ∧ ∀ h' e, Heap.MadeExcOf s2.heap h' e (.ref C) a.pos → Q (.ref e) { s2 with heap := h' }) E s1) E s) :
    wpAny (model prog w) A (eval (.Call (.Name x np) args [] cpos) env) Q E s := by
  refine wpAny_Call_ofName (wpAny_mono h (fun f s1 h1 => ?_) fun _ _ z => z)
  obtain ⟨rfl, h1⟩ := h1
  unfold callWith
  refine wpAny_bind (wpAny_holding (wpAny_mono h1 (fun ar s2 h2 => wpAny_bind (wpAny_standAt ?_)) fun _ _ z => z))
  obtain ⟨ap, ak⟩ := ar
  obtain ⟨h3, hlen, hK, h4⟩ := h2
  obtain rfl : ak = [] := h3
  obtain ⟨tl, N, nm, q, bs, hdct, sn, sub, ab, col, dd, k0, k1, k2, k3, k5, mN, hCo, hN, hni, T⟩ := exc_of_in hK hC
  obtain ⟨hp, g, d, tk, os⟩ := s2
  simp only [hpl]
  refine wpAny_bind (wpAny_keeperOf_exc hCo ?_)
  exact wpAny_bind (wpAny_call_exc_subT (hrest := hlen) PySem.F.excBase_ValueError T hCo hN hni fun h' e hm => wpAny_bind (wpAny_holding (wpAny_point (wpAny_pure (h4 h' e hm)))))
/-- is it an exception? an instance of an own class -/
theorem from_value {e : Addr} {o : Obj} {vs : Array Value} {msg : String} {Q : Value → Shared → Prop} (hK : K.In s.heap) (hC : PySem.W.excIn K C bmV "ValueError.__new__" = true) (he : s.heap.get? e = some o) (hc : o.cls = .ref C) (hd : o.data = .fields vs) (hQ : Q (.ref e) s) :
    wpAny (model prog w) A (excFromValue (.ref e) msg) Q E s := by
  obtain ⟨bm, N, nm, q, bs, hdct, sn, sub, ab, col, dd, k0, k1, k2, k3, k5, mN, hCo, hN, hni, T⟩ := exc_of_in hK hC
  have hcB : (Value.ref C :: bm).contains (.type "BaseException") = true := by rw [List.contains_cons, T.hasType (by decide +kernel : bmV.contains (.type "BaseException") = true), Bool.or_true]
  obtain ⟨hp, g, d, tk, os⟩ := s
  unfold excFromValue isExcClass isType loadHead
  refine wpAny_bind (wpAny_bind (wpAny_bind (wpAny_loadPart he (wpAny_pure ?_))))
  rw [hd]
  simp only [Bool.false_eq_true, if_false]
  refine wpAny_pure (wpAny_bind ?_)
  unfold isInstance
  repeat (first | (with_reducible refine wpAny_loadPart_at he ?_; rw [hc]) | (with_reducible refine wpAny_isSubtype_exc hCo ?_; rw [hcB]) | wp_step)
  exact hQ
/-- raise x from c, c the exception that is handled and that has no context -/
theorem raise_from {x c : Sem Value} {Q : Flow → Shared → Prop} (hh : A.handled = some (.ref a))
    (h : wpAny (model prog w) A x (fun v s1 => ∃ e t, v = .ref e ∧ wpAny (model prog w) A c (fun cv s2 => cv = .ref a ∧ e ≠ a ∧ K.lookup e = none ∧ K.In s2.heap ∧ PySem.W.excIn K C bmV "ValueError.__new__" = true ∧ PySem.W.excIn K C1 bmV "ValueError.__new__" = true ∧
      s2.heap.get? e = some { cls := .ref C, data := .fields #[.ref t, .none, .none, .none, .bool false, .none] } ∧ (∃ oe ws, s2.heap.get? a = some oe ∧ oe.cls = .ref C1 ∧ oe.data = .fields ws ∧ ws[2]? = some .none) ∧
      ∀ h', (∀ b o, b ≠ e → s2.heap.get? b = some o → h'.get? b = some o) → h'.objs.size = s2.heap.objs.size → h'.get? e = some { cls := .ref C, data := .fields #[.ref t, .none, .ref a, .ref a, .bool true, .none] } → E (.ref e) { s2 with heap := h' }) E s1) E s) :
    wpAny (model prog w) A (raiseStmt env (some x) (some c)) Q E s := by
  unfold raiseStmt
  refine wpAny_bind (wpAny_mono h (fun v s1 h1 => ?_) fun _ _ z => z)
  obtain ⟨e, t, rfl, h1⟩ := h1
  refine wpAny_bind (wpAny_holding (wpAny_mono h1 (fun cv s2 h2 => ?_) fun _ _ z => z))
  obtain ⟨rfl, ne, kn, hK, hC, hC1, he, ⟨oe, ws, ha, ac, ad, a2⟩, hE⟩ := h2
  refine wpAny_bind (wpAny_pure (wpAny_bind (wpAny_holding (from_value hK hC he rfl rfl ?_))))
  dsimp only
  rw [if_neg (by intro z; cases z)]
  refine wpAny_bind (wpAny_holding (from_value hK hC1 ha ac ad ?_))
  refine wpAny_bind (wpAny_setField he rfl (by simp) ?_)
  have g1 : ∀ b, b ≠ e → ∀ (h : Heap) (f : Obj → Obj), (h.update e f).get? b = h.get? b := fun b hb h f => Heap.get?_update_other h f (Ne.symm hb)
  have e1 := Heap.get?_update_self (Obj.mapFields (·.setIfInBounds 3 (Value.ref a))) he rfl
  refine wpAny_bind (wpAny_setField e1 rfl (by simp) ?_)
  have e2 := Heap.get?_update_self (Obj.mapFields (·.setIfInBounds 4 (Value.bool true))) e1 rfl
  generalize hh2 : (s2.heap.update e (Obj.mapFields (·.setIfInBounds 3 (Value.ref a)))).update e (Obj.mapFields (·.setIfInBounds 4 (Value.bool true))) = h2 at e2
  have kp : ∀ b o, b ≠ e → s2.heap.get? b = some o → h2.get? b = some o := fun b o hb q => by rw [← hh2, g1 b hb, g1 b hb]; exact q
  have sz : h2.objs.size = s2.heap.objs.size := by rw [← hh2, Heap.size_update, Heap.size_update]
  have hK2 : K.In h2 := fun b o q => kp b o (fun z => by rw [z, kn] at q; cases q) (hK b o q)
  have e2' : h2.get? e = some { cls := .ref C, data := .fields #[.ref t, .none, .none, .ref a, .bool true, .none] } := e2
  obtain ⟨bm, N, nm, q, bs, hdct, sn, sub, ab, col, dd, k0, k1, k2, k3, k5, mN, hCo, hN, hni, T⟩ := exc_of_in hK2 hC
  unfold isType loadHead
  refine wpAny_bind (wpAny_bind (wpAny_loadPart e2' (wpAny_pure ?_)))
  simp only [Bool.false_eq_true, if_false]
  refine wpAny_bind ?_
  unfold raisedInstance
  refine wpAny_bind (wpAny_typeOf_ref e2' (wpAny_bind (wpAny_typeOf_ref hCo ?_)))
  rw [if_pos (by rfl)]
  refine wpAny_pure (wpAny_bind ?_)
  unfold setFlight
  refine wpAny_bind (wpAny_field e2' rfl (x := .none) rfl ?_)
  rw [if_neg (by simp)]
  refine wpAny_pure ?_
  unfold raiseNew
  refine wpAny_bind (wpAny_handled ?_)
  rw [hh]
  dsimp only
  rw [if_pos (by simpa using fun z : a = e => ne z.symm)]
  have ha2 : h2.get? a = some oe := kp a oe (Ne.symm ne) ha
  refine wpAny_bind (wpAny_holding (wpAny_runValue (codeAny_builtin entry_unchain ?_)))
  unfold Builtin.«proto.unchain»
  dsimp only
  refine wpAny_bind (wpAny_field ha2 ad a2 ?_)
  rw [if_pos (by rfl)]
  refine wpAny_bind (wpAny_pure (wpAny_pure ?_))
  dsimp only
  unfold updateField
  refine wpAny_bind (wpAny_bind (wpAny_load e2' ?_))
  dsimp only
  rw [if_pos (by simp)]
  refine wpAny_update e2' (wpAny_throw ?_)
  have e3 := Heap.get?_update_self (Obj.mapFields (·.setIfInBounds 2 (Value.ref a))) e2' rfl
  exact hE _ (fun b o hb q => (g1 b hb _ _).trans (kp b o hb q)) (by rw [Heap.size_update]; exact sz) e3
end
end DL

end
section
set_option Elab.async false
set_option linter.all false
set_option maxRecDepth 100000
set_option maxHeartbeats 4000000
namespace DL
open PySem PySem.Spec PyProof.Rows L2
theorem frames_but {h h' B : Heap} {L : Addr} (sb : Heap.SameBut L h h') : ∀ {l : List Env}, L ∉ frs l → h.FunFrames B l → h'.FunFrames B l
  | [], _, _ => trivial
  | env :: l, hn, ⟨k, ⟨L', o, hf, hb, ho, hd⟩, r⟩ => by
    unfold frs at hn
    rw [List.filterMap_cons, hf] at hn
    exact ⟨k, ⟨L', o, hf, hb, (sb.2 L' fun z => hn (List.mem_cons.mpr (.inl z.symm))).trans ho, hd⟩, frames_but sb (fun z => hn (List.mem_cons_of_mem _ z)) r⟩
section
variable {S : Stat} {Γ : List Sl} {pos p1 dp hp np cpos rp rpos : Pos} {C C2 D : Addr} {dn en cn : Str} {call msg : Expr}
/-- try: f(..) except D as e: raise C2(msg) from e, where f(..) raises -/
theorem x_tryR (ie : Nat) (hx : JXE S Γ call (.ref C, true)) (hD : S.mg dn = some (.ref D)) (xD : PySem.W.excIn S.K D bmV "ValueError.__new__" = true) (sub : PySem.W.subIn S.K (.ref C) (.ref D) = some true) (xC : PySem.W.excIn S.K C bmV "ValueError.__new__" = true)
    (h2 : ExCls S.K S.mg cn C2) (hmsg : ∀ X, S.Of X → ∀ a oe, PE (mkd X a oe) msg (fun σ H Q => ∃ χ, RE S.K χ H σ Γ ∧ ∀ v, Q v H)) (hΓ : Γ[ie]? = some .no)
    (hN : S.N.Nodup := by (try dsimp only [DL.Stat.blk]); decide +kernel) (hie : S.N[ie]? = some en := by (try dsimp only [DL.Stat.blk]); decide +kernel) (hen : S.sc.names.lookup en = some .local := by (try dsimp only [DL.Stat.blk]); decide +kernel)
    (h1 : (en == ("__debug__" : Str)) = false := by decide +kernel) (hcd : (en == ("__classdict__" : Str)) = false := by decide +kernel)
    (hdn : S.sc.names.lookup dn = some .globalImplicit := by (try dsimp only [DL.Stat.blk]); decide +kernel) (hdd : (dn == ("__debug__" : Str)) = false := by decide +kernel)
    (hcn : S.sc.names.lookup cn = some .globalImplicit := by (try dsimp only [DL.Stat.blk]); decide +kernel) (hcc : (cn == ("__debug__" : Str)) = false := by decide +kernel)
    (hst : ∀ env, starEach [msg] env = [(false, eval msg env)] := by intro _; rfl)
    (hs : ∀ X : Cx, swapsWith call none p1.line X.env = pure false := by intro _; rfl) (htop : S.top = true := by rfl) :
    JXS S Γ (.Try [.Expr call p1] [.ExceptHandler (some (.Name dn dp)) (some en) [.Raise (some (.Call (.Name cn np) [msg] [] cpos)) (some (.Name en rp)) rpos] hp] [] [] pos) (.ref C2, false) := .mk fun X o pins s σ H H₁ φ ω I r k ok Q => by
  obtain ⟨stk, fr0⟩ := o.stk htop
  have o' := of_xe (S := S) (xe := fun e s1 => wpAny (model X.prog X.w) X.A (noteFrame e X.env) (fun _ s2 => wpAny (model X.prog X.w) X.A (setFlight e none) (fun _ s3 => wpAny (model X.prog X.w) X.A (handleBy e X.env [.ExceptHandler (some (.Name dn dp)) (some en) [.Raise (some (.Call (.Name cn np) [msg] [] cpos)) (some (.Name en rp)) rpos] hp]) Q X.xe s3) X.xe s2) X.xe s1) o PassesOwn.looking
  refine wpAny_Try_except (wpAny_execs_cons (thn (wpAny_Expr_any (thn (hx.run _ o' pins s σ H (both φ ω) (inv_xe I) r.re (fun H2 s2 a s' H' B t I2 e2 fl => ?_) (fun _ _ => False)) fun _ _ z => z.elim) I.quiet (hs X)) fun _ _ z => z))
  have I2' : L2.Inv X pins σ H2 s2 := inv_unxe I2
  have fl' : Fly X.prog X.w X.stack H2 s2 (.ref C, true) a s' H' B t := fl
  have hfr : X.A.frames = some (X.env :: X.outer) := by rw [I.ok.frames, stk]
  have ff := fl'.fly
  rw [stk] at ff
  refine sta_look hfr fr0 ff fun h1' x1 u1 c1 => ?_
  refine sta_land x1.1 x1.2.1 x1.2.2.1 x1.2.2.2 fun h2' x2 u2 c2 => ?_
  obtain ⟨oe, vs, he, hcls, hd, _⟩ := x2.first
  have I3 := inv_fly I2' fl' x2.1 (u1.trans u2)
  have Im := inv_mkd I3 he hd (fly_out fl')
  have gl : ∀ (b : Addr) (ob : Obj) (z : Str), S.sc.names.lookup z = some .globalImplicit → Gl (mkd X b ob) z := fun b ob z q => gl_of o q
  refine handleBy_sup (K := S.K) (C := C) (D := D) xD sub (ld_glob Im (gl _ _ _ hdn) (by show X.mg _ = _; rw [o.mg]; exact hD) ⟨rfl, ?_, ⟨oe, he, hcls⟩, ?_⟩ hdd)
  · have := Im.kIn; rw [show (mkd X a oe).K = S.K from o.K] at this; exact this
  refine sta_land x2.1 x2.2.1 x2.2.2.1 x2.2.2.2.at fun h4 x4 u4 c4 => ?_
  obtain ⟨oe4, vs4, he4, hcls4, hd4, _⟩ := x4.first
  have I4 := inv_fly I2' fl' x4.1 ((u1.trans u2).trans u4)
  have Im4 := inv_mkd I4 he4 hd4 (fly_out fl')
  have v42 : vs4[2]? = some .none := by
    obtain ⟨oe5, vs5, q1, q2, q3⟩ := c4 (c2 (c1 (fl'.ctx rfl)))
    rw [he4] at q1; cases q1
    rw [hd4] at q2; cases q2
    exact q3
  refine store_ok (X := mkd X a oe4) Im4 (by show X.N.Nodup; rw [o.N]; exact hN) (by show X.N[ie]? = _; rw [o.N]; exact hie) (by show Loc X.env.scope en; rw [o.sc]; exact .inl hen) (v := .ref a) rfl (fun s5 I5 => ?_) (.inl (o.fn htop en))
  have hsm : Same H H' := e2.trans fl'.same
  have r5 := ((r.mono hsm).skip hΓ (some (.ref a))).re
  have hσ : (σ.set ie (some (V.ref a)))[ie]? = some (some (V.ref a)) := List.getElem?_set_self (by rw [r.len]; exact (List.getElem?_eq_some_iff.mp hΓ).1)
  refine wpAny_execs_cons ?_
  rw [arm_exec_Raise]
  refine wpAny_bind (wpAny_standAt (raise_from (K := S.K) (C := C2) (C1 := C) (a := a) rfl (wpAny_bind ?_)))
  refine eval_exc (K := S.K) (C := C2) h2.exc (by rw [hst]; rfl) (ld_glob I5 (gl _ _ _ hcn) (by show X.mg _ = _; rw [o.mg]; exact h2.bound) ⟨rfl, ?_⟩ hcc)
  rw [hst]
  refine Calls.evalArgs_plain ?_
  show wpAny _ _ (spliced ((false, eval msg X.env) :: [])) _ _ s5
  refine Calls.spliced_cons (wpAny_mono (hmsg X o a oe4 pins s5 _ H' (fun _ H6 => H6 = H') I5 ⟨both φ ω, r5, fun _ => rfl⟩) (fun u s6 ⟨v, H6, I6, _, e6⟩ => ?_) fun _ _ z => z.elim)
  subst e6
  have hK6 : S.K.In s6.heap := by have := I6.kIn; rw [show (mkd X a oe4).K = S.K from o.K] at this; exact this
  refine Calls.spliced_nil ⟨rfl, by show 1 ≤ sizeLine; decide, hK6, fun h7 b2 mk => ?_⟩
  refine wpAny_bind (wpAny_standAt (wpAny_pure ?_))
  obtain ⟨t2, hb2, _, _⟩ := mk.there
  have I7 : L2.Inv (mkd X a oe4) pins (σ.set ie (some (.ref a))) H6 { s6 with heap := h7 } := I6.kept (t' := s6.toks) fun b ob e => mk.keeps b ob e
  obtain ⟨m7, hn7, hl7⟩ := id I7.loc
  obtain ⟨u7, ru7, lk⟩ := hl7 ie en (.ref a) (by show X.N[ie]? = _; rw [o.N]; exact hie) hσ (by show Vis X.env.scope en; rw [o.sc]; exact .inl hen)
  cases (show u7 = Value.ref a from ru7)
  have hkl : X.env.kindOf en = some .local := by show X.env.scope.names.lookup en = _; rw [o.sc]; exact hen
  obtain ⟨_, hm7⟩ : X.env.kindOf en = some .local ∧ m7 en = some (Value.ref a) := by
    rcases lk with q | ⟨q | q, _⟩
    · exact q
    · rw [show (mkd X a oe4).env.kindOf en = some .local from hkl] at q; cases q
    · rw [show (mkd X a oe4).env.kindOf en = some .local from hkl] at q; cases q
  refine ⟨b2, t2, rfl, wpAny_bind (wpAny_Name (wpAny_loadName_local I.ok.kind hkl hn7 hm7 (wpAny_bind (wpAny_standAt (wpAny_pure ?_)))) h1)⟩
  have ha6 := mkd_at I6
  have ne : b2 ≠ a := fun z => by rw [z] at mk; rw [mk.new] at ha6; cases ha6
  have kn : S.K.lookup b2 = none := by
    cases c : S.K.lookup b2 with
    | none => rfl
    | some ob => have := hK6 b2 ob c; rw [mk.new] at this; cases this
  refine ⟨rfl, ne, kn, fun b ob q => mk.keeps b ob (hK6 b ob q), h2.exc, xC, hb2, ⟨oe4, vs4, mk.keeps _ _ ha6, hcls4, hd4, v42⟩, fun h8 k8 z8 g8 => ?_⟩
  have I6' := inv_unmkd I.ok I6
  have hin : ∀ env ∈ X.stack, ∀ b, env.frame = some b → b ∈ frs X.stack := fun env he b hb => List.mem_filterMap.mpr ⟨env, he, hb⟩
  have k68 : ∀ b ob, s6.heap.get? b = some ob → h8.get? b = some ob := fun b ob q => k8 b ob (fun z => by rw [z, mk.new] at q; cases q) (mk.keeps b ob q)
  have kb : (PySem.W.hideAll s6.heap (frs X.stack)).StaysIn h8 := fun b ob q => k68 b ob (PySem.W.of_hideAll _ q)
  have enB : (PySem.W.hideAll s6.heap (frs X.stack)).get? b2 = none := by
    cases c : (PySem.W.hideAll s6.heap (frs X.stack)).get? b2 with
    | none => rfl
    | some ob => have := PySem.W.of_hideAll _ c; rw [mk.new] at this; cases this
  have f8 : h8.FunFrames (PySem.W.hideAll s6.heap (frs X.stack)) (X.env :: X.outer) := by
    have := (PySem.W.funFrames_hide I6'.stack hin).of_keeps (h' := h8) fun b ob q _ => ⟨ob, k68 b ob q, rfl⟩
    rw [stk] at this ⊢
    exact this
  refine sta_note0 (s := { s6 with heap := h8 }) (A := X.A.mark (some (.ref a))) hfr f8 fr0 g8 kb enB rfl rfl rfl fun h9 y9 u9 _ => ?_
  obtain ⟨m6, hn6, _⟩ := id I6'.loc
  have lne : X.env.locals ≠ b2 := fun z => by
    obtain ⟨ol, _, _, hol, _⟩ := id hn6
    rw [z, mk.new] at hol; cases hol
  have hn9 : h9.Ns X.env.locals m6 := u9.ns (hn6.keeps k68)
  refine wpAny_nameGoes_keeps hkl hn9 (by rw [I.ok.kind]; rfl) fun h10 v10 hn10 sb10 => ?_
  have Lf : X.env.locals ∈ frs X.stack := by rw [stk]; unfold frs; rw [List.filterMap_cons, fr0]; exact List.mem_cons_self ..
  have Lo : X.env.locals ∉ frs X.outer := fun hb => by
    obtain ⟨_, ob, hob, _⟩ := I.ok.funs.mem hb
    exact absurd (Heap.lt_size hob) (Nat.not_lt_of_le I.ok.above)
  have LB : (PySem.W.hideAll s6.heap (frs X.stack)).get? X.env.locals = none := (f8.mem (by rw [← stk]; exact Lf)).1
  have f10 : h10.FunFrames (PySem.W.hideAll s6.heap (frs X.stack)) (X.env :: X.outer) := Heap.FunFrames.cons (by rw [I.ok.kind]; decide) fr0 hn10 LB (frames_but sb10 Lo y9.2.2.1.2.2)
  have nl : ∀ {b : Addr} {ob : Obj} {ws : Array Value}, h9.get? b = some ob → ob.data = .fields ws → b ≠ X.env.locals := fun {b ob ws} q1 q2 z => by
    obtain ⟨ol, _, _, hol, hdl, _⟩ := id hn9
    rw [z, hol] at q1; cases q1
    rw [hdl] at q2; cases q2
  have tr10 : h10.TracedAtW (PySem.W.hideAll s6.heap (frs X.stack)) b2 (.ref C2) (.ref t2) (rawInt X.env.locals) := by
    obtain ⟨oe', vs', T, oT, ts, q1, q2, q3, q4, q5, q6, q7, q8, q9⟩ := y9.2.2.2
    exact ⟨oe', vs', T, oT, ts, (sb10.2 _ (nl q1 q3)).trans q1, q2, q3, q4, q5, q6, (sb10.2 _ (nl q7 q8)).trans q7, q8, q9⟩
  have kb10 : (PySem.W.hideAll s6.heap (frs X.stack)).StaysIn h10 := fun b ob q => (sb10.2 b fun z => by rw [z, LB] at q; cases q).trans (y9.1 b ob q)
  obtain ⟨oe', vs', T, oT, ts, q1, q2, q3, q4, q5⟩ := id tr10
  unfold PySem.passOn
  refine wpAny_bind (wpAny_field q1 q3 q4 ?_)
  rw [if_neg (by simp)]
  refine wpAny_bind ?_
  rw [fr0]
  refine sta_fly (s := { s6 with heap := h10, toks := _ }) kb10 enB f10 tr10 fun h11 z1 z2 z3 u11 _ => wpAny_throw ?_
  have y11 : Heap.HeldW (PySem.W.hideAll s6.heap (frs X.stack)) (X.env :: X.outer) b2 (.ref C2) (.ref t2) X.env.locals h11 := ⟨z1, enB, z2, z3⟩
  refine wpAny_noteFrame_againW fr0 y11.2.2.2 ?_
  obtain ⟨oe'', vs'', T', oT', ts', w1, w2, w3, w4, w5⟩ := id y11.2.2.2
  show wpAny _ _ (do
    if (← field (.ref b2) 1) == .none then unsupported "frame.own-activation:exception-without-traceback"
    setFlight (.ref b2) X.env.frame) _ _ _
  refine wpAny_bind (wpAny_field w1 w3 w4 ?_)
  rw [if_neg (by simp)]
  rw [fr0]
  refine sta_fly (s := { s6 with heap := h11, toks := _ }) y11.1 y11.2.1 y11.2.2.1 y11.2.2.2 fun h12 v1 v2 v3 u12 _ => ?_
  have v2' : h12.FunFrames (PySem.W.hideAll s6.heap (frs X.stack)) X.stack := by have z := v2; rw [← stk] at z; exact z
  refine ok.onG pins _ H6 s6 b2 _ H6 (PySem.W.hideAll s6.heap (frs X.stack)) t2 I6' ((kp_same k).trans hsm) ⟨rfl, I6'.bare, ⟨v1, enB, v2', _, v3⟩, fun z => (nomatch z), hok_hide I6'.hok fun b hb => I6'.stkFree b hb, Same.refl _, fun b ob e n hb => PySem.W.hideAll_get _ e hb, fun b ob e n hb => ?_, fun b ob e n => n⟩
  obtain ⟨o6, e6, nd⟩ := frames_dict I6'.funs b hb
  rw [e] at e6; cases e6
  obtain ⟨sl9, e9⟩ := u9 b ob (k68 b ob e) nd
  have e10 := (sb10.2 b fun z => Lo (z ▸ hb)).trans e9
  obtain ⟨sl11, e11⟩ := u11 b _ e10 nd
  obtain ⟨sl12, e12⟩ := u12 b _ e11 nd
  exact ⟨sl12, e12⟩
end
end DL

end
section
set_option Elab.async false
set_option linter.all false
set_option maxRecDepth 100000
set_option maxHeartbeats 4000000
/-! A comprehension one of whose turns raises. -/
namespace DL
open PySem PySem.Spec PyProof.Rows L2
theorem codeAny_compLoop_itX {prog : Program} {w : World} {A : Around} {R : Result → Shared → Prop} {s : Shared} {elt target iter : Expr} {scope : Scope} {pos : Pos} {it acc : Value} {env : Env} (I : Nat → Shared → Prop)
    (turn : ∀ n s, I n s → wpAny (model prog w) A (pyNext it) (fun r s₁ => match r with
      | none => False
      | some v => wpAny (model prog w) A (letOwnedTupleGo target it v) (fun _ s₀ => wpAny (model prog w) A (assign target env v) (fun _ s₂ =>
          wpAny (model prog w) A (eval elt env) (fun x s₄ =>
              wpAny (model prog w) A (call (.builtin "list.append") [acc, x]) (fun _ s₅ => ∃ m, m < n ∧ I m s₅) (notedBy (model prog w) A env fun x s' => R (.error x) s') s₄) (notedBy (model prog w) A env fun x s' => R (.error x) s') s₂) (notedBy (model prog w) A env fun x s' => R (.error x) s') s₀) (notedBy (model prog w) A env fun x s' => R (.error x) s') s₁) (notedBy (model prog w) A env fun x s' => R (.error x) s') s)
    (n : Nat) (h : I n s) :
    codeAny (model prog w) A (.compLoop (.ListComp elt [⟨target, iter, [], 0⟩] scope pos) 0 it acc env) R s := by
  refine codeAny_loop rfl I (fun n s hI => ?_) n h
  show wpAny _ A ((compTurn (.ListComp elt [⟨target, iter, [], 0⟩] scope pos) 0 it acc env).onRaise (fun x => do noteFrame x env; theTreesLotGoes x)) _ _ s
  refine wpAny_noted ?_
  rw [compTurn_list]
  refine wpAny_bind (wpAny_standAt (wpAny_bind (wpAny_mono (turn n s hI) (fun r s₁ h₁ => ?_) fun _ _ h' => h')))
  cases r with
  | none => exact h₁.elim
  | some v =>
    refine wpAny_bind (wpAny_mono h₁ (fun _ s₀ h₀ => ?_) fun _ _ h' => h')
    refine wpAny_bind (wpAny_mono h₀ (fun _ s₂ h₂ => wpAny_bind ?_) fun _ _ h' => h')
    rw [List.forIn_nil]
    refine wpAny_pure ?_
    exact wpAny_bind (wpAny_bind (wpAny_mono h₂ (fun x s₄ h₄ => wpAny_bind (wpAny_mono h₄ (fun _ s₅ h₅ => wpAny_pure (wpAny_pure ⟨rfl, h₅⟩)) fun _ _ h' => h')) fun _ _ h' => h'))

theorem frames_base {h B B' : Heap} (hB : ∀ b o, B'.get? b = some o → B.get? b = some o) : ∀ {l : List Env}, h.FunFrames B l → h.FunFrames B' l
  | [], _ => trivial
  | env :: l, ⟨k, ⟨L', o, hf, hb, ho, hd⟩, r⟩ => by
    have e : B'.get? L' = none := by
      cases c : B'.get? L' with
      | none => rfl
      | some u => rw [hB _ _ c] at hb; cases hb
    exact ⟨k, ⟨L', o, hf, e, ho, hd⟩, frames_base hB r⟩

section
variable {X : Cx} {pins pins' : List (Addr × Obj)} {σ σ' : L2.St} {H₃ H2 H' : Hp} {s₃ s2 s' : Shared} {x : Str} {scope : Scope} {C a t : Addr} {fp : List Addr} {cls : XC} {B : Heap}
/-- what leaves a turn of the block leaves the comprehension -/
theorem comp_fly (stk : X.stack = X.env :: X.outer) (fr0 : X.env.frame = some X.env.locals) (I3 : L2.Inv X pins σ H₃ s₃) (f3 : ∀ b ∈ fp, FpOk X pins H₃ b ∧ b < s₃.heap.objs.size) (J : L2.Inv (blk X x scope C s₃ H₃ fp) pins' σ' H2 s2) (hC : s₃.heap.objs.size ≤ C)
    (fl : Fly X.prog X.w X.stack H2 s2 cls a s' H' B t) {acc : Value} {Q : Value → Shared → Prop}
    (hx : ∀ (s'' : Shared) (B' : Heap), L2.Inv X pins σ H2 { s2 with heap := PySem.W.hideAll s2.heap [C] } → Fly X.prog X.w X.stack H2 { s2 with heap := PySem.W.hideAll s2.heap [C] } cls a s'' H' B' t → X.xe (.ref a) s'') :
    notedBy (model X.prog X.w) X.A (blkEnv scope C X.env) (fun e s' => compPost (model X.prog X.w) X.A X.xe none Q acc C (.error e) s') (.ref a) s' := by
  have hfr : X.A.frames = some (X.env :: X.outer) := by rw [I3.ok.frames, stk]
  have ff := fl.fly
  rw [stk] at ff
  show wpAny _ _ (noteFrame (.ref a) X.env) _ _ s'
  refine sta_look hfr fr0 ff fun h1 x1 u1 c1 => ?_
  obtain ⟨m, ⟨oC, esC, epC, hC1, hC2, hC3, hC4⟩, _⟩ := id J.loc
  have hC1' : s2.heap.get? C = some oC := hC1
  have nC : C ∉ frs X.stack := fun hb => by
    obtain ⟨_, ob, hob, _⟩ := I3.stack.mem hb
    exact absurd (Heap.lt_size hob) (Nat.not_lt_of_le hC)
  have nC' : C ∉ frs (X.env :: X.outer) := by rw [← stk]; exact nC
  have bC : B.get? C = some oC := fl.keep C oC hC1' J.free nC
  refine ⟨m, ⟨oC, esC, epC, x1.1 C oC bC, hC2, hC3, hC4⟩, fun h' sb cenv _ => ?_⟩
  have hB : ∀ b o, (PySem.W.hideAll B [C]).get? b = some o → B.get? b = some o := fun b o q => PySem.W.of_hideAll _ q
  have hBC : ∀ {h : Heap} {b : Addr} {o : Obj}, (PySem.W.hideAll h [C]).get? b = some o → b ≠ C := fun {h b o} q z => by
    rw [z, PySem.W.hideAll_none [C] (List.mem_singleton.mpr rfl)] at q; cases q
  have nB : ∀ {b : Addr}, B.get? b = none → (PySem.W.hideAll B [C]).get? b = none := fun {b} q => by
    cases c : (PySem.W.hideAll B [C]).get? b with
    | none => rfl
    | some o => rw [hB _ _ c] at q; cases q
  have ne : ∀ {b : Addr}, B.get? b = none → b ≠ C := fun {b} q z => by rw [z, bC] at q; cases q
  have kb' : (PySem.W.hideAll B [C]).StaysIn h' := fun b o q => (sb.2 b (hBC q)).trans (x1.1 b o (hB b o q))
  have f' : h'.FunFrames (PySem.W.hideAll B [C]) (X.env :: X.outer) := frames_base hB (frames_but sb nC' x1.2.2.1)
  have tr' : h'.TracedAtW (PySem.W.hideAll B [C]) a cls.1 (.ref t) (rawInt X.env.locals) := by
    obtain ⟨oe', vs', T, oT, ts, q1, q2, q3, q4, q5, q6, q7, q8, q9⟩ := x1.2.2.2
    exact ⟨oe', vs', T, oT, ts, (sb.2 _ (ne x1.2.1)).trans q1, q2, q3, q4, nB q5, q6, (sb.2 _ (ne q5)).trans q7, q8, q9⟩
  obtain ⟨oe', vs', T, oT, ts, q1, q2, q3, q4, q5⟩ := id tr'
  unfold PySem.passOn
  refine wpAny_bind (wpAny_field q1 q3 q4 ?_)
  rw [if_neg (by simp)]
  refine wpAny_bind ?_
  refine sta_fly (s := { s' with heap := h' }) kb' (nB x1.2.1) f' tr' fun h2 z1 z2 z3 u2 c2 => wpAny_throw ?_
  have z2' : h2.FunFrames (PySem.W.hideAll B [C]) X.stack := by rw [stk]; exact z2
  have Jf : s2.heap.FunFrames X.base X.stack := J.funs
  refine hx _ (PySem.W.hideAll B [C]) (blk_back I3 f3 J hC ⟨PySem.W.hideAll_size _ _, fun b hb => ?_⟩) ⟨fl.os, fl.bare, ⟨z1, nB x1.2.1, z2', _, z3⟩, fun c => c2 ?_, hok_hide fl.hok fun b hb => ?_, fl.same, fun b o e n hb => ?_, fun b o e n hb => ?_, fun b o e n => fl.free b o (PySem.W.of_hideAll _ e) n⟩
  · cases c : s2.heap.get? b with
    | some o => exact PySem.W.hideAll_get _ c (by rw [List.mem_singleton]; exact hb)
    | none =>
      cases c2 : (PySem.W.hideAll s2.heap [C]).get? b with
      | none => rfl
      | some o => have := PySem.W.of_hideAll _ c2; rw [c] at this; cases this
  · obtain ⟨oe5, vs5, w1, w2, w3⟩ := c1 (fl.ctx c)
    exact ⟨oe5, vs5, (sb.2 _ (ne x1.2.1)).trans w1, w2, w3⟩
  · rw [List.mem_singleton.mp hb]
    exact fl.free C oC hC1' J.free
  · exact PySem.W.hideAll_get _ (fl.keep b o (PySem.W.of_hideAll _ e) n hb) (by rw [List.mem_singleton]; exact hBC e)
  · have e' := PySem.W.of_hideAll _ e
    obtain ⟨sl, w1⟩ := fl.slot b o e' n hb
    obtain ⟨o2, e2, nd⟩ := frames_dict Jf b hb
    have e2' : s2.heap.get? b = some o2 := e2
    rw [e'] at e2'; cases e2'
    obtain ⟨sl1, w2⟩ := u1 b _ w1 nd
    obtain ⟨sl2, w3⟩ := u2 b _ ((sb.2 b (hBC e)).trans w2) nd
    exact ⟨sl2, w3⟩
end
/-- the block, with what an exception meets there -/
abbrev blkX (X : Cx) (x : Str) (scope : Scope) (C : Addr) (s₀ : Shared) (H₀ : Hp) (ex : List Addr) (xe : Value → Shared → Prop) : Cx := { blk X x scope C s₀ H₀ ex with xe := xe }
abbrev xeR (X : Cx) (scope : Scope) (RR : Result → Shared → Prop) (C : Addr) : Value → Shared → Prop := notedBy (model X.prog X.w) X.A (blkEnv scope C X.env) fun e s' => RR (.error e) s'
section
variable {X : Cx}
theorem comp_runX {elt iter : Expr} {x : Str} {px pos : Pos} {scope : Scope} {te : TE} {pins : List (Addr × Obj)} {σ : L2.St} {H2 : Hp} {s2 : Shared} {it : Addr} {fp : List Addr} {tn : Nat → Heap → Prop} {J : It} {E : Value → Shared → Prop} {RR : Value → Addr → Result → Shared → Prop}
    (hc : X.calm = true) (F : CompFacts X.N X.env.scope x scope)
    (he : ∀ (l : Value) (s₃ : Shared) (H₃ : Hp), L2.Inv X pins σ H₃ s₃ → (∀ b ∈ fp, FpOk X pins H₃ b ∧ b < s₃.heap.objs.size) → PE (blkX X x scope s₃.heap.objs.size s₃ H₃ fp (xeR X scope (RR l s₃.heap.objs.size) s₃.heap.objs.size)) elt te)
    (I2 : L2.Inv X pins σ H2 s2) (T : Turn X.prog X.w X.K (.Name x px) J fp it tn) (st2 : tn 0 s2.heap) (f2 : ∀ b ∈ fp, FpOk X pins H2 b)
    (h : ∀ l, H2 l = none → ∃ W : Nat → Nat → List V → Hp → Prop, (∃ m, W 0 m [] (upd H2 l (.lst []))) ∧
      ∀ i m ys H, W i m ys H → H l = some (.lst ys) ∧ J.go i H ∧ ys.length < sizeLine ∧ ∀ x H', J.yld i H x H' →
        te (σ ++ [some x]) H' fun y H3 => H3 l = some (.lst ys) ∧ ∃ m', m' < m ∧ W (i + 1) m' (ys ++ [y]) (upd H3 l (.lst (ys ++ [y])))) :
    wpAny (model X.prog X.w) X.A (newList []) (fun acc s₃ => wpAny (model X.prog X.w) X.A (newFunctionEnv scope X.env.globals (clOf X.env.cells scope.names []) [] X.env.qual none .none (some X.env)) (fun cenv s₄ =>
      codeAny (model X.prog X.w) X.A (.compStart (.ListComp elt [⟨.Name x px, iter, [], 0⟩] scope pos) 0 (.ref it) acc { cenv with scope := relabel scope X.env }) (RR acc cenv.locals) s₄) E s₃) E s2 := by
  obtain ⟨W, ⟨m0, w0⟩, turn⟩ := h s2.heap.objs.size (I2.hok.fresh (Nat.le_refl _))
  refine wpAny_newObj_type ?_
  have I3 : L2.Inv X pins σ (upd H2 s2.heap.objs.size (.lst [])) { s2 with heap := s2.heap.push { cls := .type "list", data := .seq ([] : List Value).toArray } } := I2.lnew (t' := s2.toks) (its := []) .nil (Nat.zero_le _)
  generalize hl : s2.heap.objs.size = l at *
  generalize hH3 : upd H2 l (.lst []) = H3 at *
  generalize hs3 : ({ s2 with heap := s2.heap.push { cls := .type "list", data := .seq ([] : List Value).toArray } } : Shared) = s3 at I3
  have hk3 : ∀ b o, s2.heap.get? b = some o → s3.heap.get? b = some o := fun b o e => by rw [← hs3]; exact Heap.get?_push_of_some _ e
  have lt2 : ∀ b ∈ fp, b < s2.heap.objs.size := fun b hb => by obtain ⟨o, e, _⟩ := T.obj _ _ st2 b hb; exact Heap.lt_size e
  have lt3 : s2.heap.objs.size ≤ s3.heap.objs.size := by rw [← hs3]; show _ ≤ (s2.heap.push _).objs.size; rw [Heap.size_push]; omega
  have hn3 : ∀ b ∈ fp, H3 b = none := fun b hb => by
    rw [← hH3, upd_ne (by rw [← hl]; exact Nat.ne_of_lt (lt2 b hb))]
    exact (f2 b hb).1
  have f3 : ∀ b ∈ fp, FpOk X pins H3 b ∧ b < s3.heap.objs.size := fun b hb => ⟨⟨hn3 b hb, (f2 b hb).2⟩, Nat.lt_of_lt_of_le (lt2 b hb) lt3⟩
  have st3 : tn 0 s3.heap := T.keep _ _ _ st2 fun b _ o e => hk3 b o e
  have he3 := he (.ref l) s3 H3 I3 f3
  show wpAny _ _ (newFunctionEnv scope X.env.globals (clOf X.env.cells scope.names []) [] X.env.qual none .none (some X.env)) _ _ _
  refine wpAny_newCompEnv fun h4 hns hk4 hce hap => ?_
  have IB : L2.Inv (blkX X x scope s3.heap.objs.size s3 H3 fp (xeR X scope (RR (.ref l) s3.heap.objs.size) s3.heap.objs.size)) [] (σ ++ [none]) H3 { s3 with heap := h4 } := inv_xe (blk_inv I3 F f3 hns hk4 hce hap)
  generalize hxe : xeR X scope (RR (.ref l) s3.heap.objs.size) s3.heap.objs.size = xe at *
  have statB : ∀ {H' : Hp}, (∀ b ∈ fp, H' b = none) → ∀ b ∈ fp, FpOk (blkX X x scope s3.heap.objs.size s3 H3 fp xe) [] H' b := fun hn b hb =>
    ⟨hn b hb, (IB.ok.exf b hb).1, IB.ok.exfs b hb, .inl hb, (IB.ok.exf b hb).2, fun p hp => by simp [blk] at hp⟩
  have hlenσ : σ.length = X.N.length := I3.len
  have hxi : (blkX X x scope s3.heap.objs.size s3 H3 fp xe).N[σ.length]? = some x := by
    show (blkN X.N x)[σ.length]? = some x
    unfold blkN
    rw [List.getElem?_append_right (by rw [List.length_map, hlenσ]; exact Nat.le_refl _), List.length_map, hlenσ, Nat.sub_self]
    rfl
  have hxl : Loc (blkX X x scope s3.heap.objs.size s3 H3 fp xe).env.scope x := by
    show (relabel scope X.env).names.lookup x = some .local ∨ (relabel scope X.env).names.lookup x = some .cell
    rw [lookup_relabel]
    rcases F.tgt with z | z
    · rw [z]; exact .inl rfl
    · rw [z]; exact .inr rfl
  have hpg : PG (blkX X x scope s3.heap.objs.size s3 H3 fp xe) (.Name x px) (gName σ.length) := pg_name F.nd hxi hxl (.inl (by simp [blk]))
  have loop : codeAny (model X.prog X.w) X.A (.compLoop (.ListComp elt [⟨.Name x px, iter, [], 0⟩] scope pos) 0 (.ref it) (.ref l) (blkEnv scope s3.heap.objs.size X.env)) (RR (.ref l) s3.heap.objs.size) { s3 with heap := h4 } := by
    refine codeAny_compLoop_itX (fun n s' => ∃ i o H' ys, L2.Inv (blkX X x scope s3.heap.objs.size s3 H3 fp xe) [] (σ ++ [o]) H' s' ∧ tn i s'.heap ∧ (∀ b ∈ fp, H' b = none) ∧ W i n ys H') ?_ m0
      ⟨0, none, H3, [], IB, T.keep _ _ _ st3 fun b _ o e => hk4 b o e, hn3, w0⟩
    rintro n s5 ⟨i, o, H5, ys, I5, st5, fr5, w5⟩
    rw [show notedBy (model X.prog X.w) X.A (blkEnv scope s3.heap.objs.size X.env) (fun e s' => RR (.ref l) s3.heap.objs.size (.error e) s') = xe from hxe]
    obtain ⟨hl5, go, hlen, step⟩ := turn i n ys H5 w5
    refine wpAny_mono (T.item (blkX X x scope s3.heap.objs.size s3 H3 fp xe) rfl rfl rfl hc i [] s5 (σ ++ [o]) H5 (fun _ _ => False) I5 (statB fr5) st5 go) (fun r s6 ⟨u, hr, h6⟩ => ?_) fun _ _ z => z.elim
    subst hr
    refine wpAny_mono h6 (fun _ s7 ⟨xv, H7, I7, r7, y7, st7, fr7⟩ => ?_) fun _ _ z => z.elim
    have I7' := I7.pinned (statB fr7) (T.obj _ _ st7)
    have keepT : ∀ {σ' : L2.St} {H' : Hp} {s' : Shared}, L2.Inv (blkX X x scope s3.heap.objs.size s3 H3 fp xe) ([] ++ pinsAt fp s7.heap) σ' H' s' → tn (i + 1) s'.heap ∧ ∀ b ∈ fp, H' b = none := fun {σ' H' s'} I' => by
      refine ⟨T.keep _ _ _ st7 fun b hb o e => (I'.pin (b, o) (List.mem_append_right _ (List.mem_append_right _ (mem_pinsAt hb e)))).1, fun b hb => ?_⟩
      obtain ⟨ob, e, d⟩ := T.obj _ _ st7 b hb
      exact (I'.pin (b, ob) (List.mem_append_right _ (List.mem_append_right _ (mem_pinsAt hb e)))).2.1
    refine thn (hpg _ s7 (σ ++ [o]) H7 xv u (fun σ' H' => σ' = σ ++ [some xv] ∧ H' = H7) I7' r7
      ⟨by rw [List.set_append_right _ _ (Nat.le_refl _), Nat.sub_self]; rfl, rfl⟩) fun _ s8 ⟨σ8, H8, I8, e8, e8'⟩ => ?_
    subst e8 e8'
    refine thn (he3 _ s8 _ _ _ I8 (step xv _ y7)) fun yv s10 ⟨y, H10, I10, r10, hl10, m', hm, w10⟩ => ?_
    refine thn (mt_append _ s10 _ H10 (.ref l) [y] (.ref l) [yv] (fun _ H' => H' = upd H10 l (.lst (ys ++ [y]))) I10 rfl (.cons r10 .nil) ⟨l, ys, y, rfl, rfl, hl10, hlen, rfl⟩) fun _ s11 ⟨_, H11, I11, _, e11⟩ => ?_
    subst e11
    exact ⟨m', hm, i + 1, some xv, _, ys ++ [y], I11.unpinned, (keepT I11).1, (keepT I11).2, w10⟩
  exact codeAny_compStart_list loop (wpAny_mono (T.self _ 0 _ _ (fun _ _ => False) (T.keep _ _ _ st3 fun b _ o e => hk4 b o e) loop) (fun _ _ q => q) fun _ _ z => z.elim)
end
end DL

end
section
set_option Elab.async false
set_option linter.all false
set_option maxRecDepth 100000
set_option maxHeartbeats 4000000
namespace DL
open PySem PySem.Spec PyProof.Rows L2
theorem RE.push {K : PySem.W.Frag} {χ : Addr → Bool} {H1 H3 : Hp} {σ : L2.St} {Γ : List Sl} {l : Addr} {ys : List V} {x : V} {d : D} (R1 : RE K χ H1 σ Γ) (hl1 : H1 l = none) (e2 : Same H1 H3) (hl2 : H3 l = some (.lst ys)) (rx : Rep K (hidB (fun b => χ b || b == l) H3) d x) :
    RE K (fun b => χ b || b == l) H3 (σ ++ [some x]) (Γ ++ [.val d]) := by
  have up : Same (hidB χ H1) (hidB (fun b => χ b || b == l) H3) := fun b o hb => by
    obtain ⟨c1, c2⟩ := hid_some hb
    have hne : b ≠ l := ne_of_none c2 hl1
    exact hid_of (by rw [c1, Bool.false_or]; simpa using hne) (e2 b o c2)
  refine ⟨fun b hb => ?_, by rw [List.length_append, List.length_append, R1.len]; rfl, fun j d' hj => ?_, fun j a es hj => ?_, fun j j' a a' es es' p h1 h2 h3 h4 => ?_⟩
  · cases c : χ b with
    | true => obtain ⟨o, ho⟩ := R1.live b c; exact ⟨o, e2 _ _ ho⟩
    | false =>
      rw [c, Bool.false_or] at hb
      have : b = l := by simpa using hb
      subst this
      exact ⟨⟨_, nt_lst⟩, hl2⟩
  · by_cases hjl : j < Γ.length
    · rw [List.getElem?_append_left hjl] at hj
      obtain ⟨v, ev, rv⟩ := R1.val j d' hj
      exact ⟨v, by rw [List.getElem?_append_left (by rw [R1.len]; exact hjl)]; exact ev, rv.mono up d'⟩
    · have hj' := (List.getElem?_eq_some_iff.mp hj).1
      rw [List.length_append, List.length_singleton] at hj'
      have hje : j = Γ.length := by omega
      subst hje
      rw [List.getElem?_append_right (Nat.le_refl _), Nat.sub_self] at hj
      have hj2 : Sl.val d = Sl.val d' := Option.some.inj hj
      injection hj2 with hj3
      subst hj3
      refine ⟨x, ?_, rx⟩
      rw [← R1.len, List.getElem?_append_right (Nat.le_refl _), Nat.sub_self]
      rfl
  · have hjl := own_lt hj
    rw [List.getElem?_append_left hjl] at hj
    obtain ⟨p, vs, a1, a2, a3, a4⟩ := R1.own j a es hj
    exact ⟨p, vs, by rw [List.getElem?_append_left (by rw [R1.len]; exact hjl)]; exact a1, by rw [a2]; rfl, e2 _ _ a3, CRep.mono up es a4⟩
  · have l1 := own_lt h1
    have l2 := own_lt h2
    rw [List.getElem?_append_left l1] at h1
    rw [List.getElem?_append_left l2] at h2
    rw [List.getElem?_append_left (by rw [R1.len]; exact l1)] at h3
    rw [List.getElem?_append_left (by rw [R1.len]; exact l2)] at h4
    exact R1.inj j j' a a' es es' p h1 h2 h3 h4
section
variable {S : Stat} {Γ : List Sl} {pos : Pos} {x : Str} {cls : XC}
/-- [elt for x in iter]: the turns ahead of the n-th go on, the n-th raises -/
theorem xe_comp (n : Nat) {elt iter : Expr} {px : Pos} {scope : Scope} {β : Type} {us : List β} {g : β → D} (F : β → D) (hi : JI S Γ (.Name x px) iter (us.map g)) (hn : n < us.length) (hl : us.length ≤ sizeLine)
    (he : ∀ (k : Nat) u, k < n → us[k]? = some u → JE (S.blk x scope) (Γ ++ [.val (g u)]) elt (F u)) (hx' : ∀ u, us[n]? = some u → JXE (S.blk x scope) (Γ ++ [.val (g u)]) elt cls)
    (ok : compOk S.N S.sc x scope = true := by (try dsimp only [DL.Stat.blk]); decide +kernel) (hs : ∀ env v, foldedSetIterable iter env v = pure v := by intro _ _; rfl) (htop : S.top = true := by rfl) :
    JXE S Γ (.ListComp elt [⟨.Name x px, iter, [], 0⟩] scope pos) cls := .mk fun X o pins s σ H χ I R hx Q => by
  obtain ⟨wi, hw1, hw2⟩ := hi
  obtain ⟨stk, fr0⟩ := o.stk htop
  have F' : CompFacts X.N X.env.scope x scope := by rw [o.N, o.sc]; exact compOk_facts ok
  rw [eval_ListComp]
  have h := hw2 σ H (fun J H2 => ∀ l, H2 l = none → ∃ W : Nat → Nat → List V → Hp → Prop, (∃ m, W 0 m [] (upd H2 l (.lst []))) ∧
      ∀ i m ys H3, W i m ys H3 → H3 l = some (.lst ys) ∧ J.go i H3 ∧ ys.length < sizeLine ∧ ∀ x H', J.yld i H3 x H' →
        ((∃ k u, k < n ∧ us[k]? = some u ∧ dE S.K (Γ ++ [.val (g u)]) (F u) (σ ++ [some x]) H' fun y H3 => H3 l = some (.lst ys) ∧ ∃ m', m' < m ∧ W (i + 1) m' (ys ++ [y]) (upd H3 l (.lst (ys ++ [y])))) ∨
          ∃ u χ', us[n]? = some u ∧ RE S.K χ' H' (σ ++ [some x]) (Γ ++ [.val (g u)]) ∧ Same H H')) χ R fun J H1 e1 itd l hl1 => by
    have R1 := R.mono e1
    have up : ∀ {H2 : Hp}, Same H1 H2 → Same (hidB χ H1) (hidB (fun b => χ b || b == l) H2) := fun {H2} e2 b o hb => by
      obtain ⟨c1, c2⟩ := hid_some hb
      have hne : b ≠ l := ne_of_none c2 hl1
      exact hid_of (by rw [c1, Bool.false_or]; simpa using hne) (e2 b o c2)
    refine ⟨fun i m ys H2 => m = us.length - i ∧ i ≤ n ∧ ys.length = i ∧ H2 l = some (.lst ys) ∧ Same H1 H2, ⟨us.length, by simp, Nat.zero_le _, rfl, upd_same, same_new hl1 _⟩, ?_⟩
    rintro i m ys H2 ⟨rfl, hi, hyl, hl2, e2⟩
    obtain ⟨it1, _⟩ := itd (fun b => χ b || b == l) H2 (up e2)
    have hlt : i < us.length := by omega
    have hu : us[i]? = some us[i] := List.getElem?_eq_getElem hlt
    generalize us[i] = u at hu
    have hd : (us.map g)[i]? = some (g u) := by rw [List.getElem?_map, hu]; rfl
    obtain ⟨go, yl⟩ := it1 i (g u) hd
    refine ⟨hl2, go, by omega, fun x H3 y => ?_⟩
    obtain ⟨e3, rx⟩ := yl x H3 y
    subst e3
    have R2 := R1.push hl1 e2 hl2 rx
    by_cases hin : i < n
    · refine .inl ⟨i, u, hin, hu, _, R2, fun y H5 e5 ry => ⟨e5 _ _ hl2, us.length - (i + 1), by omega, rfl, hin, by rw [List.length_append, List.length_singleton, hyl], upd_same, fun b o hb => ?_⟩⟩
      rw [upd_ne (ne_of_none hb hl1)]
      exact e5 _ _ (e2 _ _ hb)
    · have hin' : i = n := by omega
      subst hin'
      exact .inr ⟨u, _, hu, R2, e1.trans e2⟩
  refine wpAny_comprehension_free (use := none) rfl (hs X.env) (closureFor_eq (has_free I F')) F'.kind F'.locs (thn (hw1 X o pins s σ H _ I h) fun xv s1 h1 => thn h1 fun itv s2 h2 => ?_)
  obtain ⟨it, fp, tn, J, H2, e, I2, T, st2, f2, hW⟩ := h2
  subst e
  refine comp_runX (te := fun σ' H' Q => (∃ k u, k < n ∧ us[k]? = some u ∧ dE S.K (Γ ++ [.val (g u)]) (F u) σ' H' Q) ∨ ∃ u χ', us[n]? = some u ∧ RE S.K χ' H' σ' (Γ ++ [.val (g u)]) ∧ Same H H') (RR := fun acc C => compPost (model X.prog X.w) X.A X.xe none Q acc C) o.calm F' (fun l s₃ H₃ I3 f3 => ?_) I2 T st2 f2 hW
  have oB := of_xe (S := S.blk x scope) (xe := xeR X scope (compPost (model X.prog X.w) X.A X.xe none Q l s₃.heap.objs.size) s₃.heap.objs.size) (o.blk x scope s₃.heap.objs.size s₃ H₃ fp) PassesOwn.looking
  rintro pins' s5 σ5 H5 Q5 I5 (⟨k, u, hk, hu, q⟩ | ⟨u, χ', hu, R5, e5⟩)
  · exact he k u hk hu _ oB pins' s5 σ5 H5 Q5 I5 q
  · refine (hx' u hu).run _ oB pins' s5 σ5 H5 χ' I5 R5 (fun H6 s6 a s' H' B t I6 e6 fl => ?_) _
    exact comp_fly stk fr0 I3 f3 (inv_unxe I6) (Nat.le_refl _) fl fun s'' B' I7 fl7 => hx H6 _ a s'' H' B' t I7 (e5.trans e6) fl7
end
end DL

end
section
set_option Elab.async false
set_option linter.all false
set_option maxRecDepth 100000
set_option maxHeartbeats 4000000
/-! Slices of texts. -/
namespace DL
open PySem PySem.Spec PyProof.Rows L2
def rSlS : V → Option Int → Option Int → Hp → VK → Prop := fun x lo hi H Q => ∃ (z : Str) (a b : Nat), x = .str z ∧ z.length ≤ sizeLine ∧ a ≤ b ∧ b ≤ z.length ∧ Builtin.Str.strSliceIndices lo hi 1 z.length = Builtin.Str.strSliceIndices (some (a : Int)) (some (b : Int)) 1 z.length ∧ Q (.str (sl ((z.cps.toList.drop a).take (b - a)))) H
theorem part_of {v : Value} {i : Option Int} (h : IsPart v i) : ∃ l : Option (Int × Tok), v = partValue l ∧ l.map (fun x => x.1) = i := by
  cases h with
  | none => exact ⟨none, rfl, rfl⟩
  | int i t => exact ⟨some (i, t), rfl, rfl⟩
theorem sl_str {X : Cx} : SlR X rSlS := by
  intro pins s σ H x v vl vu lo hi sl' Q I rx hs pl pu h
  obtain ⟨z, a, b, rfl, hz, hab, hb, he, q⟩ := h
  obtain ⟨t, rfl⟩ := (show ∃ t, v = Value.str z t from rx)
  obtain ⟨l, rfl, hl⟩ := part_of pl
  obtain ⟨u, rfl, hu⟩ := part_of pu
  refine ⟨"str", _, slot_str_getitem.lookup, typeIs_str s z t, ?_⟩
  refine wpAny_getItem_str_slice (l := l) (u := u) (st := none) hs rfl ?_
  have hp : slicePicked z l u none = Builtin.Str.strSliceIndices (some (a : Int)) (some (b : Int)) 1 z.length := by
    unfold slicePicked
    rw [hl, hu]
    exact he
  have hc := StrLaws.sliced_plain z hab hb
  have hlen : (slicePicked z l u none).length = b - a := by rw [hp, StrLaws.strSliceIndices_plain hab hb]; simp
  have hzl : z.cps.toList.length = z.length := by simp [Str.length]
  unfold sliceMade
  by_cases w : b - a = z.length
  · rw [if_pos (by rw [hlen, w]; simp)]
    have ha : a = 0 := by omega
    have hb' : b = z.length := by omega
    subst ha
    have e : sl ((z.cps.toList.drop 0).take (b - 0)) = z := by
      rw [List.drop_zero, Nat.sub_zero, hb', ← hzl, List.take_length]
      exact sl_of z
    rw [e] at q
    exact ⟨.str z, H, I, ⟨_, rfl⟩, q⟩
  · rw [if_neg (by rw [hlen]; simpa using w), hp, hc]
    refine ⟨?_, .str _, H, I.tok _, ⟨_, rfl⟩, q⟩
    show (sl _).length ≤ _
    rw [sl_len, List.length_take, List.length_drop]
    omega
section
variable {S : Stat} {Γ : List Sl} {pos p2 : Pos} {a b : Expr}
/-- l[:n] -/
theorem e_cutHiS {l : List Nat} (n : Nat) (ha : JE S Γ a (.str (sl l))) (hb : JE S Γ b (.int (n : Nat))) (hn : n ≤ l.length) (hz : l.length ≤ sizeLine) : JE S Γ (.Subscript a (.Slice none (some b) none p2) pos) (.str (sl (l.take n))) := .mk fun X o =>
  pe_imp (pe_slice sl_str (ha X o) po_none (po_some (hb X o))) fun σ H Q ⟨χ, R, q⟩ => ⟨χ, R, fun x H1 e1 rx => ⟨χ, R.mono e1, fun y H2 e2 ry => ⟨(n : Nat), ry, by
    refine ⟨sl l, 0, n, rx, by rw [sl_len]; exact hz, Nat.zero_le _, by rw [sl_len]; exact hn, StrLaws.sliceIdx_none_lo _ _, ?_⟩
    refine q _ H2 (e1.trans e2) ?_
    rw [sl_cps, List.drop_zero, Nat.sub_zero]
    rfl⟩⟩⟩
/-- l[n:] -/
theorem e_cutLoS {l : List Nat} (n : Nat) (ha : JE S Γ a (.str (sl l))) (hb : JE S Γ b (.int (n : Nat))) (hn : n ≤ l.length) (hz : l.length ≤ sizeLine) : JE S Γ (.Subscript a (.Slice (some b) none none p2) pos) (.str (sl (l.drop n))) := .mk fun X o =>
  pe_imp (pe_slice sl_str (ha X o) (po_some (hb X o)) po_none) fun σ H Q ⟨χ, R, q⟩ => ⟨χ, R, fun x H1 e1 rx => ⟨χ, R.mono e1, fun y H2 e2 ry => ⟨(n : Nat), ry, by
    refine ⟨sl l, n, l.length, rx, by rw [sl_len]; exact hz, hn, by rw [sl_len]; exact Nat.le_refl _, by rw [StrLaws.sliceIdx_none_hi, sl_len], ?_⟩
    refine q _ H2 (e1.trans e2) ?_
    rw [sl_cps, List.take_of_length_le (by rw [List.length_drop]; exact Nat.le_refl _)]
    rfl⟩⟩⟩
/-- l[:-1] -/
theorem e_cutEndS {l : List Nat} (ha : JE S Γ a (.str (sl l))) (hb : JE S Γ b (.int (-1))) (hn : 1 ≤ l.length) (hz : l.length ≤ sizeLine) : JE S Γ (.Subscript a (.Slice none (some b) none p2) pos) (.str (sl (l.take (l.length - 1)))) := .mk fun X o =>
  pe_imp (pe_slice sl_str (ha X o) po_none (po_some (hb X o))) fun σ H Q ⟨χ, R, q⟩ => ⟨χ, R, fun x H1 e1 rx => ⟨χ, R.mono e1, fun y H2 e2 ry => ⟨-1, ry, by
    refine ⟨sl l, 0, l.length - 1, rx, by rw [sl_len]; exact hz, Nat.zero_le _, by rw [sl_len]; omega, ?_, ?_⟩
    · rw [StrLaws.sliceIdx_neg_hi _ _ (by decide) (by rw [sl_len]; omega), StrLaws.sliceIdx_none_lo, sl_len, show (-1 : Int) + (l.length : Int) = ((l.length - 1 : Nat) : Int) by omega]
      rfl
    · refine q _ H2 (e1.trans e2) ?_
      rw [sl_cps, List.drop_zero, Nat.sub_zero]
      rfl⟩⟩⟩
/-- f"..{y!r}" in a handler -/
theorem m_repr (i : Nat) {c x y : Str} {j : Nat} {p1 p3 pos : Pos} (hi : Γ[i]? = some (.val (.str x)) := by rfl) (hc : c.length ≤ 1000000) (hx : (reprText x).length ≤ 1000000) (hN : S.N[i]? = some y := by (try dsimp only [DL.Stat.blk]); decide +kernel) (hv : Vis S.sc y := by (try dsimp only [DL.Stat.blk]); decide +kernel)
    (h1 : (y == ("__debug__" : Str)) = false := by decide +kernel) (h2 : (y == ("__classdict__" : Str)) = false := by decide +kernel) :
    ∀ X, S.Of X → ∀ a oe, PE (mkd X a oe) (.JoinedStr [.Constant (.str c) j p1, .FormattedValue (.Name y p2) 114 none p3] pos) (fun σ H Q => ∃ χ, RE S.K χ H σ Γ ∧ ∀ v, Q v H) := by
  intro X o a oe pins s σ H Q I ⟨χ, R, q⟩
  refine wpAny_JoinedStr ?_
  show wpAny _ _ (eval (.Constant (.str c) j p1) X.env) _ _ s
  refine thn (pe_str (X := mkd X a oe) pins s σ H (fun v H1 => v = .str c ∧ H1 = H) I ⟨rfl, rfl⟩) fun u s1 ⟨v, H1, I1, ru, e1, e2⟩ => ?_
  subst e1 e2
  obtain ⟨t, rfl⟩ := (show ∃ t, u = Value.str c t from ru)
  have ec : Str.empty ++ c = c := by
    have := sl_app [] c.cps.toList
    rw [sl_of] at this
    exact this
  refine ⟨c, t, rfl, by rw [ec]; exact Nat.le_trans hc (by decide), ?_⟩
  obtain ⟨w, ew, rw'⟩ := R.val i _ hi
  cases (show w = V.str x from rw')
  have hb : (Str.empty ++ c ++ reprText x).length ≤ sizeLine := by
    rw [ec, strLen_append]
    exact Nat.le_trans (Nat.add_le_add hc hx) (by decide)
  show wpAny _ _ (eval (.FormattedValue (.Name y p2) 114 none p3) X.env) _ _ s1
  refine wpAny_FormattedValue_repr (thn (pe_var (X := mkd X a oe) (i := i) (by show X.N[i]? = _; rw [o.N]; exact hN) (by show Vis X.env.scope y; rw [o.sc]; exact hv) h1 h2 pins s1 σ H1 (fun v H2 => v = .str x ∧ H2 = H1) I1 ⟨_, ew, rfl, rfl⟩) fun u s2 ⟨v, H2, I2, ru2, e1, e2⟩ => ?_)
  subst e1 e2
  obtain ⟨t2, rfl⟩ := (show ∃ t, u = Value.str x t from ru2)
  have hx' : (reprText x).length ≤ sizeLine := Nat.le_trans hx (by decide)
  refine pyReprObj_str (wpAny_formatField_str ⟨reprText x, _, rfl, hb, ⟨hb, .str _, H2, (I2.tok _).tok _, ⟨_, rfl⟩, q _⟩⟩ ⟨reprText x, _, rfl, hb, ⟨hb, .str _, H2, ((I2.tok _).tok _).tok _, ⟨_, rfl⟩, q _⟩⟩ hx') hx'
theorem e_lenS {p : Pos} {l : List Nat} (h : JE S Γ a (.str (sl l))) (hl : l.length ≤ sizeLine) (hm : S.mg "len" = none) (hg : S.sc.names.lookup ("len" : Str) = some .globalImplicit := by (try dsimp only [DL.Stat.blk]); decide +kernel) (hs : ∀ env, starEach [a] env = [(false, eval a env)] := by intro _; rfl) : JE S Γ (.Call (.Name "len" p) [a] [] pos) (.int l.length) :=
  e_callB (fun X o => call_len_str (X := X)) (a_cons h a_nil hs) (fun χ H vs Q _ rs q => by
    obtain ⟨v, rfl, rv⟩ := reps1 rs
    refine ⟨sl l, by rw [show v = V.str (sl l) from rv], by rw [sl_len]; exact hl, ?_⟩
    rw [sl_len]; exact q _ H (Same.refl H) rfl) hm PySem.boot_len hg (he := hs)
end
end DL

end
section
set_option maxRecDepth 100000
set_option maxHeartbeats 4000000
namespace k16
open PySem L2 DL
def top (i : Nat) : Stmt := PySem.Challenge.pw_boardkin_k16_texts_refused.main.body.getD i (.Pass ⟨0, 0, 0, 0⟩)
abbrev s_looked : Stmt := top 7
abbrev N_looked : List Str := ["board", "height", "width", "row"]
theorem sc_looked : FnScope N_looked ["board"] (defScope s_looked) := ⟨rfl, rfl, rfl, by decide +kernel, rfl, by decide +kernel, by decide +kernel⟩
abbrev s_check_length : Stmt := top 8
abbrev N_check_length : List Str := ["length", "what"]
theorem sc_check_length : FnScope N_check_length ["length", "what"] (defScope s_check_length) := ⟨rfl, rfl, rfl, by decide +kernel, rfl, by decide +kernel, by decide +kernel⟩
abbrev s_check_row : Stmt := top 9
abbrev N_check_row : List Str := ["row", "width", "colour"]
theorem sc_check_row : FnScope N_check_row ["row", "width"] (defScope s_check_row) := ⟨rfl, rfl, rfl, by decide +kernel, rfl, by decide +kernel, by decide +kernel⟩
abbrev s_read : Stmt := top 12
abbrev N_read : List Str := ["text", "rows", "board", "error"]
theorem sc_read : FnScope N_read ["text"] (defScope s_read) := ⟨rfl, rfl, rfl, by decide +kernel, rfl, by decide +kernel, by decide +kernel⟩
abbrev s_row_read : Stmt := top 13
abbrev N_row_read : List Str := ["row", "sign"]
theorem sc_row_read : FnScope N_row_read ["row"] (defScope s_row_read) := ⟨rfl, rfl, rfl, by decide +kernel, rfl, by decide +kernel, by decide +kernel⟩
abbrev s_law_cell_at : Stmt := top 15
abbrev N_law_cell_at : List Str := ["script", "k"]
theorem sc_law_cell_at : FnScope N_law_cell_at ["script", "k"] (defScope s_law_cell_at) := ⟨rfl, rfl, rfl, by decide +kernel, rfl, by decide +kernel, by decide +kernel⟩
abbrev s_law_board_by : Stmt := top 16
abbrev N_law_board_by : List Str := ["cell", "width", "height", "colours", "rows", "y", "row", "x"]
theorem sc_law_board_by : FnScope N_law_board_by ["cell", "width", "height", "colours"] (defScope s_law_board_by) := ⟨rfl, rfl, rfl, by decide +kernel, rfl, by decide +kernel, by decide +kernel⟩
abbrev s_law_refused : Stmt := top 17
abbrev N_law_refused : List Str := ["text", "marks", "e"]
theorem sc_law_refused : FnScope N_law_refused ["text"] (defScope s_law_refused) := ⟨rfl, rfl, rfl, by decide +kernel, rfl, by decide +kernel, by decide +kernel⟩
abbrev s_law_spoiled : Stmt := top 18
abbrev N_law_spoiled : List Str := ["rows", "cell", "way", "y", "at", "bad", "sign"]
theorem sc_law_spoiled : FnScope N_law_spoiled ["rows", "cell"] (defScope s_law_spoiled) := ⟨rfl, rfl, rfl, by decide +kernel, rfl, by decide +kernel, by decide +kernel⟩
abbrev s_law : Stmt := top 19
abbrev N_law : List Str := ["script", "width", "height", "board", "rows", "k"]
theorem sc_law : FnScope N_law ["script"] (defScope s_law) := ⟨rfl, rfl, rfl, by decide +kernel, rfl, by decide +kernel, by decide +kernel⟩
structure Exs (K : PySem.W.Frag) (mg : Str → Option Value) (c_KinError c_NoBoard c_BadNote : Addr) : Prop where
  m_KinError : mg "KinError" = some (.ref c_KinError)
  m_NoBoard : mg "NoBoard" = some (.ref c_NoBoard)
  m_BadNote : mg "BadNote" = some (.ref c_BadNote)
  x_NoBoard : ExLook K c_NoBoard
  s_NoBoard : PySem.W.subIn K (.ref c_NoBoard) (.ref c_KinError) = some true
  w_NoBoard : PySem.W.subIn K (.ref c_NoBoard) (.ref c_NoBoard) = some true
  v_NoBoard : PySem.W.kitOne K (.ref c_NoBoard) (.type "ValueError") = some true
  k_NoBoard_NoBoard : PySem.W.kitOne K (.ref c_NoBoard) (.ref c_NoBoard) = some true
  k_NoBoard_BadNote : PySem.W.kitOne K (.ref c_NoBoard) (.ref c_BadNote) = some false
  x_BadNote : ExLook K c_BadNote
  s_BadNote : PySem.W.subIn K (.ref c_BadNote) (.ref c_KinError) = some true
  w_BadNote : PySem.W.subIn K (.ref c_BadNote) (.ref c_BadNote) = some true
  v_BadNote : PySem.W.kitOne K (.ref c_BadNote) (.type "ValueError") = some true
  k_BadNote_NoBoard : PySem.W.kitOne K (.ref c_BadNote) (.ref c_NoBoard) = some false
  k_BadNote_BadNote : PySem.W.kitOne K (.ref c_BadNote) (.ref c_BadNote) = some true
  e_KinError : PySem.W.excIn K c_KinError bmV "ValueError.__new__" = true
structure Txt (K : PySem.W.Frag) (mg : Str → Option Value) : Prop where
  d_looked : Def K mg "looked" s_looked ["board"]
  d_check_length : Def K mg "check_length" s_check_length ["length", "what"]
  d_check_row : Def K mg "check_row" s_check_row ["row", "width"]
  d_read : Def K mg "read" s_read ["text"]
  d_row_read : Def K mg "row_read" s_row_read ["row"]
  d_law_cell_at : Def K mg "_law_cell_at" s_law_cell_at ["script", "k"]
  d_law_board_by : Def K mg "_law_board_by" s_law_board_by ["cell", "width", "height", "colours"]
  d_law_refused : Def K mg "_law_refused" s_law_refused ["text"]
  d_law_spoiled : Def K mg "_law_spoiled" s_law_spoiled ["rows", "cell"]
  d_law : Def K mg "law" s_law ["script"]
  n_ValueError : mg "ValueError" = none
  n_int : mg "int" = none
  n_isinstance : mg "isinstance" = none
  n_len : mg "len" = none
  n_list : mg "list" = none
  n_range : mg "range" = none
  n_tuple : mg "tuple" = none
  c_LONGEST : ∃ t, mg "LONGEST" = some (.int 8 t)
  c_LAST_COLOUR : ∃ t, mg "LAST_COLOUR" = some (.int 9 t)
  c_FIGURES : ∃ t, mg "FIGURES" = some (.str (Str.ofString "0123456789") t)
  cl : ∃ c_KinError c_NoBoard c_BadNote : Addr, Exs K mg c_KinError c_NoBoard c_BadNote
end k16
namespace k16
open PySem PySem.Spec PyProof.Rows L2 DL BM
section
variable {P : Program} {wd : World} {K : PySem.W.Frag} {mg : Str → Option Value} {base : Heap}
theorem f_check_length (T : Txt K mg) : FnAt P wd K mg base 1 "check_length" ["length", "what"] (spF (fun u : Nat × Str => [natD u.1, .str u.2]) (fun u => 1 ≤ u.1 ∧ u.1 ≤ 8) (fun _ => .non) K) := by
  refine fn_at T.d_check_length sc_check_length (fun _ _ => rfl) ?_
  rintro ⟨n, x⟩ hu
  obtain ⟨h1, h2⟩ : 1 ≤ n ∧ n ≤ 8 := hu
  dsimp only
  obtain ⟨t, hc⟩ := T.c_LONGEST
  refine b_cons (s_if (q := false) (t_not (p := true) ((t_lele e_int (e_var 0) (e_globI hc)).cast (by rw [decide_eq_true (by omega), decide_eq_true (by omega)]; rfl))) (fun z => (nomatch z)) fun _ => b_nil (b_nil rfl))
theorem f_check_row (T : Txt K mg) : FnAt P wd K mg base 1 "check_row" ["row", "width"] (spF (fun r : List Int => [rowD r, natD r.length]) (fun r => Col r) (fun _ => .non) K) := by
  refine fn_at T.d_check_row sc_check_row (fun _ _ => rfl) ?_
  rintro r hc
  obtain ⟨t, hl⟩ := T.c_LAST_COLOUR
  refine b_cons (s_if (q := false) ((t_neI (e_lenTM (e_var 0) T.n_len) (e_var 1)).cast (by simp)) (fun z => (nomatch z)) fun _ => b_nil ?_)
  refine b_cons (s_for 2 (i_tupM (e_var 0)) (fun k Γ' => ∃ c, Γ' = [.val (rowD r), .val (natD r.length), c]) ⟨.no, rfl⟩ ?_ ?_)
  · rintro k c Γ' hk ⟨x, rfl⟩
    have hm := hc c (List.mem_of_getElem? hk)
    exact b_cons (s_if (q := false) (t_not (p := true) ((t_lele e_int (e_var 2) (e_globI hl)).cast (by rw [decide_eq_true hm.1, decide_eq_true hm.2]; rfl))) (fun z => (nomatch z)) fun _ => b_nil (b_nil ⟨_, rfl⟩))
  · rintro Γ' ⟨c, rfl⟩
    exact b_nil rfl
theorem len_int {i : Int} (h : i.natAbs.log2 < 1920) : (toString i : Str).length ≤ 1000000 := Nat.le_trans (int_text_len_1921 h) (by decide)
theorem x_check_length {cE cN cB : Addr} (T : Txt K mg) (C : Exs K mg cE cN cB) : FnX P wd K mg base 1 "check_length" ["length", "what"] (spX (fun u : Nat × Str => [natD u.1, .str u.2]) (fun u => ¬ (1 ≤ u.1 ∧ u.1 ≤ 8) ∧ u.1 ≤ 1000 ∧ u.2.length ≤ 1000) (.ref cN, true) K) := by
  refine fx_at T.d_check_length sc_check_length (fun _ _ => rfl) ?_
  rintro ⟨n, x⟩ hu
  obtain ⟨h1, h2, h3⟩ : ¬ (1 ≤ n ∧ n ≤ 8) ∧ n ≤ 1000 ∧ x.length ≤ 1000 := hu
  dsimp only
  obtain ⟨t, hc⟩ := T.c_LONGEST
  refine x_head (x_if (q := true) (t_not (p := false) ((t_lele e_int (e_var 0) (e_globI hc)).cast ?_)) (fun _ => ?_) (fun z => nomatch z))
  · by_cases q : (1 : Int) ≤ (n : Int)
    · rw [decide_eq_true q, decide_eq_false (by omega)]; rfl
    · rw [decide_eq_false q]; rfl
  · refine x_head (x_raise ⟨C.m_NoBoard, C.x_NoBoard.exc⟩ (e_fstr (p_cons e_str (by decide +kernel) (p_cons (e_fmtI (e_globI hc) (by decide +kernel)) (by decide +kernel) (p_cons e_str (by decide +kernel) (p_cons (e_fmtS (e_var 1) (Nat.le_trans h3 (by decide))) (Nat.le_trans h3 (by decide)) (p_cons e_str (by decide +kernel) (p_cons (e_fmtI (e_var 0) (nat_log h2)) (len_int (nat_log h2)) p_nil)))))) (by decide)))
theorem x_check_row {cE cN cB : Addr} (T : Txt K mg) (C : Exs K mg cE cN cB) : FnX P wd K mg base 1 "check_row" ["row", "width"] (spX (fun u : List Int × Nat => [rowD u.1, natD u.2]) (fun u => ¬ okR u.2 u.1 ∧ SmR u.1 ∧ u.2 ≤ 1000) (.ref cN, true) K) := by
  refine fx_at T.d_check_row sc_check_row (fun _ _ => rfl) ?_
  rintro ⟨r, w⟩ hu
  obtain ⟨h1, ⟨h2, h3⟩, h4⟩ : ¬ okR w r ∧ SmR r ∧ w ≤ 1000 := hu
  dsimp only
  obtain ⟨t, hc⟩ := T.c_LAST_COLOUR
  by_cases hl : r.length = w
  · obtain ⟨n, c, e1, e2, e3⟩ := first_bad (p := fun c : Int => 0 ≤ c ∧ c ≤ 9) (l := r) fun q => h1 ⟨hl, q⟩
    refine x_cons (s_if (q := false) ((t_neI (e_lenTM (e_var 0) T.n_len) (e_var 1)).cast (by simp [hl])) (fun z => nomatch z) fun _ => b_nil ?_)
    refine x_head (x_for 2 n (i_tupM (e_var 0)) (fun k Γ' => ∃ c, Γ' = [.val (rowD r), .val (natD w), c]) ⟨.no, rfl⟩ (List.getElem?_eq_some_iff.mp e1).1 ?_ ?_)
    · rintro k c Γ' hk hck ⟨x, rfl⟩
      have hm := e3 k c hk hck
      exact b_cons (s_if (q := false) (t_not (p := true) ((t_lele e_int (e_var 2) (e_globI hc)).cast (by rw [decide_eq_true hm.1, decide_eq_true hm.2]; rfl))) (fun z => (nomatch z)) fun _ => b_nil (b_nil ⟨_, rfl⟩))
    · rintro c' Γ' hck ⟨x, rfl⟩
      rw [e1] at hck; cases hck
      have hcl := h3 c (List.mem_of_getElem? e1)
      refine x_head (x_if (q := true) (t_not (p := false) ((t_lele e_int (e_var 2) (e_globI hc)).cast ?_)) (fun _ => ?_) (fun z => nomatch z))
      · by_cases q : (0 : Int) ≤ c
        · rw [decide_eq_true q, decide_eq_false fun z => e2 ⟨q, z⟩]; rfl
        · rw [decide_eq_false q]; rfl
      · exact x_head (x_raise ⟨C.m_NoBoard, C.x_NoBoard.exc⟩ (e_fstr (p_cons e_str (by decide +kernel) (p_cons (e_fmtI (e_globI hc) (by decide +kernel)) (by decide +kernel) (p_cons e_str (by decide +kernel) (p_cons (e_fmtI (e_var 2) hcl) (len_int hcl) p_nil)))) (by decide)))
  · refine x_head (x_if (q := true) ((t_neI (e_lenTM (e_var 0) T.n_len) (e_var 1)).cast ?_) (fun _ => ?_) (fun z => nomatch z))
    · rw [decide_eq_false (by omega)]; rfl
    · exact x_head (x_raise ⟨C.m_NoBoard, C.x_NoBoard.exc⟩ (e_fstr (p_cons e_str (by decide +kernel) (p_cons (e_fmtI (e_var 1) (nat_log h4)) (len_int (nat_log h4)) (p_cons e_str (by decide +kernel) (p_cons (e_fmtT (e_var 0) h3 h2) (Nat.le_trans (shown_ints h3 h2) (by decide)) (p_cons e_str (by decide +kernel) p_nil))))) (by decide)))
theorem x_looked {cE cN cB : Addr} (T : Txt K mg) (C : Exs K mg cE cN cB) : FnX P wd K mg base 2 "looked" ["board"] (spX (fun u : Bd => [bdD u]) (fun u => ¬ okB u ∧ SmB u) (.ref cN, true) K) := by
  refine fx_at T.d_looked sc_looked (fun _ _ => rfl) ?_
  rintro bd ⟨h1, h2, h3⟩
  refine x_cons (s_set 1 (e_lenTM (e_var 0) T.n_len) ?_)
  by_cases hh : 1 ≤ bd.length ∧ bd.length ≤ 8
  · have sm0 : SmR (bd.getD 0 []) := by rw [getD_lt bd 0 [] (by omega)]; exact h3 _ (List.getElem_mem _)
    refine x_cons (s_drop (e_fn (f_check_length T) (bd.length, Str.ofString "rows") (a_cons (e_var 1) (a_cons e_str a_nil)) hh) ?_)
    refine x_cons (s_set 2 (e_lenTM (e_ixTM (l := bd) (i := 0) (f := rowD) [] (e_var 0) e_int (by omega) (by omega)) T.n_len) ?_)
    rw [show (0 : Int).toNat = 0 from rfl]
    by_cases hw : 1 ≤ (bd.getD 0 []).length ∧ (bd.getD 0 []).length ≤ 8
    · refine x_cons (s_drop (e_fn (f_check_length T) ((bd.getD 0 []).length, Str.ofString "places") (a_cons (e_var 2) (a_cons e_str a_nil)) hw) ?_)
      obtain ⟨n, r, e1, e2, e3⟩ := first_bad (p := okR (bd.getD 0 []).length) (l := bd) fun q => h1 ⟨hh, hw, q⟩
      refine x_head (x_for 3 n (i_tupM (e_var 0)) (fun k Γ' => ∃ c, Γ' = [.val (bdD bd), .val (natD bd.length), .val (natD (bd.getD 0 []).length), c]) ⟨.no, rfl⟩ (List.getElem?_eq_some_iff.mp e1).1 ?_ ?_)
      · rintro k r Γ' hk hrk ⟨x, rfl⟩
        obtain ⟨q1, q2⟩ := e3 k r hk hrk
        exact b_cons (s_drop (e_fn (f_check_row T) r (a_cons (e_var 3) (a_cons ((e_var 2).cast (by rw [q1])) a_nil)) q2) (b_nil ⟨_, rfl⟩))
      · rintro r' Γ' hrk ⟨x, rfl⟩
        rw [e1] at hrk; cases hrk
        exact x_head (x_expr (e_fnx (x_check_row T C) (r, (bd.getD 0 []).length) (a_cons (e_var 3) (a_cons (e_var 2) a_nil)) ⟨e2, h3 r (List.mem_of_getElem? e1), by dsimp only; omega⟩))
    · exact x_head (x_expr (e_fnx (x_check_length T C) ((bd.getD 0 []).length, Str.ofString "places") (a_cons (e_var 2) (a_cons e_str a_nil)) ⟨hw, by have := sm0.1; dsimp only; omega, by dsimp only; decide +kernel⟩))
  · exact x_head (x_expr (e_fnx (x_check_length T C) (bd.length, Str.ofString "rows") (a_cons (e_var 1) (a_cons e_str a_nil)) ⟨hh, by dsimp only; omega, by dsimp only; decide +kernel⟩))
theorem f_row_read (T : Txt K mg) : FnAt P wd K mg base 1 "row_read" ["row"] (spF (fun r : List Int => [.str (sl (figL r))]) (fun r => Col r ∧ r.length ≤ 1000) (fun r => rowD r) K) := by
  refine fn_at T.d_row_read sc_row_read (fun _ _ => rfl) ?_
  rintro r ⟨hc, hl⟩
  obtain ⟨t, hf⟩ := T.c_FIGURES
  have em : (sl (figL r)).cps.toList.map chD = r.map fun c : Int => chD (48 + c.toNat) := by rw [sl_cps]; unfold figL; rw [List.map_map]; rfl
  refine b_cons (s_for 1 (us := r) (g := fun c : Int => chD (48 + c.toNat)) (em ▸ i_str (e_var 0)) (fun k Γ' => ∃ c, Γ' = [.val (.str (sl (figL r))), c]) ⟨.no, rfl⟩ ?_ ?_)
  · rintro k c Γ' hk ⟨x, rfl⟩
    have hm := hc c (List.mem_of_getElem? hk)
    exact b_cons (s_if (q := false) ((t_notinS (e_var 1) (e_globS hf)).cast (by rw [decide_eq_true (fig_in hm)]; rfl)) (fun z => (nomatch z)) fun _ => b_nil (b_nil ⟨_, rfl⟩))
  · rintro Γ' ⟨x, rfl⟩
    refine b_cons (s_ret (e_tupL (f_map (us := r) (g := fun c : Int => chD (48 + c.toNat)) (fun c : Int => D.int c) (em ▸ i_str (e_var 0)) (Nat.le_trans hl (by decide)) fun c hm => ?_).je T.n_tuple) rfl)
    exact e_intS (x := sl [48 + c.toNat]) (e_var 2) (int_fig (hc c hm)) (by rw [sl_len, List.length_singleton]; decide) T.n_int
theorem fg_in {c : Nat} (h : Fg c) : c ∈ (Str.ofString "0123456789").cps.toList := by
  obtain ⟨h1, h2⟩ := h
  have : c = 48 + (((c : Int) - 48)).toNat := by omega
  rw [this]
  exact fig_in ⟨by omega, by omega⟩
theorem in_fg {c : Nat} (h : c ∈ (Str.ofString "0123456789").cps.toList) : Fg c := by
  have : ∀ c ∈ (Str.ofString "0123456789").cps.toList, Fg c := by decide +kernel
  exact this c h
def unf (x : List Nat) : List Int := x.map fun c : Nat => (c : Int) - 48
theorem fig_unf : ∀ {x : List Nat}, (∀ c ∈ x, Fg c) → figL (unf x) = x
  | [], _ => rfl
  | c :: x, h => by
    obtain ⟨h1, h2⟩ := h c (by simp)
    have ih := fig_unf (x := x) fun d hd => h d (by simp [hd])
    show (48 + ((c : Int) - 48).toNat) :: figL (unf x) = _
    rw [ih, show 48 + ((c : Int) - 48).toNat = c by omega]
theorem col_unf {x : List Nat} (h : ∀ c ∈ x, Fg c) : Col (unf x) := fun d hd => by
  obtain ⟨c, hc, rfl⟩ := List.mem_map.mp hd
  obtain ⟨h1, h2⟩ := h c hc
  omega
theorem repr_len {l : List Nat} (h : l.length ≤ 1000) (hc : ∀ c ∈ l, c < 1000) : (reprText (sl l)).length ≤ 1000000 := by
  have := StrLaws.reprText_len (sl l) (by rw [sl_cps]; exact fun c hm => Nat.lt_trans (hc c hm) (by decide))
  rw [sl_len] at this
  omega
theorem x_row_read {cE cN cB : Addr} (T : Txt K mg) (C : Exs K mg cE cN cB) : FnX P wd K mg base 1 "row_read" ["row"] (spX (fun x : List Nat => [.str (sl x)]) (fun x => (¬ ∀ c ∈ x, Fg c) ∧ ∀ c ∈ x, c < 1000) (.ref cB, true) K) := by
  refine fx_at T.d_row_read sc_row_read (fun _ _ => rfl) ?_
  rintro x ⟨h1, h2⟩
  obtain ⟨t, hf⟩ := T.c_FIGURES
  have em : (sl x).cps.toList.map chD = x.map chD := by rw [sl_cps]
  obtain ⟨n, c, e1, e2, e3⟩ := first_bad h1
  refine x_head (x_for 1 n (us := x) (g := chD) (em ▸ i_str (e_var 0)) (fun k Γ' => ∃ c, Γ' = [.val (.str (sl x)), c]) ⟨.no, rfl⟩ (List.getElem?_eq_some_iff.mp e1).1 ?_ ?_)
  · rintro k c Γ' hk hck ⟨y, rfl⟩
    exact b_cons (s_if (q := false) ((t_notinS (e_var 1) (e_globS hf)).cast (by rw [decide_eq_true (fg_in (e3 k c hk hck))]; rfl)) (fun z => (nomatch z)) fun _ => b_nil (b_nil ⟨_, rfl⟩))
  · rintro c' Γ' hck ⟨y, rfl⟩
    rw [e1] at hck; cases hck
    have rl : (reprText (sl [c])).length ≤ 1000000 := repr_len (by simp) fun d hd => by rw [List.mem_singleton.mp hd]; exact h2 c (List.mem_of_getElem? e1)
    refine x_head (x_if (q := true) ((t_notinS (e_var 1) (e_globS hf)).cast (by rw [decide_eq_false fun z => e2 (in_fg z)]; rfl)) (fun _ => ?_) (fun z => nomatch z))
    exact x_head (x_raise ⟨C.m_BadNote, C.x_BadNote.exc⟩ (e_fstr (p_cons (e_fmtR (x := sl [c]) (e_var 1) (Nat.le_trans rl (by decide))) rl (p_cons e_str (by decide +kernel) p_nil)) (by decide)))
theorem ends_lines {R : List (List Nat)} (h : R ≠ []) : Txt.endswith (sl (lines R)) (sl [10]) = true := by
  have e : lines R = (lines R.dropLast ++ R.getLast h) ++ [10] := by
    conv => lhs; rw [← List.dropLast_concat_getLast h]
    unfold lines
    rw [List.map_append, List.flatten_append]
    simp
  rw [e]
  exact ends_one _ _
theorem x_readA {cE cN cB : Addr} (T : Txt K mg) (C : Exs K mg cE cN cB) : FnX P wd K mg base 3 "read" ["text"] (spX (fun l : List Nat => [.str (sl l)]) (fun l => BadA l ∨ BadB l) (.ref cB, true) K) := by
  refine fx_at T.d_read sc_read (fun _ _ => rfl) ?_
  rintro l hl
  rcases hl with ⟨⟨l1, l2⟩, he⟩ | ⟨⟨l1, l2⟩, R, r0, r1, r2, rfl, r3⟩
  · have rl := repr_len (by omega) l2
    refine x_head (x_if (q := true) (t_not (p := false) (t_val ((e_endswith (e_var 0) e_str).cast (congrArg D.bl he)))) (fun _ => ?_) (fun z => nomatch z))
    exact x_head (x_raise ⟨C.m_BadNote, C.x_BadNote.exc⟩ (e_fstr (p_cons e_str (by decide +kernel) (p_cons (e_fmtR (e_var 0) (Nat.le_trans rl (by decide))) rl p_nil)) (by decide)))
  · have sp := split_lines (rows := R) fun x hx => (r2 x hx).1
    refine x_cons (s_if (q := false) (t_not (p := true) (t_val ((e_endswith (e_var 0) e_str).cast (congrArg D.bl (ends_lines r0))))) (fun z => (nomatch z)) fun _ => b_nil ?_)
    refine x_cons (s_set 1 (JE.cast (f_cutHi (f_split (y := sl [10]) (e_var 0) e_str rfl (by rw [sl_len]; exact Nat.le_trans l1 (by decide)) (by unfold lines; rw [sp, List.length_append, List.length_map]; exact Nat.le_trans (show R.length + [sl []].length ≤ 100 by simp; omega) (by decide))).je (e_neg e_int)).je (d' := .lst (R.map fun x => .str (sl x))) (by unfold lines; rw [sp, List.map_append, List.map_singleton, cut_last, List.map_map]; rfl)) ?_)
    obtain ⟨n, x, e1, e2, e3⟩ := first_bad (p := fun x : List Nat => ∀ c ∈ x, Fg c) (l := R) fun q => by
      obtain ⟨x, hx, c, hc, hn⟩ := r3
      exact hn (q x hx c hc)
    refine x_head (x_set (xe_call (.inr ⟨T.n_tuple, ⟨_, rfl⟩, by decide⟩) (xa_head (xe_comp n (fun x : List Nat => rowD (unf x)) (i_lst (e_var 1)) (List.getElem?_eq_some_iff.mp e1).1 (Nat.le_trans r1 (by decide)) (fun k x hk hx => ?_) (fun x' hx => ?_)))))
    · have hg := e3 k x hk hx
      have hm := r2 x (List.mem_of_getElem? hx)
      exact e_fn (f_row_read T) (unf x) (a_cons ((e_var 4).cast (by rw [fig_unf hg])) a_nil) ⟨col_unf hg, by unfold unf; rw [List.length_map]; omega⟩
    · rw [e1] at hx; cases hx
      exact e_fnx (x_row_read T C) x (a_cons (e_var 4) a_nil) ⟨e2, (r2 x (List.mem_of_getElem? e1)).2.2⟩
theorem x_readC {cE cN cB : Addr} (T : Txt K mg) (C : Exs K mg cE cN cB) : FnX P wd K mg base 3 "read" ["text"] (spX (fun l : List Nat => [.str (sl l)]) BadC (.ref cB, false) K) := by
  refine fx_at T.d_read sc_read (fun _ _ => rfl) ?_
  rintro l ⟨⟨l1, l2⟩, bd, r0, r1, r2, rfl, r3⟩
  have sp := split_lines (rows := bd.map figL) fun x hx => by
    obtain ⟨r, _, rfl⟩ := List.mem_map.mp hx
    exact fig_no10 r
  refine x_cons (s_if (q := false) (t_not (p := true) (t_val ((e_endswith (e_var 0) e_str).cast (congrArg D.bl (ends_lines (by simpa using r0)))))) (fun z => (nomatch z)) fun _ => b_nil ?_)
  refine x_cons (s_set 1 (JE.cast (f_cutHi (f_split (y := sl [10]) (e_var 0) e_str rfl (by rw [sl_len]; exact Nat.le_trans l1 (by decide)) (by unfold lines; rw [sp, List.length_append, List.length_map, List.length_map]; exact Nat.le_trans (show bd.length + [sl []].length ≤ 100 by simp; omega) (by decide))).je (e_neg e_int)).je (d' := .lst (bd.map fun r => .str (sl (figL r)))) (by unfold lines; rw [sp, List.map_append, List.map_singleton, cut_last, List.map_map, List.map_map]; rfl)) ?_)
  refine x_cons (s_set 2 (e_tupL (f_map (fun r : List Int => rowD r) (i_lst (e_var 1)) (Nat.le_trans r1 (by decide)) fun r hr => ?_).je T.n_tuple) ?_)
  · exact e_fn (f_row_read T) r (a_cons (e_var 4) a_nil) ⟨(r2 r hr).1, by have := (r2 r hr).2; omega⟩
  refine x_head (x_tryR 3 (e_fnx (x_looked T C) bd (a_cons (e_var 2) a_nil) ⟨r3, by omega, fun r hr => ⟨by have := (r2 r hr).2; omega, fun c hc => log_fig ((r2 r hr).1 c hc)⟩⟩) C.m_NoBoard C.x_NoBoard.exc C.w_NoBoard C.x_NoBoard.exc ⟨C.m_BadNote, C.x_BadNote.exc⟩ (m_repr 0 rfl (by decide +kernel) (repr_len (by omega) l2)) rfl)
theorem f_law_cell_at (T : Txt K mg) : FnAt P wd K mg base 1 "_law_cell_at" ["script", "k"] (spF (fun u : List Int × Nat => [intsD u.1, natD u.2]) (fun _ => True) (fun u => .int (u.1.getD u.2 0)) K) := by
  refine fn_at T.d_law_cell_at sc_law_cell_at (fun _ _ => rfl) ?_
  rintro ⟨ns, k⟩ _
  dsimp only
  refine b_cons (s_if (t_lt (e_var 1) (e_lenLM (e_var 0) T.n_len)) (fun ht => ?_) (fun ht => ?_))
  · have ht' : k < ns.length := by have := of_decide_eq_true ht; omega
    exact b_cons (s_ret (e_ixLM (i := (k : Int)) 0 (e_var 0) (e_var 1) (by omega) (by omega)) rfl)
  · have ht' : ¬ k < ns.length := by have := of_decide_eq_false ht; omega
    refine b_nil (b_cons (s_ret e_int ?_))
    show _ = _
    rw [List.getD_eq_getElem?_getD, List.getElem?_eq_none (by omega)]; rfl
theorem f_law_board_by (T : Txt K mg) : FnAt P wd K mg base 1 "_law_board_by" ["cell", "width", "height", "colours"] (spF (fun u : Int × Nat × Nat × Int => [.int u.1, natD u.2.1, natD u.2.2.1, .int u.2.2.2]) (fun u => u.2.1 ≤ 1000 ∧ u.2.2.1 ≤ 1000 ∧ 0 < u.2.2.2) (fun u => bdD (gen u.1 u.2.2.2 u.2.1 u.2.2.1)) K) := by
  refine fn_at T.d_law_board_by sc_law_board_by (fun _ _ => rfl) ?_
  rintro ⟨c, w, h, co⟩ hh
  dsimp only at hh ⊢
  obtain ⟨hw, hh, hc⟩ := hh
  refine b_cons (s_own 4 (f_lst a_nil) ?_)
  refine b_cons (s_for 5 (us := List.range h) (g := natD) (i_rngN (e_var 2) T.n_range (by omega)) (fun k Γ' => ∃ y r x, Γ' = [.val (.int (it (k * w) c)), .val (natD w), .val (natD h), .val (.int co), .own (((List.range k).map fun y => genRow c co (y * w) w).map rowD), y, r, x]) ⟨.no, .no, .no, ?_⟩ ?_ ?_)
  · rw [Nat.zero_mul]; rfl
  · rintro k u Γ' hu ⟨y, r, x, rfl⟩
    refine b_cons (s_own 6 (f_lst a_nil) ?_)
    refine b_cons (s_for 7 (us := List.range w) (g := natD) (i_rngN (e_var 1) T.n_range (by omega)) (fun j Γ' => ∃ x, Γ' = [.val (.int (it (k * w + j) c)), .val (natD w), .val (natD h), .val (.int co), .own (((List.range k).map fun y => genRow c co (y * w) w).map rowD), .val (natD u), .own ((genRow c co (k * w) j).map D.int), x]) ⟨x, rfl⟩ ?_ ?_)
    · rintro j v Γ' hv ⟨x, rfl⟩
      have hj : j < w := by have := (List.getElem?_eq_some_iff.mp hv).1; rwa [List.length_range] at this
      refine b_cons (s_set 0 (e_mod (e_add (e_mul (e_var 0) e_int (.inr (by decide))) e_int) e_int (by decide)) ?_)
      refine b_cons (s_app 6 rfl (e_mod (e_fdiv (e_var 0) e_int ⟨by decide, by decide⟩) (e_var 3) hc) ?_ (b_nil ⟨.val (natD v), ?_⟩))
      · rw [List.length_map]; unfold genRow; rw [List.length_map, List.length_range]; exact Nat.lt_of_lt_of_le (show j < 1001 by omega) (by decide)
      · show [_, _, _, _, _, _, _, _] = _
        have e : genRow c co (k * w) (j + 1) = genRow c co (k * w) j ++ [it (k * w + j + 1) c / 7 % co] := by unfold genRow; rw [List.range_succ, List.map_append]; rfl
        rw [e, List.map_append]; rfl
    · rintro Γ' ⟨x, rfl⟩
      rw [List.length_range]
      refine b_frz 6 rfl ?_
      refine b_cons (s_app 4 rfl (e_tupL (e_var 6) T.n_tuple) ?_ (b_nil ⟨.val (natD u), .val (.lst ((genRow c co (k * w) w).map D.int)), x, ?_⟩))
      · rw [List.length_map, List.length_map, List.length_range]
        have hk : k < h := by have := (List.getElem?_eq_some_iff.mp hu).1; rwa [List.length_range] at this
        exact Nat.lt_of_lt_of_le (show k < 1001 by omega) (by decide)
      · show [_, _, _, _, _, _, _, _] = _
        rw [List.range_succ, List.map_append, List.map_append, Nat.succ_mul]; rfl
  · rintro Γ' ⟨y, r, x, rfl⟩
    rw [List.length_range]
    refine b_frz 4 rfl ?_
    exact b_cons (s_ret (e_tupL (e_var 4) T.n_tuple) rfl)
theorem cmp_marks {b1 b2 b3 c1 c2 c3 : Bool} : CmpOk 1 (.lst [.bl b1, .bl b2, .bl b3]) (.lst [.bl c1, .bl c2, .bl c3]) := .inr (.inr ⟨_, _, rfl, rfl, fun j x y hx hy => by
  match j with
  | 0 => cases hx; cases hy; exact ⟨rfl, rfl⟩
  | 1 => cases hx; cases hy; exact ⟨rfl, rfl⟩
  | 2 => cases hx; cases hy; exact ⟨rfl, rfl⟩
  | j + 3 => simp at hx⟩)
theorem f_law_refused {cE cN cB : Addr} (T : Txt K mg) (C : Exs K mg cE cN cB) : FnAt P wd K mg base 4 "_law_refused" ["text"] (spF (fun l : List Nat => [.str (sl l)]) (fun l => BadA l ∨ BadB l ∨ BadC l) (fun _ => .bl true) K) := by
  refine fn_at T.d_law_refused sc_law_refused (fun _ _ => rfl) ?_
  rintro l hl
  refine b_cons (s_own 1 (f_lst a_nil) ?_)
  rcases hl with hl | hl | hl
  · refine b_cons (s_tryM 2 1 (b1 := true) (b2 := true) (b3 := false) (C := cB) (D := cE) (e_fnx (x_readA T C) l (a_cons (e_var 0) a_nil) (.inl hl))
      C.x_BadNote C.m_KinError C.e_KinError C.s_BadNote (.inl ⟨cB, C.m_BadNote, C.k_BadNote_BadNote⟩) (.inr ⟨"ValueError", T.n_ValueError, by with_unfolding_all rfl, C.v_BadNote⟩) (.inl ⟨cN, C.m_NoBoard, C.k_BadNote_NoBoard⟩) T.n_isinstance rfl (b_frz 1 rfl (b_cons (s_ret (e_eqD (n := 0) (d := .lst [.bl true, .bl true, .bl false]) (d' := .lst [.bl true, .bl true, .bl false]) (e_var 1) (f_lst (a_cons e_bl (a_cons e_bl (a_cons e_bl a_nil)))).je trivial cmp_marks) rfl))))
  · refine b_cons (s_tryM 2 1 (b1 := true) (b2 := true) (b3 := false) (C := cB) (D := cE) (e_fnx (x_readA T C) l (a_cons (e_var 0) a_nil) (.inr hl))
      C.x_BadNote C.m_KinError C.e_KinError C.s_BadNote (.inl ⟨cB, C.m_BadNote, C.k_BadNote_BadNote⟩) (.inr ⟨"ValueError", T.n_ValueError, by with_unfolding_all rfl, C.v_BadNote⟩) (.inl ⟨cN, C.m_NoBoard, C.k_BadNote_NoBoard⟩) T.n_isinstance rfl (b_frz 1 rfl (b_cons (s_ret (e_eqD (n := 0) (d := .lst [.bl true, .bl true, .bl false]) (d' := .lst [.bl true, .bl true, .bl false]) (e_var 1) (f_lst (a_cons e_bl (a_cons e_bl (a_cons e_bl a_nil)))).je trivial cmp_marks) rfl))))
  · refine b_cons (s_tryM 2 1 (b1 := true) (b2 := true) (b3 := false) (C := cB) (D := cE) (e_fnx (x_readC T C) l (a_cons (e_var 0) a_nil) hl)
      C.x_BadNote C.m_KinError C.e_KinError C.s_BadNote (.inl ⟨cB, C.m_BadNote, C.k_BadNote_BadNote⟩) (.inr ⟨"ValueError", T.n_ValueError, by with_unfolding_all rfl, C.v_BadNote⟩) (.inl ⟨cN, C.m_NoBoard, C.k_BadNote_NoBoard⟩) T.n_isinstance rfl (b_frz 1 rfl (b_cons (s_ret (e_eqD (n := 0) (d := .lst [.bl true, .bl true, .bl false]) (d' := .lst [.bl true, .bl true, .bl false]) (e_var 1) (f_lst (a_cons e_bl (a_cons e_bl (a_cons e_bl a_nil)))).je trivial cmp_marks) rfl))))
abbrev stD (R : List (List Nat)) : List D := R.map fun x => D.str (sl x)
theorem stD_set (R : List (List Nat)) (n : Nat) (x : List Nat) : (stD R).set n (.str (sl x)) = stD (R.set n x) := by
  show (R.map fun x => D.str (sl x)).set n _ = (R.set n x).map fun x => D.str (sl x)
  rw [List.map_set]
theorem stD_ins (R : List (List Nat)) (n : Nat) (x : List Nat) : (stD R).take n ++ [.str (sl x)] ++ (stD R).drop n = stD (R.take n ++ [x] ++ R.drop n) := by
  show _ = (R.take n ++ [x] ++ R.drop n).map fun x => D.str (sl x)
  rw [List.map_append, List.map_append, List.map_take, List.map_drop]
  rfl
theorem sign_at : ∀ k < 10, atI (Str.ofString " -+_.,ax:~").cps.toList ((k : Nat) : Int) = some (signs.getD k 0) := by decide +kernel
theorem f_law_spoiled (T : Txt K mg) : FnAt P wd K mg base 1 "_law_spoiled" ["rows", "cell"] (spF (fun u : List (List Nat) × Int => [.lst (stD u.1), .int u.2]) (fun u => u.1 ≠ [] ∧ u.1.length ≤ 8 ∧ ∀ x ∈ u.1, 1 ≤ x.length ∧ x.length ≤ 8) (fun u => .str (sl (tSpo u.1 u.2))) K) := by
  refine fn_at T.d_law_spoiled sc_law_spoiled (fun _ _ => rfl) ?_
  rintro ⟨R, c⟩ hu
  obtain ⟨R0, R8, Rx⟩ : R ≠ [] ∧ R.length ≤ 8 ∧ ∀ x ∈ R, 1 ≤ x.length ∧ x.length ≤ 8 := hu
  dsimp only
  have Rl : 0 < R.length := List.length_pos_iff.mpr R0
  have big : 100 ≤ sizeLine := by decide
  have y0 := Int.emod_nonneg (c / 9) (show ((R.length : Nat) : Int) ≠ 0 by omega)
  have y1 := Int.emod_lt_of_pos (c / 9) (show (0 : Int) < (R.length : Nat) by omega)
  have yE : c / 9 % (R.length : Int) = ((tY R c : Nat) : Int) := by unfold tY; omega
  have yl : tY R c < R.length := by omega
  have rm : R.getD (tY R c) [] ∈ R := by rw [getD_lt R _ _ yl]; exact List.getElem_mem _
  obtain ⟨r1, r8⟩ := Rx _ rm
  have a0 := Int.emod_nonneg (c / 72) (show (((R.getD (tY R c) []).length : Nat) : Int) ≠ 0 by omega)
  have a1 := Int.emod_lt_of_pos (c / 72) (show (0 : Int) < ((R.getD (tY R c) []).length : Nat) by omega)
  have aE : c / 72 % ((R.getD (tY R c) []).length : Int) = ((tA R c : Nat) : Int) := by unfold tA; omega
  have al : tA R c < (R.getD (tY R c) []).length := by omega
  have s0 := Int.emod_nonneg (c / 700) (show (10 : Int) ≠ 0 by decide)
  have s1 := Int.emod_lt_of_pos (c / 700) (show (0 : Int) < 10 by decide)
  have sA : atI (Str.ofString " -+_.,ax:~").cps.toList (c / 700 % 10) = some (tS c) := by
    have := sign_at (c / 700 % 10).toNat (by omega)
    rw [show (((c / 700 % 10).toNat : Nat) : Int) = c / 700 % 10 by omega] at this
    exact this
  refine b_cons (s_set 2 (e_mod (e_var 1) e_int (by decide)) ?_)
  refine b_cons (s_set 3 ((e_mod (e_fdiv (e_var 1) e_int ⟨by decide, by decide⟩) (e_lenLM (l := R) (f := fun x => D.str (sl x)) (e_var 0) T.n_len) (by omega)).cast (congrArg D.int yE)) ?_)
  refine b_cons (s_set 4 ((e_mod (e_fdiv (e_var 1) e_int ⟨by decide, by decide⟩) (e_lenS (l := R.getD (tY R c) []) (e_ixLM (l := R) (f := fun x => D.str (sl x)) (i := ((tY R c : Nat) : Int)) [] (e_var 0) (e_var 3) (by omega) (by omega)) (by omega) T.n_len) (by omega)).cast (congrArg D.int aE)) ?_)
  refine b_cons (s_own 5 (f_list (.inr (e_var 0)) T.n_list) ?_)
  refine b_cons (s_set 6 (e_ixS e_str (e_mod (e_fdiv (e_var 1) e_int ⟨by decide, by decide⟩) e_int (by decide)) sA (by decide +kernel)) ?_)
  have fin : ∀ (R' : List (List Nat)) (ds : List D) (a b c' d e f : Sl), ds = stD R' → R'.length ≤ 9 → (∀ x ∈ R', x.length ≤ 9) → tSpo R c = lines R' → JB ⟨P, wd, K, mg, base, 0, N_law_spoiled, defScope s_law_spoiled, true⟩ [a, b, c', d, e, .val (.lst ds), f] ((defBody s_law_spoiled).drop 6) { nx := fun _ => (D.str (sl (tSpo R c))) = .non, rt := fun d _ => d = .str (sl (tSpo R c)) } := fun R' ds a b c' d e f hds h1 h2 h3 => by
    subst hds
    refine b_cons (s_ret ((e_join (sep := sl []) (ts := (R'.map (· ++ [10])).map sl) e_str (JE.cast (f_map (fun x : List Nat => D.str (sl (x ++ [10]))) (i_lst (e_var 5)) (Nat.le_trans h1 (by decide)) fun x hx => (e_addS (i := sl x) (j := sl [10]) (e_var 7) e_str ?_).cast (by rw [sl_app])).je (by rw [List.map_map, List.map_map]; rfl)) (join_ok (B := 10) (fun y hy => ?_) ?_)).cast (by rw [joinE])) (by show _ = _; rw [h3]; rfl))
    · rw [sl_len, sl_len]; have := h2 x hx; simp; omega
    · obtain ⟨l, hl', rfl⟩ := List.mem_map.mp hy
      obtain ⟨x, hx, rfl⟩ := List.mem_map.mp hl'
      rw [sl_len]; have := h2 x hx; simp; omega
    · rw [List.length_map, List.length_map, sl_len]; simp; omega
  have ixy : ∀ {Γ : List Sl} {p q r : Pos}, Γ[5]? = some (.val (.lst (stD R))) → Γ[3]? = some (.val (.int ((tY R c : Nat) : Int))) → JE ⟨P, wd, K, mg, base, 0, N_law_spoiled, defScope s_law_spoiled, true⟩ Γ (.Subscript (.Name "bad" p) (.Name "y" q) r) (.str (sl (R.getD (tY R c) []))) := fun {Γ p q r} h5 h3 =>
    e_ixLM (l := R) (f := fun x => D.str (sl x)) (i := ((tY R c : Nat) : Int)) [] (e_var 5 (hd := h5)) (e_var 3 (hd := h3)) (by omega) (by omega)
  have hk : ixN (stD R).length ((tY R c : Nat) : Int) = some (tY R c) := by unfold ixN; rw [if_pos (by omega), if_pos (by rw [List.length_map]; omega)]; rfl
  have setL : ∀ n, tA R c ≤ n → ∀ x ∈ R.set (tY R c) ((R.getD (tY R c) []).take (tA R c) ++ [tS c] ++ (R.getD (tY R c) []).drop n), x.length ≤ 9 := fun n hn x hx => by
    rcases List.mem_or_eq_of_mem_set hx with z | rfl
    · have := (Rx x z).2; omega
    · simp only [List.length_append, List.length_take, List.length_drop, List.length_singleton]; omega
  have insL : ∀ (v : List Nat) (n : Nat), v.length ≤ 9 → (R.take n ++ [v] ++ R.drop n).length ≤ 9 ∧ ∀ x ∈ R.take n ++ [v] ++ R.drop n, x.length ≤ 9 := fun v n hv => by
    refine ⟨by simp; omega, fun x hx => ?_⟩
    rcases List.mem_append.mp hx with z | z
    · rcases List.mem_append.mp z with z | z
      · have := (Rx x (List.mem_of_mem_take z)).2; omega
      · rw [List.mem_singleton.mp z]; exact hv
    · have := (Rx x (List.mem_of_mem_drop z)).2; omega
  have dsl : (stD R).length = R.length := List.length_map ..
  refine b_cons (s_if (t_eqI (e_var 2) e_int) (fun z => ?_) (fun z0 => ?_))
  · replace z := of_decide_eq_true z
    refine b_cons (s_setI 5 (n := tY R c) rfl (e_var 3) (e_bor 5 rfl ((e_addS (i := sl ((R.getD (tY R c) []).take (tA R c) ++ [tS c])) (j := sl ((R.getD (tY R c) []).drop (tA R c))) ((e_addS (i := sl ((R.getD (tY R c) []).take (tA R c))) (j := sl [tS c]) (e_cutHiS (tA R c) (ixy rfl rfl) (e_var 4) (by omega) (by omega)) (e_var 6) (by rw [sl_len, sl_len]; simp only [List.length_append, List.length_take, List.length_drop, List.length_singleton]; omega)).cast (by rw [sl_app])) (e_cutLoS (tA R c) (ixy rfl rfl) (e_var 4) (by omega) (by omega)) (by rw [sl_len, sl_len]; simp only [List.length_append, List.length_take, List.length_drop, List.length_singleton]; omega)).cast (by rw [sl_app])) rfl) hk ?_)
    refine b_frz 5 rfl (b_nil (fin _ _ _ _ _ _ _ _ (stD_set R _ _) (by rw [List.length_set]; omega) (setL _ (Nat.le_refl _)) ?_))
    unfold tSpo spR
    rw [if_neg (by omega), if_neg (by omega), if_pos z]
  replace z0 := of_decide_eq_false z0
  refine b_cons (s_if (t_eqI (e_var 2) e_int) (fun z => ?_) (fun z1 => ?_))
  · replace z := of_decide_eq_true z
    refine b_cons (s_setI 5 (n := tY R c) rfl (e_var 3) (e_bor 5 rfl ((e_addS (i := sl ((R.getD (tY R c) []).take (tA R c) ++ [tS c])) (j := sl ((R.getD (tY R c) []).drop (tA R c + 1))) ((e_addS (i := sl ((R.getD (tY R c) []).take (tA R c))) (j := sl [tS c]) (e_cutHiS (tA R c) (ixy rfl rfl) (e_var 4) (by omega) (by omega)) (e_var 6) (by rw [sl_len, sl_len]; simp only [List.length_append, List.length_take, List.length_drop, List.length_singleton]; omega)).cast (by rw [sl_app])) (e_cutLoS (tA R c + 1) (ixy rfl rfl) ((e_add (i := ((tA R c : Nat) : Int)) (j := 1) (e_var 4) e_int).cast (congrArg D.int (by omega))) (by omega) (by omega)) (by rw [sl_len, sl_len]; simp only [List.length_append, List.length_take, List.length_drop, List.length_singleton]; omega)).cast (by rw [sl_app])) rfl) hk ?_)
    refine b_frz 5 rfl (b_nil (b_nil (fin _ _ _ _ _ _ _ _ (stD_set R _ _) (by rw [List.length_set]; omega) (setL _ (Nat.le_succ _)) ?_)))
    unfold tSpo spR
    rw [if_neg (by omega), if_neg (by omega), if_neg (by omega), if_pos z]
  replace z1 := of_decide_eq_false z1
  refine b_cons (s_if (t_eqI (e_var 2) e_int) (fun z => ?_) (fun z2 => ?_))
  · replace z := of_decide_eq_true z
    refine b_cons (s_ins 5 (i := ((tY R c : Nat) : Int)) rfl (e_var 3) (e_bor 5 rfl ((e_addS (i := sl (R.getD (tY R c) [])) (j := sl [48]) (ixy rfl rfl) e_str (by rw [sl_len, sl_len]; simp only [List.length_singleton]; omega)).cast (by rw [sl_app])) rfl) (by rw [dsl]; omega) (by omega) (by rw [dsl]; omega) ?_)
    obtain ⟨i1, i2⟩ := insL (R.getD (tY R c) [] ++ [48]) (tY R c) (by rw [List.length_append, List.length_singleton]; omega)
    refine b_frz 5 rfl (b_nil (b_nil (b_nil (fin _ _ _ _ _ _ _ _ (stD_ins R _ _) i1 i2 ?_))))
    unfold tSpo spR
    rw [if_neg (by omega), if_neg (by omega), if_neg (by omega), if_neg (by omega), if_pos z]
    rfl
  replace z2 := of_decide_eq_false z2
  refine b_cons (s_if (t_eqI (e_var 2) e_int) (fun z => ?_) (fun z3 => ?_))
  · replace z := of_decide_eq_true z
    refine b_cons (s_ins 5 (i := ((tY R c : Nat) : Int)) rfl (e_var 3) (e_bor 5 rfl (e_cutEndS (ixy rfl rfl) (e_neg e_int) r1 (by omega)) rfl) (by rw [dsl]; omega) (by omega) (by rw [dsl]; omega) ?_)
    obtain ⟨i1, i2⟩ := insL ((R.getD (tY R c) []).take ((R.getD (tY R c) []).length - 1)) (tY R c) (by rw [List.length_take]; omega)
    refine b_frz 5 rfl (b_nil (b_nil (b_nil (b_nil (fin _ _ _ _ _ _ _ _ (stD_ins R _ _) i1 i2 ?_)))))
    unfold tSpo spR
    rw [if_neg (by omega), if_neg (by omega), if_neg (by omega), if_neg (by omega), if_neg (by omega), if_pos z]
    rfl
  replace z3 := of_decide_eq_false z3
  refine b_cons (s_if (t_eqI (e_var 2) e_int) (fun z => ?_) (fun z4 => ?_))
  · replace z := of_decide_eq_true z
    have m0 : R.getD 0 [] ∈ R := by rw [getD_lt R _ _ Rl]; exact List.getElem_mem _
    refine b_frz 5 rfl ?_
    refine b_cons (s_own 5 (f_map (us := List.range 9) (fun _ : Nat => D.str (sl (R.getD 0 []))) (i_rngN e_int T.n_range (by decide)) (by decide) fun k hk => e_ixLM (l := R) (f := fun x => D.str (sl x)) (i := 0) [] (e_var 5) e_int (by omega) (by omega)) ?_)
    refine b_frz 5 rfl (b_nil (b_nil (b_nil (b_nil (b_nil (fin (List.replicate 9 (R.getD 0 [])) _ _ _ _ _ _ _ (by rfl) (by simp) (fun x hx => by rw [List.eq_of_mem_replicate hx]; have := (Rx _ m0).2; omega) ?_))))))
    unfold tSpo spR
    rw [if_neg (by omega), if_neg (by omega), if_neg (by omega), if_neg (by omega), if_neg (by omega), if_neg (by omega), if_pos z]
  replace z4 := of_decide_eq_false z4
  refine b_cons (s_if (t_eqI (e_var 2) e_int) (fun z => ?_) (fun z5 => ?_))
  · replace z := of_decide_eq_true z
    refine b_frz 5 rfl ?_
    refine b_cons (s_own 5 (f_map (us := R) (g := fun x => D.str (sl x)) (fun _ : List Nat => D.str (sl [49, 50, 51, 52, 53, 54, 55, 56, 57])) (i_lst (e_var 5)) (by omega) fun k hk => e_str) ?_)
    refine b_frz 5 rfl (b_nil (b_nil (b_nil (b_nil (b_nil (b_nil (fin (R.map fun _ => [49, 50, 51, 52, 53, 54, 55, 56, 57]) _ _ _ _ _ _ _ (by show _ = (R.map _).map _; rw [List.map_map]; rfl) (by rw [List.length_map]; omega) (fun x hx => by obtain ⟨_, _, rfl⟩ := List.mem_map.mp hx; decide) ?_)))))))
    unfold tSpo spR
    rw [if_neg (by omega), if_neg (by omega), if_neg (by omega), if_neg (by omega), if_neg (by omega), if_neg (by omega), if_neg (by omega), if_pos z]
  replace z5 := of_decide_eq_false z5
  refine b_cons (s_if (t_eqI (e_var 2) e_int) (fun z => ?_) (fun z6 => ?_))
  · replace z := of_decide_eq_true z
    refine b_frz 5 rfl ?_
    refine b_cons (s_ret ((e_join (sep := sl [10]) (ts := R.map sl) e_str ((e_var 5).cast (by rw [List.map_map]; rfl)) (join_ok (B := 8) (fun y hy => ?_) ?_)).cast (by rw [join_inter])) ?_)
    · obtain ⟨x, hx, rfl⟩ := List.mem_map.mp hy
      rw [sl_len]; exact (Rx x hx).2
    · rw [List.length_map, sl_len]; simp only [List.length_singleton]; omega
    · show _ = _
      unfold tSpo
      rw [if_pos z]
  replace z6 := of_decide_eq_false z6
  refine b_cons (s_if (t_eqI (e_var 2) e_int) (fun z => ?_) (fun z7 => ?_))
  · replace z := of_decide_eq_true z
    have w0 := Int.emod_nonneg (c / 9) (show ((R.length : Nat) : Int) + 1 ≠ 0 by omega)
    have w1 := Int.emod_lt_of_pos (c / 9) (show (0 : Int) < ((R.length : Nat) : Int) + 1 by omega)
    have wE : c / 9 % ((R.length : Int) + 1) = ((tZ R c : Nat) : Int) := by unfold tZ; omega
    refine b_cons (s_ins 5 (i := ((tZ R c : Nat) : Int)) (d := .str (sl [])) rfl ((e_mod (e_fdiv (e_var 1) e_int ⟨by decide, by decide⟩) (e_add (e_lenLM (l := R) (f := fun x => D.str (sl x)) (e_var 0) T.n_len) e_int) (by omega)).cast (congrArg D.int wE)) e_str (by rw [dsl]; omega) (by omega) (by rw [dsl]; omega) ?_)
    obtain ⟨i1, i2⟩ := insL [] (tZ R c) (by simp)
    refine b_frz 5 rfl (b_nil (b_nil (b_nil (b_nil (b_nil (b_nil (b_nil (b_nil (fin _ _ _ _ _ _ _ _ (stD_ins R _ _) i1 i2 ?_)))))))))
    unfold tSpo spR
    rw [if_neg (by omega), if_neg (by omega), if_neg (by omega), if_neg (by omega), if_neg (by omega), if_neg (by omega), if_neg (by omega), if_neg (by omega)]
    rfl
  replace z7 := of_decide_eq_false z7
  have o0 := Int.emod_nonneg (c / 9) (show (8 : Int) ≠ 0 by decide)
  have o1 := Int.emod_lt_of_pos (c / 9) (show (0 : Int) < 8 by decide)
  refine b_cons (s_ret (e_ixLM (l := oddT) (f := fun x => D.str (sl x)) (i := c / 9 % 8) [] (JE.cast (f_lst (ds := [.str (sl []), .str (sl [10]), .str (sl [10, 10]), .str (sl [48]), .str (sl [32, 10]), .str (sl [120, 10]), .str (sl [48, 10, 10]), .str (sl [48, 9, 10])]) (a_cons e_str (a_cons e_str (a_cons e_str (a_cons e_str (a_cons e_str (a_cons e_str (a_cons e_str (a_cons e_str a_nil))))))))).je rfl) (e_mod (e_fdiv (e_var 1) e_int ⟨by decide, by decide⟩) e_int (by decide)) o0 o1) ?_)
  show _ = _
  unfold tSpo
  rw [if_neg (by omega), if_pos (by omega)]
theorem law_ok {l : PySem.W.OpenLaw} {f : Addr} {fd : FuncData} (T : Txt K mg) (F : Fun K "law" "law" s_law f fd) : FnOk l.prog wd K mg base CX0 40 f fd ["script"] (spLaw K) := by
  refine fn_D F sc_law (fun _ _ => rfl) ?_
  rintro ns hns
  obtain ⟨cE, cN, cB, C⟩ := T.cl
  have cell : ∀ {Γ : List Sl} {p pos pc ps : Pos} {j : Nat} (i : Nat), Γ[0]? = some (.val (intsD ns)) → JE ⟨l.prog, wd, K, mg, base, 39, N_law, defScope s_law, true⟩ Γ (.Call (.Name "_law_cell_at" p) [.Name "script" ps, .Constant (.int (i : Nat)) j pc] [] pos) (.int (ns.getD i 0)) := fun i h =>
    e_fn (f_law_cell_at T) (ns, i) (a_cons (e_var 0 (hd := h)) (a_cons e_int a_nil)) trivial
  obtain ⟨w, hw, w0, w8⟩ := m8 (ns.getD 0 0) 8 (by decide)
  obtain ⟨h, hh, h0, h8⟩ := m8 (ns.getD 1 0) 8 (by decide)
  refine b_cons (s_set 1 ((e_add e_int (e_mod (cell 0 rfl) e_int (by decide))).cast (congrArg D.int hw)) ?_)
  refine b_cons (s_set 2 ((e_add e_int (e_mod (cell 1 rfl) e_int (by decide))).cast (congrArg D.int hh)) ?_)
  refine b_cons (s_set 3 (e_fn (f_law_board_by T) (ns.getD 2 0, w, h, (10 : Int)) (a_cons (cell 2 rfl) (a_cons (e_var 1) (a_cons (e_var 2) (a_cons e_int a_nil)))) ⟨by dsimp only; omega, by dsimp only; omega, by dsimp only; omega⟩) ?_)
  have q : BdIn w h (gen (ns.getD 2 0) ((10 : Nat) : Int) w h) := ⟨gen_rect _ _ _ _, by omega, by omega, by omega, by omega⟩
  have hc : ∀ r ∈ gen (ns.getD 2 0) ((10 : Nat) : Int) w h, Col r := gen_col (by decide) (by decide)
  dsimp only
  rw [show gen (ns.getD 2 0) (10 : Int) w h = gen (ns.getD 2 0) ((10 : Nat) : Int) w h from rfl]
  generalize gen (ns.getD 2 0) ((10 : Nat) : Int) w h = B at q hc
  have hl := q.r.len
  have ej : ∀ r : List Int, Str.join (sl []) (r.map fun c => sl [48 + c.toNat]) = sl (figL r) := fun r => by
    have := joinE (r.map fun c => [48 + c.toNat])
    rw [List.map_map] at this
    rw [show (r.map fun c => sl [48 + c.toNat]) = r.map (sl ∘ fun c : Int => [48 + c.toNat]) from rfl, this]
    congr 1
    clear this
    induction r with
    | nil => rfl
    | cons a r ih => simp [figL] at ih ⊢; exact ih
  refine b_cons (comp_stmt 4 (fun r : List Int => D.str (sl (figL r))) (fun _ => true) (i_tupM (e_var 3)) (Nat.le_trans (show B.length ≤ 1000 by omega) (by decide)) (fun _ _ => ifs_nil) (fun r hr _ => ?_) (b_frz 4 rfl ?_) (hsw := fun X o => sw_loc o (by first | decide +kernel | (with_unfolding_all rfl) | (dsimp only; decide +kernel))))
  · have hrl := q.r.row r hr
    refine (e_join (sep := sl []) (ts := r.map fun c => sl [48 + c.toNat]) e_str (JE.cast (f_map (fun c : Int => D.str (sl [48 + c.toNat])) (i_tupM (e_var 6)) (Nat.le_trans (show r.length ≤ 1000 by omega) (by decide)) fun c hm => ?_).je (by rw [List.map_map]; rfl)) (join_ok (B := 1) (fun y hy => ?_) ?_)).cast (by rw [ej])
    · exact e_ixS e_str (e_var 7) (fig_at (hc r hr c hm)) (by decide +kernel)
    · obtain ⟨c, _, rfl⟩ := List.mem_map.mp hy
      exact Nat.le_refl _
    · rw [List.length_map, sl_len]; simp; omega
  rw [show ((B.filter fun _ => true).map fun r : List Int => D.str (sl (figL r))) = stD (B.map figL) by rw [List.filter_eq_self.mpr fun _ _ => rfl]; show _ = (B.map figL).map _; rw [List.map_map]; rfl]
  refine b_cons (s_for 5 (us := List.range 6) (g := fun k : Nat => natD k) (i_rngN e_int T.n_range (by decide)) (fun k Γ' => ∃ x, Γ' = [.val (intsD ns), .val (natD w), .val (natD h), .val (bdD B), .val (.lst (stD (B.map figL))), x]) ⟨.no, rfl⟩ ?_ ?_)
  · rintro k u Γ' hk ⟨x, rfl⟩
    refine b_cons (s_if (q := false) (t_not (p := true) (t_val (e_fn (f_law_refused T C) (tSpo (B.map figL) (ns.getD (3 + u) 0)) (a_cons (e_fn (f_law_spoiled T) (B.map figL, ns.getD (3 + u) 0) (a_cons (e_var 4) (a_cons (e_fn (f_law_cell_at T) (ns, 3 + u) (a_cons (e_var 0) (a_cons ((e_add e_int (e_var 5)).cast (by show D.int (3 + (u : Int)) = D.int ((3 + u : Nat) : Int); rw [show ((3 + u : Nat) : Int) = 3 + (u : Int) by omega])) a_nil)) trivial) a_nil)) ⟨fun z => ?_, ?_, ?_⟩) a_nil) (tSpo_bad q w8 h8 hc _)))) (fun z => nomatch z) fun _ => b_nil (b_nil ⟨_, rfl⟩))
    · have := congrArg List.length z
      rw [List.length_map, hl] at this
      simp at this; omega
    · show (B.map figL).length ≤ 8
      rw [List.length_map, hl]; exact h8
    · rintro x hx
      obtain ⟨r, hr, rfl⟩ := List.mem_map.mp hx
      unfold figL
      rw [List.length_map, q.r.row r hr]
      omega
  · rintro Γ' ⟨x, rfl⟩
    exact b_cons (s_ret e_bl rfl)
end
end k16
namespace k16
open PySem L2 DL
theorem all_mk {l : PySem.W.OpenLaw} {w : World} {K : PySem.W.Frag} {h : Heap} {mg : Str → Option Value} {fa : Addr} (X : K.In h) (G : h.Ns mainGlobals mg) (hfa : mg "law" = some (.ref fa))
    {f1 f2 f3 f4 f5 f6 f7 f8 f9 f10 : Addr} {od1 od2 od3 od4 od5 od6 od7 od8 od9 od10 an1 an2 an3 an4 an5 an6 an7 an8 an9 an10 : Option Addr} {sl1 sl2 sl3 sl4 sl5 sl6 sl7 sl8 sl9 sl10 : Array (Option Value)} {oc1 oc2 oc3 oc4 oc5 oc6 oc7 oc8 oc9 oc10 kV1 kV2 kV3 kV4 kV5 kV6 kV7 kV8 kV9 kV10 dc1 dc2 dc3 dc4 dc5 dc6 dc7 dc8 dc9 dc10 pm1 pm2 pm3 pm4 pm5 pm6 pm7 pm8 pm9 pm10 cd1 cd2 cd3 cd4 cd5 cd6 cd7 cd8 cd9 cd10 ct1 ct2 ct3 ct4 ct5 ct6 ct7 ct8 ct9 ct10 : Value}
    (a1 : PySem.W.nsIn K mainGlobals "looked" = some (some (.ref f1))) (l1 : K.lookup f1 = some ⟨oc1, od1, .func (PySem.W.fnOf "looked" "looked" (defArgs s_looked) (defBody s_looked) (defScope s_looked) .none kV1 dc1 pm1 an1 cd1 ct1), sl1⟩) (c1 : PySem.W.codeIn K cd1 "looked" = true) (k1 : PySem.W.keepIn K (.ref f1) = true)
    (a2 : PySem.W.nsIn K mainGlobals "check_length" = some (some (.ref f2))) (l2 : K.lookup f2 = some ⟨oc2, od2, .func (PySem.W.fnOf "check_length" "check_length" (defArgs s_check_length) (defBody s_check_length) (defScope s_check_length) .none kV2 dc2 pm2 an2 cd2 ct2), sl2⟩) (c2 : PySem.W.codeIn K cd2 "check_length" = true) (k2 : PySem.W.keepIn K (.ref f2) = true)
    (a3 : PySem.W.nsIn K mainGlobals "check_row" = some (some (.ref f3))) (l3 : K.lookup f3 = some ⟨oc3, od3, .func (PySem.W.fnOf "check_row" "check_row" (defArgs s_check_row) (defBody s_check_row) (defScope s_check_row) .none kV3 dc3 pm3 an3 cd3 ct3), sl3⟩) (c3 : PySem.W.codeIn K cd3 "check_row" = true) (k3 : PySem.W.keepIn K (.ref f3) = true)
    (a4 : PySem.W.nsIn K mainGlobals "read" = some (some (.ref f4))) (l4 : K.lookup f4 = some ⟨oc4, od4, .func (PySem.W.fnOf "read" "read" (defArgs s_read) (defBody s_read) (defScope s_read) .none kV4 dc4 pm4 an4 cd4 ct4), sl4⟩) (c4 : PySem.W.codeIn K cd4 "read" = true) (k4 : PySem.W.keepIn K (.ref f4) = true)
    (a5 : PySem.W.nsIn K mainGlobals "row_read" = some (some (.ref f5))) (l5 : K.lookup f5 = some ⟨oc5, od5, .func (PySem.W.fnOf "row_read" "row_read" (defArgs s_row_read) (defBody s_row_read) (defScope s_row_read) .none kV5 dc5 pm5 an5 cd5 ct5), sl5⟩) (c5 : PySem.W.codeIn K cd5 "row_read" = true) (k5 : PySem.W.keepIn K (.ref f5) = true)
    (a6 : PySem.W.nsIn K mainGlobals "_law_cell_at" = some (some (.ref f6))) (l6 : K.lookup f6 = some ⟨oc6, od6, .func (PySem.W.fnOf "_law_cell_at" "_law_cell_at" (defArgs s_law_cell_at) (defBody s_law_cell_at) (defScope s_law_cell_at) .none kV6 dc6 pm6 an6 cd6 ct6), sl6⟩) (c6 : PySem.W.codeIn K cd6 "_law_cell_at" = true) (k6 : PySem.W.keepIn K (.ref f6) = true)
    (a7 : PySem.W.nsIn K mainGlobals "_law_board_by" = some (some (.ref f7))) (l7 : K.lookup f7 = some ⟨oc7, od7, .func (PySem.W.fnOf "_law_board_by" "_law_board_by" (defArgs s_law_board_by) (defBody s_law_board_by) (defScope s_law_board_by) .none kV7 dc7 pm7 an7 cd7 ct7), sl7⟩) (c7 : PySem.W.codeIn K cd7 "_law_board_by" = true) (k7 : PySem.W.keepIn K (.ref f7) = true)
    (a8 : PySem.W.nsIn K mainGlobals "_law_refused" = some (some (.ref f8))) (l8 : K.lookup f8 = some ⟨oc8, od8, .func (PySem.W.fnOf "_law_refused" "_law_refused" (defArgs s_law_refused) (defBody s_law_refused) (defScope s_law_refused) .none kV8 dc8 pm8 an8 cd8 ct8), sl8⟩) (c8 : PySem.W.codeIn K cd8 "_law_refused" = true) (k8 : PySem.W.keepIn K (.ref f8) = true)
    (a9 : PySem.W.nsIn K mainGlobals "_law_spoiled" = some (some (.ref f9))) (l9 : K.lookup f9 = some ⟨oc9, od9, .func (PySem.W.fnOf "_law_spoiled" "_law_spoiled" (defArgs s_law_spoiled) (defBody s_law_spoiled) (defScope s_law_spoiled) .none kV9 dc9 pm9 an9 cd9 ct9), sl9⟩) (c9 : PySem.W.codeIn K cd9 "_law_spoiled" = true) (k9 : PySem.W.keepIn K (.ref f9) = true)
    (a10 : PySem.W.nsIn K mainGlobals "law" = some (some (.ref f10))) (l10 : K.lookup f10 = some ⟨oc10, od10, .func (PySem.W.fnOf "law" "law" (defArgs s_law) (defBody s_law) (defScope s_law) .none kV10 dc10 pm10 an10 cd10 ct10), sl10⟩) (c10 : PySem.W.codeIn K cd10 "law" = true) (k10 : PySem.W.keepIn K (.ref f10) = true)
    (z1 : PySem.W.nsIn K mainGlobals "ValueError" = some none)
    (z2 : PySem.W.nsIn K mainGlobals "int" = some none)
    (z3 : PySem.W.nsIn K mainGlobals "isinstance" = some none)
    (z4 : PySem.W.nsIn K mainGlobals "len" = some none)
    (z5 : PySem.W.nsIn K mainGlobals "list" = some none)
    (z6 : PySem.W.nsIn K mainGlobals "range" = some none)
    (z7 : PySem.W.nsIn K mainGlobals "tuple" = some none)
    {t1 : Tok} (q1 : PySem.W.nsIn K mainGlobals "LONGEST" = some (some (.int 8 t1)))
    {t2 : Tok} (q2 : PySem.W.nsIn K mainGlobals "LAST_COLOUR" = some (some (.int 9 t2)))
    {t3 : Tok} (q3 : PySem.W.nsIn K mainGlobals "FIGURES" = some (some (.str (Str.ofString "0123456789") t3)))
    {c_KinError c_NoBoard c_BadNote : Addr}
    (y_m_KinError : PySem.W.nsIn K mainGlobals "KinError" = some (some (.ref c_KinError)))
    (y_m_NoBoard : PySem.W.nsIn K mainGlobals "NoBoard" = some (some (.ref c_NoBoard)))
    (y_m_BadNote : PySem.W.nsIn K mainGlobals "BadNote" = some (some (.ref c_BadNote)))
    (y_x1_NoBoard : PySem.W.excIn K c_NoBoard bmV "ValueError.__new__" = true)
    (y_x2_NoBoard : PySem.W.findIn K (.ref c_NoBoard) "__class__" = some (some (.builtin "object.__class__")))
    (y_x3_NoBoard : PySem.W.findIn K (.ref c_NoBoard) "__getattribute__" = some (some (.builtin "BaseException.__getattribute__")))
    (y_x4_NoBoard : PySem.W.findIn K (.ref c_NoBoard) "__getattr__" = some none)
    (y_x1_BadNote : PySem.W.excIn K c_BadNote bmV "ValueError.__new__" = true)
    (y_x2_BadNote : PySem.W.findIn K (.ref c_BadNote) "__class__" = some (some (.builtin "object.__class__")))
    (y_x3_BadNote : PySem.W.findIn K (.ref c_BadNote) "__getattribute__" = some (some (.builtin "BaseException.__getattribute__")))
    (y_x4_BadNote : PySem.W.findIn K (.ref c_BadNote) "__getattr__" = some none)
    (y_s_NoBoard : PySem.W.subIn K (.ref c_NoBoard) (.ref c_KinError) = some true)
    (y_w_NoBoard : PySem.W.subIn K (.ref c_NoBoard) (.ref c_NoBoard) = some true)
    (y_v_NoBoard : PySem.W.kitOne K (.ref c_NoBoard) (.type "ValueError") = some true)
    (y_k_NoBoard_NoBoard : PySem.W.kitOne K (.ref c_NoBoard) (.ref c_NoBoard) = some true)
    (y_k_NoBoard_BadNote : PySem.W.kitOne K (.ref c_NoBoard) (.ref c_BadNote) = some false)
    (y_s_BadNote : PySem.W.subIn K (.ref c_BadNote) (.ref c_KinError) = some true)
    (y_w_BadNote : PySem.W.subIn K (.ref c_BadNote) (.ref c_BadNote) = some true)
    (y_v_BadNote : PySem.W.kitOne K (.ref c_BadNote) (.type "ValueError") = some true)
    (y_k_BadNote_NoBoard : PySem.W.kitOne K (.ref c_BadNote) (.ref c_NoBoard) = some false)
    (y_k_BadNote_BadNote : PySem.W.kitOne K (.ref c_BadNote) (.ref c_BadNote) = some true)
    (y_e_KinError : PySem.W.excIn K c_KinError bmV "ValueError.__new__" = true)
    : ∃ fd : FuncData, (∀ (s : Shared) (v : Value), BindsTo s fd ⟨[v], []⟩ [("script", v)]) ∧ ∀ base : Heap, K.In base → base.Ns mainGlobals mg → FnOk l.prog w K mg base CX0 40 fa fd ["script"] (spLaw K) := by
  have e := hfa.symm.trans (PySem.W.mg_of X G a10)
  cases e
  have F1 := fun_mk (st := s_looked) l1 c1 k1
  have b1 := F1.binds (ps := ["board"]) fun _ _ _ _ _ _ us hl => match us, hl with | [_], _ => rfl
  have F2 := fun_mk (st := s_check_length) l2 c2 k2
  have b2 := F2.binds (ps := ["length", "what"]) fun _ _ _ _ _ _ us hl => match us, hl with | [_, _], _ => rfl
  have F3 := fun_mk (st := s_check_row) l3 c3 k3
  have b3 := F3.binds (ps := ["row", "width"]) fun _ _ _ _ _ _ us hl => match us, hl with | [_, _], _ => rfl
  have F4 := fun_mk (st := s_read) l4 c4 k4
  have b4 := F4.binds (ps := ["text"]) fun _ _ _ _ _ _ us hl => match us, hl with | [_], _ => rfl
  have F5 := fun_mk (st := s_row_read) l5 c5 k5
  have b5 := F5.binds (ps := ["row"]) fun _ _ _ _ _ _ us hl => match us, hl with | [_], _ => rfl
  have F6 := fun_mk (st := s_law_cell_at) l6 c6 k6
  have b6 := F6.binds (ps := ["script", "k"]) fun _ _ _ _ _ _ us hl => match us, hl with | [_, _], _ => rfl
  have F7 := fun_mk (st := s_law_board_by) l7 c7 k7
  have b7 := F7.binds (ps := ["cell", "width", "height", "colours"]) fun _ _ _ _ _ _ us hl => match us, hl with | [_, _, _, _], _ => rfl
  have F8 := fun_mk (st := s_law_refused) l8 c8 k8
  have b8 := F8.binds (ps := ["text"]) fun _ _ _ _ _ _ us hl => match us, hl with | [_], _ => rfl
  have F9 := fun_mk (st := s_law_spoiled) l9 c9 k9
  have b9 := F9.binds (ps := ["rows", "cell"]) fun _ _ _ _ _ _ us hl => match us, hl with | [_, _], _ => rfl
  have F10 := fun_mk (st := s_law) l10 c10 k10
  have b10 := F10.binds (ps := ["script"]) fun _ _ _ _ _ _ us hl => match us, hl with | [_], _ => rfl
  have T : Txt K mg := ⟨⟨_, _, F1, b1, PySem.W.mg_of X G a1⟩, ⟨_, _, F2, b2, PySem.W.mg_of X G a2⟩, ⟨_, _, F3, b3, PySem.W.mg_of X G a3⟩, ⟨_, _, F4, b4, PySem.W.mg_of X G a4⟩, ⟨_, _, F5, b5, PySem.W.mg_of X G a5⟩, ⟨_, _, F6, b6, PySem.W.mg_of X G a6⟩, ⟨_, _, F7, b7, PySem.W.mg_of X G a7⟩, ⟨_, _, F8, b8, PySem.W.mg_of X G a8⟩, ⟨_, _, F9, b9, PySem.W.mg_of X G a9⟩, ⟨_, _, F10, b10, PySem.W.mg_of X G a10⟩, PySem.W.mg_none_of X G z1, PySem.W.mg_none_of X G z2, PySem.W.mg_none_of X G z3, PySem.W.mg_none_of X G z4, PySem.W.mg_none_of X G z5, PySem.W.mg_none_of X G z6, PySem.W.mg_none_of X G z7, ⟨t1, PySem.W.mg_of X G q1⟩, ⟨t2, PySem.W.mg_of X G q2⟩, ⟨t3, PySem.W.mg_of X G q3⟩, ⟨c_KinError, c_NoBoard, c_BadNote, PySem.W.mg_of X G y_m_KinError, PySem.W.mg_of X G y_m_NoBoard, PySem.W.mg_of X G y_m_BadNote, ⟨y_x1_NoBoard, y_x2_NoBoard, y_x3_NoBoard, y_x4_NoBoard⟩, y_s_NoBoard, y_w_NoBoard, y_v_NoBoard, y_k_NoBoard_NoBoard, y_k_NoBoard_BadNote, ⟨y_x1_BadNote, y_x2_BadNote, y_x3_BadNote, y_x4_BadNote⟩, y_s_BadNote, y_w_BadNote, y_v_BadNote, y_k_BadNote_NoBoard, y_k_BadNote_BadNote, y_e_KinError⟩⟩
  refine ⟨PySem.W.fnOf "law" "law" (defArgs s_law) (defBody s_law) (defScope s_law) .none kV10 dc10 pm10 an10 cd10 ct10, fun s v => .of_eq rfl, fun base _ _ => ?_⟩
  exact law_ok T F10
end k16
open PySem PySem.W PyProof.Rows
set_option maxRecDepth 100000 in
set_option maxHeartbeats 0 in
theorem PySem.Challenge.cw_boardkin_k16_texts_refused_holds : PySem.Challenge.rw_boardkin_k16_texts_refused.Holds := by
  w_on; o_law; k_head; (case hw => w_witness2)
  k_fill
  refine DL.walk (l := PySem.Challenge.rw_boardkin_k16_texts_refused) rfl rfl (fun w h Y => PySem.W.kIn_of Y) ?F
  case F =>
    intro w mg fa h KX G hmg
    refine' k16.all_mk KX G hmg ?a1 ?l1 ?c1 ?k1 ?a2 ?l2 ?c2 ?k2 ?a3 ?l3 ?c3 ?k3 ?a4 ?l4 ?c4 ?k4 ?a5 ?l5 ?c5 ?k5 ?a6 ?l6 ?c6 ?k6 ?a7 ?l7 ?c7 ?k7 ?a8 ?l8 ?c8 ?k8 ?a9 ?l9 ?c9 ?k9 ?a10 ?l10 ?c10 ?k10 ?z1 ?z2 ?z3 ?z4 ?z5 ?z6 ?z7 ?q1 ?q2 ?q3 ?y_m_KinError ?y_m_NoBoard ?y_m_BadNote ?y_x1_NoBoard ?y_x2_NoBoard ?y_x3_NoBoard ?y_x4_NoBoard ?y_x1_BadNote ?y_x2_BadNote ?y_x3_BadNote ?y_x4_BadNote ?y_s_NoBoard ?y_w_NoBoard ?y_v_NoBoard ?y_k_NoBoard_NoBoard ?y_k_NoBoard_BadNote ?y_s_BadNote ?y_w_BadNote ?y_v_BadNote ?y_k_BadNote_NoBoard ?y_k_BadNote_BadNote ?y_e_KinError
    (case a1 => k_is)
    (case l1 => k_is)
    (case c1 => k_is)
    (case k1 => k_is)
    (case a2 => k_is)
    (case l2 => k_is)
    (case c2 => k_is)
    (case k2 => k_is)
    (case a3 => k_is)
    (case l3 => k_is)
    (case c3 => k_is)
    (case k3 => k_is)
    (case a4 => k_is)
    (case l4 => k_is)
    (case c4 => k_is)
    (case k4 => k_is)
    (case a5 => k_is)
    (case l5 => k_is)
    (case c5 => k_is)
    (case k5 => k_is)
    (case a6 => k_is)
    (case l6 => k_is)
    (case c6 => k_is)
    (case k6 => k_is)
    (case a7 => k_is)
    (case l7 => k_is)
    (case c7 => k_is)
    (case k7 => k_is)
    (case a8 => k_is)
    (case l8 => k_is)
    (case c8 => k_is)
    (case k8 => k_is)
    (case a9 => k_is)
    (case l9 => k_is)
    (case c9 => k_is)
    (case k9 => k_is)
    (case a10 => k_is)
    (case l10 => k_is)
    (case c10 => k_is)
    (case k10 => k_is)
    (case z1 => k_is)
    (case z2 => k_is)
    (case z3 => k_is)
    (case z4 => k_is)
    (case z5 => k_is)
    (case z6 => k_is)
    (case z7 => k_is)
    (case q1 => k_is)
    (case q2 => k_is)
    (case q3 => k_is)
    (case y_m_KinError => k_is)
    (case y_m_NoBoard => k_is)
    (case y_m_BadNote => k_is)
    (case y_x1_NoBoard => k_exc)
    (case y_x2_NoBoard => k_is)
    (case y_x3_NoBoard => k_is)
    (case y_x4_NoBoard => k_is)
    (case y_x1_BadNote => k_exc)
    (case y_x2_BadNote => k_is)
    (case y_x3_BadNote => k_is)
    (case y_x4_BadNote => k_is)
    (case y_s_NoBoard => k_is)
    (case y_w_NoBoard => k_is)
    (case y_v_NoBoard => kit_is)
    (case y_k_NoBoard_NoBoard => kit_is)
    (case y_k_NoBoard_BadNote => kit_is)
    (case y_s_BadNote => k_is)
    (case y_w_BadNote => k_is)
    (case y_v_BadNote => kit_is)
    (case y_k_BadNote_NoBoard => kit_is)
    (case y_k_BadNote_BadNote => kit_is)
    (case y_e_KinError => k_exc)
end
