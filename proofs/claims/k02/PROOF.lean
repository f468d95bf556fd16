import PyProof.Rows.All
import Wide.All
import OpenK.AllK
import Wide.FinOn
import Lean
import PyProof.EqAt
import PyProof.EqKinds
import PyProof.TupleCall
import PyProof.NeKinds
import PyProof.StrWalks
import PyProof.StrCalls2
import KE.KIntText
import PyProof.StrLawsChain
import PyProof.StrLawsTight
import PyProof.RulesTry
import PyProof.ListRange
import PyProof.Rows.Range3
import PyProof.Rows.SortWalk
import PyProof.SumAny
import PyProof.Rows.SumGenD
import PyProof.AutoSeq1
import PyProof.Rows.All
import Wide.All
import OpenK.AllK
import Wide.FinOn
import PyProof.EqAt
import PyProof.EqKinds
import PyProof.TupleCall
import PyProof.Rows.CatchOwn
import OpenK.KRaise
import PyProof.FString
import PyProof.ExcBaseAll.ValueError
import PyProof.FString4
import PyProof.ReprRoads
import PyProof.Rows.RegStrFacts
import KE.KIsAll
import PyProof.ExcAttrAll.ValueError
import PyProof.NsDelKeeps
import KE.RegKIsAll
import OpenK.ZGo
import PySem.Challenge.RW_boardkin_k02_kinds_of_kinship
set_option compiler.extract_closed false
set_option bootstrap.genMatcherCode false
set_option genSizeOfSpec false
noncomputable section
set_option Elab.async false
set_option linter.all false
set_option maxRecDepth 100000

namespace Internal.L2
open PySem PySem.Spec PyProof.Rows

noncomputable abbrev Key := Sum Int Str
noncomputable def keyIs : Key → Value → Bool
  | .inl k, v => Value.isInt k v
  | .inr x, v => Value.isStrOf x v
noncomputable def keyH (w : World) : Key → Int
  | .inl k => hashInt k
  | .inr x => hashStr w x
theorem keyIs_shape : ∀ {k : Key} {v : Value}, keyIs k v = true → (∃ i t, k = Sum.inl i ∧ v = Value.int i t) ∨ (∃ x t, k = Sum.inr x ∧ v = Value.str x t)
  | .inl i, v, h => by
    obtain ⟨t, e⟩ := Value.isInt_shape (k := i) (v := v) h
    exact .inl ⟨i, t, rfl, e⟩
  | .inr x, v, h => by
    obtain ⟨t, e⟩ := Value.isStrOf_shape (x := x) (v := v) h
    exact .inr ⟨x, t, rfl, e⟩
theorem key_ll (a b : Int) : decide ((Sum.inl a : Key) = Sum.inl b) = (a == b) := by
  by_cases e : a = b
  · subst e; simp
  · have h : ¬ (Sum.inl a : Key) = Sum.inl b := fun q => e (Sum.inl.inj q)
    rw [decide_eq_false h]
    exact (beq_eq_false_iff_ne.mpr e).symm
theorem key_rr (a b : Str) : decide ((Sum.inr a : Key) = Sum.inr b) = decide (a = b) := by
  by_cases e : a = b
  · subst e; simp
  · have h : ¬ (Sum.inr a : Key) = Sum.inr b := fun q => e (Sum.inr.inj q)
    rw [decide_eq_false h, decide_eq_false e]
theorem key_lr (a : Int) (b : Str) : decide ((Sum.inl a : Key) = Sum.inr b) = false := decide_eq_false (fun q => nomatch q)
theorem key_rl (a : Str) (b : Int) : decide ((Sum.inr a : Key) = Sum.inl b) = false := decide_eq_false (fun q => nomatch q)

noncomputable def mixKind (prog : Program) (w : World) : PySem.KeyKind prog w Key where
  is := keyIs
  hash := keyH w
  inj := fun v a b ha hb => by
    rcases keyIs_shape ha with ⟨i, t, rfl, rfl⟩ | ⟨x, t, rfl, rfl⟩
    · rcases keyIs_shape hb with ⟨j, u, rfl, e⟩ | ⟨y, u, rfl, e⟩
      · injection e with e1 _; rw [e1]
      · exact nomatch e
    · rcases keyIs_shape hb with ⟨j, u, rfl, e⟩ | ⟨y, u, rfl, e⟩
      · exact nomatch e
      · injection e with e1 _; rw [e1]
  byValue := fun k v h => by
    rcases keyIs_shape h with ⟨i, t, rfl, rfl⟩ | ⟨x, t, rfl, rfl⟩ <;> rfl
  pyHash := fun hv h => by
    rcases keyIs_shape hv with ⟨i, t, rfl, rfl⟩ | ⟨x, t, rfl, rfl⟩
    · exact wpAny_pyHash_int h
    · exact wpAny_pyHash_str h
  eqBool := fun hu hv h => by
    rcases keyIs_shape hu with ⟨i, t, rfl, rfl⟩ | ⟨x, t, rfl, rfl⟩
    · rcases keyIs_shape hv with ⟨j, u, rfl, rfl⟩ | ⟨y, u, rfl, rfl⟩
      · rw [key_ll] at h; exact wpAny_eqBool_int h
      · rw [key_lr] at h; exact SeqAt.EqAt.int_str i t y u _ _ _ _ h
    · rcases keyIs_shape hv with ⟨j, u, rfl, rfl⟩ | ⟨y, u, rfl, rfl⟩
      · rw [key_rl] at h; exact SeqAt.EqAt.str_int x t j u _ _ _ _ h
      · rw [key_rr] at h; exact wpAny_eqBool_str h
  «strs» := fun k x t v h => by
    rcases keyIs_shape h with ⟨i, u, rfl, e⟩ | ⟨y, u, rfl, e⟩
    · exact nomatch e
    · injection e with e1 _
      subst e1
      cases v <;> rfl

end Internal.L2

namespace Internal.L2
open PySem PySem.Spec PyProof.Rows

inductive V where
  | non | bl (b : Bool) | int (i : Int) | str (x : Str) | byt (b : Array UInt8) | flt (b : UInt64) | ref (a : Addr) | ty (n : String)
  deriving DecidableEq

noncomputable def RelV : V → Value → Prop
  | .non, u => u = Value.none
  | .bl b, u => u = Value.bool b
  | .int i, u => ∃ t, u = Value.int i t
  | .str x, u => ∃ t, u = Value.str x t
  | .byt b, u => ∃ t, u = Value.bytes b t
  | .flt b, u => ∃ t, u = Value.float b t
  | .ref a, u => u = Value.ref a
  | .ty n, u => u = Value.type n

noncomputable abbrev Vals : List V → List Value → Prop := Paired RelV
theorem Vals.length {xs : List V} {us : List Value} (r : Vals xs us) : xs.length = us.length := Paired.length r
theorem Vals.get : ∀ {xs : List V} {us : List Value} {i : Nat} {x : V}, Vals xs us → xs[i]? = some x → ∃ u, us[i]? = some u ∧ RelV x u
  | _, _, _, _, .nil, e => by simp at e
  | _, _, 0, _, .cons r _, e => by simp at e; subst e; exact ⟨_, rfl, r⟩
  | _, _, i + 1, x, .cons _ t, e => by
    obtain ⟨u, h1, h2⟩ := Vals.get (i := i) (x := x) t (by simpa using e)
    exact ⟨u, by simpa using h1, h2⟩
theorem Vals.append : ∀ {xs ys : List V} {us ws : List Value}, Vals xs us → Vals ys ws → Vals (xs ++ ys) (us ++ ws)
  | _, _, _, _, .nil, s => s
  | _, _, _, _, .cons r t, s => .cons r (Vals.append t s)
noncomputable def RelO : Option V → Option Value → Prop
  | some v, some u => RelV v u
  | none, none => True
  | _, _ => False
noncomputable def KV {κ : Type} : List (κ × V) → List (κ × Value) → Prop := Paired fun (p : κ × V) (q : κ × Value) => p.1 = q.1 ∧ RelV p.2 q.2

noncomputable def kV : Key → V
  | .inl i => .int i
  | .inr x => .str x

inductive HO where
  
  | lst (xs : List V)
  
  | tup (xs : List V)
  
  | dK (kvs : List (Key × V)) | dT (kvs : List (List Key × V))
  
  | set (S : Int → Bool) (n : Nat)
  
  | ins (C dx : Addr) (fs : List (Str × V))
  
  | own (x : Addr)
  
  | xd (fs : List (Str × V))
  
  | met (f x : Addr)
  
  | rng (lo hi : Int)
  
  | frz (o : Obj) (u : HO)
  
  | tbl (ps : Array Value)
  
  | ext (φ : Heap → Prop)

noncomputable abbrev Hp := Addr → Option HO
noncomputable def upd (H : Hp) (a : Addr) (o : HO) : Hp := fun b => if b = a then some o else H b
theorem upd_same {H : Hp} {a : Addr} {o : HO} : upd H a o a = some o := by unfold upd; rw [if_pos rfl]
theorem upd_ne {H : Hp} {a b : Addr} {o : HO} (h : b ≠ a) : upd H a o b = H b := by unfold upd; rw [if_neg h]
theorem ne_of_none {H : Hp} {a b : Addr} {o : HO} (h : H a = some o) (h' : H b = none) : a ≠ b := by
  intro e; subst e; rw [h] at h'; cases h'

section
variable (P : Program) (w : World)
noncomputable def ObjOk (H : Hp) (h : Heap) (a : Addr) : HO → Prop
  | .lst xs => xs.length ≤ sizeLine ∧ ∃ (its : List Value) (n : Nat), Vals xs its ∧ h.get? a = some { cls := .type "list", data := .seq its.toArray n }
  | .tup xs => xs.length ≤ sizeLine ∧ ∃ its : List Value, Vals xs its ∧ IsTup h a its.toArray
  | .dK kvs => kvs.length ≤ sizeLine ∧ (a == sysModules) = false ∧ ∃ vs, KV kvs vs ∧ h.DictOf (mixKind P w) a vs
  | .dT kvs => kvs.length ≤ sizeLine ∧ (a == sysModules) = false ∧ ∃ xs : List (List Key × Addr × Value),
      Paired (fun (p : List Key × V) (q : List Key × Addr × Value) => p.1 = q.1 ∧ H q.2.1 = some (.tup (p.1.map kV)) ∧ RelV p.2 q.2.2) kvs xs ∧
      ∃ o es ep, h.get? a = some o ∧ o.ExactDict ∧ o.data = .dict es ep ∧ es.toList = xs.map (entryOfKey (tupleKind (mixKind P w))) ∧ (xs.map (·.1)).Nodup
  | .set S n => h.SetOf (intKind P w) a S n
  | .ins C dx fs => H dx = some (.own a) ∧ fs.length ≤ 1000 ∧ dx ≠ a ∧ h.get? a = some (PySem.W.instObj C dx) ∧
      ∃ mA, h.Ns1 dx mA ∧ (∀ f, RelO (fs.lookup f) (mA f)) ∧ PySem.Within mA (fs.map (·.1))
  | .own _ => ∃ o, h.get? a = some o
  | .xd fs => ∃ mA, h.Ns1 a mA ∧ ∀ f, RelO (fs.lookup f) (mA f)
  | .rng lo hi => ∃ t u v, h.get? a = some { cls := .type "range", data := .fields #[.int lo t, .int hi u, .int 1 v] }
  | .frz o u => h.get? a = some o ∧ ObjOk H h a u
  | .tbl ps => h.get? a = some { cls := .none, data := .fields ps }
  | .met f x => h.get? a = some (PySem.W.methodObj (.ref f) (.ref x))
  | .ext φ => φ h ∧ (∃ o, h.get? a = some o) ∧ ∀ h1 h2 : Heap, φ h1 → (∀ o, h1.get? a = some o → h2.get? a = some o) → φ h2

noncomputable def HOk (H : Hp) (h : Heap) : Prop := ∀ a o, H a = some o → ObjOk P w H h a o
end

section
variable {P : Program} {w : World} {H H' : Hp} {h h' : Heap} {a : Addr} {o : HO}
theorem ObjOk.lt (x : ObjOk P w H h a o) : a < h.objs.size := by
  cases o with
  | lst xs => obtain ⟨_, _, _, _, e⟩ := x; exact Heap.lt_size e
  | tup xs => obtain ⟨_, _, _, p⟩ := x; exact p.lt
  | dK kvs => obtain ⟨_, _, _, _, o, _, _, e, _⟩ := x; exact Heap.lt_size e
  | dT kvs => obtain ⟨_, _, _, _, o, _, _, e, _⟩ := x; exact Heap.lt_size e
  | set S n => obtain ⟨o, _, _, _, e, _⟩ := x; exact Heap.lt_size e
  | ins C dx fs => obtain ⟨_, _, _, e, _⟩ := x; exact Heap.lt_size e
  | own y => obtain ⟨_, e⟩ := x; exact Heap.lt_size e
  | xd fs => obtain ⟨_, ⟨_, _, _, e, _⟩, _⟩ := x; exact Heap.lt_size e
  | rng lo hi => obtain ⟨_, _, _, e⟩ := x; exact Heap.lt_size e
  | frz ob u => obtain ⟨e, _⟩ := x; exact Heap.lt_size e
  | tbl ps => exact Heap.lt_size (show h.get? a = some _ from x)
  | met f y => exact Heap.lt_size (show h.get? a = some _ from x)
  | ext φ => obtain ⟨_, ⟨_, e⟩, _⟩ := x; exact Heap.lt_size e
theorem Paired.mapP {α β : Type} {F G : α → β → Prop} : ∀ {l₁ : List α} {l₂ : List β}, Paired F l₁ l₂ → (∀ a b, F a b → G a b) → Paired G l₁ l₂
  | _, _, .nil, _ => .nil
  | _, _, .cons r t, f => .cons (f _ _ r) (Paired.mapP t f)

theorem ObjOk.stay (x : ObjOk P w H h a o) (k : ∀ b u, (b = a ∨ H b = some (.own a)) → h.get? b = some u → h'.get? b = some u)
    (ho : ∀ b, H b = some (.own a) → H' b = some (.own a)) (ht : ∀ b xs, H b = some (.tup xs) → H' b = some (.tup xs)) : ObjOk P w H' h' a o := by
  induction o with
  | lst xs => obtain ⟨z, its, n, r, e⟩ := x; exact ⟨z, its, n, r, k _ _ (.inl rfl) e⟩
  | tup xs => obtain ⟨z, its, r, ob, e, c⟩ := x; exact ⟨z, its, r, ob, k _ _ (.inl rfl) e, c⟩
  | dK kvs => obtain ⟨z, y, vs, r, ob, es, ep, e, c⟩ := x; exact ⟨z, y, vs, r, ob, es, ep, k _ _ (.inl rfl) e, c⟩
  | dT kvs =>
    obtain ⟨z, y, xs, r, ob, es, ep, e, c⟩ := x
    exact ⟨z, y, xs, Paired.mapP r fun p q z => ⟨z.1, ht _ _ z.2.1, z.2.2⟩, ob, es, ep, k _ _ (.inl rfl) e, c⟩
  | set S n => obtain ⟨ob, es, ep, t, e, c⟩ := x; exact ⟨ob, es, ep, t, k _ _ (.inl rfl) e, c⟩
  | ins C dx fs =>
    obtain ⟨d, z, ne, e, mA, ⟨od, es, ep, e2, c⟩, r⟩ := x
    exact ⟨ho _ d, z, ne, k _ _ (.inl rfl) e, mA, ⟨od, es, ep, k _ _ (.inr d) e2, c⟩, r⟩
  | own y => obtain ⟨ob, e⟩ := x; exact ⟨ob, k _ _ (.inl rfl) e⟩
  | xd fs => obtain ⟨mA, ⟨od, es, ep, e, c⟩, r⟩ := x; exact ⟨mA, ⟨od, es, ep, k _ _ (.inl rfl) e, c⟩, r⟩
  | rng lo hi => obtain ⟨t, u, v, e⟩ := x; exact ⟨t, u, v, k _ _ (.inl rfl) e⟩
  | frz ob u ih => obtain ⟨e, q⟩ := x; exact ⟨k _ _ (.inl rfl) e, ih q⟩
  | tbl ps =>
    have e : h.get? a = some { cls := .none, data := .fields ps } := x
    show h'.get? a = some { cls := .none, data := .fields ps }
    exact k a _ (.inl rfl) e
  | met f y =>
    have e : h.get? a = some (PySem.W.methodObj (.ref f) (.ref y)) := x
    show h'.get? a = some (PySem.W.methodObj (.ref f) (.ref y))
    exact k a _ (.inl rfl) e
  | ext φ => obtain ⟨p, ⟨o, e⟩, st⟩ := x; exact ⟨st _ _ p fun o q => k _ _ (.inl rfl) q, ⟨o, k _ _ (.inl rfl) e⟩, st⟩
theorem HOk.lt (x : HOk P w H h) (e : H a = some o) : a < h.objs.size := (x a o e).lt
theorem HOk.fresh (x : HOk P w H h) (e : h.objs.size ≤ a) : H a = none := by
  cases q : H a with
  | none => rfl
  | some u => exact absurd (Nat.lt_of_lt_of_le (x.lt q) e) (Nat.lt_irrefl _)

theorem HOk.kept (x : HOk P w H h) (k : ∀ b u, h.get? b = some u → h'.get? b = some u) : HOk P w H h' := fun a o e =>
  (x a o e).stay (fun b u _ q => k b u q) (fun _ q => q) fun _ _ q => q

theorem HOk.laid (x : HOk P w H h) (k : ∀ b u, h.get? b = some u → h'.get? b = some u) (hp : h.objs.size ≤ a) (new : ObjOk P w (upd H a o) h' a o) : HOk P w (upd H a o) h' := fun b u e => by
  have hn := x.fresh hp
  by_cases hb : b = a
  · subst hb; rw [upd_same] at e; cases e; exact new
  · rw [upd_ne hb] at e
    exact (x b u e).stay (fun c v _ q => k c v q) (fun c q => by rw [upd_ne (ne_of_none q hn)]; exact q) fun c xs q => by rw [upd_ne (ne_of_none q hn)]; exact q
end

noncomputable def Rd (H : Hp) (a : Addr) (u : HO) : Prop := H a = some u ∨ ∃ o, H a = some (.frz o u)
theorem Rd.ok {P : Program} {w : World} {H : Hp} {h : Heap} {a : Addr} {u : HO} (r : Rd H a u) (x : HOk P w H h) : ObjOk P w H h a u := by
  rcases r with r | ⟨o, r⟩
  · exact x a u r
  · obtain ⟨_, q⟩ := x a _ r
    exact q

noncomputable def Mut : Option HO → Prop
  | some (.lst _) => True
  | some (.dK _) => True
  | some (.dT _) => True
  | some (.set _ _) => True
  | some (.ins _ _ _) => True
  | some (.ext _) => True
  | _ => False
section
variable {P : Program} {w : World} {H : Hp} {h h' : Heap} {x e : Addr} {o' : HO}

theorem HOk.write (ok : HOk P w H h) (mu : Mut (H x)) (he : e = x ∨ H e = some (.own x)) (k : ∀ b u, b ≠ e → h.get? b = some u → h'.get? b = some u) (heo : ∃ u, h'.get? e = some u)
    (new : ObjOk P w (upd H x o') h' x o') : HOk P w (upd H x o') h' := fun b u q => by
  have nown : ∀ c y, H c = some (.own y) → c ≠ x := fun c y r z => by subst z; rw [r] at mu; exact mu
  have ntup : ∀ c xs, H c = some (.tup xs) → c ≠ x := fun c xs r z => by subst z; rw [r] at mu; exact mu
  by_cases hb : b = x
  · subst hb; rw [upd_same] at q; cases q; exact new
  · rw [upd_ne hb] at q
    by_cases hbe : b = e
    · have q' : H b = some (.own x) := by
        rcases he with z | z
        · exact absurd (hbe.trans z) hb
        · rw [hbe]; exact z
      rw [q] at q'; cases q'
      obtain ⟨v, hv⟩ := heo
      exact ⟨v, by rw [hbe]; exact hv⟩
    · refine (ok b u q).stay (fun c v hc r => k c v ?_ r) (fun c r => by rw [upd_ne (nown c b r)]; exact r) fun c xs r => by rw [upd_ne (ntup c xs r)]; exact r
      rcases hc with rfl | hc
      · exact hbe
      · rintro rfl
        rcases he with z | z
        · exact nown c b hc z
        · rw [hc] at z; cases z; exact hb rfl
end

structure Un (fs ex : List Addr) (H H' : Hp) (h h' : Heap) : Prop where
  keep : ∀ b o, h.get? b = some o → H b = none → b ∉ fs → b ∉ ex → h'.get? b = some o
  slot : ∀ b o, h.get? b = some o → H b = none → b ∈ fs → b ∉ ex → ∃ sl, h'.get? b = some { o with slots := sl }
  free : ∀ b o, h.get? b = some o → H b = none → b ∉ ex → H' b = none
  there : ∀ b o, h.get? b = some o → b ∉ ex → ∃ o', h'.get? b = some o'
  tups : ∀ b xs, H b = some (.tup xs) → H' b = some (.tup xs)
  frzs : ∀ b o u, H b = some (.frz o u) → H' b = some (.frz o u)
  tbls : ∀ b ps, H b = some (.tbl ps) → ∃ more, H' b = some (.tbl (ps ++ more))
section
variable {fs fs' ex ex' : List Addr} {H H1 H2 : Hp} {h h1 h2 h' : Heap} {a x e : Addr} {o : HO}
theorem Un.any (u : Un fs ex H H1 h h1) {b : Addr} {ob : Obj} (q : h.get? b = some ob) (n : H b = none) (hx : b ∉ ex) : ∃ sl, h1.get? b = some { ob with slots := sl } := by
  by_cases hb : b ∈ fs
  · exact u.slot b ob q n hb hx
  · exact ⟨ob.slots, u.keep b ob q n hb hx⟩
theorem Un.kept (k : ∀ b u, h.get? b = some u → h'.get? b = some u) : Un fs ex H H h h' :=
  ⟨fun b ob q _ _ _ => k b ob q, fun b ob q _ _ _ => ⟨ob.slots, k b ob q⟩, fun _ _ _ n _ => n, fun b ob q _ => ⟨ob, k b ob q⟩, fun _ _ q => q, fun _ _ _ q => q, fun _ ps q => ⟨#[], by rw [q]; simp⟩⟩
theorem Un.refl : Un fs ex H H h h := Un.kept fun _ _ q => q
theorem Un.laid (k : ∀ b u, h.get? b = some u → h'.get? b = some u) (hp : h.objs.size ≤ a) (hn : H a = none) : Un fs ex H (upd H a o) h h' where
  keep := fun b u q _ _ _ => k b u q
  slot := fun b u q _ _ _ => ⟨u.slots, k b u q⟩
  free := fun b u q n _ => by rw [upd_ne (Nat.ne_of_lt (Nat.lt_of_lt_of_le (Heap.lt_size q) hp))]; exact n
  there := fun b u q _ => ⟨u, k b u q⟩
  tups := fun b xs q => by rw [upd_ne (ne_of_none q hn)]; exact q
  frzs := fun b u xs q => by rw [upd_ne (ne_of_none q hn)]; exact q
  tbls := fun b ps q => ⟨#[], by rw [upd_ne (ne_of_none q hn), q]; simp⟩
theorem Un.write (mu : Mut (H x)) (he : e = x ∨ H e = some (.own x)) (k : ∀ b u, b ≠ e → h.get? b = some u → h'.get? b = some u) (heo : ∃ u, h'.get? e = some u) : Un fs ex H (upd H x o) h h' := by
  have hx : ∀ b, H b = none → b ≠ x := fun b n z => by subst z; rw [n] at mu; exact mu
  have hb : ∀ b, H b = none → b ≠ e := fun b n z => by
    subst z
    rcases he with r | r
    · exact hx b n r
    · rw [n] at r; cases r
  have hm : ∀ b u, H b = some u → ¬ Mut (some u) → b ≠ x := fun b u q nm z => by subst z; rw [q] at mu; exact nm mu
  refine ⟨fun b u q n _ _ => k b u (hb b n) q, fun b u q n _ _ => ⟨u.slots, k b u (hb b n) q⟩, fun b u q n _ => by rw [upd_ne (hx b n)]; exact n, fun b u q _ => ?_,
    fun b xs q => by rw [upd_ne (hm b _ q fun z => z)]; exact q, fun b u xs q => by rw [upd_ne (hm b _ q fun z => z)]; exact q, fun b ps q => ⟨#[], by rw [upd_ne (hm b _ q fun z => z), q]; simp⟩⟩
  by_cases hbe : b = e
  · subst hbe; exact heo
  · exact ⟨u, k b u hbe q⟩
end

noncomputable def trk (h : Heap) (H : Hp) : List Addr := (List.range h.objs.size).filter fun a => (H a).isSome
noncomputable def hidT (h : Heap) (H : Hp) : Heap := PySem.W.hideAll h (trk h H)
theorem hidT_size (h : Heap) (H : Hp) : (hidT h H).objs.size = h.objs.size := PySem.W.hideAll_size _ _
theorem hidT_get {h : Heap} {H : Hp} {b : Addr} {o : Obj} (e : h.get? b = some o) (n : H b = none) : (hidT h H).get? b = some o :=
  PySem.W.hideAll_get _ e fun hm => by
    have q : (H b).isSome = true := (List.mem_filter.mp hm).2
    rw [n] at q; simp at q
theorem of_hidT {h : Heap} {H : Hp} {b : Addr} {o : Obj} (e : (hidT h H).get? b = some o) : h.get? b = some o ∧ H b = none := by
  have e' : h.get? b = some o := PySem.W.of_hideAll (trk h H) e
  refine ⟨e', ?_⟩
  cases q : H b with
  | none => rfl
  | some x =>
    have hm : b ∈ trk h H := List.mem_filter.mpr ⟨List.mem_range.mpr (Heap.lt_size e'), by simp [q]⟩
    have z : (hidT h H).get? b = none := PySem.W.hideAll_none (trk h H) hm
    rw [z] at e; cases e

noncomputable def allNews (g h : Heap) (L : Addr) : List (Addr × Obj) := (List.range h.objs.size).filterMap fun a => if a = L ∨ (g.get? a).isSome = true then none else (h.get? a).map fun o => (a, o)
noncomputable def rest (g h : Heap) (L d : Addr) : List (Addr × Obj) := (allNews g h L).filter fun p => decide (p.1 ≠ d)
end Internal.L2

namespace Internal.L2
open PySem PySem.Spec PyProof.Rows

structure Mod (K : PySem.W.Frag) (mg : Str → Option Value) (base : Heap) : Prop where
  kin : K.In base
  glob : base.Ns mainGlobals mg
  blt : ∃ mb, base.Ns builtinsNs mb ∧ ∀ x : Str, x ≠ "__name__" → mb x = bootBuiltins x
  nolimit : base.NoLimit

set_option genInjectivity false in
structure Cx where
  prog : Program
  w : World
  K : PySem.W.Frag
  mg : Str → Option Value
  base : Heap
  A : Around
  N : List Str
  s₀ : Shared
  H₀ : Hp
  env : Env
  outer : List Env
  stack : List Env
  ex : List Addr
  fn : Str → Bool
  calm : Bool
  pn : List (Addr × Obj)
  xe : Value → Shared → Prop

noncomputable def frs (l : List Env) : List Addr := l.filterMap (·.frame)
noncomputable abbrev Cx.fs (X : Cx) : List Addr := frs X.outer

noncomputable def Vis (sc : Scope) (x : Str) : Prop := sc.names.lookup x = some .local ∨ sc.names.lookup x = some .cell ∨ sc.names.lookup x = some .free
noncomputable def Loc (sc : Scope) (x : Str) : Prop := sc.names.lookup x = some .local ∨ sc.names.lookup x = some .cell
noncomputable def Look (env : Env) (h : Heap) (m : Str → Option Value) (x : Str) (u : Value) : Prop :=
  (env.kindOf x = some .local ∧ m x = some u) ∨ ((env.kindOf x = some .cell ∨ env.kindOf x = some .free) ∧ ∃ c, env.cells.lookup x = some c ∧ h.IsCell c (some u))

set_option genInjectivity false in
structure Cx.Ok (X : Cx) : Prop where
  mod : Mod X.K X.mg X.base
  kind : X.env.scope.kind = .function
  glob : X.env.globals = mainGlobals
  blt : X.env.builtins = builtinsNs
  above : X.s₀.heap.objs.size ≤ X.env.locals
  inj : ∀ x y c, X.env.cells.lookup x = some c → X.env.cells.lookup y = some c → x = y
  has : ∀ x, (X.env.kindOf x = some .cell ∨ X.env.kindOf x = some .free) → ∃ c, X.env.cells.lookup x = some c
  cab : ∀ x c, X.fn x = true → X.env.cells.lookup x = some c → X.s₀.heap.objs.size ≤ c
  hd : X.calm = true → X.A.handled = none
  frames : X.A.frames = some X.stack
  stk : X.stack = X.outer ∨ (X.stack = X.env :: X.outer ∧ X.env.frame = some X.env.locals)
  exf : ∀ b ∈ X.ex, b ≠ X.env.locals ∧ ∀ x c, X.env.cells.lookup x = some c → c ≠ b
  bs : ∀ b o, X.base.get? b = some o → X.s₀.heap.get? b = some o ∧ X.H₀ b = none
  bsz : X.base.objs.size ≤ X.s₀.heap.objs.size
  noex : ∀ b o, X.base.get? b = some o → b ∉ X.ex
  exfs : ∀ b ∈ X.ex, b ∉ X.fs
  funs : X.s₀.heap.FunFrames X.base X.outer
  frf : ∀ b ∈ X.fs, X.H₀ b = none

structure Inv (X : Cx) (pins : List (Addr × Obj)) (σ : List (Option V)) (H : Hp) (s : Shared) : Prop where
  ok : X.Ok
  os : s.os = X.s₀.os
  bare : AllBare s.gens
  base : Un X.fs X.ex X.H₀ H X.s₀.heap s.heap
  loc : ∃ m, s.heap.Ns X.env.locals m ∧ ∀ (i : Nat) (x : Str) (v : V), X.N[i]? = some x → σ[i]? = some (some v) → Vis X.env.scope x → ∃ u, RelV v u ∧ Look X.env s.heap m x u
  cell : ∀ x c, X.env.cells.lookup x = some c → ∃ v, s.heap.IsCell c v
  free : H X.env.locals = none
  freeC : ∀ x c, X.env.cells.lookup x = some c → H c = none
  pin : ∀ p ∈ X.pn ++ pins, s.heap.get? p.1 = some p.2 ∧ H p.1 = none ∧ p.1 ≠ X.env.locals ∧ p.1 ∉ X.fs ∧ ∀ v, p.2.data ≠ .cell v
  hok : HOk X.prog X.w H s.heap
  len : σ.length = X.N.length

section
variable {X : Cx} {pins : List (Addr × Obj)} {σ : List (Option V)} {H H' : Hp} {s : Shared} {h' : Heap}

theorem Cx.Ok.nofr (ok : X.Ok) {b : Addr} {o : Obj} (e : X.base.get? b = some o) : b ∉ X.fs := fun hb => by
  have := (ok.funs.mem hb).1
  rw [e] at this; cases this
theorem Inv.bs (I : Inv X pins σ H s) : ∀ b o, X.base.get? b = some o → s.heap.get? b = some o ∧ H b = none := fun b o e =>
  ⟨I.base.keep b o (I.ok.bs b o e).1 (I.ok.bs b o e).2 (I.ok.nofr e) (I.ok.noex b o e), I.base.free b o (I.ok.bs b o e).1 (I.ok.bs b o e).2 (I.ok.noex b o e)⟩
theorem Inv.bk (I : Inv X pins σ H s) : ∀ b o, X.base.get? b = some o → s.heap.get? b = some o := fun b o e => (I.bs b o e).1
theorem Inv.mod (I : Inv X pins σ H s) : Mod X.K X.mg X.base := I.ok.mod
theorem Inv.kIn (I : Inv X pins σ H s) : X.K.In s.heap := I.ok.mod.kin.keeps I.bk
theorem Inv.lt (I : Inv X pins σ H s) : X.env.locals < s.heap.objs.size := let ⟨_, hn, _⟩ := I.loc; hn.lt
theorem Inv.sz (I : Inv X pins σ H s) : X.s₀.heap.objs.size ≤ s.heap.objs.size := Nat.le_trans I.ok.above (Nat.le_of_lt I.lt)
theorem Inv.nofs (I : Inv X pins σ H s) {a : Addr} (h : s.heap.objs.size ≤ a) : a ∉ X.fs := fun hb => by
  obtain ⟨_, o, ho, _⟩ := I.ok.funs.mem hb
  exact absurd (Nat.lt_of_lt_of_le (Heap.lt_size ho) (Nat.le_trans I.sz h)) (Nat.lt_irrefl _)
theorem Inv.cne (I : Inv X pins σ H s) : ∀ x c, X.env.cells.lookup x = some c → c ≠ X.env.locals := fun x c e z => by
  obtain ⟨v, o, ho, hd⟩ := I.cell x c e
  obtain ⟨m, ⟨o', es, ep, ho', hd', _⟩, _⟩ := I.loc
  rw [z, ho'] at ho; cases ho; rw [hd'] at hd; cases hd
theorem Inv.funs (I : Inv X pins σ H s) : s.heap.FunFrames X.base X.outer := by
  have all : ∀ (l : List Env), (∀ b ∈ frs l, b ∈ X.fs) → X.s₀.heap.FunFrames X.base l → s.heap.FunFrames X.base l := by
    intro l
    induction l with
    | nil => intro _ _; trivial
    | cons env r ih =>
      intro hs hl
      obtain ⟨hk, ⟨L, o, hf, hn, ho, hd⟩, hr⟩ := hl
      have hL : L ∈ X.fs := hs L (by unfold frs; rw [List.filterMap_cons, hf]; exact List.mem_cons_self)
      obtain ⟨sl, e⟩ := I.base.slot L o ho (I.ok.frf L hL) hL fun z => I.ok.exfs L z hL
      exact ⟨hk, ⟨L, _, hf, hn, e, hd⟩, ih (fun b hb => hs b (by unfold frs; rw [List.filterMap_cons, hf]; exact List.mem_cons_of_mem _ hb)) hr⟩
  exact all X.outer (fun _ hb => hb) I.ok.funs

theorem Inv.stack (I : Inv X pins σ H s) : s.heap.FunFrames X.base X.stack := by
  rcases I.ok.stk with e | ⟨e, hf⟩
  · rw [e]; exact I.funs
  · rw [e]
    obtain ⟨m, hn, _⟩ := I.loc
    refine .cons (by rw [I.ok.kind]; decide) hf hn ?_ I.funs
    exact Heap.get?_none_of_le (Nat.le_trans I.ok.bsz I.ok.above)
theorem Inv.stkSub (I : Inv X pins σ H s) : ∀ b ∈ frs X.stack, b ∈ X.env.locals :: X.fs := fun b hb => by
  rcases I.ok.stk with e | ⟨e, hf⟩
  · rw [e] at hb; exact List.mem_cons_of_mem _ hb
  · rw [e] at hb
    unfold frs at hb
    rw [List.filterMap_cons, hf] at hb
    exact hb
theorem Inv.stkFree (I : Inv X pins σ H s) : ∀ b ∈ frs X.stack, H b = none := fun b hb => by
  rcases List.mem_cons.mp (I.stkSub b hb) with e | hb
  · rw [e]; exact I.free
  · obtain ⟨_, o, ho, _⟩ := I.ok.funs.mem hb
    exact I.base.free b o ho (I.ok.frf b hb) fun z => I.ok.exfs b z hb

theorem Inv.step {g' : Array GenState} {t' : Nat} {d' : Drawn} {ch : List Addr} (I : Inv X pins σ H s)
    (hch : ∀ b ∈ ch, (b ∈ X.ex ∨ X.s₀.heap.objs.size ≤ b) ∧ b ≠ X.env.locals ∧ (∀ x c, X.env.cells.lookup x = some c → c ≠ b) ∧ ∀ p ∈ X.pn ++ pins, p.1 ≠ b)
    (keep : ∀ b o, b ≠ X.env.locals → b ∉ X.fs → b ∉ ch → s.heap.get? b = some o → H b = none → h'.get? b = some o)
    (slot : ∀ b o, b ≠ X.env.locals → b ∈ X.fs → b ∉ ch → s.heap.get? b = some o → H b = none → ∃ sl, h'.get? b = some { o with slots := sl }) (free : ∀ b o, b ∉ ch → s.heap.get? b = some o → H b = none → H' b = none)
    (there : ∀ b o, b ∉ ch → s.heap.get? b = some o → ∃ o', h'.get? b = some o')
    (tups : ∀ b xs, H b = some (.tup xs) → H' b = some (.tup xs)) (frzs : ∀ b o u, H b = some (.frz o u) → H' b = some (.frz o u)) (tbls : ∀ b ps, H b = some (.tbl ps) → ∃ more, H' b = some (.tbl (ps ++ more)))
    (ns : ∀ m, s.heap.Ns X.env.locals m → h'.Ns X.env.locals m) (hok : HOk X.prog X.w H' h') (hg : AllBare g') :
    Inv X pins σ H' { s with heap := h', gens := g', drawn := d', toks := t' } := by
  have neL : ∀ b o, X.s₀.heap.get? b = some o → b ≠ X.env.locals := fun b o e => Nat.ne_of_lt (Nat.lt_of_lt_of_le (Heap.lt_size e) I.ok.above)
  have neC : ∀ b o, X.s₀.heap.get? b = some o → b ∉ X.ex → b ∉ ch := fun b o e hx hb => by
    rcases (hch b hb).1 with z | z
    · exact hx z
    · exact absurd (Nat.lt_of_lt_of_le (Heap.lt_size e) z) (Nat.lt_irrefl _)
  have cellK : ∀ x c, X.env.cells.lookup x = some c → ∀ v, s.heap.IsCell c v → h'.IsCell c v := fun x c e v hP1 => by
    obtain ⟨o, ho, hd⟩ := hP1
    have nch : c ∉ ch := fun z => (hch c z).2.2.1 x c e rfl
    by_cases hc : c ∈ X.fs
    · obtain ⟨sl, q⟩ := slot c o (I.cne x c e) hc nch ho (I.freeC x c e)
      exact ⟨_, q, hd⟩
    · exact ⟨o, keep c o (I.cne x c e) hc nch ho (I.freeC x c e), hd⟩
  refine ⟨I.ok, I.os, hg, ⟨fun b o e n hb hx => ?_, fun b o e n hb hx => ?_, fun b o e n hx => ?_, fun b o e hx => ?_, fun b xs e => tups b xs (I.base.tups b xs e), fun b o xs e => frzs b o xs (I.base.frzs b o xs e), fun b ps e => ?_⟩, ?_, fun x c e => ?_, ?_, fun x c e => ?_, fun p hp => ?_, hok, I.len⟩
  · exact keep b o (neL b o e) hb (neC b o e hx) (I.base.keep b o e n hb hx) (I.base.free b o e n hx)
  · obtain ⟨sl, e1⟩ := I.base.slot b o e n hb hx
    obtain ⟨sl', e2⟩ := slot b _ (neL b o e) hb (neC b o e hx) e1 (I.base.free b o e n hx)
    exact ⟨sl', e2⟩
  · obtain ⟨o', e1⟩ := I.base.there b o e hx
    exact free b o' (neC b o e hx) e1 (I.base.free b o e n hx)
  · obtain ⟨o', e1⟩ := I.base.there b o e hx
    exact there b o' (neC b o e hx) e1
  · obtain ⟨m1, e1⟩ := I.base.tbls b ps e
    obtain ⟨m2, e2⟩ := tbls b _ e1
    exact ⟨m1 ++ m2, by rw [e2, Array.append_assoc]⟩
  · obtain ⟨m, hn, hl⟩ := I.loc
    refine ⟨m, ns m hn, fun i x v e1 e2 e3 => ?_⟩
    obtain ⟨u, r, l⟩ := hl i x v e1 e2 e3
    refine ⟨u, r, ?_⟩
    rcases l with l | ⟨k, c, e, z⟩
    · exact .inl l
    · exact .inr ⟨k, c, e, cellK x c e _ z⟩
  · obtain ⟨v, z⟩ := I.cell x c e
    exact ⟨v, cellK x c e v z⟩
  · obtain ⟨m, ⟨o, _, _, ho, _⟩, _⟩ := I.loc
    exact free _ o (fun z => (hch _ z).2.1 rfl) ho I.free
  · obtain ⟨v, o, ho, hd⟩ := I.cell x c e
    exact free c o (fun z => (hch c z).2.2.1 x c e rfl) ho (I.freeC x c e)
  · obtain ⟨e, n, ne, nf, d⟩ := I.pin p hp
    have nch : p.1 ∉ ch := fun z => (hch p.1 z).2.2.2 p hp rfl
    exact ⟨keep p.1 p.2 ne nf nch e n, free p.1 p.2 nch e n, ne, nf, d⟩

theorem Inv.un {t' : Nat} (I : Inv X pins σ H s) (u : Un X.fs [] H H' s.heap h') (hok : HOk X.prog X.w H' h') : Inv X pins σ H' { s with heap := h', toks := t' } := by
  obtain ⟨m, ⟨o, es, ep, ho, r⟩, _⟩ := id I.loc
  obtain ⟨sl, hL⟩ := u.any ho I.free (by simp)
  exact I.step (g' := s.gens) (d' := s.drawn) (ch := []) (fun _ z => nomatch z) (fun b o _ hb _ e n => u.keep b o e n hb (by simp)) (fun b o _ hb _ e n => u.slot b o e n hb (by simp)) (fun b o _ e n => u.free b o e n (by simp)) (fun b o _ e => u.there b o e (by simp)) u.tups u.frzs u.tbls (fun m' hm => by
    obtain ⟨o', es', ep', ho', r'⟩ := hm
    rw [ho] at ho'; cases ho'
    exact ⟨_, es', ep', hL, r'⟩) hok I.bare

theorem Inv.call {g' : Array GenState} {t' : Nat} {d' : Drawn} {ch : List Addr} (I : Inv X pins σ H s) (u : Un (frs X.stack) ch H H' s.heap h') (hok : HOk X.prog X.w H' h') (hg : AllBare g')
    (hch : ∀ b ∈ ch, (b ∈ X.ex ∨ X.s₀.heap.objs.size ≤ b) ∧ b ≠ X.env.locals ∧ (∀ x c, X.env.cells.lookup x = some c → c ≠ b) ∧ ∀ p ∈ X.pn ++ pins, p.1 ≠ b) :
    Inv X pins σ H' { s with heap := h', gens := g', drawn := d', toks := t' } := by
  obtain ⟨m, ⟨o, es, ep, ho, r⟩, _⟩ := id I.loc
  obtain ⟨sl, hL⟩ := u.any ho I.free fun z => (hch _ z).2.1 rfl
  exact I.step (ch := ch) hch (fun b o hL hb hc e n => u.keep b o e n (fun z => (List.mem_cons.mp (I.stkSub b z)).elim hL hb) hc) (fun b o _ _ hc e n => u.any e n hc) (fun b o hc e n => u.free b o e n hc) (fun b o hc e => u.there b o e hc) u.tups u.frzs u.tbls (fun m' hm => by
    obtain ⟨o', es', ep', ho', r'⟩ := hm
    rw [ho] at ho'; cases ho'
    exact ⟨_, es', ep', hL, r'⟩) hok hg

theorem Inv.turned {t' : Nat} {it : Addr} (I : Inv X pins σ H s) (k : ∀ b o, b ≠ it → s.heap.get? b = some o → h'.get? b = some o) (hn : H it = none) (hL : it ≠ X.env.locals)
    (h1 : it ∈ X.ex ∨ X.s₀.heap.objs.size ≤ it) (h2 : ∀ x c, X.env.cells.lookup x = some c → c ≠ it) (h3 : ∀ p ∈ X.pn ++ pins, p.1 ≠ it) : Inv X pins σ H { s with heap := h', toks := t' } := by
  have nit : ∀ b u, H b = some u → b ≠ it := fun b u e z => by rw [z, hn] at e; cases e
  refine I.step (g' := s.gens) (d' := s.drawn) (ch := [it]) (fun b hb => ?_) (fun b o _ _ hc e _ => k b o (fun z => hc (by simp [z])) e) (fun b o _ _ hc e _ => ⟨o.slots, k b o (fun z => hc (by simp [z])) e⟩) (fun _ _ _ _ n => n)
    (fun b o hc e => ⟨o, k b o (fun z => hc (by simp [z])) e⟩) (fun _ _ e => e) (fun _ _ _ e => e) (fun b ps e => ⟨#[], by rw [e]; simp⟩) (fun m hm => ?_) (fun b u e => ?_) I.bare
  · have e : b = it := by simpa using hb
    subst e
    exact ⟨h1, hL, h2, h3⟩
  · obtain ⟨o, es, ep, ho, r⟩ := hm
    exact ⟨o, es, ep, k _ o (Ne.symm hL) ho, r⟩
  · refine (I.hok b u e).stay (fun c v hc q => k c v ?_ q) (fun _ q => q) fun _ _ q => q
    rcases hc with z | z
    · rw [z]; exact nit b u e
    · exact nit c _ z
theorem Inv.tok (I : Inv X pins σ H s) (t : Nat) : Inv X pins σ H { s with toks := t } := I.un (h' := s.heap) (t' := t) Un.refl I.hok

theorem Inv.kept {t' : Nat} (I : Inv X pins σ H s) (k : ∀ b u, s.heap.get? b = some u → h'.get? b = some u) : Inv X pins σ H { s with heap := h', toks := t' } := I.un (Un.kept k) (I.hok.kept k)

theorem Inv.laid {a : Addr} {o : HO} {t' : Nat} (I : Inv X pins σ H s) (k : ∀ b u, s.heap.get? b = some u → h'.get? b = some u) (hp : s.heap.objs.size ≤ a) (new : ObjOk X.prog X.w (upd H a o) h' a o) :
    Inv X pins σ (upd H a o) { s with heap := h', toks := t' } := I.un (Un.laid k hp (I.hok.fresh hp)) (I.hok.laid k hp new)

theorem Inv.write {x e : Addr} {o : HO} {t' : Nat} (I : Inv X pins σ H s) (mu : Mut (H x)) (he : e = x ∨ H e = some (.own x)) (k : ∀ b u, b ≠ e → s.heap.get? b = some u → h'.get? b = some u) (heo : ∃ u, h'.get? e = some u)
    (new : ObjOk X.prog X.w (upd H x o) h' x o) : Inv X pins σ (upd H x o) { s with heap := h', toks := t' } := I.un (Un.write mu he k heo) (I.hok.write mu he k heo new)
theorem Inv.pins_of {pins' : List (Addr × Obj)} (I : Inv X pins σ H s) (h : ∀ p ∈ pins', s.heap.get? p.1 = some p.2 ∧ H p.1 = none ∧ p.1 ≠ X.env.locals ∧ p.1 ∉ X.fs ∧ ∀ v, p.2.data ≠ .cell v) : Inv X pins' σ H s :=
  ⟨I.ok, I.os, I.bare, I.base, I.loc, I.cell, I.free, I.freeC, fun p hp => (List.mem_append.mp hp).elim (fun z => I.pin p (List.mem_append_left _ z)) (h p), I.hok, I.len⟩

theorem nodup_ix {N : List Str} (hN : N.Nodup) {i j : Nat} {x : Str} (a : N[i]? = some x) (b : N[j]? = some x) : i = j := by
  obtain ⟨h1, e1⟩ := List.getElem?_eq_some_iff.mp a
  obtain ⟨h2, e2⟩ := List.getElem?_eq_some_iff.mp b
  exact (List.getElem_inj hN).mp (e1.trans e2.symm)

theorem store_ok2 {M : Model} {A : Around} {E : Value → Shared → Prop} {i : Nat} {x : Str} {v : V} {u : Value} {Q : Unit → Shared → Prop} (I : Inv X pins σ H s) (hN : X.N.Nodup) (hi : X.N[i]? = some x) (hx : Loc X.env.scope x) (r : RelV v u)
    (h : ∀ s', Inv X pins (σ.set i (some v)) H s' → (∃ a, Heap.SameBut a s.heap s'.heap ∧ (a = X.env.locals ∨ X.env.cells.lookup x = some a)) → Q () s') (hf : X.fn x = true ∨ X.env.scope.names.lookup x = some .local := by first | exact .inl rfl | exact .inr rfl | assumption) : wpAny M A (storeName X.env x u) Q E s := by
  obtain ⟨m, hn, hl⟩ := id I.loc
  have hcls : (X.env.scope.kind == .class || (X.env.scope.kind == .module && X.env.locals != X.env.globals)) = false := by rw [I.ok.kind]; rfl
  have hiσ : i < σ.length := by rw [I.len]; exact (List.getElem?_eq_some_iff.mp hi).1
  have cne := I.cne
  have tracked : ∀ {a : Addr} {h' : Heap}, (∃ o, s.heap.get? a = some o ∧ H a = none) → Heap.SameBut a s.heap h' → HOk X.prog X.w H h' := fun {a h'} ha hs b ob e => by
    obtain ⟨_, _, hfree⟩ := ha
    refine (I.hok b ob e).stay (fun c w' hc q => (hs.2 c ?_).trans q) (fun _ q => q) fun _ _ q => q
    rintro rfl
    rcases hc with rfl | hc
    · rw [hfree] at e; cases e
    · rw [hfree] at hc; cases hc
  rcases hx with hk | hk
  · refine wpAny_storeName_local hk hn (fun h' hn' hs => ?_) hcls
    obtain ⟨oL, _, _, hoL, _⟩ := id hn
    refine h _ ⟨I.ok, I.os, I.bare, ⟨fun b o e n hb hx => ?_, fun b o e n hb hx => ?_, I.base.free, fun b o e hx => ?_, I.base.tups, I.base.frzs, I.base.tbls⟩, ⟨_, hn', fun j y v' e1 e2 e3 => ?_⟩, fun y c e => ?_, I.free, I.freeC, fun p hp => ?_, tracked ⟨oL, hoL, I.free⟩ hs, by simpa using I.len⟩ ⟨_, hs, .inl rfl⟩
    · exact (hs.2 b (Nat.ne_of_lt (Nat.lt_of_lt_of_le (Heap.lt_size e) I.ok.above))).trans (I.base.keep b o e n hb hx)
    · obtain ⟨sl, e1⟩ := I.base.slot b o e n hb hx
      exact ⟨sl, (hs.2 b (Nat.ne_of_lt (Nat.lt_of_lt_of_le (Heap.lt_size e) I.ok.above))).trans e1⟩
    · obtain ⟨o', e1⟩ := I.base.there b o e hx
      exact ⟨o', (hs.2 b (Nat.ne_of_lt (Nat.lt_of_lt_of_le (Heap.lt_size e) I.ok.above))).trans e1⟩
    · by_cases hj : j = i
      · subst hj
        rw [hi] at e1; cases e1
        rw [List.getElem?_set_self hiσ] at e2
        cases e2
        exact ⟨u, r, .inl ⟨hk, by simp⟩⟩
      · rw [List.getElem?_set_ne (Ne.symm hj)] at e2
        obtain ⟨u', r', q⟩ := hl j y v' e1 e2 e3
        refine ⟨u', r', ?_⟩
        rcases q with ⟨k, e⟩ | ⟨k, c, e, z⟩
        · refine .inl ⟨k, ?_⟩
          have : y ≠ x := fun e => hj (nodup_ix hN e1 (e ▸ hi))
          simp [this, e]
        · exact .inr ⟨k, c, e, z.sameBut hs (cne y c e)⟩
    · obtain ⟨w', z⟩ := I.cell y c e
      exact ⟨w', z.sameBut hs (cne y c e)⟩
    · obtain ⟨e, n, ne, nf, d⟩ := I.pin p hp
      exact ⟨(hs.2 p.1 ne).trans e, n, ne, nf, d⟩
  · have hfn : X.fn x = true := by
      rcases hf with z | z
      · exact z
      · rw [z] at hk; cases hk
    obtain ⟨c, hc⟩ := I.ok.has x (.inl hk)
    obtain ⟨w', z⟩ := I.cell x c hc
    refine wpAny_storeName_cell I.ok.kind hk hc z (fun h' hc' hs => ?_)
    obtain ⟨oc, hoc, hocd⟩ := id z
    refine h { s with heap := h' } ⟨I.ok, I.os, I.bare, ⟨fun b o e n hb hx => ?_, fun b o e n hb hx => ?_, I.base.free, fun b o e hx => ?_, I.base.tups, I.base.frzs, I.base.tbls⟩, ⟨m, hn.sameBut hs (Ne.symm (cne x c hc)), fun j y v' e1 e2 e3 => ?_⟩, fun y c' e => ?_, I.free, I.freeC, fun p hp => ?_, tracked ⟨oc, hoc, I.freeC x c hc⟩ hs, by simpa using I.len⟩ ⟨c, hs, .inr hc⟩
    · exact (hs.2 b (Nat.ne_of_lt (Nat.lt_of_lt_of_le (Heap.lt_size e) (I.ok.cab x c hfn hc)))).trans (I.base.keep b o e n hb hx)
    · obtain ⟨sl, e1⟩ := I.base.slot b o e n hb hx
      exact ⟨sl, (hs.2 b (Nat.ne_of_lt (Nat.lt_of_lt_of_le (Heap.lt_size e) (I.ok.cab x c hfn hc)))).trans e1⟩
    · obtain ⟨o', e1⟩ := I.base.there b o e hx
      exact ⟨o', (hs.2 b (Nat.ne_of_lt (Nat.lt_of_lt_of_le (Heap.lt_size e) (I.ok.cab x c hfn hc)))).trans e1⟩
    · by_cases hj : j = i
      · subst hj
        rw [hi] at e1; cases e1
        rw [List.getElem?_set_self hiσ] at e2
        cases e2
        exact ⟨u, r, .inr ⟨.inl hk, c, hc, hc'⟩⟩
      · rw [List.getElem?_set_ne (Ne.symm hj)] at e2
        obtain ⟨u', r', q⟩ := hl j y v' e1 e2 e3
        refine ⟨u', r', ?_⟩
        rcases q with q | ⟨k, c', e, z'⟩
        · exact .inl q
        · refine .inr ⟨k, c', e, z'.sameBut hs ?_⟩
          rintro rfl
          exact hj (nodup_ix hN e1 (I.ok.inj _ _ _ e hc ▸ hi))
    · by_cases hcc : c' = c
      · subst hcc; exact ⟨_, hc'⟩
      · obtain ⟨w2, z2⟩ := I.cell y c' e
        exact ⟨w2, z2.sameBut hs hcc⟩
    · obtain ⟨e, n, ne, nf, d⟩ := I.pin p hp
      refine ⟨(hs.2 p.1 ?_).trans e, n, ne, nf, d⟩
      intro q
      rw [q, hoc] at e
      have q' : oc = p.2 := Option.some.inj e
      exact d w' (by rw [← q']; exact hocd)
theorem store_ok {M : Model} {A : Around} {E : Value → Shared → Prop} {i : Nat} {x : Str} {v : V} {u : Value} {Q : Unit → Shared → Prop} (I : Inv X pins σ H s) (hN : X.N.Nodup) (hi : X.N[i]? = some x) (hx : Loc X.env.scope x) (r : RelV v u)
    (h : ∀ s', Inv X pins (σ.set i (some v)) H s' → Q () s') (hf : X.fn x = true ∨ X.env.scope.names.lookup x = some .local := by first | exact .inl rfl | exact .inr rfl | assumption) : wpAny M A (storeName X.env x u) Q E s :=
  store_ok2 I hN hi hx r (fun s' I' _ => h s' I') hf

theorem Inv.call' {s' : Shared} {ch : List Addr} (I : Inv X pins σ H s) (ho : s'.os = s.os) (u : Un (frs X.stack) ch H H' s.heap s'.heap) (hok : HOk X.prog X.w H' s'.heap) (hg : AllBare s'.gens)
    (hch : ∀ b ∈ ch, (b ∈ X.ex ∨ X.s₀.heap.objs.size ≤ b) ∧ b ≠ X.env.locals ∧ (∀ x c, X.env.cells.lookup x = some c → c ≠ b) ∧ ∀ p ∈ X.pn ++ pins, p.1 ≠ b) : Inv X pins σ H' s' := by
  obtain ⟨h', g', d', t', o'⟩ := s'
  have e : o' = s.os := ho
  subst e
  exact I.call (g' := g') (t' := t') (d' := d') u hok hg hch
end

noncomputable abbrev XK := Value → Option Addr → Hp → Prop
noncomputable abbrev St := List (Option V)
noncomputable abbrev VK := V → Hp → Prop

noncomputable abbrev TE := St → Hp → VK → Prop
noncomputable abbrev TT := St → Hp → (Bool → Hp → Prop) → Prop
noncomputable abbrev TA := St → Hp → (List V → Hp → Prop) → Prop

set_option genInjectivity false in
structure Ends where
  nx : St → Hp → Prop
  rt : VK
  bk : St → Hp → Prop := fun _ _ => False
  ct : St → Hp → Prop := fun _ _ => False
noncomputable abbrev TS := Ends → St → Hp → Prop

noncomputable def EP (X : Cx) (pins : List (Addr × Obj)) (σ : St) (Q : VK) (u : Value) (s' : Shared) : Prop := ∃ v H', Inv X pins σ H' s' ∧ RelV v u ∧ Q v H'
noncomputable def TP (X : Cx) (pins : List (Addr × Obj)) (σ : St) (Q : Bool → Hp → Prop) (b : Bool) (s' : Shared) : Prop := ∃ H', Inv X pins σ H' s' ∧ Q b H'
noncomputable def AP (X : Cx) (pins : List (Addr × Obj)) (σ : St) (Q : List V → Hp → Prop) (us : List Value) (s' : Shared) : Prop := ∃ vs H', Inv X pins σ H' s' ∧ Vals vs us ∧ Q vs H'
noncomputable def SP (X : Cx) (pins : List (Addr × Obj)) (D : Ends) (f : Flow) (s' : Shared) : Prop :=
  match f with
  | .next => ∃ σ' H', Inv X pins σ' H' s' ∧ D.nx σ' H'
  | .brk => ∃ σ' H', Inv X pins σ' H' s' ∧ D.bk σ' H'
  | .cont => ∃ σ' H', Inv X pins σ' H' s' ∧ D.ct σ' H'
  | .ret u => ∃ v σ' H', Inv X pins σ' H' s' ∧ RelV v u ∧ D.rt v H'

noncomputable def PE (X : Cx) (e : Expr) (t : TE) : Prop :=
  ∀ (pins : List (Addr × Obj)) (s : Shared) (σ : St) (H : Hp) (Q : VK), Inv X pins σ H s → t σ H Q → wpAny (model X.prog X.w) X.A (eval e X.env) (EP X pins σ Q) X.xe s
noncomputable def PT (X : Cx) (e : Expr) (t : TT) : Prop :=
  ∀ (pins : List (Addr × Obj)) (s : Shared) (σ : St) (H : Hp) (Q : Bool → Hp → Prop), Inv X pins σ H s → t σ H Q → wpAny (model X.prog X.w) X.A (isTrue e X.env (eval e X.env)) (TP X pins σ Q) X.xe s

noncomputable def PW (X : Cx) (e : Expr) (t : TT) : Prop :=
  ∀ (whole : Sem Value) (pins : List (Addr × Obj)) (s : Shared) (σ : St) (H : Hp) (Q : Bool → Hp → Prop), Inv X pins σ H s → t σ H Q → wpAny (model X.prog X.w) X.A (isTrue e X.env whole) (TP X pins σ Q) X.xe s
theorem PW.pt {X : Cx} {e : Expr} {t : TT} (h : PW X e t) : PT X e t := h _

noncomputable def PA (X : Cx) (es : List Expr) (t : TA) : Prop :=
  ∀ (pos : Pos) (pins : List (Addr × Obj)) (s : Shared) (σ : St) (H : Hp) (Q : List V → Hp → Prop), Inv X pins σ H s → t σ H Q → wpAny (model X.prog X.w) X.A (spliced (backTo pos (starEach es X.env))) (AP X pins σ Q) X.xe s
noncomputable def PS (X : Cx) (st : Stmt) (t : TS) : Prop :=
  ∀ (pins : List (Addr × Obj)) (s : Shared) (σ : St) (H : Hp) (D : Ends), Inv X pins σ H s → t D σ H → wpAny (model X.prog X.w) X.A (exec st X.env) (SP X pins D) X.xe s
noncomputable def PSs (X : Cx) (st : List Stmt) (t : TS) : Prop :=
  ∀ (pins : List (Addr × Obj)) (s : Shared) (σ : St) (H : Hp) (D : Ends), Inv X pins σ H s → t D σ H → wpAny (model X.prog X.w) X.A (execs st X.env) (SP X pins D) X.xe s

theorem thn {α : Type} {t : Sem α} {Q Q' : α → Shared → Prop} {M : Model} {A : Around} {E : Value → Shared → Prop} {s : Shared} (h : wpAny M A t Q E s) (hQ : ∀ a s, Q a s → Q' a s) : wpAny M A t Q' E s := wpAny_mono h hQ fun _ _ x => x
end Internal.L2

namespace Internal.L2
open PySem PySem.Spec PyProof.Rows
section
variable {X : Cx}

noncomputable def tVar (i : Nat) : TE := fun σ H Q => ∃ v, σ[i]? = some (some v) ∧ Q v H
noncomputable def tC (v : V) : TE := fun _ H Q => Q v H
theorem pe_var {i : Nat} {x : Str} {pos : Pos} (hN : X.N[i]? = some x) (hv : Vis X.env.scope x) (hd : (x == ("__debug__" : Str)) = false := by decide) (hcd : (x == ("__classdict__" : Str)) = false := by decide) : PE X (.Name x pos) (tVar i) := by
  intro pins s σ H Q I h
  obtain ⟨v, e, h⟩ := h
  obtain ⟨m, hn, hl⟩ := I.loc
  obtain ⟨u, r, l⟩ := hl i x v hN e hv
  have fin : EP X pins σ Q u s := ⟨v, H, I, r, h⟩
  rcases l with ⟨hk, hm⟩ | ⟨hk, c, hc, hcell⟩
  · exact wpAny_Name (wpAny_loadName_local I.ok.kind hk hn hm fin) hd
  · rcases hk with hk | hk
    · exact wpAny_Name (wpAny_loadName_cell I.ok.kind hk hc hcell fin) hd
    · exact wpAny_Name (wpAny_loadName_free I.ok.kind hk hc hcell fin hcd) hd
theorem pe_int {i j pos} : PE X (.Constant (.int i) j pos) (tC (.int i)) := fun _ _ _ H _ I h => wpAny_Constant_int ⟨.int i, H, I.tok _, ⟨_, rfl⟩, h⟩
theorem pe_bl {b j pos} : PE X (.Constant (.bool b) j pos) (tC (.bl b)) := fun _ _ _ H _ I h => Constant_bool ⟨.bl b, H, I, rfl, h⟩
theorem pe_str {x j pos} : PE X (.Constant (.str x) j pos) (tC (.str x)) := fun _ _ _ H _ I h => Calls.Constant_str ⟨.str x, H, I.tok _, ⟨_, rfl⟩, h⟩

noncomputable def Gl (X : Cx) (x : Str) : Prop := X.env.kindOf x = some .globalImplicit
theorem ld_glob {E : Value → Shared → Prop} {pins : List (Addr × Obj)} {s : Shared} {σ : St} {H : Hp} {x : Str} {u : Value} {pos : Pos} {Q : Value → Shared → Prop} (I : Inv X pins σ H s) (hg : Gl X x) (hm : X.mg x = some u) (h : Q u s)
    (hd : (x == ("__debug__" : Str)) = false := by decide) : wpAny (model X.prog X.w) X.A (eval (.Name x pos) X.env) Q E s :=
  Calls.Name_function_global I.ok.kind hg (Calls.loadGlobal_global (by rw [I.ok.glob]; exact I.mod.glob.keeps I.bk) hm h) hd
theorem ld_blt {E : Value → Shared → Prop} {pins : List (Addr × Obj)} {s : Shared} {σ : St} {H : Hp} {x : Str} {u : Value} {pos : Pos} {Q : Value → Shared → Prop} (I : Inv X pins σ H s) (hg : Gl X x) (hm : X.mg x = none) (hv : bootBuiltins x = some u) (h : Q u s)
    (hn : x ≠ "__name__" := by decide) (hd : (x == ("__debug__" : Str)) = false := by decide) : wpAny (model X.prog X.w) X.A (eval (.Name x pos) X.env) Q E s := by
  obtain ⟨mb, h1, h2⟩ := I.mod.blt
  exact Calls.Name_function_global I.ok.kind hg (Calls.loadGlobal_builtin (by rw [I.ok.glob]; exact I.mod.glob.keeps I.bk) hm (by rw [I.ok.blt]; exact h1.keeps I.bk) ((h2 x hn).trans hv) h) hd

theorem pe_glob {x : Str} {v : V} {u : Value} {pos : Pos} (hg : Gl X x) (hm : X.mg x = some u) (r : RelV v u) (hd : (x == ("__debug__" : Str)) = false := by decide) : PE X (.Name x pos) (tC v) :=
  fun _ _ _ H _ I h => ld_glob I hg hm ⟨v, H, I, r, h⟩ hd
theorem pe_bltn {x : Str} {v : V} {u : Value} {pos : Pos} (hg : Gl X x) (hm : X.mg x = none) (hv : bootBuiltins x = some u) (r : RelV v u) (hn : x ≠ "__name__" := by decide) (hd : (x == ("__debug__" : Str)) = false := by decide) : PE X (.Name x pos) (tC v) :=
  fun _ _ _ H _ I h => ld_blt I hg hm hv ⟨v, H, I, r, h⟩ hn hd

variable {a b : Expr} {ta tb : TE} {pos : Pos}

noncomputable def tB (t : TE) : TT := fun σ H Q => t σ H fun x H1 => ∃ c, x = .bl c ∧ Q c H1

theorem pt_val {e : Expr} {t : TE} (h : PE X e t) (he : ∀ whole, isTrue e X.env whole = (do let v ← whole; standAt e.pos; holding [v] (truthy v)) := by intro _; rfl) : PT X e (tB t) := by
  intro pins s σ H Q I hw
  refine isTrue_plain (thn (h pins s σ H _ I hw) fun v s1 hP2 => ?_) (he _)
  obtain ⟨x, H1, I1, r1, q1⟩ := hP2
  obtain ⟨d, rfl, q⟩ := q1
  cases r1
  exact wpAny_truthy_bool ⟨H1, I1, q⟩

variable {tA tB' : TT} {rest : List Expr}
noncomputable def tAnd (t u : TT) : TT := fun σ H Q => t σ H fun c H1 => if c = true then u σ H1 Q else Q false H1
noncomputable def tOr (t u : TT) : TT := fun σ H Q => t σ H fun c H1 => if c = true then Q true H1 else u σ H1 Q
noncomputable def tNot (t : TT) : TT := fun σ H Q => t σ H fun c H1 => Q (!c) H1
theorem pw_and1 (ha : PT X a tA) : PW X (.BoolOp .And [a] pos) tA := by
  intro wh pins s σ H Q I h
  refine isTrue_and (thn (ha pins s σ H Q I h) fun c s1 e => ?_)
  cases c with
  | true => exact isTrue_and_nil e
  | false => exact e
theorem pw_or1 (ha : PT X a tA) : PW X (.BoolOp .Or [a] pos) tA := by
  intro wh pins s σ H Q I h
  refine isTrue_or (thn (ha pins s σ H Q I h) fun c s1 e => ?_)
  cases c with
  | false => exact isTrue_or_nil e
  | true => exact e
theorem pw_and (ha : PT X a tA) (hb : PW X (.BoolOp .And (b :: rest) pos) tB') : PW X (.BoolOp .And (a :: b :: rest) pos) (tAnd tA tB') := by
  intro wh pins s σ H Q I h
  refine isTrue_and (thn (ha pins s σ H _ I h) fun c s1 hP3 => ?_)
  obtain ⟨H1, I1, q1⟩ := hP3
  cases c with
  | true => exact hb wh pins s1 σ H1 Q I1 q1
  | false => exact ⟨H1, I1, q1⟩
theorem pw_or (ha : PT X a tA) (hb : PW X (.BoolOp .Or (b :: rest) pos) tB') : PW X (.BoolOp .Or (a :: b :: rest) pos) (tOr tA tB') := by
  intro wh pins s σ H Q I h
  refine isTrue_or (thn (ha pins s σ H _ I h) fun c s1 hP4 => ?_)
  obtain ⟨H1, I1, q1⟩ := hP4
  cases c with
  | true => exact ⟨H1, I1, q1⟩
  | false => exact hb wh pins s1 σ H1 Q I1 q1
theorem pt_not (ha : PT X a tA) : PT X (.UnaryOp .Not a pos) (tNot tA) := by
  intro pins s σ H Q I h
  exact isTrue_not (ha pins s σ H (fun c H1 => Q (!c) H1) I h)

noncomputable def tAndV (ta tb : TE) : TE := fun σ H Q => ta σ H fun x H1 => ∃ c, x = .bl c ∧ if c = true then tb σ H1 Q else Q (.bl false) H1
noncomputable def tNotV (ta : TE) : TE := fun σ H Q => ta σ H fun x H1 => ∃ c, x = .bl c ∧ Q (.bl (!c)) H1
theorem pe_one {op} {t : TE} (h : PE X a t) : PE X (.BoolOp op [a] pos) t := fun pins s σ H Q I hw => BoolOp_one (h pins s σ H Q I hw)
theorem pe_and (ha : PE X a ta) (hb : PE X (.BoolOp .And (b :: rest) pos) tb) : PE X (.BoolOp .And (a :: b :: rest) pos) (tAndV ta tb) := by
  intro pins s σ H Q I h
  refine BoolOp_and (thn (ha pins s σ H _ I h) fun v s1 hP5 => ?_)
  obtain ⟨x, H1, I1, r1, q1⟩ := hP5
  obtain ⟨c, rfl, q1⟩ := q1
  cases r1
  refine wpAny_truthy_bool ?_
  cases c with
  | true => exact hb pins s1 σ H1 Q I1 q1
  | false => exact ⟨.bl false, H1, I1, rfl, q1⟩
theorem pe_not (ha : PE X a ta) : PE X (.UnaryOp .Not a pos) (tNotV ta) := by
  intro pins s σ H Q I h
  refine UnaryOp_ (thn (ha pins s σ H _ I h) fun v s1 hP6 => ?_)
  obtain ⟨x, H1, I1, r1, q1⟩ := hP6
  obtain ⟨c, rfl, q1⟩ := q1
  cases r1
  exact not_of (wpAny_truthy_bool ⟨.bl (!c), H1, I1, rfl, q1⟩)

noncomputable def tIf (t : TT) (ta tb : TE) : TE := fun σ H Q => t σ H fun c H1 => if c = true then ta σ H1 Q else tb σ H1 Q
theorem pe_ifExp {c : Expr} (hc : PT X c tA) (ha : PE X a ta) (hb : PE X b tb) : PE X (.IfExp c a b pos) (tIf tA ta tb) := by
  intro pins s σ H Q I h
  refine wpAny_IfExp (thn (hc pins s σ H _ I h) fun d s1 hP7 => ?_)
  obtain ⟨H1, I1, q1⟩ := hP7
  cases d with
  | true => exact ha pins s1 σ H1 Q I1 q1
  | false => exact hb pins s1 σ H1 Q I1 q1
end
end Internal.L2

namespace Internal.L2
open PySem PySem.Spec PyProof.Rows

noncomputable def SqL (K : PySem.W.Frag) (H : Hp) (a : Addr) (xs : List V) : Prop :=
  Rd H a (.lst xs) ∨
    ∃ (o : Obj) (its : Array Value) (n : Nat), K.lookup a = some o ∧ o.cls = .type "list" ∧ o.dict = none ∧ o.data = .seq its n ∧ its.size ≤ sizeLine ∧ Vals xs its.toList
noncomputable def SqT (K : PySem.W.Frag) (H : Hp) (a : Addr) (xs : List V) : Prop :=
  Rd H a (.tup xs) ∨
    ∃ (o : Obj) (its : Array Value) (n : Nat), K.lookup a = some o ∧ o.cls = .type "tuple" ∧ o.data = .seq its n ∧ its.size ≤ sizeLine ∧ Vals xs its.toList
noncomputable def absV : Value → Option V
  | .none => some .non
  | .bool b => some (.bl b)
  | .int i _ => some (.int i)
  | .str x _ => some (.str x)
  | .bytes b _ => some (.byt b)
  | .float b _ => some (.flt b)
  | .ref a => some (.ref a)
  | .type n => some (.ty n)
  | _ => none
theorem RelV.abs {x : V} {u : Value} (r : RelV x u) : absV u = some x := by
  cases x with
  | non => cases r; rfl
  | bl _ => cases r; rfl
  | int _ => obtain ⟨t, rfl⟩ := r; rfl
  | str _ => obtain ⟨t, rfl⟩ := r; rfl
  | byt _ => obtain ⟨t, rfl⟩ := r; rfl
  | flt _ => obtain ⟨t, rfl⟩ := r; rfl
  | ref _ => cases r; rfl
  | ty _ => cases r; rfl
theorem RelV.inj {x y : V} {u : Value} (r : RelV x u) (q : RelV y u) : x = y := Option.some.inj (r.abs.symm.trans q.abs)
theorem Vals.inj : ∀ {xs ys : List V} {us : List Value}, Vals xs us → Vals ys us → xs = ys
  | _, _, _, .nil, .nil => rfl
  | _, _, _, .cons r t, .cons r' t' => by rw [r.inj r', Vals.inj t t']
section
variable {X : Cx} {pins : List (Addr × Obj)} {σ : St} {H : Hp} {s : Shared} {a : Addr} {xs ys : List V}
theorem SqL.of {K : PySem.W.Frag} (h : H a = some (.lst xs)) : SqL K H a xs := .inl (.inl h)
theorem SqT.of {K : PySem.W.Frag} (h : H a = some (.tup xs)) : SqT K H a xs := .inl (.inl h)
theorem Inv.list (I : Inv X pins σ H s) (h : SqL X.K H a xs) : ∃ its : List Value, Vals xs its ∧ PlainL s.heap a its.toArray ∧ xs.length ≤ sizeLine := by
  rcases h with h | ⟨o, its, n, hk, hc, hd, hs, hz, r⟩
  · obtain ⟨z, its, n, r, e⟩ := h.ok I.hok
    exact ⟨its, r, ⟨_, n, e, rfl, rfl, rfl⟩, z⟩
  · refine ⟨its.toList, r, ⟨o, n, I.kIn a o hk, hc, hd, by simpa using hs⟩, ?_⟩
    have e := r.length
    simp only [Array.length_toList] at e
    (first | lia | omega)
theorem Inv.tuple (I : Inv X pins σ H s) (h : SqT X.K H a xs) : ∃ its : List Value, Vals xs its ∧ IsTup s.heap a its.toArray ∧ xs.length ≤ sizeLine := by
  rcases h with h | ⟨o, its, n, hk, hc, hs, hz, r⟩
  · obtain ⟨z, its, r, p⟩ := h.ok I.hok
    exact ⟨its, r, p, z⟩
  · refine ⟨its.toList, r, ⟨o, I.kIn a o hk, hc, n, by simpa using hs⟩, ?_⟩
    have e := r.length
    simp only [Array.length_toList] at e
    (first | lia | omega)
theorem Inv.list_inj (I : Inv X pins σ H s) (h : SqL X.K H a xs) (h' : SqL X.K H a ys) : xs = ys := by
  obtain ⟨its, r, ⟨o, n, e, _, _, d⟩, _⟩ := I.list h
  obtain ⟨its', r', ⟨o', n', e', _, _, d'⟩, _⟩ := I.list h'
  rw [e] at e'; cases e'
  rw [d] at d'
  injection d' with d1 _
  have : its = its' := by simpa using congrArg Array.toList d1
  subst this
  exact r.inj r'
theorem Inv.tuple_inj (I : Inv X pins σ H s) (h : SqT X.K H a xs) (h' : SqT X.K H a ys) : xs = ys := by
  obtain ⟨its, r, ⟨o, e, _, n, d⟩, _⟩ := I.tuple h
  obtain ⟨its', r', ⟨o', e', _, n', d'⟩, _⟩ := I.tuple h'
  rw [e] at e'; cases e'
  rw [d] at d'
  injection d' with d1 _
  have : its = its' := by simpa using congrArg Array.toList d1
  subst this
  exact r.inj r'
end

noncomputable abbrev Cx.wish (X : Cx) (E : Value → Shared → Prop) : Cx := { X with xe := E }

noncomputable abbrev Cx.nox (X : Cx) : Cx := X.wish fun _ _ => False
theorem Cx.Ok.wish {X : Cx} (ok : X.Ok) (E : Value → Shared → Prop) : (X.wish E).Ok :=
  ⟨ok.mod, ok.kind, ok.glob, ok.blt, ok.above, ok.inj, ok.has, ok.cab, ok.hd, ok.frames, ok.stk, ok.exf, ok.bs, ok.bsz, ok.noex, ok.exfs, ok.funs, ok.frf⟩
theorem Cx.Ok.unwish {X : Cx} {E : Value → Shared → Prop} (ok : (X.wish E).Ok) : X.Ok :=
  ⟨ok.mod, ok.kind, ok.glob, ok.blt, ok.above, ok.inj, ok.has, ok.cab, ok.hd, ok.frames, ok.stk, ok.exf, ok.bs, ok.bsz, ok.noex, ok.exfs, ok.funs, ok.frf⟩
section
variable {X : Cx} {pins : List (Addr × Obj)} {σ : St} {H : Hp} {s : Shared} {E : Value → Shared → Prop}
theorem Inv.wish (I : Inv X pins σ H s) (E : Value → Shared → Prop) : Inv (X.wish E) pins σ H s := ⟨I.ok.wish E, I.os, I.bare, I.base, I.loc, I.cell, I.free, I.freeC, I.pin, I.hok, I.len⟩
theorem Inv.unwish (I : Inv (X.wish E) pins σ H s) : Inv X pins σ H s := ⟨I.ok.unwish, I.os, I.bare, I.base, I.loc, I.cell, I.free, I.freeC, I.pin, I.hok, I.len⟩
theorem SP.unwish {D : Ends} {f : Flow} {s' : Shared} (h : SP (X.wish E) pins D f s') : SP X pins D f s' := by
  cases f with
  | next => obtain ⟨σ', H', I, q⟩ := h; exact ⟨σ', H', I.unwish, q⟩
  | brk => obtain ⟨σ', H', I, q⟩ := h; exact ⟨σ', H', I.unwish, q⟩
  | cont => obtain ⟨σ', H', I, q⟩ := h; exact ⟨σ', H', I.unwish, q⟩
  | ret u => obtain ⟨v, σ', H', I, r, q⟩ := h; exact ⟨v, σ', H', I.unwish, r, q⟩
theorem PSs.nox {st : List Stmt} {t : TS} (h : PSs X.nox st t) : PSs X st t := fun pins s σ H D I hw =>
  wpAny_mono (h pins s σ H D (I.wish _) hw) (fun _ _ q => q.unwish) fun _ _ z => False.elim z
end

section
variable {X : Cx} {st : Stmt} {rest : List Stmt} {t u : TS} {e : Expr} {te : TE} {pos : Pos}
noncomputable def tNext : TS := fun D σ H => D.nx σ H
noncomputable def tSeq (t u : TS) : TS := fun D σ H => t { D with nx := u D } σ H
theorem pss_nil : PSs X [] tNext := fun _ _ σ H _ I h => wpAny_execs_nil ⟨σ, H, I, h⟩
theorem pss_cons (h1 : PS X st t) (h2 : PSs X rest u) : PSs X (st :: rest) (tSeq t u) := by
  intro pins s σ H D I h
  refine wpAny_execs_cons (thn (h1 pins s σ H { D with nx := u D } I h) fun f s1 q => ?_)
  cases f with
  | next =>
    obtain ⟨σ', H', I', q⟩ := q
    exact h2 pins s1 σ' H' D I' q
  | ret v => exact q
  | brk => exact q
  | cont => exact q

theorem Inv.quiet {pins : List (Addr × Obj)} {σ : St} {H : Hp} {s : Shared} (I : Inv X pins σ H s) : interactive X.env = false := by simp [interactive, I.ok.kind]

noncomputable def tDrop (te : TE) : TS := fun D σ H => te σ H fun _ H1 => D.nx σ H1
theorem ps_expr (he : PE X e te) (hs : swapsWith e none pos.line X.env = pure false := by rfl) : PS X (.Expr e pos) (tDrop te) := by
  intro pins s σ H D I h
  exact wpAny_Expr_any (thn (he pins s σ H _ I h) fun v s1 ⟨x, H1, I1, r1, q1⟩ => ⟨σ, H1, I1, q1⟩) I.quiet hs
noncomputable def tRet (te : TE) : TS := fun D σ H => te σ H D.rt
theorem ps_ret (he : PE X e te) : PS X (.Return (some e) pos) (tRet te) := by
  intro pins s σ H D I h
  exact wpAny_Return_some (thn (he pins s σ H _ I h) fun v s1 ⟨x, H1, I1, r1, q1⟩ => ⟨x, σ, H1, I1, r1, q1⟩)
noncomputable def tIfS (c : TT) (t u : TS) : TS := fun D σ H => c σ H fun b H1 => if b = true then t D σ H1 else u D σ H1
theorem ps_if {c : Expr} {a b : List Stmt} {tc : TT} (hc : PT X c tc) (ha : PSs X a t) (hb : PSs X b u) : PS X (.If c a b pos) (tIfS tc t u) := by
  intro pins s σ H D I h
  refine wpAny_If (thn (hc pins s σ H _ I h) fun d s1 hP8 => ?_)
  obtain ⟨H1, I1, q1⟩ := hP8
  cases d with
  | true => exact ha pins s1 σ H1 D I1 q1
  | false => exact hb pins s1 σ H1 D I1 q1

noncomputable def tNever : TS := fun _ _ _ => False
theorem pss_never {sts : List Stmt} : PSs X sts tNever := fun _ _ _ _ _ _ h => h.elim
end

noncomputable abbrev TG := V → St → Hp → (St → Hp → Prop) → Prop
noncomputable def PG (X : Cx) (target : Expr) (t : TG) : Prop :=
  ∀ (pins : List (Addr × Obj)) (s : Shared) (σ : St) (H : Hp) (v : V) (u : Value) (Q : St → Hp → Prop), Inv X pins σ H s → RelV v u → t v σ H Q →
    wpAny (model X.prog X.w) X.A (assign target X.env u) (fun _ s' => ∃ σ' H', Inv X pins σ' H' s' ∧ Q σ' H') X.xe s
section
variable {X : Cx} {pos : Pos}
noncomputable def gName (i : Nat) : TG := fun v σ H Q => Q (σ.set i (some v)) H
theorem pg_name {i : Nat} {x : Str} (hN : X.N.Nodup) (hi : X.N[i]? = some x) (hx : Loc X.env.scope x) (hf : X.fn x = true ∨ X.env.scope.names.lookup x = some .local := by first | exact .inl rfl | exact .inr rfl | assumption) : PG X (.Name x pos) (gName i) := by
  intro pins s σ H v u Q I r h
  exact wpAny_assign_Name (store_ok I hN hi hx r (fun s' I' => ⟨_, H, I', h⟩) hf)

noncomputable def tAsg (te : TE) (g : TG) : TS := fun D σ H => te σ H fun x H1 => g x σ H1 D.nx

theorem ps_set {i : Nat} {x : Str} {e : Expr} {te : TE} {pos' : Pos} (hN : X.N.Nodup) (hi : X.N[i]? = some x) (hx : Loc X.env.scope x) (he : PE X e te) (hs : swapsWith e (some (.Name x pos')) pos.line X.env = pure false := by rfl) (hf : X.fn x = true ∨ X.env.scope.names.lookup x = some .local := by first | exact .inl rfl | exact .inr rfl | assumption) :
    PS X (.Assign [.Name x pos'] e pos) (tAsg te (gName i)) := by
  intro pins s σ H D I h
  refine wpAny_Assign_Name (thn (he pins s σ H _ I h) fun v s1 hP9 => ?_) hs
  obtain ⟨y, H1, I1, r1, q1⟩ := hP9
  exact store_ok I1 hN hi hx r1 (fun s2 I2 => ⟨_, H1, I2, q1⟩) hf
end

section
variable {X : Cx} {pos : Pos}
end

set_option genInjectivity false in
structure It where
  go : Nat → Hp → Prop
  yld : Nat → Hp → V → Hp → Prop
  stop : Nat → Hp → Prop

noncomputable def FpOk (X : Cx) (pins : List (Addr × Obj)) (H : Hp) (b : Addr) : Prop :=
  H b = none ∧ b ≠ X.env.locals ∧ b ∉ X.fs ∧ (b ∈ X.ex ∨ X.s₀.heap.objs.size ≤ b) ∧ (∀ x c, X.env.cells.lookup x = some c → c ≠ b) ∧ ∀ p ∈ X.pn ++ pins, p.1 ≠ b
theorem Inv.fpOk {X : Cx} {pins : List (Addr × Obj)} {σ : St} {H H' : Hp} {s : Shared} {b : Addr} (I : Inv X pins σ H s) (hb : s.heap.objs.size ≤ b) (hn : H' b = none) : FpOk X pins H' b := by
  refine ⟨hn, Nat.ne_of_gt (Nat.lt_of_lt_of_le I.lt hb), I.nofs hb, .inr (Nat.le_trans I.sz hb), fun x c e z => ?_, fun p hp z => ?_⟩
  · obtain ⟨v, q⟩ := I.cell x c e
    exact absurd (Nat.lt_of_lt_of_le q.lt (by rw [z]; exact hb)) (Nat.lt_irrefl _)
  · exact absurd (Nat.lt_of_lt_of_le (Heap.lt_size (I.pin p hp).1) (by rw [z]; exact hb)) (Nat.lt_irrefl _)
structure Turn (P : Program) (w : World) (K : PySem.W.Frag) (tg : Expr) (J : It) (fp : List Addr) (it : Addr) (tn : Nat → Heap → Prop) : Prop where
  mem : it ∈ fp
  obj : ∀ i h, tn i h → ∀ b ∈ fp, ∃ o, h.get? b = some o ∧ ∀ v, o.data ≠ .cell v
  keep : ∀ i h h', tn i h → (∀ b ∈ fp, ∀ o, h.get? b = some o → h'.get? b = some o) → tn i h'
  item : ∀ (X : Cx), X.prog = P → X.w = w → X.K = K → X.calm = true → ∀ (i : Nat) (pins : List (Addr × Obj)) (s : Shared) (σ : St) (H : Hp) (E : Value → Shared → Prop), Inv X pins σ H s → (∀ b ∈ fp, FpOk X pins H b) → tn i s.heap → J.go i H →
    wpAny (model P w) X.A (pyNext (.ref it)) (fun r s1 => ∃ u, r = some u ∧
      wpAny (model P w) X.A (letOwnedTupleGo tg (.ref it) u) (fun _ s2 => ∃ x H', Inv X pins σ H' s2 ∧ RelV x u ∧ J.yld i H x H' ∧ tn (i + 1) s2.heap ∧ ∀ b ∈ fp, H' b = none) E s1) E s
  done : ∀ (X : Cx), X.prog = P → X.w = w → X.K = K → X.calm = true → ∀ (i : Nat) (pins : List (Addr × Obj)) (s : Shared) (σ : St) (H : Hp) (E : Value → Shared → Prop), Inv X pins σ H s → (∀ b ∈ fp, FpOk X pins H b) → tn i s.heap → J.stop i H →
    wpAny (model P w) X.A (pyNext (.ref it)) (fun r s1 => r = none ∧ Inv X pins σ H s1) E s
  self : ∀ (A : Around) (i : Nat) (s : Shared) (Q : Value → Shared → Prop) (E : Value → Shared → Prop), tn i s.heap → Q (.ref it) s → wpAny (model P w) A (pyIter (.ref it)) Q E s
noncomputable abbrev TI := St → Hp → (It → Hp → Prop) → Prop

noncomputable def PIE (X : Cx) (pins : List (Addr × Obj)) (σ : St) (tg : Expr) (R : It → Hp → Prop) (itv : Value) (s2 : Shared) : Prop :=
  ∃ (it : Addr) (fp : List Addr) (tn : Nat → Heap → Prop) (J : It) (H' : Hp), itv = .ref it ∧ Inv X pins σ H' s2 ∧ Turn X.prog X.w X.K tg J fp it tn ∧ tn 0 s2.heap ∧ (∀ b ∈ fp, FpOk X pins H' b) ∧ R J H'
noncomputable def PI (X : Cx) (tg iter : Expr) (wi : TI) : Prop :=
  ∀ (pins : List (Addr × Obj)) (s : Shared) (σ : St) (H : Hp) (R : It → Hp → Prop), Inv X pins σ H s → wi σ H R →
    wpAny (model X.prog X.w) X.A (eval iter X.env) (fun v s1 => wpAny (model X.prog X.w) X.A (pyIter v) (PIE X pins σ tg R) X.xe s1) X.xe s

theorem go_of {M : Model} {A : Around} {E : Value → Shared → Prop} {s : Shared} {tg : Expr} {it : Addr} {u : Value} {o : Obj} {n : String} {vs : Array Value} {Q : Unit → Shared → Prop} (ho : s.heap.get? it = some o) (hc : o.cls = .type n) (hd : o.data = .fields vs)
    (hn : ["enumerate", "zip", "dict_itemiterator", "dict_reverseitemiterator", "odict_iterator", "itertools.zip_longest", "itertools.pairwise"].contains n = false) (hQ : Q () s) : wpAny M A (letOwnedTupleGo tg (.ref it) u) Q E s := by
  unfold letOwnedTupleGo
  cases tg <;> first
    | exact wpAny_pure hQ
    | (cases u <;> first
        | exact wpAny_pure hQ
        | (refine wpAny_bind (wpAny_load ho ?_)
           rw [hc, hd]
           show wpAny M A (if (["enumerate", "zip", "dict_itemiterator", "dict_reverseitemiterator", "odict_iterator", "itertools.zip_longest", "itertools.pairwise"].contains n && vs[0]? == some (rawInt _)) = true then _ else _) Q E s
           rw [if_neg (by intro h; rw [hn, Bool.false_and] at h; cases h)]
           exact wpAny_pure hQ))

noncomputable def Itl (K : PySem.W.Frag) (a : Addr) : It :=
  ⟨fun i H => ∃ xs x, SqL K H a xs ∧ xs[i]? = some x, fun i H x H' => H' = H ∧ ∀ xs, SqL K H a xs → xs[i]? = some x, fun i H => ∃ xs, SqL K H a xs ∧ xs.length ≤ i⟩
noncomputable def Itt (K : PySem.W.Frag) (a : Addr) : It :=
  ⟨fun i H => ∃ xs x, SqT K H a xs ∧ xs[i]? = some x, fun i H x H' => H' = H ∧ ∀ xs, SqT K H a xs → xs[i]? = some x, fun i H => ∃ xs, SqT K H a xs ∧ xs.length ≤ i⟩

noncomputable def Itr (lo : Int) (n : Nat) : It := ⟨fun i _ => i < n, fun i H x H' => H' = H ∧ x = .int (lo + i), fun i _ => n ≤ i⟩
theorem turn_list {P : Program} {w : World} {K : PySem.W.Frag} {tg : Expr} (a it : Addr) : Turn P w K tg (Itl K a) [it] it (fun i h => h.IsListIter it a i) where
  mem := by simp
  obj := fun i h st b hb => by
    have e : b = it := by simpa using hb
    subst e
    obtain ⟨o, e, c, d⟩ := st
    exact ⟨o, e, fun v z => by rw [d] at z; cases z⟩
  keep := fun i h h' st k => st.at fun o e => k it (by simp) o e
  item := by
    intro X hP hw hK hc i pins s σ H E I hf st hg
    subst hP hw hK
    obtain ⟨xs, x, hq, hx⟩ := hg
    obtain ⟨its, rv, p, hz⟩ := I.list hq
    obtain ⟨u, hu, ru⟩ := rv.get hx
    obtain ⟨f0, f1, f2, f3, f4, f5⟩ := hf it (by simp)
    refine wpAny_pyNext_list_item st p.isList (x := u) (by simpa using hu) fun h' st' sb => ?_
    have I1 : Inv X pins σ H { s with heap := h' } := I.turned (t' := s.toks) (fun b o hb e => (sb.2 b hb).trans e) f0 f1 f3 f4 f5
    obtain ⟨o, e, c, d⟩ := id st'
    exact ⟨u, rfl, go_of (s := { s with heap := h' }) e c d (by decide) ⟨x, H, I1, ru, ⟨rfl, fun ys hy => by rw [I.list_inj hy hq]; exact hx⟩, st', fun b hb => (hf b hb).1⟩⟩
  done := by
    intro X hP hw hK hc i pins s σ H E I hf st hg
    subst hP hw hK
    obtain ⟨xs, hq, hx⟩ := hg
    obtain ⟨its, rv, p, hz⟩ := I.list hq
    obtain ⟨f0, f1, f2, f3, f4, f5⟩ := hf it (by simp)
    have hl := rv.length
    exact wpAny_pyNext_list_end (I.ok.hd hc) st p.isList (by simp; (first | lia | omega)) fun h' eb => ⟨rfl, I.turned (t' := s.toks) (fun b o hb e => eb b o hb e) f0 f1 f3 f4 f5⟩
  self := fun _ _ _ _ _ st h => wpAny_pyIter_listiter st h
theorem turn_tuple {P : Program} {w : World} {K : PySem.W.Frag} {tg : Expr} (a it : Addr) : Turn P w K tg (Itt K a) [it] it (fun i h => h.IsTupleIter it a i) where
  mem := by simp
  obj := fun i h st b hb => by
    have e : b = it := by simpa using hb
    subst e
    obtain ⟨o, e, c, d⟩ := st
    exact ⟨o, e, fun v z => by rw [d] at z; cases z⟩
  keep := fun i h h' st k => st.at fun o e => k it (by simp) o e
  item := by
    intro X hP hw hK hc i pins s σ H E I hf st hg
    subst hP hw hK
    obtain ⟨xs, x, hq, hx⟩ := hg
    obtain ⟨its, rv, p, hz⟩ := I.tuple hq
    obtain ⟨u, hu, ru⟩ := rv.get hx
    obtain ⟨f0, f1, f2, f3, f4, f5⟩ := hf it (by simp)
    refine wpAny_pyNext_tuple_item st (show s.heap.IsTuple a its.toArray from p) (x := u) (by simpa using hu) fun h' st' sb => ?_
    have I1 : Inv X pins σ H { s with heap := h' } := I.turned (t' := s.toks) (fun b o hb e => (sb.2 b hb).trans e) f0 f1 f3 f4 f5
    obtain ⟨o, e, c, d⟩ := id st'
    exact ⟨u, rfl, go_of (s := { s with heap := h' }) e c d (by decide) ⟨x, H, I1, ru, ⟨rfl, fun ys hy => by rw [I.tuple_inj hy hq]; exact hx⟩, st', fun b hb => (hf b hb).1⟩⟩
  done := by
    intro X hP hw hK hc i pins s σ H E I hf st hg
    subst hP hw hK
    obtain ⟨xs, hq, hx⟩ := hg
    obtain ⟨its, rv, p, hz⟩ := I.tuple hq
    obtain ⟨f0, f1, f2, f3, f4, f5⟩ := hf it (by simp)
    have hl := rv.length
    exact wpAny_pyNext_tuple_end (I.ok.hd hc) st (show s.heap.IsTuple a its.toArray from p) (by simp; (first | lia | omega)) fun h' eb => ⟨rfl, I.turned (t' := s.toks) (fun b o hb e => eb b o hb e) f0 f1 f3 f4 f5⟩
  self := fun _ _ _ _ _ st h => wpAny_pyIter_tupleiter st h
theorem turn_range {P : Program} {w : World} {K : PySem.W.Frag} {tg : Expr} (it : Addr) (lo : Int) (n : Nat) : Turn P w K tg (Itr lo n) [it] it (fun i h => IsRangeIter h it (lo + (i : Nat) * 1) ((n : Int) - (i : Nat)) 1) where
  mem := by simp
  obj := fun i h st b hb => by
    have e : b = it := by simpa using hb
    subst e
    exact ⟨_, st, fun v z => by
      have z' : Data.fields _ = Data.cell v := z
      cases z'⟩
  keep := fun i h h' st k => k it (by simp) _ st
  item := by
    intro X hP hw hK hc i pins s σ H E I hf st hg
    subst hP hw hK
    obtain ⟨f0, f1, f2, f3, f4, f5⟩ := hf it (by simp)
    have W := Walks.range (prog := X.prog) (w := X.w) (I.ok.hd hc) it lo 1 n
    refine W.item i s _ _ hg st fun v h' tk hv st' kk => ?_
    obtain ⟨t, rfl⟩ := hv
    have I1 : Inv X pins σ H { s with heap := h', toks := tk } := I.turned (fun b o hb e => kk b o (by simpa using hb) e) f0 f1 f3 f4 f5
    refine ⟨_, rfl, go_of (s := { s with heap := h', toks := tk }) (n := "range_iterator") st' rfl rfl (by decide) ⟨.int (lo + i), H, I1, ⟨t, ?_⟩, ⟨rfl, rfl⟩, st', fun b hb => (hf b hb).1⟩⟩
    rw [Int.mul_one]
  done := by
    intro X hP hw hK hc i pins s σ H E I hf st hg
    subst hP hw hK
    obtain ⟨f0, f1, f2, f3, f4, f5⟩ := hf it (by simp)
    exact wpAny_pyNext_range_end (I.ok.hd hc) st (by have : n ≤ i := hg; (first | lia | omega)) fun h' eb => ⟨rfl, I.turned (t' := s.toks) (fun b o hb e => eb b o hb e) f0 f1 f3 f4 f5⟩
  self := fun _ _ _ _ _ st h => wpAny_pyIter_rangeiter st h
end Internal.L2

namespace Internal.L2
open PySem PySem.Spec PyProof.Rows
section
variable {X : Cx} {tg : Expr}
noncomputable def iList (K : PySem.W.Frag) (tl : TE) : TI := fun σ H R => tl σ H fun x H1 => ∃ a, x = .ref a ∧ (∃ xs, SqL K H1 a xs) ∧ R (Itl K a) H1
noncomputable def iTup (K : PySem.W.Frag) (tl : TE) : TI := fun σ H R => tl σ H fun x H1 => ∃ a, x = .ref a ∧ (∃ xs, SqT K H1 a xs) ∧ R (Itt K a) H1
theorem pi_list {l : Expr} {tl : TE} (hl : PE X l tl) : PI X tg l (iList X.K tl) := by
  intro pins s σ H R I h
  refine thn (hl pins s σ H _ I h) fun v s1 hP10 => ?_
  obtain ⟨x, H1, I1, r1, q1⟩ := hP10
  obtain ⟨a, e, ⟨xs, hq⟩, q⟩ := q1
  subst e
  cases r1
  obtain ⟨its, rv, p, hz⟩ := I1.list hq
  refine wpAny_pyIter_list p.isList ?_
  refine ⟨s1.heap.objs.size, [s1.heap.objs.size], _, _, H1, rfl, I1.kept (t' := s1.toks) fun b o e => Heap.get?_push_of_some _ e, turn_list a _, ⟨_, Heap.get?_push_size _ rfl, rfl, rfl⟩, fun b hb => ?_, q⟩
  have e : b = s1.heap.objs.size := by simpa using hb
  subst e
  exact I1.fpOk (Nat.le_refl _) (I1.hok.fresh (Nat.le_refl _))
theorem pi_tup {l : Expr} {tl : TE} (hl : PE X l tl) : PI X tg l (iTup X.K tl) := by
  intro pins s σ H R I h
  refine thn (hl pins s σ H _ I h) fun v s1 hP11 => ?_
  obtain ⟨x, H1, I1, r1, q1⟩ := hP11
  obtain ⟨a, e, ⟨xs, hq⟩, q⟩ := q1
  subst e
  cases r1
  obtain ⟨its, rv, p, hz⟩ := I1.tuple hq
  refine wpAny_pyIter_tuple (show s1.heap.IsTuple a its.toArray from p) ?_
  refine ⟨s1.heap.objs.size, [s1.heap.objs.size], _, _, H1, rfl, I1.kept (t' := s1.toks) fun b o e => Heap.get?_push_of_some _ e, turn_tuple a _, ⟨_, Heap.get?_push_size _ rfl, rfl, rfl⟩, fun b hb => ?_, q⟩
  have e : b = s1.heap.objs.size := by simpa using hb
  subst e
  exact I1.fpOk (Nat.le_refl _) (I1.hok.fresh (Nat.le_refl _))

theorem range_it {pins : List (Addr × Obj)} {σ : St} {H : Hp} {s : Shared} {R : It → Hp → Prop} {E : Value → Shared → Prop} {lo hi : Int} {t u v : Tok} {tk : Nat} (I : Inv X pins σ H s) (h1 : -(2 ^ 62) ≤ lo) (h2 : lo < 2 ^ 62) (h3 : -(2 ^ 62) ≤ hi) (h4 : hi < 2 ^ 62)
    (q : R (Itr lo (hi - lo).toNat) H) : wpAny (model X.prog X.w) X.A (pyIter (.ref s.heap.objs.size)) (PIE X pins σ tg R) E { s with heap := s.heap.push { cls := .type "range", data := .fields #[.int lo t, .int hi u, .int 1 v] }, toks := tk } := by
  refine wpAny_pyIter_range (IsRange.new ..) (small_one h1 h2 h3 h4) ?_
  have I1 : Inv X pins σ H { s with heap := s.heap.push { cls := .type "range", data := .fields #[.int lo t, .int hi u, .int 1 v] }, toks := tk } := I.kept fun b o e => Heap.get?_push_of_some _ e
  refine ⟨(s.heap.push { cls := .type "range", data := .fields #[.int lo t, .int hi u, .int 1 v] }).objs.size, [(s.heap.push { cls := .type "range", data := .fields #[.int lo t, .int hi u, .int 1 v] }).objs.size], _, _, H, rfl,
    I1.kept (t' := tk) fun b o e => Heap.get?_push_of_some _ e, turn_range _ lo (hi - lo).toNat, ?_, fun b hb => ?_, q⟩
  · have e1 : lo + ((0 : Nat) : Int) * 1 = lo := by simp
    have e2 : (((hi - lo).toNat : Nat) : Int) - ((0 : Nat) : Int) = Builtin.Range.rangeSize lo hi 1 := by rw [rangeSize_one]; split <;> (first | lia | omega)
    show IsRangeIter _ _ (lo + ((0 : Nat) : Int) * 1) ((((hi - lo).toNat : Nat) : Int) - ((0 : Nat) : Int)) 1
    rw [e1, e2]
    exact Heap.get?_push_size _ rfl
  · have e : b = (s.heap.push { cls := .type "range", data := .fields #[.int lo t, .int hi u, .int 1 v] }).objs.size := by simpa using hb
    subst e
    exact I1.fpOk (Nat.le_refl _) (I1.hok.fresh (Nat.le_refl _))
noncomputable def iRng1 (ta : TA) : TI := fun σ H R => ta σ H fun vs H1 => ∃ j : Int, vs = [.int j] ∧ -(2 ^ 62) ≤ j ∧ j < 2 ^ 62 ∧ R (Itr 0 j.toNat) H1
theorem pi_range1 {a : Expr} {ta : TA} {p pos : Pos} (hg : Gl X "range") (hm : X.mg "range" = none) (ha : PA X [a] ta) (hs : starEach [a] X.env = [(false, eval a X.env)] := by rfl) : PI X tg (.Call (.Name "range" p) [a] [] pos) (iRng1 ta) := by
  intro pins s σ H R I h
  refine Call_ (ld_blt I hg hm boot_range (PyProof.Rows.callWith_type1 (thn (ha pos pins s σ H _ I h) fun us s1 hP12 => ?_) hs rfl))
  obtain ⟨vs, H1, I1, r1, q1⟩ := hP12
  obtain ⟨j, e, q1, q2, q⟩ := q1
  subst e
  cases r1 with
  | cons r rr =>
    cases rr
    obtain ⟨t, rfl⟩ := r
    exact call_range_1 (range_it I1 (by (first | lia | omega)) (by (first | lia | omega)) q1 q2 (by simpa using q))

noncomputable def tFor (wi : TI) (g : TG) (tb : TS) : TS := fun D σ H => wi σ H fun J H1 => ∃ W : Nat → Nat → St → Hp → Prop, (∃ m, W 0 m σ H1) ∧ ∀ i m σ H, W i m σ H →
  (J.stop i H ∧ D.nx σ H) ∨ (J.go i H ∧ ∃ N : St → Hp → Prop, (∀ σ' H', N σ' H' → ∃ m', m' < m ∧ W (i + 1) m' σ' H') ∧ ∀ x H', J.yld i H x H' → g x σ H' fun σ2 H2 => tb { D with nx := N, ct := N, bk := D.nx } σ2 H2)

noncomputable def pinsAt (fp : List Addr) (h : Heap) : List (Addr × Obj) := fp.filterMap fun b => (h.get? b).map fun o => (b, o)
theorem mem_pinsAt {fp : List Addr} {h : Heap} {b : Addr} {o : Obj} (hb : b ∈ fp) (e : h.get? b = some o) : (b, o) ∈ pinsAt fp h := List.mem_filterMap.mpr ⟨b, hb, by rw [e]; rfl⟩
theorem of_pinsAt {fp : List Addr} {h : Heap} {p : Addr × Obj} (hp : p ∈ pinsAt fp h) : p.1 ∈ fp ∧ h.get? p.1 = some p.2 := by
  obtain ⟨b, hb, e⟩ := List.mem_filterMap.mp hp
  cases q : h.get? b with
  | none => rw [q] at e; cases e
  | some o =>
    rw [q] at e
    have e' : (b, o) = p := Option.some.inj e
    subst e'
    exact ⟨hb, q⟩
theorem Inv.pinned {pins : List (Addr × Obj)} {σ : St} {H : Hp} {s : Shared} {fp : List Addr} (I : Inv X pins σ H s) (hf : ∀ b ∈ fp, FpOk X pins H b) (ho : ∀ b ∈ fp, ∃ o, s.heap.get? b = some o ∧ ∀ v, o.data ≠ .cell v) : Inv X (pins ++ pinsAt fp s.heap) σ H s :=
  I.pins_of fun p hp => (List.mem_append.mp hp).elim (fun z => I.pin p (List.mem_append_right _ z)) fun z => by
    obtain ⟨hb, e⟩ := of_pinsAt z
    obtain ⟨f0, f1, f2, _⟩ := hf p.1 hb
    obtain ⟨o, e', d⟩ := ho p.1 hb
    rw [e] at e'; cases e'
    exact ⟨e, f0, f1, f2, d⟩
theorem Inv.unpinned {pins pl : List (Addr × Obj)} {σ : St} {H : Hp} {s : Shared} (I : Inv X (pins ++ pl) σ H s) : Inv X pins σ H s := I.pins_of fun p hp => I.pin p (List.mem_append_right _ (List.mem_append_left _ hp))
theorem ps_for {iter : Expr} {body : List Stmt} {wi : TI} {g : TG} {tb : TS} {pos : Pos} (hp : PassesOwn (model X.prog X.w) X.A X.env X.xe) (hc : X.calm = true) (hi : PI X tg iter wi) (hg : PG X tg g) (hb : PSs X body tb)
    (hs : ∀ x, foldedSetIterable iter X.env x = pure x := by intro _; rfl) : PS X (.For tg iter body [] pos) (tFor wi g tb) := by
  intro pins s σ H D I h
  refine wpAny_For (thn (hi pins s σ H _ I h) fun v s1 h1 => thn h1 fun itv s2 h2 => ?_) hs
  obtain ⟨it, fp, tn, J, H2, e, I2, T, st2, f2, W, ⟨m0, w0⟩, turn⟩ := h2
  subst e
  -- what stays true of the iterator's objects through the loop
  have stat : ∀ {H' : Hp}, (∀ b ∈ fp, H' b = none) → ∀ b ∈ fp, FpOk X pins H' b := fun hn b hb => ⟨hn b hb, (f2 b hb).2⟩
  refine codeAny_forLoop_any (fun n s' => ∃ i σ' H', Inv X pins σ' H' s' ∧ tn i s'.heap ∧ (∀ b ∈ fp, H' b = none) ∧ W i n σ' H') ?_ m0 ⟨0, σ, H2, I2, st2, fun b hb => (f2 b hb).1, w0⟩
  rintro n s3 ⟨i, σ3, H3, I3, st3, fr3, w3⟩
  rcases turn i n σ3 H3 w3 with ⟨stop, qn⟩ | ⟨go, N, hN, step⟩
  · refine wpAny_passesOwn hp (thn (T.done X rfl rfl rfl hc i pins s3 σ3 H3 X.xe I3 (stat fr3) st3 stop) fun r s4 hP13 => ?_)
    obtain ⟨hr, I4⟩ := hP13
    subst hr
    exact wpAny_execs_nil ⟨σ3, H3, I4, qn⟩
  · refine wpAny_passesOwn hp (thn (T.item X rfl rfl rfl hc i pins s3 σ3 H3 X.xe I3 (stat fr3) st3 go) fun r s4 hP14 => ?_)
    obtain ⟨u, hr, h4⟩ := hP14
    subst hr
    refine wpAny_passesOwn hp (thn h4 fun _ s5 hP15 => ?_)
    obtain ⟨x, H5, I5, r5, y5, st5, fr5⟩ := hP15
    have I5' := I5.pinned (stat fr5) (T.obj _ _ st5)
    refine wpAny_passesOwn hp (thn (hg _ s5 σ3 H5 x u _ I5' r5 (step x H5 y5)) fun _ s6 hP16 => ?_)
    obtain ⟨σ6, H6, I6, q6⟩ := hP16
    refine wpAny_passesOwn hp (thn (hb _ s6 σ6 H6 _ I6 q6) fun f s7 q7 => ?_)
    have again : ∀ {σ7 : St} {H7 : Hp}, Inv X (pins ++ pinsAt fp s5.heap) σ7 H7 s7 → N σ7 H7 → ∃ m, m < n ∧ ∃ i σ' H', Inv X pins σ' H' s7 ∧ tn i s7.heap ∧ (∀ b ∈ fp, H' b = none) ∧ W i m σ' H' := fun {σ7 H7} I7 n7 => by
      obtain ⟨m', hm, w7⟩ := hN σ7 H7 n7
      refine ⟨m', hm, i + 1, σ7, H7, I7.unpinned, T.keep _ _ _ st5 fun b hb o e => (I7.pin (b, o) (List.mem_append_right _ (List.mem_append_right _ (mem_pinsAt hb e)))).1, fun b hb => ?_, w7⟩
      obtain ⟨o, e, d⟩ := T.obj _ _ st5 b hb
      exact (I7.pin (b, o) (List.mem_append_right _ (List.mem_append_right _ (mem_pinsAt hb e)))).2.1
    cases f with
    | next => obtain ⟨σ7, H7, I7, n7⟩ := q7; exact again I7 n7
    | cont => obtain ⟨σ7, H7, I7, n7⟩ := q7; exact again I7 n7
    | brk => obtain ⟨σ7, H7, I7, q7⟩ := q7; exact ⟨σ7, H7, I7.unpinned, q7⟩
    | ret v => obtain ⟨x7, σ7, H7, I7, r7, q7⟩ := q7; exact ⟨x7, σ7, H7, I7.unpinned, r7, q7⟩
end

end Internal.L2

namespace Internal.L2
open PySem PySem.Spec PyProof.Rows

noncomputable abbrev R2 := V → V → Hp → VK → Prop

noncomputable def OpR (X : Cx) (f : Value → Value → Sem Value) (r : R2) : Prop :=
  ∀ (pins : List (Addr × Obj)) (s : Shared) (σ : St) (H : Hp) (x y : V) (v u : Value) (Q : VK), Inv X pins σ H s → RelV x v → RelV y u → r x y H Q →
    wpAny (model X.prog X.w) X.A (f v u) (EP X pins σ Q) X.xe s

noncomputable def UnR (X : Cx) (f : Value → Sem Value) (r : V → Hp → VK → Prop) : Prop :=
  ∀ (pins : List (Addr × Obj)) (s : Shared) (σ : St) (H : Hp) (x : V) (v : Value) (Q : VK), Inv X pins σ H s → RelV x v → r x H Q →
    wpAny (model X.prog X.w) X.A (f v) (EP X pins σ Q) X.xe s

noncomputable def CallR (X : Cx) (f : Value) (r : List V → Hp → VK → Prop) : Prop :=
  ∀ (pins : List (Addr × Obj)) (s : Shared) (σ : St) (H : Hp) (xs : List V) (us : List Value) (Q : VK), Inv X pins σ H s → Vals xs us → r xs H Q →
    wpAny (model X.prog X.w) X.A (call f us) (EP X pins σ Q) X.xe s
noncomputable def tOp (r : R2) (ta tb : TE) : TE := fun σ H Q => ta σ H fun x H1 => tb σ H1 fun y H2 => r x y H2 Q
noncomputable def tUn (r : V → Hp → VK → Prop) (ta : TE) : TE := fun σ H Q => ta σ H fun x H1 => r x H1 Q

noncomputable def rI (C : Int → Int → Prop) (g : Int → Int → V) : R2 := fun x y H Q => ∃ i j, x = .int i ∧ y = .int j ∧ C i j ∧ Q (g i j) H
noncomputable def rI0 (g : Int → Int → V) : R2 := fun x y H Q => ∃ i j, x = .int i ∧ y = .int j ∧ Q (g i j) H
noncomputable def rU (g : Int → V) : V → Hp → VK → Prop := fun x H Q => ∃ i, x = .int i ∧ Q (g i) H

section
variable {X : Cx} {a b c : Expr} {ta tb tc : TE} {pos : Pos}

theorem binT (ha : PE X a ta) (hb : PE X b tb) {pins : List (Addr × Obj)} {s : Shared} {σ : St} {H : Hp} {R : V → V → Hp → Prop} (I : Inv X pins σ H s)
    (h : ta σ H fun x H1 => tb σ H1 fun y H2 => R x y H2) {Q : Value → Shared → Prop} {f : Value → Value → Sem Value}
    (hf : ∀ v u s2 x y H2, Inv X pins σ H2 s2 → RelV x v → RelV y u → R x y H2 → wpAny (model X.prog X.w) X.A (f v u) Q X.xe s2) :
    wpAny (model X.prog X.w) X.A (eval a X.env) (fun v s₁ => wpAny (model X.prog X.w) X.A (eval b X.env) (fun u s₂ => wpAny (model X.prog X.w) X.A (f v u) Q X.xe s₂) X.xe s₁) X.xe s := by
  refine thn (ha pins s σ H _ I h) fun v s1 hP17 => ?_
  obtain ⟨x, H1, I1, r1, q1⟩ := hP17
  refine thn (hb pins s1 σ H1 _ I1 q1) fun u s2 hP18 => ?_
  obtain ⟨y, H2, I2, r2, q2⟩ := hP18
  exact hf v u s2 x y H2 I2 r1 r2 q2

theorem pe_op {op : Operator} {r : R2} (ho : OpR X (binaryOp op) r) (ha : PE X a ta) (hb : PE X b tb) : PE X (.BinOp a op b pos) (tOp r ta tb) := by
  intro pins s σ H Q I h
  exact wpAny_BinOp (binT ha hb I h fun v u s2 x y H2 I2 rx ry q => ho pins s2 σ H2 x y v u Q I2 rx ry q)
theorem pe_un {op : UnaryOp} {r : V → Hp → VK → Prop} (ho : UnR X (unaryOp op) r) (ha : PE X a ta) : PE X (.UnaryOp op a pos) (tUn r ta) := by
  intro pins s σ H Q I h
  exact UnaryOp_ (thn (ha pins s σ H _ I h) fun v s1 ⟨x, H1, I1, r1, q1⟩ => ho pins s1 σ H1 x v Q I1 r1 q1)

theorem opI {f : Value → Value → Sem Value} {C : Int → Int → Prop} {g : Int → Int → Int}
    (rule : ∀ (i j : Int) (t u : Tok) (s : Shared) (Q : Value → Shared → Prop) (E : Value → Shared → Prop), C i j → Q (.int (g i j) s.toks) { s with toks := s.toks + 1 } → wpAny (model X.prog X.w) X.A (f (.int i t) (.int j u)) Q E s) :
    OpR X f (rI C fun i j => .int (g i j)) := by
  intro pins s σ H x y v u Q I rx ry h
  obtain ⟨i, j, rfl, rfl, hc, q⟩ := h
  obtain ⟨t, rfl⟩ := rx
  obtain ⟨t', rfl⟩ := ry
  exact rule i j t t' s _ _ hc ⟨.int (g i j), H, I.tok _, ⟨_, rfl⟩, q⟩
theorem opI0 {f : Value → Value → Sem Value} {g : Int → Int → Int}
    (rule : ∀ (i j : Int) (t u : Tok) (s : Shared) (Q : Value → Shared → Prop) (E : Value → Shared → Prop), Q (.int (g i j) s.toks) { s with toks := s.toks + 1 } → wpAny (model X.prog X.w) X.A (f (.int i t) (.int j u)) Q E s) :
    OpR X f (rI0 fun i j => .int (g i j)) := by
  intro pins s σ H x y v u Q I rx ry h
  obtain ⟨i, j, rfl, rfl, q⟩ := h
  obtain ⟨t, rfl⟩ := rx
  obtain ⟨t', rfl⟩ := ry
  exact rule i j t t' s _ _ ⟨.int (g i j), H, I.tok _, ⟨_, rfl⟩, q⟩
theorem opB0 {f : Value → Value → Sem Value} {g : Int → Int → Bool}
    (rule : ∀ (i j : Int) (t u : Tok) (s : Shared) (Q : Value → Shared → Prop) (E : Value → Shared → Prop), Q (.bool (g i j)) s → wpAny (model X.prog X.w) X.A (f (.int i t) (.int j u)) Q E s) :
    OpR X f (rI0 fun i j => .bl (g i j)) := by
  intro pins s σ H x y v u Q I rx ry h
  obtain ⟨i, j, rfl, rfl, q⟩ := h
  obtain ⟨t, rfl⟩ := rx
  obtain ⟨t', rfl⟩ := ry
  exact rule i j t t' s _ _ ⟨.bl (g i j), H, I, rfl, q⟩

noncomputable def CDiv (i j : Int) : Prop := 0 < j ∧ j < 1073741824
noncomputable def CMul (i j : Int) : Prop := (-(2 ^ 64) < i ∧ i < 2 ^ 64) ∨ (-(2 ^ 64) < j ∧ j < 2 ^ 64)
theorem CMul.ok {i j : Int} (h : CMul i j) : IntMulOk i j := by
  rcases h with ⟨h1, h2⟩ | ⟨h1, h2⟩
  · exact .of_left (intBits_le_64 h1 h2)
  · exact .of_right (intBits_le_64 h1 h2)
theorem op_add : OpR X (binaryOp .Add) (rI0 fun i j => .int (i + j)) := opI0 fun _ _ _ _ _ _ _ q => add_int q
theorem op_mul : OpR X (binaryOp .Mult) (rI CMul fun i j => .int (i * j)) := opI fun _ _ _ _ _ _ _ hc q => mul_int q hc.ok

theorem op_fdiv : OpR X (binaryOp .FloorDiv) (rI CDiv fun i j => .int (i / j)) := opI fun i j _ _ _ _ _ hc q => by
  have h1 : (0 : Int) < j := hc.1
  have h2 : j < 1073741824 := hc.2
  exact floordiv_int (by (first | lia | omega)) (by rw [Int.fdiv_eq_ediv_of_nonneg i (by (first | lia | omega))]; exact q) (.inl (PyProof.noPylong_small (by (first | lia | omega))))

theorem op_mod : OpR X (binaryOp .Mod) (rI (fun _ j => 0 < j) fun i j => .int (i % j)) := opI fun i j _ _ _ _ _ hc q => by
  have h1 : (0 : Int) < j := hc
  exact mod_int' (by (first | lia | omega)) (by rw [Int.fmod_eq_emod_of_nonneg i (by (first | lia | omega))]; exact q)
theorem unI {f : Value → Sem Value} {g : Int → Int}
    (rule : ∀ (i : Int) (t : Tok) (s : Shared) (Q : Value → Shared → Prop) (E : Value → Shared → Prop), Q (.int (g i) s.toks) { s with toks := s.toks + 1 } → wpAny (model X.prog X.w) X.A (f (.int i t)) Q E s) :
    UnR X f (rU fun i => .int (g i)) := by
  intro pins s σ H x v Q I rx h
  obtain ⟨i, rfl, q⟩ := h
  obtain ⟨t, rfl⟩ := rx
  exact rule i t s _ _ ⟨.int (g i), H, I.tok _, ⟨_, rfl⟩, q⟩
theorem un_neg : UnR X (unaryOp .USub) (rU fun i => .int (-i)) := unI fun _ _ _ _ _ q => neg_int q

end

noncomputable def scal : V → V → Bool
  | .non, .non => true | .non, .int _ => true | .int _, .non => true | .non, .bl _ => true | .bl _, .non => true | .non, .str _ => true | .str _, .non => true
  | .int _, .int _ => true | .bl _, .bl _ => true | .str _, .str _ => true | .byt _, .byt _ => true
  | .int _, .str _ => true | .str _, .int _ => true | .bl _, .str _ => true | .str _, .bl _ => true
  | _, _ => false
noncomputable def rEq : R2 := fun x y H Q => scal x y = true ∧ Q (.bl (decide (x = y))) H
noncomputable def rNe : R2 := fun x y H Q => scal x y = true ∧ Q (.bl (!decide (x = y))) H

theorem dec_int {i j : Int} : decide (V.int i = V.int j) = (i == j) := by
  rw [Bool.eq_iff_iff]
  simp
theorem dec_bl {i j : Bool} : decide (V.bl i = V.bl j) = (i == j) := by
  rw [Bool.eq_iff_iff]
  simp
theorem dec_str {i j : Str} : decide (V.str i = V.str j) = (i == j) := by
  rw [Bool.eq_iff_iff]
  simp
theorem dec_byt {i j : Array UInt8} : decide (V.byt i = V.byt j) = (i.toList == j.toList) := by
  rw [Bool.eq_iff_iff]
  cases i
  cases j
  simp

section
variable {X : Cx} {a b c : Expr} {ta tb tc : TE} {pos : Pos}
theorem fin_bl {pins : List (Addr × Obj)} {σ : St} {H : Hp} {s : Shared} {Q : VK} {k k' : Bool} (I : Inv X pins σ H s) (q : Q (.bl k) H) (e : k = k') : EP X pins σ Q (.bool k') s := by
  subst e
  exact ⟨.bl k, H, I, rfl, q⟩
theorem op_eq : OpR X (compareOp .Eq) rEq := by
  intro pins s σ H x y v u Q I rx ry h
  obtain ⟨hs, q⟩ := h
  cases x with
  | non =>
    cases rx
    cases y with
    | non => cases ry; exact PySem.EqNone.eq_none_none (fin_bl I q (by simp))
    | bl j => cases ry; exact PySem.EqNone.eq_none_bool (fin_bl I q (by simp))
    | int j => obtain ⟨t', rfl⟩ := ry; exact PySem.EqNone.eq_none_int (fin_bl I q (by simp))
    | str j => obtain ⟨t', rfl⟩ := ry; exact PySem.EqNone.eq_none_str (fin_bl I q (by simp))
    | _ => exact absurd (show false = true from hs) Bool.false_ne_true
  | bl i =>
    cases rx
    cases y with
    | non => cases ry; exact PySem.EqNone.eq_bool_none (fin_bl I q (by simp))
    | bl j => cases ry; exact eq_bool (fin_bl I q dec_bl)
    | str j => obtain ⟨t', rfl⟩ := ry; exact PySem.EqMixed.eq_bool_str (fin_bl I q (by simp))
    | _ => exact absurd (show false = true from hs) Bool.false_ne_true
  | int i =>
    obtain ⟨t, rfl⟩ := rx
    cases y with
    | non => cases ry; exact PySem.EqNone.eq_int_none (fin_bl I q (by simp))
    | int j => obtain ⟨t', rfl⟩ := ry; exact eq_int (fin_bl I q dec_int)
    | str j => obtain ⟨t', rfl⟩ := ry; exact PySem.EqMixed.eq_int_str (fin_bl I q (by simp))
    | _ => exact absurd (show false = true from hs) Bool.false_ne_true
  | str i =>
    obtain ⟨t, rfl⟩ := rx
    cases y with
    | non => cases ry; exact PySem.EqNone.eq_str_none (fin_bl I q (by simp))
    | bl j => cases ry; exact PySem.EqMixed.eq_str_bool (fin_bl I q (by simp))
    | int j => obtain ⟨t', rfl⟩ := ry; exact PySem.EqMixed.eq_str_int (fin_bl I q (by simp))
    | str j => obtain ⟨t', rfl⟩ := ry; exact eq_str (fin_bl I q dec_str)
    | _ => exact absurd (show false = true from hs) Bool.false_ne_true
  | byt i =>
    obtain ⟨t, rfl⟩ := rx
    cases y with
    | byt j => obtain ⟨t', rfl⟩ := ry; exact PySem.W.eq_bytes (fin_bl I q dec_byt)
    | _ => exact absurd (show false = true from hs) Bool.false_ne_true
  | _ => cases y <;> exact absurd (show false = true from hs) Bool.false_ne_true
theorem op_ne : OpR X (compareOp .NotEq) rNe := by
  intro pins s σ H x y v u Q I rx ry h
  obtain ⟨hs, q⟩ := h
  cases x with
  | non =>
    cases rx
    cases y with
    | non => cases ry; exact PySem.EqNone.ne_none_none (fin_bl I q (by simp))
    | bl j => cases ry; exact PySem.EqNone.ne_none_bool (fin_bl I q (by simp))
    | int j => obtain ⟨t', rfl⟩ := ry; exact PySem.EqNone.ne_none_int (fin_bl I q (by simp))
    | str j => obtain ⟨t', rfl⟩ := ry; exact PySem.EqNone.ne_none_str (fin_bl I q (by simp))
    | _ => exact absurd (show false = true from hs) Bool.false_ne_true
  | bl i =>
    cases rx
    cases y with
    | non => cases ry; exact PySem.EqNone.ne_bool_none (fin_bl I q (by simp))
    | bl j => cases ry; exact ne_bool (fin_bl I q (congrArg not dec_bl))
    | str j => obtain ⟨t', rfl⟩ := ry; exact PySem.EqMixed.ne_bool_str (fin_bl I q (by simp))
    | _ => exact absurd (show false = true from hs) Bool.false_ne_true
  | int i =>
    obtain ⟨t, rfl⟩ := rx
    cases y with
    | non => cases ry; exact PySem.EqNone.ne_int_none (fin_bl I q (by simp))
    | int j => obtain ⟨t', rfl⟩ := ry; exact ne_int (fin_bl I q (congrArg not dec_int))
    | str j => obtain ⟨t', rfl⟩ := ry; exact PySem.EqMixed.ne_int_str (fin_bl I q (by simp))
    | _ => exact absurd (show false = true from hs) Bool.false_ne_true
  | str i =>
    obtain ⟨t, rfl⟩ := rx
    cases y with
    | non => cases ry; exact PySem.EqNone.ne_str_none (fin_bl I q (by simp))
    | bl j => cases ry; exact PySem.EqMixed.ne_str_bool (fin_bl I q (by simp))
    | int j => obtain ⟨t', rfl⟩ := ry; exact PySem.EqMixed.ne_str_int (fin_bl I q (by simp))
    | str j => obtain ⟨t', rfl⟩ := ry; exact ne_str (fin_bl I q (congrArg not dec_str))
    | _ => exact absurd (show false = true from hs) Bool.false_ne_true
  | byt i =>
    obtain ⟨t, rfl⟩ := rx
    cases y with
    | byt j => obtain ⟨t', rfl⟩ := ry; exact PySem.W.ne_bytes (fin_bl I q (congrArg not dec_byt))
    | _ => exact absurd (show false = true from hs) Bool.false_ne_true
  | _ => cases y <;> exact absurd (show false = true from hs) Bool.false_ne_true

theorem op_lt : OpR X (compareOp .Lt) (rI0 fun i j => .bl (decide (i < j))) := opB0 fun _ _ _ _ _ _ _ q => lt_int q
theorem op_gt : OpR X (compareOp .Gt) (rI0 fun i j => .bl (decide (j < i))) := opB0 fun _ _ _ _ _ _ _ q => gt_int q

theorem op_in_str : OpR X (compareOp .In) (fun x y H Q => ∃ i j, x = .str i ∧ y = .str j ∧ Q (.bl (!(Builtin.Str.occurrences j i 0 j.length 1).isEmpty)) H) := by
  intro pins s σ H x y v u Q I rx ry h
  obtain ⟨i, j, rfl, rfl, q⟩ := h
  obtain ⟨t, rfl⟩ := rx
  obtain ⟨t', rfl⟩ := ry
  exact in_str (fin_bl I q rfl)

theorem op_notin_str : OpR X (compareOp .NotIn) (fun x y H Q => ∃ i j, x = .str i ∧ y = .str j ∧ Q (.bl (!(!(Builtin.Str.occurrences j i 0 j.length 1).isEmpty))) H) := by
  intro pins s σ H x y v u Q I rx ry h
  obtain ⟨i, j, rfl, rfl, q⟩ := h
  obtain ⟨t, rfl⟩ := rx
  obtain ⟨t', rfl⟩ := ry
  exact notIn_str (fin_bl I q rfl)
theorem nomark (b : Expr) {op : CmpOp} (h : op ≠ .In := by decide) (h2 : op ≠ .NotIn := by decide) : behindInMarks op b = false := by
  have e1 : (op == CmpOp.In) = false := by cases op <;> first | rfl | exact absurd rfl h
  have e2 : (op == CmpOp.NotIn) = false := by cases op <;> first | rfl | exact absurd rfl h2
  cases b <;> simp [behindInMarks, e1, e2]

theorem pe_cmpR {op : CmpOp} {r : R2} (ho : OpR X (compareOp op) r) (ha : PE X a ta) (hb : PE X b tb) (hm : behindInMarks op b = false) : PE X (.Compare a [op] [b] pos) (tOp r ta tb) := by
  intro pins s σ H Q I h
  exact wpAny_Compare1 (binT ha hb I h fun v u s2 x y H2 I2 rx ry q => ho pins s2 σ H2 x y v u Q I2 rx ry q) hm

noncomputable def tTest (t : TE) : TT := fun σ H Q => t σ H fun x H' => ∃ k, x = .bl k ∧ Q k H'
theorem pt_cmpR {op : CmpOp} {r : R2} (ho : OpR X (compareOp op) r) (ha : PE X a ta) (hb : PE X b tb) (hm : behindInMarks op b = false) : PT X (.Compare a [op] [b] pos) (tTest (tOp r ta tb)) := by
  intro pins s σ H Q I h
  refine wpAny_isTrue_Compare1 (thn (ha pins s σ H _ I h) fun v s1 ⟨x, H1, I1, r1, q1⟩ => thn (hb pins s1 σ H1 _ I1 q1) fun u s2 ⟨y, H2, I2, r2, q2⟩ =>
    thn (ho pins s2 σ H2 x y v u _ I2 r1 r2 q2) fun c s3 ⟨z, H3, I3, r3, k, e, q3⟩ => ?_) hm
  subst e
  cases r3
  exact wpAny_truthy_bool ⟨H3, I3, q3⟩

theorem line63 : (sizeLine : Nat) < 2 ^ 63 := by rw [sizeLine_eq]; decide

theorem op_add_str : OpR X (binaryOp .Add) (fun x y H Q => ∃ i j, x = .str i ∧ y = .str j ∧ i.length + j.length ≤ sizeLine ∧ Q (.str (i ++ j)) H) := by
  intro pins s σ H x y v u Q I rx ry h
  obtain ⟨i, j, rfl, rfl, hz, q⟩ := h
  obtain ⟨t, rfl⟩ := rx
  obtain ⟨t', rfl⟩ := ry
  exact add_str (fun t' tk => ⟨.str (i ++ j), H, I.tok _, ⟨_, rfl⟩, q⟩) hz

theorem vals1 {x : V} {us : List Value} (r : Vals [x] us) : ∃ u, us = [u] ∧ RelV x u := by
  cases r with
  | cons r1 r2 => cases r2; exact ⟨_, rfl, r1⟩
theorem vals2 {x y : V} {us : List Value} (r : Vals [x, y] us) : ∃ u w', us = [u, w'] ∧ RelV x u ∧ RelV y w' := by
  cases r with
  | cons r1 r2 =>
    cases r2 with
    | cons r3 r4 => cases r4; exact ⟨_, _, rfl, r1, r3⟩
end
end Internal.L2

namespace Internal.L2
open PySem PySem.Spec PyProof.Rows

section
variable {prog : Program} {w : World} {A : Around} {E : Value → Shared → Prop} {s : Shared} {K : PySem.W.Frag} {x dx C f : Addr} {mA : Str → Option Value} {name : Str} {v : Value}

end

section
variable {P : Program} {w : World} {H H' : Hp} {h h' : Heap} {a C dx : Addr} {fs fs' : List (Str × V)}
end

section
variable {X : Cx} {pins : List (Addr × Obj)} {σ : St} {H : Hp} {s : Shared} {a C dx : Addr} {fs : List (Str × V)} {f : Str} {v : V} {A : Around} {E : Value → Shared → Prop}

end

section
variable {X : Cx} {o e value : Expr} {f : Str} {pos pos' tpos : Pos} {ta tv : TE}
end

section
variable {X : Cx} {pins : List (Addr × Obj)} {σ : St} {H : Hp} {s : Shared} {A : Around} {E : Value → Shared → Prop} {Q : Value → Shared → Prop} {c : Value} {b : Bool}
end
end Internal.L2

namespace Internal.L2
open PySem PySem.Spec PyProof.Rows

structure Room (k : Nat) (A : Around) : Prop where
  hd : A.handled = none
  gd : A.guards = some []
  dp : A.depth + 3 * k + 5 < recursionLimit
  un : A.units + 16 * k + 200 < cLine
theorem Room.mono {j k : Nat} {A : Around} (r : Room k A) (h : j ≤ k) : Room j A := ⟨r.hd, r.gd, by have := r.dp; (first | lia | omega), by have := r.un; (first | lia | omega)⟩
theorem Room.deeper {k : Nat} {A : Around} (r : Room (k + 1) A) (env : Env) : Room k (A.deeper env) :=
  ⟨r.hd, r.gd, by have := r.dp; show A.depth + 1 + 3 * k + 5 < _; (first | lia | omega), by have := r.un; show A.units + 3 + 16 * k + 200 < _; (first | lia | omega)⟩
theorem Room.depth {k : Nat} {A : Around} (r : Room k A) : A.depth < recursionLimit := by have := r.dp; (first | lia | omega)
theorem Room.units {k : Nat} {A : Around} (r : Room k A) : A.units + 64 < cLine := by have := r.un; (first | lia | omega)

noncomputable def tNil : TA := fun _ H Q => Q [] H
noncomputable def tCons (ta : TE) (tr : TA) : TA := fun σ H Q => ta σ H fun x H1 => tr σ H1 fun xs H2 => Q (x :: xs) H2
section
variable {X : Cx} {e : Expr} {es : List Expr} {te : TE} {t : TA} {pos : Pos}
theorem pa_nil : PA X [] tNil := fun _ _ _ _ H Q I h => Calls.spliced_nil ⟨[], H, I, .nil, h⟩
theorem pa_cons (ha : PE X e te) (hr : PA X es t) (hs : starEach (e :: es) X.env = (false, eval e X.env) :: starEach es X.env := by rfl) : PA X (e :: es) (tCons te t) := by
  intro pos pins s σ H Q I h
  rw [hs]
  show wpAny _ _ (spliced ((false, eval e X.env) :: backTo pos (starEach es X.env))) _ _ s
  refine Calls.spliced_cons (thn (ha pins s σ H _ I h) fun u s1 hP19 => ?_)
  obtain ⟨x, H1, I1, r1, q1⟩ := hP19
  exact thn (hr pos pins s1 σ H1 _ I1 q1) fun us s2 ⟨xs, H2, I2, r2, q2⟩ => ⟨x :: xs, H2, I2, .cons r1 r2, q2⟩

noncomputable def tTup (t : TA) : TE := fun σ H Q => t σ H fun xs H1 => xs.length ≤ sizeLine ∧ ∀ p, H1 p = none → Q (.ref p) (upd H1 p (.tup xs))
noncomputable def tLst (t : TA) : TE := fun σ H Q => t σ H fun xs H1 => xs.length ≤ sizeLine ∧ ∀ p, H1 p = none → Q (.ref p) (upd H1 p (.lst xs))
theorem pe_tup {x1} (h : PA X es t) : PE X (.Tuple es x1 pos) (tTup t) := by
  intro pins s σ H Q I hq
  refine wpAny_Tuple_spliced (thn (h pos pins s σ H _ I hq) fun us s1 ⟨xs, H1, I1, r, z, q⟩ => ⟨by rw [← r.length]; exact z, ?_⟩)
  have hf : H1 s1.heap.objs.size = none := I1.hok.fresh (Nat.le_refl _)
  refine ⟨.ref s1.heap.objs.size, upd H1 s1.heap.objs.size (.tup xs), I1.laid (t' := s1.toks) (fun b u e => Heap.get?_push_of_some _ e) (Nat.le_refl _) ?_, rfl, q _ hf⟩
  exact ⟨z, us, r, ⟨_, Heap.get?_push_size _ rfl, rfl, _, rfl⟩⟩
theorem pe_lst (h : PA X es t) : PE X (.List es pos) (tLst t) := by
  intro pins s σ H Q I hq
  refine wpAny_List_spliced (thn (h pos pins s σ H _ I hq) fun us s1 ⟨xs, H1, I1, r, z, q⟩ => ⟨by rw [← r.length]; exact z, ?_⟩)
  have hf : H1 s1.heap.objs.size = none := I1.hok.fresh (Nat.le_refl _)
  refine ⟨.ref s1.heap.objs.size, upd H1 s1.heap.objs.size (.lst xs), I1.laid (t' := s1.toks) (fun b u e => Heap.get?_push_of_some _ e) (Nat.le_refl _) ?_, rfl, q _ hf⟩
  exact ⟨z, us, 0, r, Heap.get?_push_size _ rfl⟩
end

noncomputable abbrev Sp := List V → Hp → VK → XK → Prop

noncomputable abbrev CXT := List Env → Hp → Shared → XK → Value → Shared → Prop

structure Env0 (P : Program) (w : World) (K : PySem.W.Frag) (mg : Str → Option Value) (base : Heap) (A : Around) (outer : List Env) (s : Shared) (H : Hp) : Prop where
  frames : A.frames = some outer
  mod : Mod K mg base
  bs : ∀ b o, base.get? b = some o → s.heap.get? b = some o ∧ H b = none
  bsz : base.objs.size ≤ s.heap.objs.size
  funs : s.heap.FunFrames base outer
  frf : ∀ b ∈ frs outer, H b = none
  hok : HOk P w H s.heap
  bare : AllBare s.gens

noncomputable def CE (outer : List Env) (P : Program) (w : World) (H : Hp) (s : Shared) (Q : VK) (u : Value) (s' : Shared) : Prop :=
  ∃ v H', s'.os = s.os ∧ AllBare s'.gens ∧ Un (frs outer) [] H H' s.heap s'.heap ∧ HOk P w H' s'.heap ∧ RelV v u ∧ Q v H'
noncomputable def CR (CX : CXT) (outer : List Env) (P : Program) (w : World) (H : Hp) (s : Shared) (Q : VK) (E : XK) (r : Result) (s' : Shared) : Prop :=
  match r with
  | .ok (.ret u) => CE outer P w H s Q u s'
  | .ok _ => False
  | .error e => CX outer H s E e s'
structure FnOk (P : Program) (w : World) (K : PySem.W.Frag) (mg : Str → Option Value) (base : Heap) (CX : CXT) (k : Nat) (f : Addr) (fd : FuncData) (ps : List Str) (sp : Sp) : Prop where
  len : ∀ vs H Q E, sp vs H Q E → vs.length = ps.length
  run : ∀ (A : Around) (outer : List Env) (s : Shared) (H : Hp) (args : Args) (us : List Value) (vs : List V) (Q : VK) (E : XK), Room k A → Env0 P w K mg base A outer s H → BindsTo s fd args (ps.zip us) → Vals vs us → sp vs H Q E →
    codeAny (model P w) A (.call (.ref f) args) (CR CX outer P w H s Q E) s

theorem FnOk.imp {P : Program} {w : World} {K : PySem.W.Frag} {mg : Str → Option Value} {base : Heap} {CX : CXT} {k : Nat} {f : Addr} {fd : FuncData} {ps : List Str} {sp sp' : Sp} (F : FnOk P w K mg base CX k f fd ps sp)
    (h : ∀ vs H Q E, sp' vs H Q E → sp vs H Q E) : FnOk P w K mg base CX k f fd ps sp' :=
  ⟨fun vs H Q E q => F.len vs H Q E (h _ _ _ _ q), fun A outer s H args us vs Q E hr he hb hv hs => F.run A outer s H args us vs Q E hr he hb hv (h _ _ _ _ hs)⟩

section
variable {X : Cx} {pins : List (Addr × Obj)} {σ : St} {H : Hp} {s s' : Shared}

theorem Inv.env0 (I : Inv X pins σ H s) : Env0 X.prog X.w X.K X.mg X.base X.A X.stack s H :=
  ⟨I.ok.frames, I.ok.mod, I.bs, Nat.le_trans I.ok.bsz I.sz, I.stack, I.stkFree, I.hok, I.bare⟩

theorem Inv.after {Q : VK} {u : Value} (I : Inv X pins σ H s) (h : CE X.stack X.prog X.w H s Q u s') : EP X pins σ Q u s' := by
  obtain ⟨v, H', os, bare, un, hok, r, q⟩ := h
  obtain ⟨hh, g, d, t, os'⟩ := s'
  obtain rfl : os' = s.os := os
  exact ⟨v, H', I.call (h' := hh) (g' := g) (d' := d) (t' := t) (ch := []) un hok bare (fun b z => absurd z (by simp)), r, q⟩
end

noncomputable def tCall (sp : Sp) (dvs : List V) (E : XK) (t : TA) : TE := fun σ H Q => t σ H fun vs H1 => sp (vs ++ dvs) H1 Q E

noncomputable def Binds (K : PySem.W.Frag) (fd : FuncData) (ps : List Str) (ds : List Value) : Prop :=
  ∀ (s : Shared) (us : List Value), K.In s.heap → (us ++ ds).length = ps.length → BindsTo s fd ⟨us, []⟩ (ps.zip (us ++ ds))

theorem Binds.all {K : PySem.W.Frag} {fd : FuncData} {ps : List Str} (h : ∀ us : List Value, us.length = ps.length → bindArgs fd ⟨us, []⟩ = pure (ps.zip us)) : Binds K fd ps [] := fun s us _ hl => by
  rw [List.append_nil] at hl ⊢
  exact .of_eq (h us hl)

noncomputable def Passes (CX : CXT) (X : Cx) (E : XK) : Prop := ∀ (pins : List (Addr × Obj)) (σ : St) (H : Hp) (s : Shared) (e : Value) (s' : Shared), Inv X pins σ H s → CX X.stack H s E e s' → X.xe e s'

section
variable {X : Cx} {CX : CXT} {k : Nat} {f C : Addr} {fd : FuncData} {ps : List Str} {sp : Sp} {dvs : List V} {ds : List Value} {E : XK} {x m : Str} {p pos apos : Pos} {e o : Expr} {es : List Expr} {ta : TE} {t : TA}

theorem run_fn {pins : List (Addr × Obj)} {σ : St} {H : Hp} {s : Shared} {Q : VK} {us : List Value} {vs : List V} (F : FnOk X.prog X.w X.K X.mg X.base CX k f fd ps sp) (hr : Room k X.A) (hb : Binds X.K fd ps ds) (hd : Vals dvs ds) (hx : Passes CX X E)
    (I : Inv X pins σ H s) (r : Vals vs us) (h : sp (vs ++ dvs) H Q E) : wpAny (model X.prog X.w) X.A (call (.ref f) us) (EP X pins σ Q) X.xe s := by
  have r2 : Vals (vs ++ dvs) (us ++ ds) := r.append hd
  have hl : (us ++ ds).length = ps.length := by rw [← r2.length]; exact F.len _ _ _ _ h
  refine wpAny_call (codeAny_mono (F.run X.A X.stack s H ⟨us, []⟩ (us ++ ds) (vs ++ dvs) Q E hr I.env0 (hb s us I.kIn hl) r2 h) fun r s' hq => ?_)
  cases r with
  | error e => exact hx pins σ H s e s' I hq
  | ok fl =>
    cases fl with
    | ret u => exact I.after hq
    | next => exact False.elim hq
    | brk => exact False.elim hq
    | cont => exact False.elim hq

theorem pe_call (F : FnOk X.prog X.w X.K X.mg X.base CX k f fd ps sp) (hr : Room k X.A) (hg : Gl X x) (hm : X.mg x = some (.ref f)) (hk : PySem.W.keepIn X.K (.ref f) = true) (hb : Binds X.K fd ps ds) (hd : Vals dvs ds) (hx : Passes CX X E)
    (ha : PA X (e :: es) t) (hdb : (x == ("__debug__" : Str)) = false := by decide) (he : starEach (e :: es) X.env = (false, eval e X.env) :: starEach es X.env := by rfl) (hpl : (backTo pos (starEach es X.env)).any (·.1) = false := by rfl) :
    PE X (.Call (.Name x p) (e :: es) [] pos) (tCall sp dvs E t) := by
  intro pins s σ H Q I h
  refine wpAny_Call_Name_kw (ld_glob I hg hm ?_ hdb)
  refine PySem.W.callWith_K (h₀ := X.base) I.ok.mod.kin hk (thn (ha pos pins s σ H _ I h) fun us s1 ⟨vs, H1, I1, r, q⟩ => ⟨I1.kIn, ?_⟩) he hpl
  exact run_fn F hr hb hd hx I1 r q
end

section
variable {X : Cx} {CX : CXT} {k : Nat} {f C : Addr} {fd : FuncData} {ps ks : List Str} {sp : Sp} {E : XK} {x m : Str} {p pos apos kpos : Pos} {e o : Expr} {es : List Expr} {kws : List Keyword} {te ta : TE} {t tk : TA} {nm : Option Str}
variable {g : List Value → List Value → List Value} {gV : List V → List V → List V}
end

structure FnScope (N P : List Str) (sc : Scope) : Prop where
  kind : sc.kind = .function
  co : sc.isCoroutine = false
  gen : sc.isGenerator = false
  nd : N.Nodup
  pre : N.take P.length = P
  par : ∀ x ∈ P, sc.names.lookup x = some .local ∨ sc.names.lookup x = some .cell
  nofree : ∀ y ∈ sc.names, y.2 ≠ .free

theorem bindL_out {kindOf : Str → Option NameKind} {x : Str} : ∀ {binds : List (Str × Value)} {m : Str → Option Value}, (∀ v, (x, v) ∉ binds) → bindL kindOf binds m x = m x
  | [], _, _ => rfl
  | (n, v) :: r, m, h => by
    unfold bindL
    rw [bindL_out fun w hw => h w (List.mem_cons_of_mem _ hw)]
    split
    · have : x ≠ n := by rintro rfl; exact h v List.mem_cons_self
      simp [this]
    · rfl
theorem bindC_out {kindOf : Str → Option NameKind} {x : Str} : ∀ {binds : List (Str × Value)} {m : Str → Option Value}, (∀ v, (x, v) ∉ binds) → bindC kindOf binds m x = m x
  | [], _, _ => rfl
  | (n, v) :: r, m, h => by
    unfold bindC
    rw [bindC_out fun w hw => h w (List.mem_cons_of_mem _ hw)]
    split
    · rfl
    · have : x ≠ n := by rintro rfl; exact h v List.mem_cons_self
      simp [this]
theorem bindL_get {kindOf : Str → Option NameKind} {x : Str} {v : Value} : ∀ {P : List Str} {vs : List Value} {i : Nat} {m : Str → Option Value}, P.Nodup → P[i]? = some x → vs[i]? = some v → kindOf x = some .local →
    bindL kindOf (P.zip vs) m x = some v
  | [], _, _, _, _, h, _, _ => by simp at h
  | _ :: _, [], _, _, _, _, h, _ => by simp at h
  | p :: P, w :: vs, 0, m, nd, h1, h2, hk => by
    simp at h1 h2; subst h1; subst h2
    show bindL kindOf ((p, w) :: P.zip vs) m p = _
    unfold bindL
    rw [bindL_out fun v hv => (List.nodup_cons.mp nd).1 (List.of_mem_zip hv).1, if_pos hk]
    simp
  | p :: P, w :: vs, i + 1, m, nd, h1, h2, hk => by
    show bindL kindOf ((p, w) :: P.zip vs) m x = _
    unfold bindL
    exact bindL_get (i := i) (List.nodup_cons.mp nd).2 (by simpa using h1) (by simpa using h2) hk
theorem bindC_get {kindOf : Str → Option NameKind} {x : Str} {v : Value} : ∀ {P : List Str} {vs : List Value} {i : Nat} {m : Str → Option Value}, P.Nodup → P[i]? = some x → vs[i]? = some v → kindOf x ≠ some .local →
    bindC kindOf (P.zip vs) m x = some v
  | [], _, _, _, _, h, _, _ => by simp at h
  | _ :: _, [], _, _, _, _, h, _ => by simp at h
  | p :: P, w :: vs, 0, m, nd, h1, h2, hk => by
    simp at h1 h2; subst h1; subst h2
    show bindC kindOf ((p, w) :: P.zip vs) m p = _
    unfold bindC
    rw [bindC_out fun v hv => (List.nodup_cons.mp nd).1 (List.of_mem_zip hv).1, if_neg hk]
    simp
  | p :: P, w :: vs, i + 1, m, nd, h1, h2, hk => by
    show bindC kindOf ((p, w) :: P.zip vs) m x = _
    unfold bindC
    exact bindC_get (i := i) (List.nodup_cons.mp nd).2 (by simpa using h1) (by simpa using h2) hk

noncomputable def start (N : List Str) (vs : List V) : St := vs.map some ++ List.replicate (N.length - vs.length) none

noncomputable def cxOf (CX : CXT) (P : Program) (w : World) (K : PySem.W.Frag) (mg : Str → Option Value) (base : Heap) (N : List Str) (qual : Str) (scope : Scope) (f : Addr) (cd : Value) (A : Around) (outer : List Env) (s : Shared) (H : Hp) (E : XK) : Cx where
  prog := P
  w := w
  K := K
  mg := mg
  base := base
  A := A.deeper (envOfC qual scope s.heap.objs.size f cd)
  N := N
  s₀ := s
  H₀ := H
  env := envOfC qual scope s.heap.objs.size f cd
  outer := outer
  stack := envOfC qual scope s.heap.objs.size f cd :: outer
  ex := []
  calm := true
  fn := fun _ => true
  pn := []
  xe := fun e s' => wpAny (model P w) (A.deeper (envOfC qual scope s.heap.objs.size f cd)) (leaving (envOfC qual scope s.heap.objs.size f cd) e) (fun _ s'' => CX outer H s E e s'') (fun e' s'' => CX outer H s E e' s'') s'

theorem cell_has {sc : Scope} {n : Nat} {x : Str} (h : sc.names.lookup x = some .cell) : ∃ c, (cellsFrom n sc.names []).lookup x = some c := by
  have q := PySem.W.cellsFrom_some sc.names n [] (.inl h)
  exact Option.isSome_iff_exists.mp q

theorem inv_start {CX : CXT} {P : Program} {w : World} {K : PySem.W.Frag} {mg : Str → Option Value} {base : Heap} {N ps : List Str} {qual : Str} {scope : Scope} {f : Addr} {cd : Value} {A : Around} {outer : List Env} {s s1 : Shared} {H : Hp} {E : XK} {us : List Value} {vs : List V}
    (S : FnScope N ps scope) (hd : A.handled = none) (e0 : Env0 P w K mg base A outer s H) (hl : vs.length = ps.length) (r : Vals vs us)
    (x : InCallC s s.heap.objs.size (bindL (envOfC qual scope s.heap.objs.size f cd).kindOf (ps.zip us) fun _ => none) (cellsFrom (s.heap.objs.size + 1) scope.names []) (bindC (envOfC qual scope s.heap.objs.size f cd).kindOf (ps.zip us) fun _ => none) s1) :
    Inv (cxOf CX P w K mg base N qual scope f cd A outer s H E) [] (start N vs) H s1 := by
  have hpl : ps.length ≤ N.length := by have := congrArg List.length S.pre; rw [List.length_take] at this; (first | lia | omega)
  obtain ⟨h1, tk, rfl, hk⟩ := x.done
  have noA : ∀ b : Addr, b ∉ (cxOf CX P w K mg base N qual scope f cd A outer s H E).ex := fun b z => absurd (show b ∈ ([] : List Addr) from z) (by simp)
  refine ⟨⟨e0.mod, S.kind, rfl, rfl, Nat.le_refl _, fun y z c h1 h2 => ?_, fun y hy => ?_, fun y c _ h => ?_, fun _ => hd, Around.frames_deeper e0.frames, .inr ⟨rfl, rfl⟩, fun b z => absurd z (noA b), e0.bs, e0.bsz, fun b _ _ => noA b, fun b z => absurd z (noA b), e0.funs, e0.frf⟩,
    rfl, e0.bare, Un.kept hk, ⟨_, x.toInCall.ns, fun i y v h1 h2 h3 => ?_⟩, fun y c h => ⟨_, x.cell y c h⟩, e0.hok.fresh (Nat.le_refl _), fun y c h => ?_, fun p hp => absurd (show p ∈ ([] : List (Addr × Obj)) from hp) (by simp), e0.hok.kept hk, ?_⟩
  · exact name_of_addr x.apart (PySem.mem_of_lookup h1) (PySem.mem_of_lookup h2)
  · have hy : scope.names.lookup y = some .cell ∨ scope.names.lookup y = some .free := hy
    rcases hy with hy | hy
    · exact cell_has hy
    · exact absurd rfl (S.nofree _ (PySem.mem_of_lookup hy))
  · exact Nat.le_of_lt (x.above y c (PySem.mem_of_lookup h))
  · have hi : i < vs.length := by
      unfold start at h2
      by_cases hi : i < vs.length
      · exact hi
      · rw [List.getElem?_append_right (by simpa using hi)] at h2
        rw [List.getElem?_replicate] at h2
        split at h2 <;> cases h2
    have ha : vs[i]? = some v := by
      unfold start at h2
      rw [List.getElem?_append_left (by simpa using hi), List.getElem?_map] at h2
      cases e : vs[i]? with
      | none => rw [e] at h2; cases h2
      | some a => rw [e] at h2; cases h2; rfl
    obtain ⟨u, hu, rv⟩ := r.get ha
    have hp : ps[i]? = some y := by
      rw [← S.pre, List.getElem?_take_of_lt (by (first | lia | omega))]; exact h1
    have ndP : ps.Nodup := by rw [← S.pre]; exact S.nd.sublist (List.take_sublist _ _)
    refine ⟨u, rv, ?_⟩
    rcases S.par y (List.mem_of_getElem? hp) with k | k
    · exact .inl ⟨k, bindL_get ndP hp hu k⟩
    · obtain ⟨c, e⟩ := cell_has (n := s.heap.objs.size + 1) k
      refine .inr ⟨.inl k, c, e, ?_⟩
      have q := x.cell y c e
      rw [bindC_get ndP hp hu (by show scope.names.lookup y ≠ _; rw [k]; decide)] at q
      exact q
  · exact e0.hok.fresh (Nat.le_of_lt (x.above y c (PySem.mem_of_lookup h)))
  · unfold start
    show _ = N.length
    rw [List.length_append, List.length_map, List.length_replicate]
    (first | lia | omega)

theorem fn_of {CX : CXT} {P : Program} {w : World} {K : PySem.W.Frag} {mg : Str → Option Value} {base : Heap} {k : Nat} {f : Addr} {name qual : Str} {params : Arguments} {body : List Stmt} {scope : Scope} {dV kV doc pm cdv ct oc : Value} {an od : Option Addr}
    {osl : Array (Option Value)} {N ps : List Str} {sp : Sp} (lk : K.lookup f = some ⟨oc, od, .func (PySem.W.fnOf name qual params body scope dV kV doc pm an cdv ct), osl⟩) (hcd : PySem.W.codeIn K cdv qual = true) (S : FnScope N ps scope)
    (len : ∀ vs H Q E, sp vs H Q E → vs.length = ps.length)
    (hbody : ∀ (A : Around) (outer : List Env) (s : Shared) (H : Hp) (vs : List V) (Q : VK) (E : XK), Room k (A.deeper (envOfC qual scope s.heap.objs.size f cdv)) → sp vs H Q E →
      ∃ t, PSs (cxOf CX P w K mg base N qual scope f cdv A outer s H E) body t ∧ t { nx := fun _ H' => Q .non H', rt := Q } (start N vs) H) :
    FnOk P w K mg base CX (k + 1) f (PySem.W.fnOf name qual params body scope dV kV doc pm an cdv ct) ps sp := by
  refine ⟨len, fun A outer s H args us vs Q E hr e0 hb r hsp => ?_⟩
  have hl := len _ _ _ _ hsp
  have KX : K.In s.heap := e0.mod.kin.keeps fun b o e => (e0.bs b o e).1
  have lim : s.heap.NoLimit := e0.mod.nolimit.keeps fun b o e => (e0.bs b o e).1
  have hkind : ∀ y ∈ ps.zip us, scope.names.lookup y.1 = some .local ∨ (scope.names.lookup y.1 = some .cell ∧ ((cellsFrom (s.heap.objs.size + 1) scope.names []).lookup y.1).isSome = true) := fun hP20 hy => by
    obtain ⟨n, v⟩ := hP20
    rcases S.par n (List.of_mem_zip hy).1 with q | q
    · exact .inl q
    · exact .inr ⟨q, PySem.W.cellsFrom_some _ _ _ (.inl q)⟩
  refine codeAny_call_function hr.depth (KX _ _ lk) rfl S.co S.gen rfl (PySem.W.codeRec_of KX hcd) (hb _ _ _ _ ?_)
  refine wpAny_newFunctionEnv_cells S.kind hkind fun env he s1 x => ?_
  subst he
  refine ⟨lim.keeps x.toInCall.keep, codeAny_func ?_⟩
  obtain ⟨t, ht, hq⟩ := hbody A outer s H vs Q E (hr.deeper _) hsp
  have I : Inv (cxOf CX P w K mg base N qual scope f cdv A outer s H E) [] (start N vs) H s1 := inv_start S hr.hd e0 hl r x
  refine wpAny_mono (ht [] s1 (start N vs) H _ I hq) (fun fl s' hs => ?_) fun e s' hs => hs
  have fin : ∀ {σ' : St} {H' : Hp} {v : V} {u : Value}, Inv (cxOf CX P w K mg base N qual scope f cdv A outer s H E) [] σ' H' s' → RelV v u → Q v H' → CE outer P w H s Q u s' :=
    fun {σ' H' v u} J rv q => ⟨v, H', J.os, J.bare, J.base, J.hok, rv, q⟩
  cases fl with
  | ret u =>
    obtain ⟨v, σ', H', J, rv, q⟩ := hs
    exact fin J rv q
  | next =>
    obtain ⟨σ', H', J, q⟩ := hs
    exact fin (v := V.non) (u := Value.none) J rfl q
  | brk =>
    obtain ⟨_, _, _, q⟩ := hs
    exact False.elim q
  | cont =>
    obtain ⟨_, _, _, q⟩ := hs
    exact False.elim q
end Internal.L2

namespace Internal.L2
open PySem PySem.Spec PyProof.Rows
section
variable {X : Cx} {x : Str} {p pos : Pos} {e : Expr} {es : List Expr} {t : TA} {id T : String} {r : List V → Hp → VK → Prop}

noncomputable def tCB (r : List V → Hp → VK → Prop) (t : TA) : TE := fun σ H Q => t σ H fun vs H1 => r vs H1 Q

theorem pe_callB (hc : CallR X (.builtin id) r) (hg : Gl X x) (hm : X.mg x = none) (hv : bootBuiltins x = some (.builtin id)) (ha : PA X (e :: es) t) (hn : x ≠ "__name__" := by decide) (hdb : (x == ("__debug__" : Str)) = false := by decide)
    (he : starEach (e :: es) X.env = (false, eval e X.env) :: starEach es X.env := by rfl) (hpl : (backTo pos (starEach es X.env)).any (·.1) = false := by rfl) : PE X (.Call (.Name x p) (e :: es) [] pos) (tCB r t) := by
  intro pins s σ H Q I h
  refine wpAny_Call_Name_kw (ld_blt I hg hm hv ?_ hn hdb)
  exact PyProof.Rows.callWith_builtin1 (thn (ha pos pins s σ H _ I h) fun us s1 ⟨vs, H1, I1, r1, q1⟩ => hc pins s1 σ H1 vs us Q I1 r1 q1) he hpl

theorem pe_callTy (hc : CallR X (.type T) r) (hg : Gl X x) (hm : X.mg x = none) (hv : bootBuiltins x = some (.type T)) (ha : PA X (e :: es) t) (hn : x ≠ "__name__" := by decide) (hdb : (x == ("__debug__" : Str)) = false := by decide)
    (he : starEach (e :: es) X.env = (false, eval e X.env) :: starEach es X.env := by rfl) (hpl : (backTo pos (starEach es X.env)).any (·.1) = false := by rfl) : PE X (.Call (.Name x p) (e :: es) [] pos) (tCB r t) := by
  intro pins s σ H Q I h
  refine wpAny_Call_Name_kw (ld_blt I hg hm hv ?_ hn hdb)
  exact PyProof.Rows.callWith_type1 (thn (ha pos pins s σ H _ I h) fun us s1 ⟨vs, H1, I1, r1, q1⟩ => hc pins s1 σ H1 vs us Q I1 r1 q1) he hpl
end
end Internal.L2

namespace HT
open PySem PyProof.Rows

section
open PySem.SeqAt
open PySem.AutoSeq1 (wpAny_loadPart')
open PySem.MeetsSeq PySem.MeetsSeq2 PySem.MeetsSeq3

end

section
variable {prog : Program} {w : World} {A : Around} {E : Value → Shared → Prop} {s : Shared}

end
end HT

namespace Internal.L2
open PySem PySem.Spec PyProof.Rows

noncomputable abbrev TO := St → Hp → (Option Int → Hp → Prop) → Prop
section
variable {X : Cx} {e : Expr} {te : TE} {lo hi : Option Expr} {tl th : TO} {pos p2 : Pos}

end
end Internal.L2

namespace Internal.L2
open PySem PySem.Spec PyProof.Rows

noncomputable def ixN (n : Nat) (i : Int) : Option Nat := if 0 ≤ i then (if i < n then some i.toNat else none) else if -(n : Int) ≤ i then some (i + n).toNat else none
noncomputable def atI {α : Type} (xs : List α) (i : Int) : Option α := (ixN xs.length i).bind fun j => xs[j]?
theorem ixN_seq {n : Nat} {i : Int} {j : Nat} (h : ixN n i = some j) : seqIndex? i n = some j ∧ j < n ∧ -(n : Int) ≤ i ∧ i < n := by
  unfold ixN at h
  by_cases h0 : 0 ≤ i
  · rw [if_pos h0] at h
    by_cases h1 : i < n
    · rw [if_pos h1] at h
      have e : i.toNat = j := Option.some.inj h
      exact ⟨by rw [seqIndex_of h0 h1, e], by (first | lia | omega), by (first | lia | omega), h1⟩
    · rw [if_neg h1] at h; cases h
  · rw [if_neg h0] at h
    by_cases h1 : -(n : Int) ≤ i
    · rw [if_pos h1] at h
      have e : (i + n).toNat = j := Option.some.inj h
      exact ⟨by rw [seqIndex_neg (by (first | lia | omega)) h1, e], by (first | lia | omega), h1, by (first | lia | omega)⟩
    · rw [if_neg h1] at h; cases h
theorem atI_get {α : Type} {xs : List α} {i : Int} {v : α} (h : atI xs i = some v) : ∃ j, seqIndex? i xs.length = some j ∧ xs[j]? = some v ∧ j < xs.length ∧ -(xs.length : Int) ≤ i ∧ i < xs.length := by
  unfold atI at h
  cases e : ixN xs.length i with
  | none => rw [e] at h; cases h
  | some j =>
    rw [e] at h
    obtain ⟨h1, h2, h3, h4⟩ := ixN_seq e
    exact ⟨j, h1, h, h2, h3, h4⟩

noncomputable def PlainIx (b : Expr) : Prop := ∀ o i, subscripted b false o i = operate [o, i] (getItem o i)

noncomputable def IxR (X : Cx) (r : R2) : Prop :=
  ∀ (value slice : Expr) (pins : List (Addr × Obj)) (s : Shared) (σ : St) (H : Hp) (x y : V) (v u : Value) (Q : VK), Inv X pins σ H s → RelV x v → RelV y u → r x y H Q →
    subscripted slice false v u = operate [v, u] (getItem v u) → wpAny (model X.prog X.w) X.A (subscriptTail value slice v u) (EP X pins σ Q) X.xe s

noncomputable def MtR (X : Cx) (id : String) (r : V → List V → Hp → VK → Prop) : Prop :=
  ∀ (pins : List (Addr × Obj)) (s : Shared) (σ : St) (H : Hp) (x : V) (xs : List V) (v : Value) (us : List Value) (Q : VK), Inv X pins σ H s → RelV x v → Vals xs us → r x xs H Q →
    wpAny (model X.prog X.w) X.A (call (.builtin id) (v :: us)) (EP X pins σ Q) X.xe s
section
variable {X : Cx} {a b : Expr} {ta tb : TE} {pos : Pos}

theorem pe_ix {r : R2} (hr : IxR X r) (ha : PE X a ta) (hb : PE X b tb) (hs : PlainIx b) : PE X (.Subscript a b pos) (tOp r ta tb) := by
  intro pins s σ H Q I h
  exact Subscript_ (binT ha hb I h fun v u s2 x y H2 I2 rx ry q => hr a b pins s2 σ H2 x y v u Q I2 rx ry q (hs _ _))

noncomputable def rIxL (K : PySem.W.Frag) : R2 := fun x y H Q => ∃ p xs i v, x = .ref p ∧ y = .int i ∧ SqL K H p xs ∧ atI xs i = some v ∧ Q v H
noncomputable def rIxT (K : PySem.W.Frag) : R2 := fun x y H Q => ∃ p xs i v, x = .ref p ∧ y = .int i ∧ SqT K H p xs ∧ atI xs i = some v ∧ Q v H
noncomputable def rIxS : R2 := fun x y H Q => ∃ z i c, x = .str z ∧ y = .int i ∧ z.length ≤ sizeLine ∧ atI z.cps.toList i = some c ∧ Q (.str ⟨#[c]⟩) H
theorem ix_list : IxR X (rIxL X.K) := by
  intro value slice pins s σ H x y v u Q I rx ry h hs
  obtain ⟨p, xs, i, z, rfl, rfl, hq, he, q⟩ := h
  cases rx
  obtain ⟨t, rfl⟩ := ry
  obtain ⟨its, r, pl, hz⟩ := I.list hq
  obtain ⟨j, h1, h2, h3, h4, h5⟩ := atI_get he
  obtain ⟨w, ew, rw'⟩ := r.get h2
  have hl := r.length
  have hn := line63
  have fin : EP X pins σ Q w s := ⟨z, H, I, rw', q⟩
  by_cases h0 : 0 ≤ i
  · have hj : i.toNat = j := by
      rw [seqIndex_of h0 h5] at h1
      exact Option.some.inj h1
    exact item_listR pl.isList h0 (by (first | lia | omega)) (by rw [hj]; simpa using ew) fin hs
  · have hj : (i + (its.toArray.size : Int)).toNat = j := by
      rw [seqIndex_neg (by (first | lia | omega)) h4] at h1
      rw [List.size_toArray, ← hl]
      exact Option.some.inj h1
    exact subscriptTail_builtinR (x := w) pl.isList.typeIs slot_list_getitem.lookup
      (wpAny_getItem_list_neg (Q := fun r s' => r = w ∧ EP X pins σ Q r s') pl.isList (by (first | lia | omega)) (by rw [List.size_toArray] <;> (first | lia | omega)) (by (first | lia | omega)) (by rw [hj]; simpa using ew) ⟨rfl, fin⟩) hs
theorem ix_tup : IxR X (rIxT X.K) := by
  intro value slice pins s σ H x y v u Q I rx ry h hs
  obtain ⟨p, xs, i, z, rfl, rfl, hq, he, q⟩ := h
  cases rx
  obtain ⟨t, rfl⟩ := ry
  obtain ⟨its, r, pl, hz⟩ := I.tuple hq
  obtain ⟨j, h1, h2, h3, h4, h5⟩ := atI_get he
  obtain ⟨w, ew, rw'⟩ := r.get h2
  have hl := r.length
  have hn := line63
  have fin : EP X pins σ Q w s := ⟨z, H, I, rw', q⟩
  exact subscriptTail_builtinR (x := w) pl.typeIs slot_tuple_getitem.lookup
    (getItem_tuple (j := j) (Q := fun r s' => r = w ∧ EP X pins σ Q r s') pl (by (first | lia | omega)) (by (first | lia | omega)) (by rw [List.size_toArray, ← hl]; exact h1) (by simpa using ew) ⟨rfl, fin⟩) hs
theorem ix_str : IxR X rIxS := by
  intro value slice pins s σ H x y v u Q I rx ry h hs
  obtain ⟨z, i, c, rfl, rfl, hz, he, q⟩ := h
  obtain ⟨t, rfl⟩ := rx
  obtain ⟨t', rfl⟩ := ry
  obtain ⟨j, h1, h2, h3, h4, h5⟩ := atI_get he
  have hl : z.cps.toList.length = z.length := by simp [Str.length]
  rw [hl] at h1 h4 h5
  have hn := line63
  exact tail_any (typeIs_str s z t) slot_str_getitem.lookup (getItem_str (c := c) (by
    have e1 : decide (i < -(2 ^ 63 : Int)) = false := decide_eq_false (by (first | lia | omega))
    have e2 : decide (i ≥ 2 ^ 63) = false := decide_eq_false (by (first | lia | omega))
    rw [e1, e2, Bool.or_false]) (by rw [h1]; simpa using h2) ⟨.str ⟨#[c]⟩, H, I.tok _, ⟨_, rfl⟩, q⟩) hs

noncomputable def flatV : V → Bool
  | .non => true
  | .bl _ => true
  | .int _ => true
  | .str _ => true
  | _ => false

noncomputable def eqV : V → V → Bool
  | .non, .non => true
  | .bl a, .bl b => a == b
  | .bl a, .int b => (if a then 1 else 0) == b
  | .int a, .bl b => a == (if b then 1 else 0)
  | .int a, .int b => a == b
  | .str a, .str b => a == b
  | _, _ => false
theorem eqAt_V {A : Around} {s : Shared} {y x : V} {u v : Value} (ry : RelV y u) (rx : RelV x v) (fy : flatV y = true) (fx : flatV x = true) : SeqAt.EqAt A s u v (eqV y x) := by
  cases y with
  | non =>
    cases ry
    cases x with
    | non => cases rx; exact SeqAt.EqAt.same _
    | bl b => cases rx; exact SeqAt.EqAt.none_bool b
    | int b => obtain ⟨t, rfl⟩ := rx; exact SeqAt.EqAt.none_int b t
    | str b => obtain ⟨t, rfl⟩ := rx; exact SeqAt.EqAt.none_str b t
    | _ => exact absurd (show false = true from fx) Bool.false_ne_true
  | bl a =>
    cases ry
    cases x with
    | non => cases rx; exact SeqAt.EqAt.bool_none a
    | bl b => cases rx; exact SeqAt.EqAt.bool_bool a b
    | int b => obtain ⟨t, rfl⟩ := rx; exact SeqAt.EqAt.bool_int a b t
    | str b => obtain ⟨t, rfl⟩ := rx; exact SeqAt.EqAt.bool_str a b t
    | _ => exact absurd (show false = true from fx) Bool.false_ne_true
  | int a =>
    obtain ⟨t', rfl⟩ := ry
    cases x with
    | non => cases rx; exact SeqAt.EqAt.int_none a t'
    | bl b => cases rx; exact SeqAt.EqAt.int_bool a t' b
    | int b => obtain ⟨t, rfl⟩ := rx; exact SeqAt.EqAt.int_int a t' b t
    | str b => obtain ⟨t, rfl⟩ := rx; exact SeqAt.EqAt.int_str a t' b t
    | _ => exact absurd (show false = true from fx) Bool.false_ne_true
  | str a =>
    obtain ⟨t', rfl⟩ := ry
    cases x with
    | non => cases rx; exact SeqAt.EqAt.str_none a t'
    | bl b => cases rx; exact SeqAt.EqAt.str_bool a t' b
    | int b => obtain ⟨t, rfl⟩ := rx; exact SeqAt.EqAt.str_int a t' b t
    | str b => obtain ⟨t, rfl⟩ := rx; exact SeqAt.EqAt.str_str a t' b t
    | _ => exact absurd (show false = true from fx) Bool.false_ne_true
  | _ => exact absurd (show false = true from fy) Bool.false_ne_true

theorem call_len_seq : CallR X (.builtin "len") (fun xs H Q => ∃ p ys, xs = [.ref p] ∧ (SqL X.K H p ys ∨ SqT X.K H p ys) ∧ Q (.int ys.length) H) := by
  intro pins s σ H xs us Q I r h
  obtain ⟨p, ys, rfl, hq, q⟩ := h
  obtain ⟨u, rfl, rx⟩ := vals1 r
  cases rx
  have hn := line63
  rcases hq with hq | hq
  · obtain ⟨its, r', pl, hz⟩ := I.list hq
    have hlen := r'.length
    exact Calls.call_len_list pl.isList (by simp only [List.size_toArray] <;> (first | lia | omega)) ⟨.int ys.length, H, I.tok _, ⟨s.toks + 1, by rw [List.size_toArray, hlen]⟩, q⟩
  · obtain ⟨its, r', pl, hz⟩ := I.tuple hq
    have hlen := r'.length
    exact len_tuple pl (by simp only [List.size_toArray] <;> (first | lia | omega)) ⟨.int ys.length, H, I.tok _, ⟨s.toks + 1, by rw [List.size_toArray, hlen]⟩, q⟩
theorem call_tuple_of : CallR X (.type "tuple") (fun xs H Q => ∃ p ys, xs = [.ref p] ∧ ((SqL X.K H p ys ∧ ∀ l, H l = none → Q (.ref l) (upd H l (.tup ys))) ∨ (SqT X.K H p ys ∧ Q (.ref p) H))) := by
  intro pins s σ H xs us Q I r h
  obtain ⟨p, ys, rfl, h⟩ := h
  obtain ⟨u, rfl, rx⟩ := vals1 r
  cases rx
  rcases h with ⟨hq, q⟩ | ⟨hq, q⟩
  · obtain ⟨its, r', pl, hz⟩ := I.list hq
    have hlen := r'.length
    refine call_tuple_list pl.isList (fun h' kp => ?_) (by simp only [List.size_toArray] <;> (first | lia | omega))
    have I1 : Inv X pins σ H { s with heap := h' } := I.kept (t' := s.toks) kp
    have I2 : Inv X pins σ (upd H h'.objs.size (.tup ys)) { s with heap := h'.push { cls := .type "tuple", data := .seq its.toArray } } :=
      I1.laid (t' := s.toks) (fun b o e => Heap.get?_push_of_some _ e) (Nat.le_refl _) (show ObjOk X.prog X.w _ _ _ (.tup ys) from ⟨hz, its, r', IsTup.new _ _⟩)
    exact ⟨.ref h'.objs.size, _, I2, rfl, q _ (I1.hok.fresh (Nat.le_refl _))⟩
  · obtain ⟨its, r', pl, hz⟩ := I.tuple hq
    exact call_tuple_same pl ⟨.ref p, H, I, rfl, q⟩

noncomputable def tyV (K : PySem.W.Frag) (T : String) (x : V) (H : Hp) : Prop := match x with
  | .str _ => T = "str"
  | .int _ => T = "int"
  | .ref p => (T = "list" ∧ ∃ xs, SqL K H p xs) ∨ (T = "tuple" ∧ ∃ o, K.lookup p = some o ∧ o.cls = .type "tuple" ∧ o.dict = none) ∨
      (T = "dict" ∧ ((∃ kvs, H p = some (.dK kvs)) ∨ ∃ kvs, H p = some (.dT kvs))) ∨ (T = "set" ∧ ∃ S n, H p = some (.set S n))
  | _ => False
theorem tyV_is {pins : List (Addr × Obj)} {σ : St} {H : Hp} {s : Shared} {T : String} {x : V} {v : Value} (I : Inv X pins σ H s) (r : RelV x v) (ty : tyV X.K T x H) :
    s.TypeIs v T ∧ ∀ a, v = .ref a → ∃ ob, s.heap.get? a = some ob ∧ ob.dict = none := by
  cases x with
  | str z =>
    obtain ⟨t, rfl⟩ := r
    cases (show T = "str" from ty)
    exact ⟨typeIs_str s z t, fun _ e => nomatch e⟩
  | int i =>
    obtain ⟨t, rfl⟩ := r
    cases (show T = "int" from ty)
    exact ⟨typeIs_int s i t, fun _ e => nomatch e⟩
  | ref p =>
    cases r
    rcases ty with ⟨rfl, xs, hq⟩ | ⟨rfl, o, hk, hc, hd⟩ | ⟨rfl, hk⟩ | ⟨rfl, S, n, hk⟩
    · obtain ⟨its, _, pl, _⟩ := I.list hq
      refine ⟨pl.isList.typeIs, fun a e => ?_⟩
      cases e
      obtain ⟨o, n, e, c, hd, _⟩ := pl
      exact ⟨o, e, hd⟩
    · refine ⟨⟨o, I.kIn p o hk, hc⟩, fun a e => ?_⟩
      cases e
      exact ⟨o, I.kIn _ o hk, hd⟩
    · have z : ∃ o, s.heap.get? p = some o ∧ o.ExactDict := by
        rcases hk with ⟨kvs, hk⟩ | ⟨kvs, hk⟩
        · obtain ⟨_, _, _, _, o, _, _, e, ex, _⟩ := I.hok p _ hk
          exact ⟨o, e, ex⟩
        · obtain ⟨_, _, _, _, o, _, _, e, ex, _⟩ := I.hok p _ hk
          exact ⟨o, e, ex⟩
      obtain ⟨o, e, ex⟩ := z
      refine ⟨⟨o, e, ex.1⟩, fun a e2 => ?_⟩
      cases e2
      exact ⟨o, e, ex.2.1⟩
    · obtain ⟨o, _, _, _, e, ex, _⟩ := I.hok p _ hk
      refine ⟨⟨o, e, ex.1⟩, fun a e2 => ?_⟩
      cases e2
      exact ⟨o, e, ex.2.1⟩
  | _ => exact False.elim ty
noncomputable def tBM0 (K : PySem.W.Frag) (T : String) (r : V → List V → Hp → VK → Prop) (to : TE) : TE := fun σ H Q => to σ H fun x H1 => tyV K T x H1 ∧ r x [] H1 Q
noncomputable def tBM (K : PySem.W.Frag) (T : String) (r : V → List V → Hp → VK → Prop) (to : TE) (t : TA) : TE := fun σ H Q => to σ H fun x H1 => tyV K T x H1 ∧ t σ H1 fun xs H2 => r x xs H2 Q
variable {o e : Expr} {es : List Expr} {to : TE} {t : TA} {name : Str} {apos cpos : Pos} {T id : String} {r : V → List V → Hp → VK → Prop}
theorem pe_bm0 (pa : PlainAttrs T) (slot : Slot T name id) (hty : typeOf (.builtin id) = pure (.type "method_descriptor")) (hm : MtR X id r) (ho : PE X o to)
    (hbase : attributeBase o name X.env (eval o X.env) = eval o X.env := by rfl) (hline : (apos.endLine == cpos.line) = true := by rfl) : PE X (.Call (.Attribute o name apos) [] [] cpos) (tBM0 X.K T r to) := by
  intro pins s σ H Q I h
  refine wpAny_Call_method0_late hbase hline (thn (ho pins s σ H _ I h) fun v s1 hP21 => ?_)
  obtain ⟨x, H1, I1, r1, ty, q1⟩ := hP21
  obtain ⟨h1, h2⟩ := tyV_is I1 r1 ty
  exact ⟨T, id, pa, slot, hty, h1, h2, Calls.callWith_builtin rfl (PySem.evalArgs_none (hm pins s1 σ H1 x [] v [] Q I1 r1 .nil q1))⟩
theorem pe_bm (pa : PlainAttrs T) (slot : Slot T name id) (hty : typeOf (.builtin id) = pure (.type "method_descriptor")) (hm : MtR X id r) (ho : PE X o to) (ha : PA X (e :: es) t)
    (hbase : attributeBase o name X.env (eval o X.env) = eval o X.env := by rfl)
    (hfew : ((backTo cpos (starEach (e :: es) X.env)).all (fun x => !x.1) && (backToKw cpos (keywordEach [] X.env)).all (fun x => x.1.isSome)
      && decide ((e :: es).length + ([] : List Keyword).length + (if ([] : List Keyword).isEmpty then 0 else 1) < 30)) = true := by rfl)
    (hline : (apos.endLine == cpos.line) = true := by rfl) (hs : starEach (e :: es) X.env = (false, eval e X.env) :: starEach es X.env := by rfl) (hplain : (backTo cpos (starEach es X.env)).any (·.1) = false := by rfl) :
    PE X (.Call (.Attribute o name apos) (e :: es) [] cpos) (tBM X.K T r to t) := by
  intro pins s σ H Q I h
  refine wpAny_Call_method_late hbase hfew hline rfl (thn (ho pins s σ H _ I h) fun v s1 hP22 => ?_)
  obtain ⟨x, H1, I1, r1, ty, q1⟩ := hP22
  obtain ⟨h1, h2⟩ := tyV_is I1 r1 ty
  refine ⟨T, id, pa, slot, hty, h1, h2, ?_⟩
  have hA := ha cpos pins s1 σ H1 _ I1 q1
  rw [hs] at hA ⊢
  refine Calls.callWith_builtin (by show (false || (backTo cpos (starEach es X.env)).any (·.1)) = false; rw [hplain] <;> rfl) (Calls.evalArgs_plain ?_)
  exact thn hA fun us s2 ⟨vs, H2, I2, r2, q2⟩ => hm pins s2 σ H2 x vs v us Q I2 r1 r2 q2

end
end Internal.L2

namespace Internal.L2
open PySem PySem.Spec PyProof.Rows

noncomputable def MtM (X : Cx) (id : String) (r : V → List V → Hp → VK → Prop) : Prop :=
  ∀ (pins : List (Addr × Obj)) (s : Shared) (σ : St) (H : Hp) (x : V) (xs : List V) (v : Value) (us : List Value) (Q : VK), Inv X pins σ H s → RelV x v → Vals xs us → r x xs H Q →
    wpAny (model X.prog X.w) X.A (call (.builtin id) (v :: us)) (EP X pins σ Q) X.xe s

theorem Vals.one : ∀ {x : V} {us : List Value}, Vals [x] us → ∃ u, us = [u] ∧ RelV x u
  | _, _, .cons r .nil => ⟨_, rfl, r⟩
theorem Vals.zero : ∀ {us : List Value}, Vals [] us → us = []
  | _, .nil => rfl
section
variable {X : Cx} {pins : List (Addr × Obj)} {σ : St} {H : Hp} {s : Shared} {l b : Addr} {xs ys zs : List V}

theorem Inv.lset {its its' : List Value} {n : Nat} {f : Array Value → Array Value} {t' : Nat} (I : Inv X pins σ H s) (hH : H l = some (.lst xs))
    (e : s.heap.get? l = some { cls := .type "list", data := .seq its.toArray n }) (hf : f its.toArray = its'.toArray) (hv : Vals ys its') (hz : ys.length ≤ sizeLine) :
    Inv X pins σ (upd H l (.lst ys)) { s with heap := s.heap.update l (Obj.mapSeq f), toks := t' } := by
  have q := PySem.IsL.update e f
  rw [hf] at q
  refine I.write (x := l) (e := l) (by rw [hH]; exact trivial) (.inl rfl) (fun b' u hb hu => (Heap.get?_update_other s.heap (Obj.mapSeq f) (Ne.symm hb)).trans hu) ⟨_, q⟩ ?_
  exact ⟨hz, its', _, hv, q⟩
theorem Inv.lnew {its : List Value} {t' : Nat} (I : Inv X pins σ H s) (hv : Vals ys its) (hz : ys.length ≤ sizeLine) :
    Inv X pins σ (upd H s.heap.objs.size (.lst ys)) { s with heap := s.heap.push { cls := .type "list", data := .seq its.toArray }, toks := t' } :=
  I.laid (fun _ _ q => Heap.get?_push_of_some _ q) (Nat.le_refl _) ⟨hz, its, 0, hv, Heap.get?_push_size _ rfl⟩
theorem Inv.fresh (I : Inv X pins σ H s) : H s.heap.objs.size = none := I.hok.fresh (Nat.le_refl _)
theorem Inv.lstM (I : Inv X pins σ H s) (hH : H l = some (.lst xs)) : xs.length ≤ sizeLine ∧ ∃ (its : List Value) (n : Nat), Vals xs its ∧ xs.length = its.length ∧ s.heap.get? l = some { cls := .type "list", data := .seq its.toArray n } := by
  obtain ⟨z, its, n, r, e⟩ := I.hok l _ hH
  exact ⟨z, its, n, r, r.length, e⟩

theorem notLongL {n : Nat} (h : n ≤ sizeLine) : Builtin.List.listTooLong n = false := by
  unfold Builtin.List.listTooLong
  exact decide_eq_false (by (first | lia | omega))
end

section
variable {X : Cx}

noncomputable def rAppend : V → List V → Hp → VK → Prop := fun x vs H Q => ∃ l xs y, x = .ref l ∧ vs = [y] ∧ H l = some (.lst xs) ∧ xs.length < sizeLine ∧ Q .non (upd H l (.lst (xs ++ [y])))
theorem mt_append : MtM X "list.append" rAppend := by
  intro pins s σ H x vs v us Q I rx rv h
  obtain ⟨l, xs, y, rfl, rfl, hH, hz, q⟩ := h
  cases rx
  obtain ⟨u, rfl, ru⟩ := rv.one
  obtain ⟨z, its, n, r, hl, e⟩ := I.lstM hH
  refine call_meets F.slot_list_append ⟨_, e, rfl⟩ F.entry_list_append (F.args_list_append_2 _ _) (PySem.list_append l its.toArray n u (by rw [List.size_toArray]; (first | lia | omega))) ⟨e, ?_⟩
  refine ⟨.non, _, I.lset (its' := its ++ [u]) hH e (by simp) (r.append (.cons ru .nil)) ?_, rfl, q⟩
  rw [List.length_append, List.length_singleton]
  (first | lia | omega)

noncomputable def rClear : V → List V → Hp → VK → Prop := fun x vs H Q => ∃ l xs, x = .ref l ∧ vs = [] ∧ H l = some (.lst xs) ∧ Q .non (upd H l (.lst []))
theorem mt_clear : MtM X "list.clear" rClear := by
  intro pins s σ H x vs v us Q I rx rv h
  obtain ⟨l, xs, rfl, rfl, hH, q⟩ := h
  cases rx
  have hus := rv.zero
  subst hus
  obtain ⟨z, its, n, r, hl, e⟩ := I.lstM hH
  refine call_meets F.slot_list_clear ⟨_, e, rfl⟩ F.entry_list_clear (F.args_list_clear_1 _) (AutoSeq1.list_clear_list_0 l its.toArray n (by rw [List.size_toArray]; (first | lia | omega))) ⟨e, ?_⟩
  exact ⟨.non, _, I.lset (its' := []) (ys := []) hH e rfl .nil (Nat.zero_le _), rfl, q⟩

end

section
variable {prog : Program} {w : World} {A : Around} {E : Value → Shared → Prop} {s : Shared}
end

section
variable {X : Cx}
end
end Internal.L2

namespace Att
open PySem PySem.W PySem.Calls PyProof.Rows

theorem ints_of_wellAll {P : Params} {h : Heap} : ∀ (ns : List Int) (vs : List Value), WellAll P h vs (ns.map WData.int) → IntsAre vs ns := by
  intro ns
  induction ns with
  | nil =>
    intro vs w
    rw [List.map_nil] at w
    cases w
    exact .nil
  | cons n ns ih =>
    intro vs w
    rw [List.map_cons] at w
    cases w with
    | cons a b =>
      cases a
      exact .cons _ _ (ih _ b)

theorem script_of {l : OpenLaw} {n : Nat} (hn : l.most = some n) {P : Params} {h : Heap} {args : List WData} {vals : List Value}
    (hpre : l.row.toRowW.claim.pre args = true) (hwl : WellAll P h vals args) :
    ∃ a vs ns, vals = [Value.ref a] ∧ args = [WData.list (ns.map WData.int)] ∧ h.get? a = some { cls := .type "list", data := .seq vs.toArray } ∧ IntsAre vs ns ∧ ns.length ≤ n := by
  have hsh : WShape.hasAll [] args [.list .int] = true := (pre_splitW hpre).1
  have hc : l.pre.holds [] { args := args } = true := (pre_splitW hpre).2
  obtain ⟨d, r, rfl, h1, h2⟩ := hasAllW_cons hsh
  obtain rfl := hasAllW_nil h2
  obtain ⟨xs, rfl, h3⟩ := hasW_list h1
  obtain ⟨ns, rfl⟩ := items_int h3
  have hlen : ns.length ≤ n := by
    unfold OpenLaw.pre at hc
    have h4 : (WTm.not (.lt (.lit (.int (n : Int))) (.len (.arg 0)))).holds [] { args := [.list (ns.map .int)] } = true := by
      have h4 := (holds_andW hc).1
      rw [hn] at h4
      exact h4
    have h5 := condW_of h4 (w_not (w_lt w_lit (w_len_list (w_arg rfl))))
    rw [List.length_map] at h5
    refine Nat.le_of_not_lt fun q => ?_
    have q' : (n : Int) < ((ns.length : Nat) : Int) := by (first | lia | omega)
    first
      | (rw [decide_eq_true q'] at h5; exact absurd h5 (by decide))
      | (simp at h5; (first | lia | omega))
  cases hwl with
  | cons w1 w2 =>
    cases w2
    cases w1 with
    | list ho hall => exact ⟨_, _, ns, rfl, rfl, ho, ints_of_wellAll ns _ hall, hlen⟩

theorem post_true (l : OpenLaw) (args : List WData) : l.row.toRowW.claim.post args (.bool true) args = true :=
  postW_of (r := l.row.toRowW) (X := (true == true))
    (show WShape.has [] (.bool true) .bool = true by first | rfl | decide | simp [WShape.has, WShape.arms, WShape.armsAll])
    (show (WTm.eq .res (.lit (.bool true))).value [] { args := args, res := some (.bool true), after := args } = some (.bool (true == true)) from w_eq_bool (w_res rfl) w_lit) rfl

theorem attach_call {l : OpenLaw} {n : Nat} {q : Program} {loose : List Str} {XP : (Str → Option Value) → Heap → Prop} {YP : World → Heap → Prop} {d : DefRec}
    (hn : l.most = some n) (hdf : d.params.defaults = [])
    (call : ∀ (w : World) (s₀ s₁ : Shared) (mg mb : Str → Option Value) (fa : Addr) (o : Obj) (pm cd doc : Value) (a : Addr) (vs : List Value) (ns : List Int),
      Ground q loose [] XP w s₀ mg mb s₁.heap → YP w s₁.heap →
      s₁.heap.get? fa = some o → o.data = .func (docDef d.name d.params d.body d.scope pm cd doc) → s₁.heap.CodeRec cd d.name → mg d.name = some (.ref fa) →
      s₁.heap.get? a = some { cls := .type "list", data := .seq vs.toArray } → IntsAre vs ns → ns.length ≤ n → s₁.gens = #[] →
      codeAny (model l.prog w) callerA (.call (.ref fa) ⟨[.ref a], []⟩) (fun r s' => r = .ok (.ret (.bool true)) ∧ OldK s₁.heap s'.heap ∧ s'.os = s₁.os ∧ AllBare s'.gens) s₁) :
    WalkO q loose XP YP l.row.toRowW d [] (fun f vs => PySem.call f vs) := by
  intro w s₀ s₁ mg mb G Y fa o pm cd doc dV kV ho hd hcd hD hmg hg args vals as hpre hlay hrd hwl hlo
  obtain rfl : dV = .none := Dflts.none hD hdf
  obtain rfl : kV = .none := Dflts.noKw hD
  obtain ⟨a, vs, ns, rfl, rfl, hobj, hints, hlen⟩ := script_of hn hpre hwl
  refine enter_call (codeAny_mono (call w s₀ s₁ mg mb fa o pm cd doc a vs ns G Y ho (fd_plain hd) hcd hmg hobj hints hlen hg) fun r s' hq => ?_)
  obtain ⟨rfl, h2, h3, h4⟩ := hq
  exact ⟨.inl ⟨.bool true, .bool true, [], rfl, fun _ => rfl, .bool true, post_true l _, fun _ => ⟨List.Pairwise.nil, fun _ hm => (nomatch hm)⟩⟩, h2, h3, h4⟩

section
variable {prog : Program} {w : World} {A : Around} {E : Value → Shared → Prop} {s : Shared} {K : Frag}

noncomputable def ledger (h : Heap) (L d : Addr) : List (Addr × Obj) := (List.range h.objs.size).filterMap fun a => if a = L ∨ a = d then none else (h.get? a).map fun o => (a, o)
end
end Att

namespace Internal.L2
open PySem PySem.Spec PyProof.Rows

theorem vals_ints : ∀ {vs : List Value} {ns : List Int}, IntsAre vs ns → Vals (ns.map V.int) vs
  | _, _, .nil => .nil
  | _, _, .cons n t h => .cons ⟨t, rfl⟩ (vals_ints h)

noncomputable def Only (H : Hp) : Prop := ∀ b, H b = none ∨ ∃ o xs, H b = some (.frz o (.lst xs))

theorem law_call {P : Program} {w : World} {K : PySem.W.Frag} {mg mb : Str → Option Value} {CX : CXT} {k : Nat} {fa a : Addr} {fd : FuncData} {x : Str} {sp : Sp} {s₁ : Shared} {vs : List Value} {ns : List Int}
    (KX : K.In s₁.heap) (hns : s₁.heap.Ns mainGlobals mg) (hb : s₁.heap.Ns builtinsNs mb) (hbb : ∀ x : Str, x ≠ "__name__" → mb x = bootBuiltins x) (hlim : s₁.heap.NoLimit) (hg : s₁.gens = #[])
    (ha : s₁.heap.get? a = some { cls := .type "list", data := .seq vs.toArray }) (hi : IntsAre vs ns) (hl : ns.length ≤ sizeLine) (hr : Room k callerA)
    (F : ∀ base : Heap, K.In base → base.Ns mainGlobals mg → FnOk P w K mg base CX k fa fd [x] sp) (hbind : ∀ (s : Shared) (u : Value), BindsTo s fd ⟨[u], []⟩ [(x, u)])
    (hsp : ∀ H : Hp, Only H → SqL K H a (ns.map V.int) → sp [.ref a] H (fun v _ => v = .bl true) fun _ _ _ => False)
    (hCX : ∀ H e s', CX [] H s₁ (fun _ _ _ => False) e s' → False) :
    codeAny (model P w) callerA (.call (.ref fa) ⟨[.ref a], []⟩) (fun r s' => r = .ok (.ret (.bool true)) ∧ OldK s₁.heap s'.heap ∧ s'.os = s₁.os ∧ AllBare s'.gens) s₁ := by
  have rv := vals_ints hi
  have lenV := hi.length
  -- from an abstract heap in which nothing but the script may be tracked
  have core : ∀ H : Hp, Only H → SqL K H a (ns.map V.int) → HOk P w H s₁.heap → (∀ b, H b ≠ none → b = a) → (H a ≠ none → K.lookup a = none) →
      codeAny (model P w) callerA (.call (.ref fa) ⟨[.ref a], []⟩) (fun r s' => r = .ok (.ret (.bool true)) ∧ OldK s₁.heap s'.heap ∧ s'.os = s₁.os ∧ AllBare s'.gens) s₁ := by
    intro H hO hS hok hA hK
    have base_of : ∀ {b : Addr} {o : Obj}, s₁.heap.get? b = some o → H b = none → (hidT s₁.heap H).get? b = some o := fun e n => hidT_get e n
    have noA : ∀ {b : Addr} {o : Obj} {es : Array DictEntry} {ep : Nat}, s₁.heap.get? b = some o → o.data = .dict es ep → H b = none := fun {b o es ep} e d => by
      cases q : H b with
      | none => rfl
      | some u =>
        have e' : b = a := hA b (by rw [q]; simp)
        subst e'
        rw [ha] at e; cases e
        have d' : Data.seq vs.toArray _ = Data.dict es ep := d
        cases d'
    have nsK : ∀ {b : Addr} {m : Str → Option Value}, s₁.heap.Ns b m → (hidT s₁.heap H).Ns b m := fun {b m} ⟨o, es, ep, e, d, r⟩ => ⟨o, es, ep, base_of e (noA e d), d, r⟩
    have hKb : K.In (hidT s₁.heap H) := fun b o e => base_of (KX b o e) (by
      cases q : H b with
      | none => rfl
      | some u =>
        have e' : b = a := hA b (by rw [q]; simp)
        subst e'
        rw [hK (by rw [q]; simp)] at e; cases e)
    have hM : Mod K mg (hidT s₁.heap H) := ⟨hKb, nsK hns, ⟨mb, nsK hb, hbb⟩, let ⟨mc, h1, h2⟩ := hlim; ⟨mc, nsK h1, h2⟩⟩
    have e0 : Env0 P w K mg (hidT s₁.heap H) callerA [] s₁ H := ⟨rfl, hM, fun b o e => of_hidT e, Nat.le_of_eq (hidT_size _ _), trivial, fun b hb => absurd (show b ∈ ([] : List Addr) from hb) (by simp), hok, .of_eq hg⟩
    refine codeAny_mono ((F _ hKb (nsK hns)).run callerA [] s₁ H ⟨[.ref a], []⟩ [.ref a] [.ref a] _ _ hr e0 (hbind s₁ (.ref a)) (.cons rfl .nil) (hsp H hO hS)) fun r s' h => ?_
    cases r with
    | error e => exact (hCX H e s' h).elim
    | ok fl =>
      cases fl with
      | next => exact False.elim h
      | brk => exact False.elim h
      | cont => exact False.elim h
      | ret u =>
        obtain ⟨v, H', os, bare, un, hok', r', q⟩ := h
        have q' : v = .bl true := q
        subst q'
        obtain rfl : u = Value.bool true := r'
        refine ⟨rfl, OldK.of_keep fun b o e => ?_, os, bare⟩
        cases q : H b with
        | none => exact un.keep b o e q (by intro z; exact absurd (show b ∈ ([] : List Addr) from z) (by simp)) (by simp)
        | some u =>
          rcases hO b with z | ⟨ob, xs, z⟩
          · rw [q] at z; cases z
          · have z2 := un.frzs b ob _ z
            obtain ⟨e1, _⟩ := hok b _ z
            obtain ⟨e2, _⟩ := hok' b _ z2
            rw [e] at e1; cases e1
            exact e2
  cases hk : K.lookup a with
  | some o =>
    -- the script is one of the module's own objects
    have e := KX a o hk
    rw [ha] at e
    cases e
    refine core (fun _ => none) (fun _ => .inl rfl) (.inr ⟨_, vs.toArray, _, hk, rfl, rfl, rfl, by rw [List.size_toArray, lenV]; exact hl, by simpa using rv⟩) (fun b u z => by have z' : (none : Option HO) = some u := z; cases z') (fun b z => absurd rfl z) fun z => absurd rfl z
  | none =>
    refine core (fun b => if b = a then some (.frz { cls := .type "list", data := .seq vs.toArray } (.lst (ns.map V.int))) else none) (fun b => ?_) (.inl (.inr ⟨{ cls := .type "list", data := .seq vs.toArray }, if_pos rfl⟩)) (fun b u z => ?_) (fun b z => ?_) fun _ => hk
    · by_cases hb : b = a
      · exact .inr ⟨_, _, if_pos hb⟩
      · exact .inl (if_neg hb)
    · by_cases hb : b = a
      · have z' := (if_pos hb).symm.trans z
        cases z'
        subst hb
        exact ⟨ha, by rw [List.length_map]; exact hl, vs, _, rv, ha⟩
      · have z' := (if_neg hb).symm.trans z
        cases z'
    · by_cases hb : b = a
      · exact hb
      · exact absurd (if_neg hb) z
end Internal.L2

namespace Internal.L2
open PySem PySem.Spec PyProof.Rows

noncomputable abbrev KOf {K : PySem.W.Frag} {h : Heap} (_ : K.In h) : PySem.W.Frag := K

theorem walk_of {l : PySem.W.OpenLaw} {n k : Nat} {q : Program} {loose : List Str} {XP : (Str → Option Value) → Heap → Prop} {YP : World → Heap → Prop} {d : DefRec} {K : Params → PySem.W.Frag} {CX : World → CXT} {sp : World → Sp} {x : Str}
    (hn : l.most = some n) (hn2 : n ≤ sizeLine) (hdf : d.params.defaults = []) (hr : Room k callerA)
    (hY : ∀ (w : World) (h : Heap), YP w h → (K w.params).In h)
    (F : ∀ (w : World) (mg : Str → Option Value) (fa : Addr) (h : Heap), (K w.params).In h → h.Ns mainGlobals mg → mg d.name = some (.ref fa) →
      ∃ fd : FuncData, (∀ (s : Shared) (u : Value), BindsTo s fd ⟨[u], []⟩ [(x, u)]) ∧
        ∀ base : Heap, (K w.params).In base → base.Ns mainGlobals mg → FnOk l.prog w (K w.params) mg base (CX w) k fa fd [x] (sp w))
    (hsp : ∀ (w : World) (H : Hp) (a : Addr) (ns : List Int), ns.length ≤ n → Only H → SqL (K w.params) H a (ns.map V.int) → sp w [.ref a] H (fun v _ => v = .bl true) fun _ _ _ => False)
    (hCX : ∀ (w : World) (H : Hp) (s : Shared) (e : Value) (s' : Shared), CX w [] H s (fun _ _ _ => False) e s' → False) :
    PySem.W.WalkO q loose XP YP l.row.toRowW d [] (fun f vs => PySem.call f vs) := by
  refine Att.attach_call hn hdf fun w s₀ s₁ mg mb fa o pm cd doc a vs ns G Y ho hd hcd hmg hobj hints hlen hg => ?_
  have KX := hY w _ Y
  obtain ⟨fd, hb, hF⟩ := F w mg fa _ KX G.T.g hmg
  exact law_call KX G.T.g G.T.b G.T.builtins G.T.nolimit hg hobj hints (Nat.le_trans hlen hn2) hr hF hb (fun H hO hS => hsp w H a ns hlen hO hS) fun H e s' => hCX w H s₁ e s'
end Internal.L2

namespace Internal.L2
open PySem PySem.Spec PyProof.Rows

noncomputable def defArgs (s : Stmt) : Arguments := match s with
  | .FunctionDef _ a _ _ _ _ _ _ _ _ => a
  | _ => { posonlyargs := [], args := [], vararg := none, kwonlyargs := [], kw_defaults := [], kwarg := none, defaults := [] }
noncomputable def defBody (s : Stmt) : List Stmt := match s with
  | .FunctionDef _ _ b _ _ _ _ _ _ _ => b
  | _ => []
noncomputable def defScope (s : Stmt) : Scope := match s with
  | .FunctionDef _ _ _ _ _ _ sc _ _ _ => sc
  | _ => { kind := .function, names := [], isGenerator := false, isCoroutine := false }

noncomputable abbrev CX0 : CXT := fun _ _ _ _ _ _ => False
noncomputable abbrev E0 : XK := fun _ _ _ => False
theorem pass0 {X : Cx} : Passes CX0 X E0 := fun _ _ _ _ _ _ _ h => h.elim

structure Fun (K : PySem.W.Frag) (x qual : Str) (st : Stmt) (f : Addr) (fd : FuncData) : Prop where
  ex : ∃ (oc : Value) (od : Option Addr) (kV doc pm : Value) (an : Option Addr) (cdv ct : Value) (osl : Array (Option Value)),
    fd = PySem.W.fnOf x qual (defArgs st) (defBody st) (defScope st) .none kV doc pm an cdv ct ∧ K.lookup f = some ⟨oc, od, .func fd, osl⟩ ∧ PySem.W.codeIn K cdv qual = true
  kp : PySem.W.keepIn K (.ref f) = true
section
variable {P : Program} {w : World} {K : PySem.W.Frag} {mg : Str → Option Value} {base : Heap}

theorem Fun.ok {x qual : Str} {st : Stmt} {f : Addr} {fd : FuncData} {N ps : List Str} {k : Nat} {sp : Sp} (F : Fun K x qual st f fd) (S : FnScope N ps (defScope st)) (len : ∀ vs H Q E, sp vs H Q E → vs.length = ps.length)
    (hbody : ∀ (cdv : Value) (A : Around) (outer : List Env) (s : Shared) (H : Hp) (vs : List V) (Q : VK) (E : XK), Room k (A.deeper (envOfC qual (defScope st) s.heap.objs.size f cdv)) → sp vs H Q E →
      ∃ t, PSs (cxOf CX0 P w K mg base N qual (defScope st) f cdv A outer s H E).nox (defBody st) t ∧ t { nx := fun _ H' => Q .non H', rt := Q } (start N vs) H) : FnOk P w K mg base CX0 (k + 1) f fd ps sp := by
  obtain ⟨oc, od, kV, doc, pm, an, cdv, ct, osl, rfl, lk, hcd⟩ := F.ex
  refine fn_of lk hcd S len fun A outer s H vs Q E hr hsp => ?_
  obtain ⟨t, h, q⟩ := hbody cdv A outer s H vs Q E hr hsp
  exact ⟨t, h.nox, q⟩

theorem Fun.binds {x qual : Str} {st : Stmt} {f : Addr} {fd : FuncData} {ps : List Str} (F : Fun K x qual st f fd)
    (h : ∀ (kV doc pm : Value) (an : Option Addr) (cdv ct : Value) (us : List Value), us.length = ps.length → bindArgs (PySem.W.fnOf x qual (defArgs st) (defBody st) (defScope st) .none kV doc pm an cdv ct) ⟨us, []⟩ = pure (ps.zip us)) : Binds K fd ps [] := by
  obtain ⟨oc, od, kV, doc, pm, an, cdv, ct, osl, rfl, lk, hcd⟩ := F.ex
  exact .all (h kV doc pm an cdv ct)
theorem fun_mk {x qual : Str} {st : Stmt} {f : Addr} {oc : Value} {od an : Option Addr} {osl : Array (Option Value)} {kV doc pm cdv ct : Value} (l : K.lookup f = some ⟨oc, od, .func (PySem.W.fnOf x qual (defArgs st) (defBody st) (defScope st) .none kV doc pm an cdv ct), osl⟩)
    (c : PySem.W.codeIn K cdv qual = true) (k : PySem.W.keepIn K (.ref f) = true) : Fun K x qual st f (PySem.W.fnOf x qual (defArgs st) (defBody st) (defScope st) .none kV doc pm an cdv ct) := ⟨⟨oc, od, kV, doc, pm, an, cdv, ct, osl, rfl, l, c⟩, k⟩
end

section
variable {X : Cx}
end

theorem iteF {A B : Prop} (h : B) : if false = true then A else B := by
  rw [if_neg Bool.false_ne_true]
  exact h
theorem iteT {A B : Prop} (h : A) : if true = true then A else B := by
  rw [if_pos rfl]
  exact h

noncomputable def Same (H H' : Hp) : Prop := ∀ b o, H b = some o → H' b = some o
theorem Same.refl (H : Hp) : Same H H := fun _ _ h => h
theorem Same.trans {H H1 H2 : Hp} (a : Same H H1) (b : Same H1 H2) : Same H H2 := fun c o h => b c o (a c o h)
theorem Same.free {H H' : Hp} (e : Same H H') {l : Addr} (h : H' l = Option.none) : H l = Option.none := by
  cases q : H l with
  | none => rfl
  | some o =>
    rw [e l o q] at h
    cases h
theorem Same.seq {K : PySem.W.Frag} {H H' : Hp} {a : Addr} {xs : List V} (e : Same H H') (h : SqL K H a xs) : SqL K H' a xs := by
  rcases h with (h | ⟨o, h⟩) | h
  · exact .inl (.inl (e _ _ h))
  · exact .inl (.inr ⟨o, e _ _ h⟩)
  · exact .inr h

end Internal.L2
section
set_option Elab.async false
set_option linter.all false
set_option maxRecDepth 100000
set_option maxHeartbeats 4000000

namespace Internal
open PySem PySem.Spec PyProof.Rows Internal.L2

noncomputable def clOf (cells : List (Str × Addr)) : List (Str × NameKind) → List (Str × Addr) → List (Str × Addr)
  | [], acc => acc
  | (n, k) :: r, acc => if k == .free then clOf cells r ((n, (cells.lookup n).getD 0) :: acc) else clOf cells r acc

theorem closure_forIn {env : Env} (f : Str × NameKind → List (Str × Addr) → Sem (ForInStep (List (Str × Addr))))
    (hf : ∀ n k cs, f (n, k) cs = if k == .free then (cellOf env n >>= fun a => pure (.yield ((n, a) :: cs))) else pure (.yield cs)) :
    ∀ (names : List (Str × NameKind)) (acc : List (Str × Addr)), (∀ n, (n, NameKind.free) ∈ names → ∃ c, env.cells.lookup n = some c) → forIn names acc f = pure (clOf env.cells names acc)
  | [], acc, _ => by rw [List.forIn_nil]; rfl
  | (n, k) :: r, acc, h => by
    have hr : ∀ m, (m, NameKind.free) ∈ r → ∃ c, env.cells.lookup m = some c := fun m hm => h m (List.mem_cons_of_mem _ hm)
    rw [List.forIn_cons, hf]
    unfold clOf
    by_cases hk : (k == NameKind.free) = true
    · rw [if_pos hk, if_pos hk]
      have hk' : k = .free := by simpa using hk
      subst hk'
      obtain ⟨c, hc⟩ := h n List.mem_cons_self
      have e : cellOf env n = pure c := by unfold cellOf; rw [hc]
      rw [e, hc]
      simp only [pure_bind, Option.getD_some]
      exact closure_forIn f hf r _ hr
    · rw [if_neg hk, if_neg hk]
      simp only [pure_bind]
      exact closure_forIn f hf r _ hr

theorem closureFor_eq {scope : Scope} {env : Env} (h : ∀ n, (n, NameKind.free) ∈ scope.names → ∃ c, env.cells.lookup n = some c) : closureFor scope env = pure (clOf env.cells scope.names []) := by
  simp only [closureFor]
  rw [closure_forIn (env := env) _ (fun n k cs => by cases hk : k == NameKind.free <;> simp [hk]) scope.names [] h]
  rfl

theorem clOf_lookup (cells : List (Str × Addr)) (y : Str) : ∀ (names : List (Str × NameKind)) (acc : List (Str × Addr)),
    ((y, NameKind.free) ∈ names → (clOf cells names acc).lookup y = some ((cells.lookup y).getD 0)) ∧ ((y, NameKind.free) ∉ names → (clOf cells names acc).lookup y = acc.lookup y)
  | [], acc => ⟨fun h => (nomatch h), fun _ => rfl⟩
  | (n, k) :: r, acc => by
    unfold clOf
    by_cases hk : (k == NameKind.free) = true
    · rw [if_pos hk]
      have hk' : k = .free := by simpa using hk
      subst hk'
      have ih := clOf_lookup cells y r ((n, (cells.lookup n).getD 0) :: acc)
      by_cases hm : (y, NameKind.free) ∈ r
      · exact ⟨fun _ => ih.1 hm, fun h => absurd (List.mem_cons_of_mem _ hm) h⟩
      · refine ⟨fun h => ?_, fun h => ?_⟩
        · rcases List.mem_cons.mp h with e | e
          · cases e
            rw [ih.2 hm, List.lookup_cons]
            simp
          · exact absurd e hm
        · rw [ih.2 hm, List.lookup_cons]
          have hn : (y == n) = false := by
            cases hb : y == n with
            | false => rfl
            | true => exact absurd (by rw [beq_iff_eq.mp hb]; exact List.mem_cons_self) h
          rw [hn]
    · rw [if_neg hk]
      have ih := clOf_lookup cells y r acc
      refine ⟨fun h => ih.1 ?_, fun h => ih.2 fun z => h (List.mem_cons_of_mem _ z)⟩
      rcases List.mem_cons.mp h with e | e
      · cases e; exact absurd rfl hk
      · exact e

theorem cellsFrom_acc : ∀ (names : List (Str × NameKind)) (n : Nat) (acc : List (Str × Addr)), cellsFrom n names acc = cellsFrom n names [] ++ acc
  | [], _, acc => rfl
  | (x, k) :: r, n, acc => by
    unfold cellsFrom
    by_cases hk : (k == NameKind.cell) = true
    · rw [if_pos hk, if_pos hk, cellsFrom_acc r (n + 1) ((x, n) :: acc), cellsFrom_acc r (n + 1) [(x, n)], List.append_assoc]
      rfl
    · rw [if_neg hk, if_neg hk]
      exact cellsFrom_acc r n acc
theorem lookup_app {α : Type} (y : Str) : ∀ (a b : List (Str × α)), (a ++ b).lookup y = (a.lookup y).or (b.lookup y)
  | [], b => by simp
  | (k, v) :: r, b => by
    rw [List.cons_append, List.lookup_cons, List.lookup_cons]
    cases hb : y == k with
    | true => rfl
    | false => exact lookup_app y r b
theorem lookup_relabel (scope : Scope) (env : Env) (y : Str) : (relabel scope env).names.lookup y =
    (scope.names.lookup y).map fun k => if (k == .free && env.scope.kind == .function && env.kindOf y == some .cell) = true then NameKind.cell else k := by
  show (scope.names.map fun (n, k) => if (k == .free && env.scope.kind == .function && env.kindOf n == some .cell) then (n, NameKind.cell) else (n, k)).lookup y = _
  induction scope.names with
  | nil => rfl
  | cons p r ih =>
    obtain ⟨n, k⟩ := p
    rw [List.map_cons, List.lookup_cons]
    by_cases hc : (k == .free && env.scope.kind == .function && env.kindOf n == some .cell) = true
    · simp only [hc, if_true, List.lookup_cons]
      cases hb : y == n with
      | true =>
        have e := beq_iff_eq.mp hb
        subst e
        exact (congrArg some (if_pos hc)).symm
      | false => exact ih
    · simp only [hc, if_false, List.lookup_cons, Bool.false_eq_true]
      cases hb : y == n with
      | true =>
        have e := beq_iff_eq.mp hb
        subst e
        exact (congrArg some (if_neg hc)).symm
      | false => exact ih

noncomputable def hidN (x : Str) : Str := ⟨#[0] ++ x.cps⟩
noncomputable def blkN (N : List Str) (x : Str) : List Str := (N.map fun y => if y == x then hidN x else y) ++ [x]
noncomputable def blkEnv (scope : Scope) (C : Addr) (env : Env) : Env :=
  { scope := relabel scope env, locals := C, globals := env.globals, cells := cellsFrom (C + 1) scope.names (clOf env.cells scope.names []), qual := env.qual, func := none, code := env.code, frame := env.frame, builtins := env.builtins }
noncomputable def blk (X : Cx) (x : Str) (scope : Scope) (C : Addr) (s₀ : Shared) (H₀ : Hp) (ex : List Addr) : Cx :=
  { X with N := blkN X.N x, env := blkEnv scope C X.env, s₀ := s₀, H₀ := H₀, outer := X.stack, ex := ex, fn := fun y => y == x, pn := [], xe := fun _ _ => False }

noncomputable def compOk (N : List Str) (sc : Scope) (x : Str) (scope : Scope) : Bool :=
  (scope.kind == .function) && (scope.names.lookup x == some .local || scope.names.lookup x == some .cell) &&
  scope.names.all (fun y => (y.2 != .local || scope.names.lookup y.1 == some .local) && (y.2 != .cell || scope.names.lookup y.1 == some .cell) && (y.2 != .free || ((sc.names.lookup y.1 == some .cell || sc.names.lookup y.1 == some .free) && scope.names.lookup y.1 == some .free))) &&
  N.all (fun y => y == x || (scope.names.lookup y != some .local && scope.names.lookup y != some .cell)) &&
  (scope.names.lookup (hidN x) == none) && decide (blkN N x).Nodup && (scope.names.lookup x != some .free)

theorem wpAny_newCompEnv {M : Model} {A : Around} {E : Value → Shared → Prop} {s : Shared} {scope : Scope} {env : Env} {cl : List (Str × Addr)} {Q : Env → Shared → Prop}
    (hQ : ∀ h', h'.Ns s.heap.objs.size (fun _ => none) → (∀ b o, s.heap.get? b = some o → h'.get? b = some o) → (∀ n c, (n, c) ∈ cellsFrom (s.heap.objs.size + 1) scope.names [] → h'.IsCell c none ∧ s.heap.objs.size + 1 ≤ c) →
      ((cellsFrom (s.heap.objs.size + 1) scope.names []).Pairwise fun x y => x.2 ≠ y.2) →
      Q { scope := scope, locals := s.heap.objs.size, globals := env.globals, cells := cellsFrom (s.heap.objs.size + 1) scope.names cl, qual := env.qual, func := none, code := env.code, frame := env.frame, builtins := env.builtins } { s with heap := h' }) :
    wpAny M A (newFunctionEnv scope env.globals cl [] env.qual none .none (some env)) Q E s := by
  simp only [newFunctionEnv, Option.isSome_some, if_true]
  refine wpAny_bind (wpAny_alloc ?_)
  refine wpAny_bind (wpAny_layCells _ (fun name kind cells => by cases hkc : kind == NameKind.cell <;> simp [hkc]) _ _ _ _ ?_)
  have ok := cellsFrom_ok scope.names (s.heap.push { cls := .type "dict", data := .dict #[] }) (s.heap.objs.size + 1) [] ⟨fun _ _ hm => (nomatch hm), List.Pairwise.nil⟩ (by rw [Heap.size_push]; exact Nat.le_refl _)
  rw [Heap.size_push] at ok
  rw [show ({ s with heap := s.heap.push { cls := .type "dict", data := .dict #[] } } : Shared).heap.objs.size = s.heap.objs.size + 1 from Heap.size_push ..]
  refine wpAny_bind (wpAny_pure (wpAny_pure ?_))
  exact hQ _ ((Heap.Ns.new s.heap (.type "dict")).keeps (pushCells_keeps _ _)) (fun b o e => pushCells_keeps _ _ b o (Heap.get?_push_of_some _ e)) (fun n c hm => ok.empty n c hm) ok.apart

structure CompFacts (N : List Str) (sc : Scope) (x : Str) (scope : Scope) : Prop where
  kind : scope.kind = .function
  tgt : scope.names.lookup x = some .local ∨ scope.names.lookup x = some .cell
  locs : ∀ y ∈ scope.names, y.2 = .local → scope.names.lookup y.1 = some .local
  cels : ∀ y ∈ scope.names, y.2 = .cell → scope.names.lookup y.1 = some .cell
  fres : ∀ y ∈ scope.names, y.2 = .free → (sc.names.lookup y.1 = some .cell ∨ sc.names.lookup y.1 = some .free) ∧ scope.names.lookup y.1 = some .free
  oth : ∀ y ∈ N, y ≠ x → scope.names.lookup y ≠ some .local ∧ scope.names.lookup y ≠ some .cell
  emp : scope.names.lookup (hidN x) = none
  nd : (blkN N x).Nodup
theorem compOk_facts {N : List Str} {sc : Scope} {x : Str} {scope : Scope} (h : compOk N sc x scope = true) : CompFacts N sc x scope := by
  unfold compOk at h
  simp only [Bool.and_eq_true, Bool.or_eq_true, List.all_eq_true, beq_iff_eq, bne_iff_ne, decide_eq_true_eq, ne_eq] at h
  obtain ⟨⟨⟨⟨⟨⟨h1, h2⟩, h3⟩, h4⟩, h5⟩, h6⟩, h7⟩ := h
  refine ⟨h1, h2, fun y hy e => ?_, fun y hy e => ?_, fun y hy e => ?_, fun y hy e => ?_, h5, h6⟩
  · rcases (h3 y hy).1.1 with z | z
    · exact absurd e z
    · exact z
  · rcases (h3 y hy).1.2 with z | z
    · exact absurd e z
    · exact z
  · rcases (h3 y hy).2 with z | z
    · exact absurd e z
    · exact z
  · rcases h4 y hy with z | z
    · exact absurd z e
    · exact z

theorem mem_cellsFrom {y : Str} {c : Addr} : ∀ (names : List (Str × NameKind)) (n : Nat) (acc : List (Str × Addr)), (y, c) ∈ cellsFrom n names acc → (y, NameKind.cell) ∈ names ∨ (y, c) ∈ acc
  | [], _, _, h => .inr h
  | (x, k) :: r, n, acc, h => by
    unfold cellsFrom at h
    by_cases hk : (k == NameKind.cell) = true
    · rw [if_pos hk] at h
      have hk' : k = .cell := by simpa using hk
      subst hk'
      rcases mem_cellsFrom r _ _ h with z | z
      · exact .inl (List.mem_cons_of_mem _ z)
      · rcases List.mem_cons.mp z with e | e
        · cases e; exact .inl List.mem_cons_self
        · exact .inr e
    · rw [if_neg hk] at h
      rcases mem_cellsFrom r _ _ h with z | z
      · exact .inl (List.mem_cons_of_mem _ z)
      · exact .inr z

theorem blk_cell {names : List (Str × NameKind)} {cells : List (Str × Addr)} {n : Nat} {y : Str} {c : Addr} (hf : ∀ z, (z, NameKind.free) ∈ names → ∃ c, cells.lookup z = some c)
    (h : (cellsFrom n names (clOf cells names [])).lookup y = some c) : (y, c) ∈ cellsFrom n names [] ∨ ((y, NameKind.free) ∈ names ∧ cells.lookup y = some c) := by
  rw [cellsFrom_acc, lookup_app] at h
  cases e : (cellsFrom n names []).lookup y with
  | some c' =>
    rw [e] at h
    have h' : some c' = some c := h
    cases h'
    exact .inl (mem_of_lookup e)
  | none =>
    rw [e, Option.none_or] at h
    by_cases hm : (y, NameKind.free) ∈ names
    · rw [(clOf_lookup cells y names []).1 hm] at h
      obtain ⟨c', hc⟩ := hf y hm
      rw [hc] at h
      have h' : some c' = some c := h
      cases h'
      exact .inr ⟨hm, hc⟩
    · rw [(clOf_lookup cells y names []).2 hm] at h
      cases h
theorem blk_cell_free {names : List (Str × NameKind)} {cells : List (Str × Addr)} {n : Nat} {y : Str} {c : Addr} (hm : (y, NameKind.free) ∈ names) (hn : (y, NameKind.cell) ∉ names) (hc : cells.lookup y = some c) :
    (cellsFrom n names (clOf cells names [])).lookup y = some c := by
  rw [cellsFrom_acc, lookup_app]
  cases e : (cellsFrom n names []).lookup y with
  | some c' =>
    rcases mem_cellsFrom _ _ _ (mem_of_lookup e) with z | z
    · exact absurd z hn
    · cases z
  | none =>
    rw [Option.none_or, (clOf_lookup cells y names []).1 hm, hc]
    rfl

section
variable {X : Cx} {pins : List (Addr × Obj)} {σ : Internal.L2.St} {H : Hp} {s : Shared} {x : Str} {scope : Scope}

theorem kind_of_rel {scope : Scope} {env : Env} {y : Str} {k : NameKind} (h : (relabel scope env).names.lookup y = some k) : scope.names.lookup y = some k ∨ (k = .cell ∧ scope.names.lookup y = some .free) := by
  rw [lookup_relabel] at h
  cases e : scope.names.lookup y with
  | none => rw [e] at h; cases h
  | some k' =>
    rw [e] at h
    simp only [Option.map_some, Option.some.injEq] at h
    split at h
    · rename_i hc
      simp only [Bool.and_eq_true, beq_iff_eq] at hc
      rw [hc.1.1]
      exact .inr ⟨h.symm, rfl⟩
    · exact .inl (by rw [h])

theorem has_free (I : Inv X pins σ H s) (F : CompFacts X.N X.env.scope x scope) : ∀ z, (z, NameKind.free) ∈ scope.names → ∃ c, X.env.cells.lookup z = some c := fun z hz => I.ok.has z (F.fres _ hz rfl).1

theorem blk_ok {fp : List Addr} (I : Inv X pins σ H s) (F : CompFacts X.N X.env.scope x scope) (hf : ∀ b ∈ fp, FpOk X pins H b ∧ b < s.heap.objs.size)
    (hap : (cellsFrom (s.heap.objs.size + 1) scope.names []).Pairwise fun x y => x.2 ≠ y.2) (hce : ∀ n c, (n, c) ∈ cellsFrom (s.heap.objs.size + 1) scope.names [] → s.heap.objs.size + 1 ≤ c) : (blk X x scope s.heap.objs.size s H fp).Ok where
  mod := I.ok.mod
  kind := F.kind
  glob := I.ok.glob
  blt := I.ok.blt
  above := Nat.le_refl _
  inj := fun y z c e1 e2 => by
    have hf := has_free I F
    rcases blk_cell hf e1 with m1 | ⟨m1, k1⟩ <;> rcases blk_cell hf e2 with m2 | ⟨m2, k2⟩
    · exact name_of_addr hap m1 m2
    · obtain ⟨v, q⟩ := I.cell _ _ k2
      exact absurd (Nat.lt_of_lt_of_le q.lt (Nat.le_of_succ_le (hce _ _ m1))) (Nat.lt_irrefl _)
    · obtain ⟨v, q⟩ := I.cell _ _ k1
      exact absurd (Nat.lt_of_lt_of_le q.lt (Nat.le_of_succ_le (hce _ _ m2))) (Nat.lt_irrefl _)
    · exact I.ok.inj _ _ _ k1 k2
  has := fun y hy => by
    have hf := has_free I F
    have key : ((cellsFrom (s.heap.objs.size + 1) scope.names (clOf X.env.cells scope.names [])).lookup y).isSome = true := by
      have c1 : scope.names.lookup y = some .cell → ((cellsFrom (s.heap.objs.size + 1) scope.names (clOf X.env.cells scope.names [])).lookup y).isSome = true := fun q => PySem.W.cellsFrom_some _ _ _ (.inl q)
      have c2 : scope.names.lookup y = some .free → ((cellsFrom (s.heap.objs.size + 1) scope.names (clOf X.env.cells scope.names [])).lookup y).isSome = true := fun q => by
        have hm := mem_of_lookup q
        rw [cellsFrom_acc, lookup_app, (clOf_lookup X.env.cells y scope.names []).1 hm]
        cases (cellsFrom (s.heap.objs.size + 1) scope.names []).lookup y <;> rfl
      rcases hy with hy | hy
      · rcases kind_of_rel hy with z | ⟨_, z⟩
        · exact c1 z
        · exact c2 z
      · rcases kind_of_rel hy with z | ⟨z, _⟩
        · exact c2 z
        · cases z
    exact Option.isSome_iff_exists.mp key
  cab := fun y c hy e => by
    have hy' : y = x := by simpa [blk] using hy
    subst hy'
    rcases blk_cell (has_free I F) e with m | ⟨m, _⟩
    · exact Nat.le_of_succ_le (hce _ _ m)
    · have := (F.fres _ m rfl).2
      rcases F.tgt with z | z <;> · rw [z] at this; cases this
  hd := I.ok.hd
  frames := I.ok.frames
  stk := .inl rfl
  exf := fun b hb => by
    refine ⟨Nat.ne_of_lt (hf b hb).2, fun y c e => ?_⟩
    rcases blk_cell (has_free I F) e with m | ⟨_, k⟩
    · exact Nat.ne_of_gt (Nat.lt_of_lt_of_le (hf b hb).2 (Nat.le_of_succ_le (hce _ _ m)))
    · exact (hf b hb).1.2.2.2.2.1 y c k
  bs := I.bs
  bsz := Nat.le_trans I.ok.bsz I.sz
  noex := fun b o e hb => by
    rcases (hf b hb).1.2.2.2.1 with z | z
    · exact I.ok.noex b o e z
    · exact absurd (Nat.lt_of_lt_of_le (Heap.lt_size e) (Nat.le_trans I.ok.bsz z)) (Nat.lt_irrefl _)
  exfs := fun b hb z => by
    rcases List.mem_cons.mp (I.stkSub b z) with e | e
    · exact (hf b hb).1.2.1 e
    · exact (hf b hb).1.2.2.1 e
  funs := I.stack
  frf := I.stkFree

theorem blk_inv {fp : List Addr} {h' : Heap} (I : Inv X pins σ H s) (F : CompFacts X.N X.env.scope x scope) (hf : ∀ b ∈ fp, FpOk X pins H b ∧ b < s.heap.objs.size)
    (hns : h'.Ns s.heap.objs.size (fun _ => none)) (hk : ∀ b o, s.heap.get? b = some o → h'.get? b = some o)
    (hce : ∀ n c, (n, c) ∈ cellsFrom (s.heap.objs.size + 1) scope.names [] → h'.IsCell c none ∧ s.heap.objs.size + 1 ≤ c)
    (hap : (cellsFrom (s.heap.objs.size + 1) scope.names []).Pairwise fun x y => x.2 ≠ y.2) : Inv (blk X x scope s.heap.objs.size s H fp) [] (σ ++ [none]) H { s with heap := h' } where
  ok := blk_ok I F hf hap fun n c m => (hce n c m).2
  os := rfl
  bare := I.bare
  base := Un.kept hk
  loc := by
    refine ⟨fun _ => none, hns, fun i y v e1 e2 e3 => ?_⟩
    have hi : i < σ.length := by
      have h1 := (List.getElem?_eq_some_iff.mp e2).1
      rw [List.length_append, List.length_singleton] at h1
      by_cases hlt : i < σ.length
      · exact hlt
      · have hi' : i = σ.length := by (first | lia | omega)
        rw [hi', List.getElem?_append_right (Nat.le_refl _), Nat.sub_self] at e2
        cases e2
    rw [List.getElem?_append_left hi] at e2
    have hi2 : i < X.N.length := by rw [← I.len]; exact hi
    have e1' : (X.N.map fun y => if y == x then hidN x else y)[i]? = some y := by
      have : (blkN X.N x)[i]? = some y := e1
      unfold blkN at this
      rwa [List.getElem?_append_left (by rw [List.length_map]; exact hi2)] at this
    rw [List.getElem?_map] at e1'
    cases q : X.N[i]? with
    | none => rw [q] at e1'; cases e1'
    | some y0 =>
      rw [q] at e1'
      have e1'' : (if (y0 == x) = true then hidN x else y0) = y := Option.some.inj e1'
      by_cases hx : (y0 == x) = true
      · rw [if_pos hx] at e1''
        subst e1''
        exfalso
        have no : ∀ k, (relabel scope X.env).names.lookup (hidN x) = some k → False := fun k z => by
          rcases kind_of_rel z with z | ⟨_, z⟩ <;> · rw [F.emp] at z; cases z
        rcases e3 with z | z | z <;> exact no _ z
      · rw [if_neg hx] at e1''
        subst e1''
        have hxn : y0 ≠ x := fun z => hx (by rw [z]; simp)
        obtain ⟨n1, n2⟩ := F.oth y0 (List.mem_of_getElem? q) hxn
        have hfr : scope.names.lookup y0 = some .free := by
          rcases e3 with z | z | z
          · rcases kind_of_rel z with z | ⟨z, _⟩
            · exact absurd z n1
            · cases z
          · rcases kind_of_rel z with z | ⟨_, z⟩
            · exact absurd z n2
            · exact z
          · rcases kind_of_rel z with z | ⟨z, _⟩
            · exact z
            · cases z
        have hm := mem_of_lookup hfr
        have hnc : (y0, NameKind.cell) ∉ scope.names := fun z => n2 (F.cels _ z rfl)
        have ko := (F.fres _ hm rfl).1
        obtain ⟨m, hn, hl⟩ := I.loc
        obtain ⟨u, ru, lk⟩ := hl i y0 v q e2 (ko.elim (fun z => .inr (.inl z)) fun z => .inr (.inr z))
        refine ⟨u, ru, .inr ?_⟩
        rcases lk with ⟨z, _⟩ | ⟨_, c, hc, ic⟩
        · have z' : X.env.scope.names.lookup y0 = some .local := z
          rcases ko with k | k <;> · rw [z'] at k; cases k
        · refine ⟨?_, c, blk_cell_free hm hnc hc, ic.keeps hk⟩
          rcases e3 with z | z
          · rcases kind_of_rel z with z | ⟨z, _⟩
            · exact absurd z n1
            · cases z
          · exact z
  cell := fun y c e => by
    rcases blk_cell (has_free I F) e with m | ⟨_, k⟩
    · exact ⟨_, (hce _ _ m).1⟩
    · obtain ⟨v, q⟩ := I.cell y c k
      exact ⟨v, q.keeps hk⟩
  free := I.hok.fresh (Nat.le_refl _)
  freeC := fun y c e => by
    rcases blk_cell (has_free I F) e with m | ⟨_, k⟩
    · exact I.hok.fresh (Nat.le_of_succ_le (hce _ _ m).2)
    · exact I.freeC y c k
  pin := fun p hp => by simp [blk] at hp
  hok := I.hok.kept hk
  len := by
    show (σ ++ [none]).length = (blkN X.N x).length
    unfold blkN
    rw [List.length_append, List.length_append, List.length_map, I.len]
    rfl

theorem blk_back {fp : List Addr} {C : Addr} {H' : Hp} {s' : Shared} {h' : Heap} {σ' : Internal.L2.St} {pins' : List (Addr × Obj)} (I : Inv X pins σ H s) (hf : ∀ b ∈ fp, FpOk X pins H b ∧ b < s.heap.objs.size) (J : Inv (blk X x scope C s H fp) pins' σ' H' s') (hC : s.heap.objs.size ≤ C)
    (hs : Heap.SameBut C s'.heap h') : Inv X pins σ H' { s' with heap := h' } := by
  have nC : ∀ b o, s.heap.get? b = some o → b ≠ C := fun b o e => Nat.ne_of_lt (Nat.lt_of_lt_of_le (Heap.lt_size e) hC)
  have u := J.base
  refine I.call' (s' := { s' with heap := h' }) (ch := fp) J.os ⟨?_, ?_, u.free, ?_, u.tups, u.frzs, u.tbls⟩ (fun b o e => ?_) J.bare ?_
  · intro b o e n hb hx
    exact (hs.2 b (nC b o e)).trans (u.keep b o e n hb hx)
  · intro b o e n hb hx
    obtain ⟨sl, q⟩ := u.slot b o e n hb hx
    exact ⟨sl, (hs.2 b (nC b o e)).trans q⟩
  · intro b o e hx
    obtain ⟨o', q⟩ := u.there b o e hx
    exact ⟨o', (hs.2 b (nC b o e)).trans q⟩
  · have hCn : H' C = none := J.free
    refine (J.hok b o e).stay (fun c w' hc q => (hs.2 c ?_).trans q) (fun _ q => q) fun _ _ q => q
    intro z
    rcases hc with y | y
    · rw [← y, z, hCn] at e; cases e
    · rw [z, hCn] at y; cases y
  · intro b hb
    obtain ⟨_, f1, f2, f3, f4, f5⟩ := (hf b hb).1
    exact ⟨f3, f1, f4, f5⟩
end

theorem codeAny_compLoop_it {prog : Program} {w : World} {A : Around} {R : Result → Shared → Prop} {s : Shared} {elt target iter : Expr} {ifs : List Expr} {scope : Scope} {pos : Pos} {it acc : Value} {env : Env} (I : Nat → Shared → Prop)
    (turn : ∀ n s, I n s → wpAny (model prog w) A (pyNext it) (fun r s₁ => match r with
      | none => R (.ok .next) s₁
      | some v => wpAny (model prog w) A (letOwnedTupleGo target it v) (fun _ s₀ => wpAny (model prog w) A (assign target env v) (fun _ s₂ =>
          wpAny (model prog w) A (forIn ifs true fun c r => if r = true then do let ok ← isTrue c env (eval c env); pure (ForInStep.yield ok) else pure (ForInStep.yield r)) (fun ok s₃ =>
            if ok = true then wpAny (model prog w) A (eval elt env) (fun x s₄ =>
              wpAny (model prog w) A (call (.builtin "list.append") [acc, x]) (fun _ s₅ => ∃ m, m < n ∧ I m s₅) (fun _ _ => False) s₄) (fun _ _ => False) s₃
            else ∃ m, m < n ∧ I m s₃) (fun _ _ => False) s₂) (fun _ _ => False) s₀) (fun _ _ => False) s₁) (fun _ _ => False) s)
    (n : Nat) (h : I n s) :
    codeAny (model prog w) A (.compLoop (.ListComp elt [⟨target, iter, ifs, 0⟩] scope pos) 0 it acc env) R s := by
  refine codeAny_loop rfl I (fun n s hI => ?_) n h
  show wpAny _ A ((compTurn (.ListComp elt [⟨target, iter, ifs, 0⟩] scope pos) 0 it acc env).onRaise (fun x => do noteFrame x env; theTreesLotGoes x)) _ _ s
  refine wpAny_noted ?_
  rw [compTurn_list]
  refine wpAny_bind (wpAny_standAt (wpAny_bind (wpAny_mono (turn n s hI) (fun r s₁ h₁ => ?_) fun _ _ h' => h'.elim)))
  cases r with
  | none => exact wpAny_pure h₁
  | some v =>
    refine wpAny_bind (wpAny_mono h₁ (fun _ s₀ h₀ => ?_) fun _ _ h' => h'.elim)
    refine wpAny_bind (wpAny_mono h₀ (fun _ s₂ h₂ => wpAny_bind (wpAny_mono h₂ (fun ok s₃ h₃ => ?_) fun _ _ h' => h'.elim)) fun _ _ h' => h'.elim)
    cases ok with
    | false => exact wpAny_pure ⟨rfl, h₃⟩
    | true =>
      exact wpAny_bind (wpAny_bind (wpAny_mono h₃ (fun x s₄ h₄ => wpAny_bind (wpAny_mono h₄ (fun _ s₅ h₅ => wpAny_pure (wpAny_pure ⟨rfl, h₅⟩)) fun _ _ h' => h'.elim)) fun _ _ h' => h'.elim))

section
variable {X : Cx}

noncomputable def PIfs (X : Cx) (ifs : List Expr) (t : TT) : Prop :=
  ∀ (pins : List (Addr × Obj)) (s : Shared) (σ : Internal.L2.St) (H : Hp) (Q : Bool → Hp → Prop), Inv X pins σ H s → t σ H Q →
    wpAny (model X.prog X.w) X.A (forIn ifs true fun c r => if r = true then do let ok ← isTrue c X.env (eval c X.env); pure (ForInStep.yield ok) else pure (ForInStep.yield r)) (TP X pins σ Q) X.xe s
noncomputable def tNoIf : TT := fun _ H Q => Q true H
theorem pifs_nil : PIfs X [] tNoIf := fun pins s σ H Q I h => by rw [List.forIn_nil]; exact wpAny_pure ⟨H, I, h⟩
theorem pifs_one {c : Expr} {t : TT} (hc : PT X c t) : PIfs X [c] t := fun pins s σ H Q I h => by
  rw [List.forIn_cons]
  simp only [if_true]
  refine wpAny_bind (wpAny_bind (thn (hc pins s σ H Q I h) fun b s1 q => wpAny_pure ?_))
  show wpAny _ _ (forIn [] b _) _ _ _
  rw [List.forIn_nil]
  exact wpAny_pure q

noncomputable def tComp (wi : TI) (tt : TT) (te : TE) : TE := fun σ H Q => wi σ H fun J H1 => ∀ l, H1 l = none → ∃ W : Nat → Nat → List V → Hp → Prop, (∃ m, W 0 m [] (upd H1 l (.lst []))) ∧
  ∀ i m ys H, W i m ys H → H l = some (.lst ys) ∧ ((J.stop i H ∧ Q (.ref l) H) ∨ (J.go i H ∧ ys.length < sizeLine ∧ ∀ x H', J.yld i H x H' → tt (σ ++ [some x]) H' fun b H2 =>
    if b = true then te (σ ++ [some x]) H2 fun y H3 => H3 l = some (.lst ys) ∧ ∃ m', m' < m ∧ W (i + 1) m' (ys ++ [y]) (upd H3 l (.lst (ys ++ [y]))) else ∃ m', m' < m ∧ W (i + 1) m' ys H2))

theorem comp_run {elt iter : Expr} {x : Str} {px pos : Pos} {ifs : List Expr} {scope : Scope} {tt : TT} {te : TE} {pins : List (Addr × Obj)} {σ : Internal.L2.St} {H2 : Hp} {s2 : Shared} {it : Addr} {fp : List Addr} {tn : Nat → Heap → Prop} {J : It} {Q : VK} {E : Value → Shared → Prop} {RR : Value → Addr → Result → Shared → Prop}
    (hc : X.calm = true) (F : CompFacts X.N X.env.scope x scope) (ht : ∀ C s₀ H₀ ex, PIfs (blk X x scope C s₀ H₀ ex) ifs tt) (he : ∀ C s₀ H₀ ex, PE (blk X x scope C s₀ H₀ ex) elt te)
    (I2 : Inv X pins σ H2 s2) (T : Turn X.prog X.w X.K (.Name x px) J fp it tn) (st2 : tn 0 s2.heap) (f2 : ∀ b ∈ fp, FpOk X pins H2 b)
    (h : ∀ l, H2 l = none → ∃ W : Nat → Nat → List V → Hp → Prop, (∃ m, W 0 m [] (upd H2 l (.lst []))) ∧
      ∀ i m ys H, W i m ys H → H l = some (.lst ys) ∧ ((J.stop i H ∧ Q (.ref l) H) ∨ (J.go i H ∧ ys.length < sizeLine ∧ ∀ x H', J.yld i H x H' → tt (σ ++ [some x]) H' fun b H2 =>
        if b = true then te (σ ++ [some x]) H2 fun y H3 => H3 l = some (.lst ys) ∧ ∃ m', m' < m ∧ W (i + 1) m' (ys ++ [y]) (upd H3 l (.lst (ys ++ [y]))) else ∃ m', m' < m ∧ W (i + 1) m' ys H2)))
    (fin : ∀ (l C : Addr) (H' : Hp) (s' : Shared), Q (.ref l) H' → (∃ m, s'.heap.Ns C m) → FpOk X pins H' C → (∀ h', Heap.SameBut C s'.heap h' → Inv X pins σ H' { s' with heap := h' }) → RR (.ref l) C (.ok .next) s') :
    wpAny (model X.prog X.w) X.A (newList []) (fun acc s₃ => wpAny (model X.prog X.w) X.A (newFunctionEnv scope X.env.globals (clOf X.env.cells scope.names []) [] X.env.qual none .none (some X.env)) (fun cenv s₄ =>
      codeAny (model X.prog X.w) X.A (.compStart (.ListComp elt [⟨.Name x px, iter, ifs, 0⟩] scope pos) 0 (.ref it) acc { cenv with scope := relabel scope X.env }) (RR acc cenv.locals) s₄) E s₃) E s2 := by
  obtain ⟨W, ⟨m0, w0⟩, turn⟩ := h s2.heap.objs.size (I2.hok.fresh (Nat.le_refl _))
  refine wpAny_newObj_type ?_
  have I3 : Inv X pins σ (upd H2 s2.heap.objs.size (.lst [])) { s2 with heap := s2.heap.push { cls := .type "list", data := .seq ([] : List Value).toArray } } := I2.lnew (t' := s2.toks) (its := []) .nil (Nat.zero_le _)
  generalize hl : s2.heap.objs.size = l at *
  generalize hH3 : upd H2 l (.lst []) = H3 at *
  generalize hs3 : ({ s2 with heap := s2.heap.push { cls := .type "list", data := .seq ([] : List Value).toArray } } : Shared) = s3 at I3
  have hk3 : ∀ b o, s2.heap.get? b = some o → s3.heap.get? b = some o := fun b o e => by rw [← hs3]; exact Heap.get?_push_of_some _ e
  have lt2 : ∀ b ∈ fp, b < s2.heap.objs.size := fun b hb => by obtain ⟨o, e, _⟩ := T.obj _ _ st2 b hb; exact Heap.lt_size e
  have lt3 : s2.heap.objs.size ≤ s3.heap.objs.size := by rw [← hs3]; show _ ≤ (s2.heap.push _).objs.size; rw [Heap.size_push]; (first | lia | omega)
  have hn3 : ∀ b ∈ fp, H3 b = none := fun b hb => by
    rw [← hH3, upd_ne (by rw [← hl]; exact Nat.ne_of_lt (lt2 b hb))]
    exact (f2 b hb).1
  have f3 : ∀ b ∈ fp, FpOk X pins H3 b ∧ b < s3.heap.objs.size := fun b hb => ⟨⟨hn3 b hb, (f2 b hb).2⟩, Nat.lt_of_lt_of_le (lt2 b hb) lt3⟩
  have st3 : tn 0 s3.heap := T.keep _ _ _ st2 fun b _ o e => hk3 b o e
  show wpAny _ _ (newFunctionEnv scope X.env.globals (clOf X.env.cells scope.names []) [] X.env.qual none .none (some X.env)) _ _ _
  refine wpAny_newCompEnv fun h4 hns hk4 hce hap => ?_
  have IB := blk_inv I3 F f3 hns hk4 hce hap
  have statB : ∀ {H' : Hp}, (∀ b ∈ fp, H' b = none) → ∀ b ∈ fp, FpOk (blk X x scope s3.heap.objs.size s3 H3 fp) [] H' b := fun hn b hb =>
    ⟨hn b hb, (IB.ok.exf b hb).1, IB.ok.exfs b hb, .inl hb, (IB.ok.exf b hb).2, fun p hp => by simp [blk] at hp⟩
  have hlenσ : σ.length = X.N.length := I3.len
  have hxi : (blk X x scope s3.heap.objs.size s3 H3 fp).N[σ.length]? = some x := by
    show (blkN X.N x)[σ.length]? = some x
    unfold blkN
    rw [List.getElem?_append_right (by rw [List.length_map, hlenσ]; exact Nat.le_refl _), List.length_map, hlenσ, Nat.sub_self]
    rfl
  have hxl : Loc (blk X x scope s3.heap.objs.size s3 H3 fp).env.scope x := by
    show (relabel scope X.env).names.lookup x = some .local ∨ (relabel scope X.env).names.lookup x = some .cell
    rw [lookup_relabel]
    rcases F.tgt with z | z
    · rw [z]; exact .inl rfl
    · rw [z]; exact .inr rfl
  have hpg : PG (blk X x scope s3.heap.objs.size s3 H3 fp) (.Name x px) (gName σ.length) := pg_name F.nd hxi hxl (.inl (by simp [blk]))
  have loop : codeAny (model X.prog X.w) X.A (.compLoop (.ListComp elt [⟨.Name x px, iter, ifs, 0⟩] scope pos) 0 (.ref it) (.ref l) (blkEnv scope s3.heap.objs.size X.env)) (RR (.ref l) s3.heap.objs.size) { s3 with heap := h4 } := by
    refine codeAny_compLoop_it (fun n s' => ∃ i o H' ys, Inv (blk X x scope s3.heap.objs.size s3 H3 fp) [] (σ ++ [o]) H' s' ∧ tn i s'.heap ∧ (∀ b ∈ fp, H' b = none) ∧ W i n ys H') ?_ m0
      ⟨0, none, H3, [], IB, T.keep _ _ _ st3 fun b _ o e => hk4 b o e, hn3, w0⟩
    rintro n s5 ⟨i, o, H5, ys, I5, st5, fr5, w5⟩
    obtain ⟨hl5, ⟨stop, q5⟩ | ⟨go, hlen, step⟩⟩ := turn i n ys H5 w5
    · refine wpAny_mono (T.done (blk X x scope s3.heap.objs.size s3 H3 fp) rfl rfl rfl hc i [] s5 (σ ++ [o]) H5 (fun _ _ => False) I5 (statB fr5) st5 stop) (fun r s6 hP23 => ?_) fun _ _ z => z
      obtain ⟨hr, I6⟩ := hP23
      subst hr
      obtain ⟨m, hm, _⟩ := I6.loc
      exact fin l _ H5 s6 q5 ⟨m, hm⟩ (I3.fpOk (Nat.le_refl _) I6.free) fun h' hs => blk_back I3 f3 I6 (Nat.le_refl _) hs
    · refine wpAny_mono (T.item (blk X x scope s3.heap.objs.size s3 H3 fp) rfl rfl rfl hc i [] s5 (σ ++ [o]) H5 (fun _ _ => False) I5 (statB fr5) st5 go) (fun r s6 hP24 => ?_) fun _ _ z => z
      obtain ⟨u, hr, h6⟩ := hP24
      subst hr
      refine wpAny_mono h6 (fun _ s7 hP25 => ?_) fun _ _ z => z
      obtain ⟨xv, H7, I7, r7, y7, st7, fr7⟩ := hP25
      have I7' := I7.pinned (statB fr7) (T.obj _ _ st7)
      have keepT : ∀ {σ' : Internal.L2.St} {H' : Hp} {s' : Shared}, Inv (blk X x scope s3.heap.objs.size s3 H3 fp) ([] ++ pinsAt fp s7.heap) σ' H' s' → tn (i + 1) s'.heap ∧ ∀ b ∈ fp, H' b = none := fun {σ' H' s'} I' => by
        refine ⟨T.keep _ _ _ st7 fun b hb o e => (I'.pin (b, o) (List.mem_append_right _ (List.mem_append_right _ (mem_pinsAt hb e)))).1, fun b hb => ?_⟩
        obtain ⟨ob, e, d⟩ := T.obj _ _ st7 b hb
        exact (I'.pin (b, ob) (List.mem_append_right _ (List.mem_append_right _ (mem_pinsAt hb e)))).2.1
      refine thn (hpg _ s7 (σ ++ [o]) H7 xv u (fun σ' H' => σ' = σ ++ [some xv] ∧ H' = H7) I7' r7
        ⟨by rw [List.set_append_right _ _ (Nat.le_refl _), Nat.sub_self]; rfl, rfl⟩) fun _ s8 ⟨σ8, H8, I8, e8, e8'⟩ => ?_
      subst e8 e8'
      refine thn (ht _ _ _ _ _ s8 _ _ _ I8 (step xv _ y7)) fun b s9 hP26 => ?_
      obtain ⟨H9, I9, q9⟩ := hP26
      cases b with
      | false =>
        obtain ⟨m', hm, w9⟩ := q9
        exact ⟨m', hm, i + 1, some xv, H9, ys, I9.unpinned, (keepT I9).1, (keepT I9).2, w9⟩
      | true =>
        refine thn (he _ _ _ _ _ s9 _ H9 _ I9 q9) fun yv s10 hP27 => ?_
        obtain ⟨y, H10, I10, r10, hl10, m', hm, w10⟩ := hP27
        refine thn (mt_append _ s10 _ H10 (.ref l) [y] (.ref l) [yv] (fun _ H' => H' = upd H10 l (.lst (ys ++ [y]))) I10 rfl (.cons r10 .nil) ⟨l, ys, y, rfl, rfl, hl10, hlen, rfl⟩) fun _ s11 hP28 => ?_
        obtain ⟨_, H11, I11, _, e11⟩ := hP28
        subst e11
        exact ⟨m', hm, i + 1, some xv, _, ys ++ [y], I11.unpinned, (keepT I11).1, (keepT I11).2, w10⟩
  exact codeAny_compStart_list loop (T.self _ 0 _ _ _ (T.keep _ _ _ st3 fun b _ o e => hk4 b o e) loop)

theorem pe_comp {elt iter : Expr} {x : Str} {px pos : Pos} {ifs : List Expr} {scope sc : Scope} {N : List Str} {wi : TI} {tt : TT} {te : TE}
    (hc : X.calm = true) (hi : PI X (.Name x px) iter wi) (hN : X.N = N) (hsc : X.env.scope = sc) (ok : compOk N sc x scope = true)
    (ht : ∀ C s₀ H₀ ex, PIfs (blk X x scope C s₀ H₀ ex) ifs tt) (he : ∀ C s₀ H₀ ex, PE (blk X x scope C s₀ H₀ ex) elt te)
    (hs : ∀ v, foldedSetIterable iter X.env v = pure v := by intro _; rfl) :
    PE X (.ListComp elt [⟨.Name x px, iter, ifs, 0⟩] scope pos) (tComp wi tt te) := by
  intro pins s σ H Q I h
  subst hN hsc
  have F := compOk_facts ok
  rw [eval_ListComp]
  refine wpAny_comprehension_free (use := none) rfl hs (closureFor_eq (has_free I F)) F.kind F.locs (thn (hi pins s σ H _ I h) fun xv s1 h1 => thn h1 fun itv s2 h2 => ?_)
  obtain ⟨it, fp, tn, J, H2, e, I2, T, st2, f2, hW⟩ := h2
  subst e
  refine comp_run (Q := Q) (RR := fun acc C => compPost (model X.prog X.w) X.A X.xe none (EP X pins σ Q) acc C) hc F ht he I2 T st2 f2 hW fun l C H' s' q hm _ hI => ?_
  obtain ⟨m, hm⟩ := hm
  exact ⟨m, hm, fun h' hs' => ⟨.ref l, H', hI h' hs', rfl, q⟩⟩

end
end Internal

end
section
set_option Elab.async false
set_option linter.all false
set_option maxRecDepth 100000
set_option maxHeartbeats 4000000

namespace Internal
open PySem PySem.Spec PyProof.Rows Internal.L2

noncomputable instance {sc : Scope} {x : Str} : Decidable (Internal.L2.Vis sc x) := inferInstanceAs (Decidable (_ ∨ _ ∨ _))
noncomputable instance {sc : Scope} {x : Str} : Decidable (Internal.L2.Loc sc x) := inferInstanceAs (Decidable (_ ∨ _))
inductive D where
  | non | bl (b : Bool) | int (i : Int) | str (x : Str) | tup (ds : List D) | lst (ds : List D)
  


noncomputable def NT (o : HO) : Prop := ∀ xs, o ≠ .tup xs
noncomputable abbrev HN := { o : HO // NT o }
theorem nt_lst {xs : List V} : NT (.lst xs) := fun _ z => by cases z
theorem nt_dT {xs : List (List Key × V)} : NT (.dT xs) := fun _ z => by cases z

mutual
noncomputable def Rep (K : PySem.W.Frag) (H : Hp) : D → V → Prop
  | .non, v => v = .non
  | .bl b, v => v = .bl b
  | .int i, v => v = .int i
  | .str x, v => v = .str x
  | .tup ds, v => ∃ a vs, v = .ref a ∧ H a = some (.tup vs) ∧ Reps K H ds vs
  | .lst ds, v => ∃ a vs, v = .ref a ∧ SqL K H a vs ∧ Reps K H ds vs
noncomputable def Reps (K : PySem.W.Frag) (H : Hp) : List D → List V → Prop
  | [], vs => vs = []
  | d :: ds, vs => ∃ v r, vs = v :: r ∧ Rep K H d v ∧ Reps K H ds r
end

section
variable {K : PySem.W.Frag} {H H' : Hp}
theorem sqT_of {a : Addr} {xs : List V} (e : Same H H') (h : H a = some (.tup xs)) : SqT K H' a xs := SqT.of (e _ _ h)
theorem sqT_mono {a : Addr} {xs : List V} (e : Same H H') (h : SqT K H a xs) : SqT K H' a xs := by
  rcases h with (h | ⟨o, h⟩) | h
  · exact .inl (.inl (e _ _ h))
  · exact .inl (.inr ⟨o, e _ _ h⟩)
  · exact .inr h
mutual
theorem Rep.mono (e : Same H H') : ∀ (d : D) {v : V}, Rep K H d v → Rep K H' d v
  | .non, _, h => h
  | .bl _, _, h => h
  | .int _, _, h => h
  | .str _, _, h => h
  | .tup ds, _, ⟨a, vs, e1, e2, r⟩ => ⟨a, vs, e1, e _ _ e2, Reps.mono e ds r⟩
  | .lst ds, _, ⟨a, vs, e1, e2, r⟩ => ⟨a, vs, e1, Same.seq e e2, Reps.mono e ds r⟩
theorem Reps.mono (e : Same H H') : ∀ (ds : List D) {vs : List V}, Reps K H ds vs → Reps K H' ds vs
  | [], _, h => h
  | d :: ds, _, ⟨v, r, e1, h1, h2⟩ => ⟨v, r, e1, Rep.mono e d h1, Reps.mono e ds h2⟩
end
theorem Reps.len : ∀ {ds : List D} {vs : List V}, Reps K H ds vs → vs.length = ds.length
  | [], _, h => by cases (show _ = [] from h); rfl
  | d :: ds, _, ⟨v, r, e1, _, h2⟩ => by subst e1; exact congrArg (· + 1) (Reps.len h2)
theorem Reps.get : ∀ {ds : List D} {vs : List V} {i : Nat} {d : D}, Reps K H ds vs → ds[i]? = some d → ∃ v, vs[i]? = some v ∧ Rep K H d v
  | [], _, _, _, _, e => by simp at e
  | d :: ds, _, 0, d', ⟨v, r, e1, h1, _⟩, e => by
    subst e1
    have e' : d = d' := by simpa using e
    subst e'
    exact ⟨v, rfl, h1⟩
  | d :: ds, _, i + 1, d', ⟨v, r, e1, _, h2⟩, e => by
    subst e1
    exact Reps.get h2 (i := i) (by simpa using e)
theorem Reps.app : ∀ {ds es : List D} {vs ws : List V}, Reps K H ds vs → Reps K H es ws → Reps K H (ds ++ es) (vs ++ ws)
  | [], _, _, _, h, h' => by cases (show _ = [] from h); exact h'
  | d :: ds, es, _, ws, ⟨v, r, e1, h1, h2⟩, h' => by subst e1; exact ⟨v, r ++ ws, rfl, h1, Reps.app h2 h'⟩
theorem Reps.one {d : D} {v : V} (h : Rep K H d v) : Reps K H [d] [v] := ⟨v, [], rfl, h, rfl⟩
theorem Reps.ints : ∀ (ns : List Int), Reps K H (ns.map D.int) (ns.map V.int)
  | [] => rfl
  | n :: ns => ⟨.int n, ns.map V.int, rfl, rfl, Reps.ints ns⟩
theorem Reps.at {ds : List D} {vs : List V} {i : Int} {d : D} (h : Reps K H ds vs) (e : atI ds i = some d) : ∃ v, atI vs i = some v ∧ Rep K H d v := by
  unfold atI at e ⊢
  rw [h.len]
  cases q : ixN ds.length i with
  | none => rw [q] at e; cases e
  | some j =>
    rw [q] at e
    exact h.get e
end

noncomputable def hidB (χ : Addr → Bool) (H : Hp) : Hp := fun b => if χ b = true then none else H b
theorem hid_some {χ : Addr → Bool} {H : Hp} {b : Addr} {o : HO} (h : hidB χ H b = some o) : χ b = false ∧ H b = some o := by
  unfold hidB at h
  by_cases c : χ b = true
  · rw [if_pos c] at h; cases h
  · rw [if_neg c] at h; exact ⟨by simpa using c, h⟩
theorem hid_of {χ : Addr → Bool} {H : Hp} {b : Addr} {o : HO} (c : χ b = false) (h : H b = some o) : hidB χ H b = some o := by
  unfold hidB
  rw [if_neg (by rw [c]; exact Bool.false_ne_true)]
  exact h
theorem hid_le {χ : Addr → Bool} {H : Hp} : Same (hidB χ H) H := fun _ _ h => (hid_some h).2
theorem hid_same {χ : Addr → Bool} {H H' : Hp} (e : Same H H') : Same (hidB χ H) (hidB χ H') := fun b o h => hid_of (hid_some h).1 (e b o (hid_some h).2)
theorem same_new {H : Hp} {p : Addr} (h : H p = none) (o : HO) : Same H (upd H p o) := fun b u q => by rw [upd_ne (ne_of_none q h)]; exact q

inductive Ct where
  | lst (ds : List D) | dct (kvs : List (List Int × D))
inductive Sl where
  | no | val (d : D) | ll (a : Bool) (c : Ct)

noncomputable abbrev Sl.li (a : Bool) (ds : List D) : Sl := .ll a (.lst ds)

noncomputable abbrev Sl.own (ds : List D) : Sl := .ll false (.lst ds)

noncomputable abbrev Sl.arg (ds : List D) : Sl := .ll true (.lst ds)
noncomputable def DReps (K : PySem.W.Frag) (H : Hp) : List (List Int × D) → List (List Key × V) → Prop
  | [], ho => ho = []
  | (k, d) :: r, ho => ∃ v r', ho = (k.map Sum.inl, v) :: r' ∧ Rep K H d v ∧ DReps K H r r'
theorem DReps.mono {K : PySem.W.Frag} {H H' : Hp} (e : Same H H') : ∀ (kvs : List (List Int × D)) {ho : List (List Key × V)}, DReps K H kvs ho → DReps K H' kvs ho
  | [], _, h => h
  | (_, d) :: r, _, ⟨v, r', e1, h1, h2⟩ => ⟨v, r', e1, h1.mono e d, DReps.mono e r h2⟩
noncomputable def CRep (K : PySem.W.Frag) (H : Hp) : Ct → HO → Prop
  | .lst ds, ho => ∃ vs, ho = .lst vs ∧ Reps K H ds vs
  | .dct kvs, ho => ∃ kv, ho = .dT kv ∧ DReps K H kvs kv
theorem CRep.nt {K : PySem.W.Frag} {H : Hp} : ∀ {c : Ct} {ho : HO}, CRep K H c ho → NT ho
  | .lst _, _, ⟨_, e, _⟩ => by subst e; exact nt_lst
  | .dct _, _, ⟨_, e, _⟩ => by subst e; exact nt_dT
theorem CRep.mono {K : PySem.W.Frag} {H H' : Hp} (e : Same H H') : ∀ (c : Ct) {ho : HO}, CRep K H c ho → CRep K H' c ho
  | .lst ds, _, ⟨vs, e1, h⟩ => ⟨vs, e1, Reps.mono e ds h⟩
  | .dct kvs, _, ⟨kv, e1, h⟩ => ⟨kv, e1, DReps.mono e kvs h⟩

structure RE (K : PySem.W.Frag) (χ : Addr → Bool) (H : Hp) (σ : Internal.L2.St) (Γ : List Sl) : Prop where
  live : ∀ p, χ p = true → ∃ o : HN, H p = some o.1
  len : σ.length = Γ.length
  val : ∀ (i : Nat) (d : D), Γ[i]? = some (.val d) → ∃ v, σ[i]? = some (some v) ∧ Rep K (hidB χ H) d v
  own : ∀ (i : Nat) (a : Bool) (c : Ct), Γ[i]? = some (.ll a c) → ∃ p ho, σ[i]? = some (some (.ref p)) ∧ χ p = true ∧ H p = some ho ∧ CRep K (hidB χ H) c ho
  inj : ∀ (i j : Nat) (a a' : Bool) (ds es : Ct) (p : Addr), Γ[i]? = some (.ll a ds) → Γ[j]? = some (.ll a' es) → σ[i]? = some (some (.ref p)) → σ[j]? = some (some (.ref p)) → i = j
theorem RE.mono {K : PySem.W.Frag} {χ : Addr → Bool} {H H' : Hp} {σ : Internal.L2.St} {Γ : List Sl} (r : RE K χ H σ Γ) (e : Same H H') : RE K χ H' σ Γ :=
  ⟨fun p h => let ⟨o, q⟩ := r.live p h; ⟨o, e _ _ q⟩, r.len, fun i d h => let ⟨v, q, p⟩ := r.val i d h; ⟨v, q, p.mono (hid_same e) d⟩, fun i a ds h => let ⟨p, vs, h1, h2, h3, h4⟩ := r.own i a ds h; ⟨p, vs, h1, h2, e _ _ h3, CRep.mono (hid_same e) ds h4⟩, r.inj⟩
theorem RE.ownL {K : PySem.W.Frag} {χ : Addr → Bool} {H : Hp} {σ : Internal.L2.St} {Γ : List Sl} (r : RE K χ H σ Γ) (i : Nat) (a : Bool) (ds : List D) (h : Γ[i]? = some (.li a ds)) : ∃ p vs, σ[i]? = some (some (.ref p)) ∧ χ p = true ∧ H p = some (.lst vs) ∧ Reps K (hidB χ H) ds vs := by
  obtain ⟨p, ho, h1, h2, h3, vs, rfl, h4⟩ := r.own i a _ h
  exact ⟨p, vs, h1, h2, h3, h4⟩
theorem RE.fresh {K : PySem.W.Frag} {χ : Addr → Bool} {H : Hp} {σ : Internal.L2.St} {Γ : List Sl} (r : RE K χ H σ Γ) {p : Addr} (h : H p = none) : χ p = false := by
  cases c : χ p with
  | false => rfl
  | true => obtain ⟨o, q⟩ := r.live p c; rw [h] at q; cases q

set_option genInjectivity false in
structure Stat where
  P : Program
  w : World
  K : PySem.W.Frag
  mg : Str → Option Value
  base : Heap
  k : Nat
  N : List Str
  sc : Scope
  top : Bool
set_option genInjectivity false in
structure Stat.Of (S : Stat) (X : Cx) : Prop where
  prog : X.prog = S.P
  w : X.w = S.w
  K : X.K = S.K
  mg : X.mg = S.mg
  base : X.base = S.base
  N : X.N = S.N
  sc : X.env.scope = S.sc
  room : Room S.k X.A
  calm : X.calm = true
  own : PassesOwn (model X.prog X.w) X.A X.env X.xe
  fn : S.top = true → ∀ x, X.fn x = true
  stk : S.top = true → X.stack = X.env :: X.outer ∧ X.env.frame = some X.env.locals

noncomputable def relS (scope sc : Scope) : Scope := { scope with names := scope.names.map fun (n, k) => if (k == .free && sc.kind == .function && sc.names.lookup n == some .cell) then (n, .cell) else (n, k) }
noncomputable def Stat.blk (S : Stat) (x : Str) (scope : Scope) : Stat := { S with N := blkN S.N x, sc := relS scope S.sc, top := false }
theorem Stat.Of.blk {S : Stat} {X : Cx} (h : S.Of X) (x : Str) (scope : Scope) (C : Addr) (s₀ : Shared) (H₀ : Hp) (ex : List Addr) : (S.blk x scope).Of (Internal.blk X x scope C s₀ H₀ ex) where
  prog := h.prog
  w := h.w
  K := h.K
  mg := h.mg
  base := h.base
  N := by show blkN X.N x = blkN S.N x; rw [h.N]
  sc := by show relabel scope X.env = relS scope S.sc; rw [← h.sc]; rfl
  room := h.room
  calm := h.calm
  own := PassesOwn.never
  fn := fun z => (nomatch z)
  stk := fun z => (nomatch z)

noncomputable def dE (K : PySem.W.Frag) (Γ : List Sl) (d : D) : TE := fun σ H Q => ∃ χ, RE K χ H σ Γ ∧ ∀ v H', Same H H' → Rep K (hidB χ H') d v → Q v H'
noncomputable def dT (K : PySem.W.Frag) (Γ : List Sl) (b : Bool) : TT := fun σ H Q => ∃ χ, RE K χ H σ Γ ∧ ∀ H', Same H H' → Q b H'
noncomputable def dA (K : PySem.W.Frag) (Γ : List Sl) (ds : List D) : TA := fun σ H Q => ∃ χ, RE K χ H σ Γ ∧ ∀ vs H', Same H H' → Reps K (hidB χ H') ds vs → Q vs H'

noncomputable def dF (K : PySem.W.Frag) (Γ : List Sl) (ds : List D) : TE := fun σ H Q => ∃ χ, RE K χ H σ Γ ∧ ∀ l vs H', H l = none → Same H H' → H' l = some (.lst vs) → Reps K (hidB (fun b => χ b || b == l) H') ds vs → Q (.ref l) H'

structure JE (S : Stat) (Γ : List Sl) (e : Expr) (d : D) : Prop where
  run : ∀ X, S.Of X → PE X e (dE S.K Γ d)
noncomputable instance {S : Stat} {Γ : List Sl} {e : Expr} {d : D} : CoeFun (JE S Γ e d) fun _ => ∀ X, S.Of X → PE X e (dE S.K Γ d) := ⟨fun h => h.run⟩
structure JT (S : Stat) (Γ : List Sl) (e : Expr) (b : Bool) : Prop where
  run : ∀ X, S.Of X → PT X e (dT S.K Γ b)
noncomputable instance {S : Stat} {Γ : List Sl} {e : Expr} {b : Bool} : CoeFun (JT S Γ e b) fun _ => ∀ X, S.Of X → PT X e (dT S.K Γ b) := ⟨fun h => h.run⟩
structure JA (S : Stat) (Γ : List Sl) (es : List Expr) (ds : List D) : Prop where
  run : ∀ X, S.Of X → PA X es (dA S.K Γ ds)
noncomputable instance {S : Stat} {Γ : List Sl} {es : List Expr} {ds : List D} : CoeFun (JA S Γ es ds) fun _ => ∀ X, S.Of X → PA X es (dA S.K Γ ds) := ⟨fun h => h.run⟩
structure JF (S : Stat) (Γ : List Sl) (e : Expr) (ds : List D) : Prop where
  run : ∀ X, S.Of X → PE X e (dF S.K Γ ds)
noncomputable instance {S : Stat} {Γ : List Sl} {e : Expr} {ds : List D} : CoeFun (JF S Γ e ds) fun _ => ∀ X, S.Of X → PE X e (dF S.K Γ ds) := ⟨fun h => h.run⟩

theorem pe_imp {X : Cx} {e : Expr} {t t' : TE} (h : PE X e t) (f : ∀ σ H Q, t' σ H Q → t σ H Q) : PE X e t' := fun pins s σ H Q I q => h pins s σ H Q I (f σ H Q q)
theorem pt_imp {X : Cx} {e : Expr} {t t' : TT} (h : PT X e t) (f : ∀ σ H Q, t' σ H Q → t σ H Q) : PT X e t' := fun pins s σ H Q I q => h pins s σ H Q I (f σ H Q q)
theorem pa_imp {X : Cx} {e : List Expr} {t t' : TA} (h : PA X e t) (f : ∀ σ H Q, t' σ H Q → t σ H Q) : PA X e t' := fun pos pins s σ H Q I q => h pos pins s σ H Q I (f σ H Q q)
theorem ps_imp {X : Cx} {e : Stmt} {t t' : TS} (h : PS X e t) (f : ∀ E σ H, t' E σ H → t E σ H) : PS X e t' := fun pins s σ H Q I q => h pins s σ H Q I (f Q σ H q)
theorem pe_no {X : Cx} {e : Expr} : PE X e (fun _ _ _ => False) := fun _ _ _ _ _ _ q => q.elim

theorem rep_newT {K : PySem.W.Frag} {χ : Addr → Bool} {H : Hp} {p : Addr} {ds : List D} {vs : List V} (hp : H p = none) (c : χ p = false) (r : Reps K (hidB χ H) ds vs) : Rep K (hidB χ (upd H p (.tup vs))) (.tup ds) (.ref p) :=
  ⟨p, vs, rfl, hid_of c upd_same, Reps.mono (hid_same (same_new hp _)) ds r⟩
section
variable {S : Stat} {Γ : List Sl} {pos : Pos} {a b c e : Expr} {es : List Expr}

theorem JE.cast {d d' : D} (h : JE S Γ e d) (q : d = d') : JE S Γ e d' := q ▸ h
theorem JT.cast {d d' : Bool} (h : JT S Γ e d) (q : d = d') : JT S Γ e d' := q ▸ h

theorem e_var (i : Nat) {x : Str} {d : D} (hd : Γ[i]? = some (.val d) := by rfl) (hN : S.N[i]? = some x := by (try dsimp only [Internal.Stat.blk]); decide +kernel) (hv : Vis S.sc x := by (try dsimp only [Internal.Stat.blk]); decide +kernel)
    (h1 : (x == ("__debug__" : Str)) = false := by (try dsimp only [Internal.Stat.blk]); decide +kernel) (h2 : (x == ("__classdict__" : Str)) = false := by (try dsimp only [Internal.Stat.blk]); decide +kernel) : JE S Γ (.Name x pos) d := .mk fun X o =>
  pe_imp (pe_var (i := i) (by rw [o.N]; exact hN) (by rw [o.sc]; exact hv) h1 h2) fun σ H Q ⟨χ, r, q⟩ => let ⟨v, e, p⟩ := r.val i d hd; ⟨v, e, q v H (Same.refl H) p⟩
theorem e_c {v : V} {d : D} (h : ∀ X : Cx, S.Of X → PE X e (tC v)) (r : ∀ H, Rep S.K H d v) : JE S Γ e d := .mk fun X o => pe_imp (h X o) fun σ H Q ⟨χ, _, q⟩ => q v H (Same.refl H) (r _)
theorem e_int {i : Int} {j : Nat} : JE S Γ (.Constant (.int i) j pos) (.int i) := e_c (fun _ _ => pe_int) fun _ => rfl
theorem e_bl {i : Bool} {j : Nat} : JE S Γ (.Constant (.bool i) j pos) (.bl i) := e_c (fun _ _ => pe_bl) fun _ => rfl
theorem e_str {i : Str} {j : Nat} : JE S Γ (.Constant (.str i) j pos) (.str i) := e_c (fun _ _ => pe_str) fun _ => rfl
theorem gl_of {X : Cx} (o : S.Of X) {x : Str} (hg : S.sc.names.lookup x = some .globalImplicit) : Gl X x := by
  show X.env.scope.names.lookup x = _
  rw [o.sc]; exact hg

theorem e_globI {x : Str} {i : Int} {t : Tok} (hm : S.mg x = some (.int i t)) (hg : S.sc.names.lookup x = some .globalImplicit := by (try dsimp only [Internal.Stat.blk]); decide +kernel) (hd : (x == ("__debug__" : Str)) = false := by (try dsimp only [Internal.Stat.blk]); decide +kernel) : JE S Γ (.Name x pos) (.int i) :=
  e_c (v := .int i) (fun X o => pe_glob (gl_of o hg) (by rw [o.mg]; exact hm) ⟨t, rfl⟩ hd) fun _ => rfl
theorem e_globS {x y : Str} {t : Tok} (hm : S.mg x = some (.str y t)) (hg : S.sc.names.lookup x = some .globalImplicit := by (try dsimp only [Internal.Stat.blk]); decide +kernel) (hd : (x == ("__debug__" : Str)) = false := by (try dsimp only [Internal.Stat.blk]); decide +kernel) : JE S Γ (.Name x pos) (.str y) :=
  e_c (v := .str y) (fun X o => pe_glob (gl_of o hg) (by rw [o.mg]; exact hm) ⟨t, rfl⟩ hd) fun _ => rfl

theorem tOp_imp {K : PySem.W.Frag} {r : R2} {da db d : D} (h : ∀ (χ : Addr → Bool) (H : Hp) (x y : V) (Q : VK), (∀ p, H p = none → χ p = false) → Rep K (hidB χ H) da x → Rep K (hidB χ H) db y → (∀ v H', Same H H' → Rep K (hidB χ H') d v → Q v H') → r x y H Q) :
    ∀ σ H Q, dE K Γ d σ H Q → tOp r (dE K Γ da) (dE K Γ db) σ H Q :=
  fun σ H Q ⟨χ, R, q⟩ => ⟨χ, R, fun x H1 e1 rx => ⟨χ, R.mono e1, fun y H2 e2 ry => h χ H2 x y Q (fun p hp => (R.mono (e1.trans e2)).fresh hp) (rx.mono (hid_same e2)) ry fun v H' e3 rv => q v H' (e1.trans (e2.trans e3)) rv⟩⟩
theorem e_op {op : Operator} {r : R2} {da db d : D} (ho : ∀ X : Cx, S.Of X → OpR X (binaryOp op) r) (ha : JE S Γ a da) (hb : JE S Γ b db)
    (h : ∀ (χ : Addr → Bool) (H : Hp) (x y : V) (Q : VK), (∀ p, H p = none → χ p = false) → Rep S.K (hidB χ H) da x → Rep S.K (hidB χ H) db y → (∀ v H', Same H H' → Rep S.K (hidB χ H') d v → Q v H') → r x y H Q) : JE S Γ (.BinOp a op b pos) d :=
  .mk fun X o => pe_imp (pe_op (ho X o) (ha X o) (hb X o)) (tOp_imp h)
theorem e_add {i j : Int} (ha : JE S Γ a (.int i)) (hb : JE S Γ b (.int j)) : JE S Γ (.BinOp a .Add b pos) (.int (i + j)) := e_op (fun _ _ => op_add) ha hb fun _ H _ _ _ _ rx ry q => ⟨i, j, rx, ry, q _ H (Same.refl H) rfl⟩
theorem e_mul {i j : Int} (ha : JE S Γ a (.int i)) (hb : JE S Γ b (.int j)) (h : CMul i j) : JE S Γ (.BinOp a .Mult b pos) (.int (i * j)) := e_op (fun _ _ => op_mul) ha hb fun _ H _ _ _ _ rx ry q => ⟨i, j, rx, ry, h, q _ H (Same.refl H) rfl⟩
theorem e_fdiv {i j : Int} (ha : JE S Γ a (.int i)) (hb : JE S Γ b (.int j)) (h : CDiv i j) : JE S Γ (.BinOp a .FloorDiv b pos) (.int (i / j)) := e_op (fun _ _ => op_fdiv) ha hb fun _ H _ _ _ _ rx ry q => ⟨i, j, rx, ry, h, q _ H (Same.refl H) rfl⟩
theorem e_mod {i j : Int} (ha : JE S Γ a (.int i)) (hb : JE S Γ b (.int j)) (h : 0 < j) : JE S Γ (.BinOp a .Mod b pos) (.int (i % j)) := e_op (fun _ _ => op_mod) ha hb fun _ H _ _ _ _ rx ry q => ⟨i, j, rx, ry, h, q _ H (Same.refl H) rfl⟩
theorem e_neg {i : Int} (ha : JE S Γ a (.int i)) : JE S Γ (.UnaryOp .USub a pos) (.int (-i)) := .mk fun X o =>
  pe_imp (pe_un un_neg (ha X o)) fun σ H Q ⟨χ, R, q⟩ => ⟨χ, R, fun x H1 e1 rx => ⟨i, rx, q _ H1 e1 rfl⟩⟩

theorem e_cmp {op : CmpOp} {r : R2} {da db d : D} (ho : ∀ X : Cx, S.Of X → OpR X (compareOp op) r) (ha : JE S Γ a da) (hb : JE S Γ b db) (hm : behindInMarks op b = false)
    (h : ∀ (χ : Addr → Bool) (H : Hp) (x y : V) (Q : VK), (∀ p, H p = none → χ p = false) → Rep S.K (hidB χ H) da x → Rep S.K (hidB χ H) db y → (∀ v H', Same H H' → Rep S.K (hidB χ H') d v → Q v H') → r x y H Q) : JE S Γ (.Compare a [op] [b] pos) d :=
  .mk fun X o => pe_imp (pe_cmpR (ho X o) (ha X o) (hb X o) hm) (tOp_imp h)
theorem e_eqI {i j : Int} (ha : JE S Γ a (.int i)) (hb : JE S Γ b (.int j)) : JE S Γ (.Compare a [.Eq] [b] pos) (.bl (decide (i = j))) := e_cmp (fun _ _ => op_eq) ha hb (nomark _) fun _ H x y _ _ rx ry q => by
  cases (show x = _ from rx); cases (show y = _ from ry)
  refine ⟨rfl, ?_⟩
  have e : decide (V.int i = V.int j) = decide (i = j) := by simp
  rw [e]; exact q _ H (Same.refl H) rfl

theorem t_val {p : Bool} (h : JE S Γ e (.bl p)) (he : ∀ (env : Env) (whole : Sem Value), isTrue e env whole = (do let v ← whole; standAt e.pos; holding [v] (truthy v)) := by intro _ _; rfl) : JT S Γ e p := .mk fun X o =>
  pt_imp (pt_val (h X o) (he X.env)) fun σ H Q ⟨χ, R, q⟩ => ⟨χ, R, fun x H1 e1 rx => ⟨p, rx, q H1 e1⟩⟩
theorem t_cmp {op : CmpOp} {r : R2} {da db : D} {p : Bool} (ho : ∀ X : Cx, S.Of X → OpR X (compareOp op) r) (ha : JE S Γ a da) (hb : JE S Γ b db) (hm : behindInMarks op b = false)
    (h : ∀ (χ : Addr → Bool) (H : Hp) (x y : V) (Q : VK), (∀ q, H q = none → χ q = false) → Rep S.K (hidB χ H) da x → Rep S.K (hidB χ H) db y → (∀ v H', Same H H' → Rep S.K (hidB χ H') (.bl p) v → Q v H') → r x y H Q) : JT S Γ (.Compare a [op] [b] pos) p :=
  .mk fun X o => pt_imp (pt_cmpR (ho X o) (ha X o) (hb X o) hm) fun σ H Q ⟨χ, R, q⟩ => tOp_imp h σ H _ ⟨χ, R, fun v H' e rv => ⟨p, rv, q H' e⟩⟩
theorem t_lt {i j : Int} (ha : JE S Γ a (.int i)) (hb : JE S Γ b (.int j)) : JT S Γ (.Compare a [.Lt] [b] pos) (decide (i < j)) := t_cmp (fun _ _ => op_lt) ha hb (nomark _) fun _ H _ _ _ _ rx ry q => ⟨i, j, rx, ry, q _ H (Same.refl H) rfl⟩
theorem t_gt {i j : Int} (ha : JE S Γ a (.int i)) (hb : JE S Γ b (.int j)) : JT S Γ (.Compare a [.Gt] [b] pos) (decide (j < i)) := t_cmp (fun _ _ => op_gt) ha hb (nomark _) fun _ H _ _ _ _ rx ry q => ⟨i, j, rx, ry, q _ H (Same.refl H) rfl⟩
theorem t_eqI {i j : Int} (ha : JE S Γ a (.int i)) (hb : JE S Γ b (.int j)) : JT S Γ (.Compare a [.Eq] [b] pos) (decide (i = j)) := t_cmp (fun _ _ => op_eq) ha hb (nomark _) fun _ H x y _ _ rx ry q => by
  cases (show x = _ from rx); cases (show y = _ from ry)
  refine ⟨rfl, ?_⟩
  have e : decide (V.int i = V.int j) = decide (i = j) := by simp
  rw [e]; exact q _ H (Same.refl H) rfl
theorem t_neI {i j : Int} (ha : JE S Γ a (.int i)) (hb : JE S Γ b (.int j)) : JT S Γ (.Compare a [.NotEq] [b] pos) (!decide (i = j)) := t_cmp (fun _ _ => op_ne) ha hb (nomark _) fun _ H x y _ _ rx ry q => by
  cases (show x = _ from rx); cases (show y = _ from ry)
  refine ⟨rfl, ?_⟩
  have e : decide (V.int i = V.int j) = decide (i = j) := by simp
  rw [e]; exact q _ H (Same.refl H) rfl
theorem t_not {p : Bool} (h : JT S Γ a p) : JT S Γ (.UnaryOp .Not a pos) (!p) := .mk fun X o => pt_imp (pt_not (h X o)) fun σ H Q ⟨χ, R, q⟩ => ⟨χ, R, q⟩
structure JW (S : Stat) (Γ : List Sl) (e : Expr) (b : Bool) : Prop where
  run : ∀ X, S.Of X → PW X e (dT S.K Γ b)
noncomputable instance {S : Stat} {Γ : List Sl} {e : Expr} {b : Bool} : CoeFun (JW S Γ e b) fun _ => ∀ X, S.Of X → PW X e (dT S.K Γ b) := ⟨fun h => h.run⟩
theorem pw_imp {X : Cx} {e : Expr} {t t' : TT} (h : PW X e t) (f : ∀ σ H Q, t' σ H Q → t σ H Q) : PW X e t' := fun whole pins s σ H Q I q => h whole pins s σ H Q I (f σ H Q q)
theorem pw_no {X : Cx} {e : Expr} : PW X e (fun _ _ _ => False) := fun _ _ _ _ _ _ _ q => q.elim
theorem w_and1 {p : Bool} (h : JT S Γ a p) : JW S Γ (.BoolOp .And [a] pos) p := .mk fun X o => pw_and1 (h X o)
theorem w_or1 {p : Bool} (h : JT S Γ a p) : JW S Γ (.BoolOp .Or [a] pos) p := .mk fun X o => pw_or1 (h X o)
theorem w_and {p p' : Bool} (h : JT S Γ a p) (h' : p = true → JW S Γ (.BoolOp .And (b :: es) pos) p') : JW S Γ (.BoolOp .And (a :: b :: es) pos) (p && p') := .mk fun X o => by
  cases p with
  | false => exact pw_imp (pw_and (h X o) pw_no) fun σ H Q ⟨χ, R, q⟩ => ⟨χ, R, fun H1 e1 => iteF (q H1 e1)⟩
  | true => exact pw_imp (pw_and (h X o) (h' rfl X o)) fun σ H Q ⟨χ, R, q⟩ => ⟨χ, R, fun H1 e1 => iteT ⟨χ, R.mono e1, fun H2 e2 => q H2 (e1.trans e2)⟩⟩
theorem w_or {p p' : Bool} (h : JT S Γ a p) (h' : p = false → JW S Γ (.BoolOp .Or (b :: es) pos) p') : JW S Γ (.BoolOp .Or (a :: b :: es) pos) (p || p') := .mk fun X o => by
  cases p with
  | true => exact pw_imp (pw_or (h X o) pw_no) fun σ H Q ⟨χ, R, q⟩ => ⟨χ, R, fun H1 e1 => iteT (q H1 e1)⟩
  | false => exact pw_imp (pw_or (h X o) (h' rfl X o)) fun σ H Q ⟨χ, R, q⟩ => ⟨χ, R, fun H1 e1 => iteF ⟨χ, R.mono e1, fun H2 e2 => q H2 (e1.trans e2)⟩⟩
theorem JW.t {p : Bool} (h : JW S Γ e p) : JT S Γ e p := .mk fun X o => (h X o).pt

theorem e_one {op : BoolOp} {d : D} (h : JE S Γ a d) : JE S Γ (.BoolOp op [a] pos) d := .mk fun X o => pe_one (h X o)
theorem e_and {p p' : Bool} (h : JE S Γ a (.bl p)) (h' : p = true → JE S Γ (.BoolOp .And (b :: es) pos) (.bl p')) : JE S Γ (.BoolOp .And (a :: b :: es) pos) (.bl (p && p')) := .mk fun X o => by
  cases p with
  | false => exact pe_imp (pe_and (h X o) pe_no) fun σ H Q ⟨χ, R, q⟩ => ⟨χ, R, fun x H1 e1 rx => ⟨false, rx, iteF (q _ H1 e1 rfl)⟩⟩
  | true => exact pe_imp (pe_and (h X o) (h' rfl X o)) fun σ H Q ⟨χ, R, q⟩ => ⟨χ, R, fun x H1 e1 rx => ⟨true, rx, iteT ⟨χ, R.mono e1, fun v H2 e2 rv => q v H2 (e1.trans e2) rv⟩⟩⟩
theorem e_not {p : Bool} (h : JE S Γ a (.bl p)) : JE S Γ (.UnaryOp .Not a pos) (.bl (!p)) := .mk fun X o =>
  pe_imp (pe_not (h X o)) fun σ H Q ⟨χ, R, q⟩ => ⟨χ, R, fun x H1 e1 rx => ⟨p, rx, q _ H1 e1 rfl⟩⟩
theorem e_if {p : Bool} {d : D} (h : JT S Γ c p) (ha : p = true → JE S Γ a d) (hb : p = false → JE S Γ b d) : JE S Γ (.IfExp c a b pos) d := .mk fun X o => by
  cases p with
  | true => exact pe_imp (pe_ifExp (h X o) (ha rfl X o) pe_no) fun σ H Q ⟨χ, R, q⟩ => ⟨χ, R, fun H1 e1 => iteT ⟨χ, R.mono e1, fun v H2 e2 rv => q v H2 (e1.trans e2) rv⟩⟩
  | false => exact pe_imp (pe_ifExp (h X o) pe_no (hb rfl X o)) fun σ H Q ⟨χ, R, q⟩ => ⟨χ, R, fun H1 e1 => iteF ⟨χ, R.mono e1, fun v H2 e2 rv => q v H2 (e1.trans e2) rv⟩⟩

theorem e_ixT {ds : List D} {i : Int} {d : D} (ha : JE S Γ a (.tup ds)) (hb : JE S Γ b (.int i)) (h : atI ds i = some d) (hs : PlainIx b := by intro _ _; rfl) : JE S Γ (.Subscript a b pos) d := .mk fun X o =>
  pe_imp (pe_ix ix_tup (ha X o) (hb X o) hs) (tOp_imp fun χ H x y Q _ hP29 ry q => by
    obtain ⟨p, vs, ex, sq, rs⟩ := hP29
    obtain ⟨v, ev, rv⟩ := rs.at h
    refine ⟨p, vs, i, v, ex, ry, ?_, ev, q v H (Same.refl H) rv⟩
    rw [o.K]; exact sqT_of hid_le sq)
theorem e_ixL {ds : List D} {i : Int} {d : D} (ha : JE S Γ a (.lst ds)) (hb : JE S Γ b (.int i)) (h : atI ds i = some d) (hs : PlainIx b := by intro _ _; rfl) : JE S Γ (.Subscript a b pos) d := .mk fun X o =>
  pe_imp (pe_ix ix_list (ha X o) (hb X o) hs) (tOp_imp fun χ H x y Q _ hP30 ry q => by
    obtain ⟨p, vs, ex, sq, rs⟩ := hP30
    obtain ⟨v, ev, rv⟩ := rs.at h
    refine ⟨p, vs, i, v, ex, ry, ?_, ev, q v H (Same.refl H) rv⟩
    rw [o.K]; exact Same.seq hid_le sq)

theorem a_nil : JA S Γ [] [] := .mk fun X o => pa_imp pa_nil fun σ H Q ⟨χ, R, q⟩ => q [] H (Same.refl H) rfl
theorem a_cons {d : D} {ds : List D} (h : JE S Γ e d) (h' : JA S Γ es ds) (hs : ∀ env, starEach (e :: es) env = (false, eval e env) :: starEach es env := by intro _; rfl) : JA S Γ (e :: es) (d :: ds) := .mk fun X o =>
  pa_imp (pa_cons (h X o) (h' X o) (hs X.env)) fun σ H Q ⟨χ, R, q⟩ => ⟨χ, R, fun v H1 e1 rv => ⟨χ, R.mono e1, fun vs H2 e2 rvs => q (v :: vs) H2 (e1.trans e2) ⟨v, vs, rfl, rv.mono (hid_same e2) d, rvs⟩⟩⟩
theorem e_tup {ds : List D} {k : Nat} (h : JA S Γ es ds) (hl : ds.length ≤ sizeLine := by exact Nat.le_of_ble_eq_true rfl) : JE S Γ (.Tuple es k pos) (.tup ds) := .mk fun X o =>
  pe_imp (pe_tup (h X o)) fun σ H Q ⟨χ, R, q⟩ => ⟨χ, R, fun vs H1 e1 rvs => ⟨by rw [rvs.len]; exact hl, fun p hp => q (.ref p) _ (e1.trans (same_new hp _)) (rep_newT hp ((R.mono e1).fresh hp) rvs)⟩⟩
theorem f_lst {ds : List D} (h : JA S Γ es ds) (hl : ds.length ≤ sizeLine := by exact Nat.le_of_ble_eq_true rfl) : JF S Γ (.List es pos) ds := .mk fun X o =>
  pe_imp (pe_lst (h X o)) fun σ H Q ⟨χ, R, q⟩ => ⟨χ, R, fun vs H1 e1 rvs => ⟨by rw [rvs.len]; exact hl, fun p hp => by
    have hp0 : H p = none := e1.free hp
    refine q p vs _ hp0 (e1.trans (same_new hp _)) upd_same (Reps.mono (fun b u hb => ?_) ds rvs)
    obtain ⟨c1, c2⟩ := hid_some hb
    have hne : b ≠ p := ne_of_none c2 hp
    exact hid_of (by rw [c1, Bool.false_or]; simpa using hne) (by rw [upd_ne hne]; exact c2)⟩⟩
theorem JF.je {ds : List D} (h : JF S Γ e ds) : JE S Γ e (.lst ds) := .mk fun X o =>
  pe_imp (h X o) fun σ H Q ⟨χ, R, q⟩ => ⟨χ, R, fun l vs H' hl e hv rs => q (.ref l) H' e ⟨l, vs, rfl, SqL.of (hid_of (R.fresh hl) hv), Reps.mono (fun b u hb => by
    obtain ⟨c1, c2⟩ := hid_some hb
    exact hid_of (by cases c : χ b with | false => rfl | true => rw [c] at c1; cases c1) c2) ds rs⟩⟩
end
end Internal

end
section
set_option Elab.async false
set_option linter.all false
set_option maxRecDepth 100000
set_option maxHeartbeats 4000000
namespace Internal
open PySem PySem.Spec PyProof.Rows Internal.L2

section
variable {S : Stat} {Γ : List Sl} {pos p : Pos} {a b c e : Expr} {es : List Expr} {x : Str}
theorem e_callB {id : String} {r : List V → Hp → VK → Prop} {ds : List D} {d : D} (hc : ∀ X : Cx, S.Of X → CallR X (.builtin id) r) (ha : JA S Γ (e :: es) ds)
    (h : ∀ (χ : Addr → Bool) (H : Hp) (vs : List V) (Q : VK), (∀ p, H p = none → χ p = false) → Reps S.K (hidB χ H) ds vs → (∀ v H', Same H H' → Rep S.K (hidB χ H') d v → Q v H') → r vs H Q)
    (hm : S.mg x = none) (hv : bootBuiltins x = some (.builtin id)) (hg : S.sc.names.lookup x = some .globalImplicit := by (try dsimp only [Internal.Stat.blk]); decide +kernel) (hn : x ≠ "__name__" := by (try dsimp only [Internal.Stat.blk]); decide +kernel) (hdb : (x == ("__debug__" : Str)) = false := by (try dsimp only [Internal.Stat.blk]); decide +kernel)
    (he : ∀ env, starEach (e :: es) env = (false, eval e env) :: starEach es env := by intro _; rfl) (hpl : ∀ env, (backTo pos (starEach es env)).any (·.1) = false := by intro _; rfl) : JE S Γ (.Call (.Name x p) (e :: es) [] pos) d := .mk fun X o =>
  pe_imp (pe_callB (hc X o) (gl_of o hg) (by rw [o.mg]; exact hm) hv (ha X o) hn hdb (he X.env) (hpl X.env)) fun σ H Q ⟨χ, R, q⟩ => ⟨χ, R, fun vs H1 e1 rvs => h χ H1 vs Q (fun p hp => (R.mono e1).fresh hp) rvs fun v H' e2 rv => q v H' (e1.trans e2) rv⟩
theorem e_callTy {T : String} {r : List V → Hp → VK → Prop} {ds : List D} {d : D} (hc : ∀ X : Cx, S.Of X → CallR X (.type T) r) (ha : JA S Γ (e :: es) ds)
    (h : ∀ (χ : Addr → Bool) (H : Hp) (vs : List V) (Q : VK), (∀ p, H p = none → χ p = false) → Reps S.K (hidB χ H) ds vs → (∀ v H', Same H H' → Rep S.K (hidB χ H') d v → Q v H') → r vs H Q)
    (hm : S.mg x = none) (hv : bootBuiltins x = some (.type T)) (hg : S.sc.names.lookup x = some .globalImplicit := by (try dsimp only [Internal.Stat.blk]); decide +kernel) (hn : x ≠ "__name__" := by (try dsimp only [Internal.Stat.blk]); decide +kernel) (hdb : (x == ("__debug__" : Str)) = false := by (try dsimp only [Internal.Stat.blk]); decide +kernel)
    (he : ∀ env, starEach (e :: es) env = (false, eval e env) :: starEach es env := by intro _; rfl) (hpl : ∀ env, (backTo pos (starEach es env)).any (·.1) = false := by intro _; rfl) : JE S Γ (.Call (.Name x p) (e :: es) [] pos) d := .mk fun X o =>
  pe_imp (pe_callTy (hc X o) (gl_of o hg) (by rw [o.mg]; exact hm) hv (ha X o) hn hdb (he X.env) (hpl X.env)) fun σ H Q ⟨χ, R, q⟩ => ⟨χ, R, fun vs H1 e1 rvs => h χ H1 vs Q (fun p hp => (R.mono e1).fresh hp) rvs fun v H' e2 rv => q v H' (e1.trans e2) rv⟩

theorem reps1 {K : PySem.W.Frag} {H : Hp} {d : D} {vs : List V} (h : Reps K H [d] vs) : ∃ v, vs = [v] ∧ Rep K H d v := by
  obtain ⟨v, r, e, h1, h2⟩ := h
  cases (show r = [] from h2)
  exact ⟨v, e, h1⟩
theorem c_len (X : Cx) (o : S.Of X) : CallR X (.builtin "len") (fun xs H Q => ∃ p ys, xs = [.ref p] ∧ (SqL S.K H p ys ∨ SqT S.K H p ys) ∧ Q (.int ys.length) H) := by
  have h := call_len_seq (X := X)
  rw [o.K] at h
  exact h
theorem e_lenT {ds : List D} (h : JE S Γ a (.tup ds)) (hm : S.mg "len" = none) (hg : S.sc.names.lookup ("len" : Str) = some .globalImplicit := by (try dsimp only [Internal.Stat.blk]); decide +kernel) (hs : ∀ env, starEach [a] env = [(false, eval a env)] := by intro _; rfl) : JE S Γ (.Call (.Name "len" p) [a] [] pos) (.int ds.length) :=
  e_callB c_len (a_cons h a_nil hs) (fun χ H vs Q _ rs q => by
    obtain ⟨v, rfl, ad, ws, rfl, sq, rw'⟩ := reps1 rs
    refine ⟨ad, ws, rfl, .inr (sqT_of hid_le sq), ?_⟩
    rw [rw'.len]; exact q _ H (Same.refl H) rfl) hm PySem.boot_len hg (he := hs)
theorem e_lenL {ds : List D} (h : JE S Γ a (.lst ds)) (hm : S.mg "len" = none) (hg : S.sc.names.lookup ("len" : Str) = some .globalImplicit := by (try dsimp only [Internal.Stat.blk]); decide +kernel) (hs : ∀ env, starEach [a] env = [(false, eval a env)] := by intro _; rfl) : JE S Γ (.Call (.Name "len" p) [a] [] pos) (.int ds.length) :=
  e_callB c_len (a_cons h a_nil hs) (fun χ H vs Q _ rs q => by
    obtain ⟨v, rfl, ad, ws, rfl, sq, rw'⟩ := reps1 rs
    refine ⟨ad, ws, rfl, .inl (Same.seq hid_le sq), ?_⟩
    rw [rw'.len]; exact q _ H (Same.refl H) rfl) hm PySem.boot_len hg (he := hs)
theorem c_tuple (X : Cx) (o : S.Of X) : CallR X (.type "tuple") (fun xs H Q => ∃ p ys, xs = [.ref p] ∧ ((SqL S.K H p ys ∧ ∀ l, H l = none → Q (.ref l) (upd H l (.tup ys))) ∨ (SqT S.K H p ys ∧ Q (.ref p) H))) := by
  have h := call_tuple_of (X := X)
  rw [o.K] at h
  exact h

theorem e_tupL {ds : List D} (h : JE S Γ a (.lst ds)) (hm : S.mg "tuple" = none) (hg : S.sc.names.lookup ("tuple" : Str) = some .globalImplicit := by (try dsimp only [Internal.Stat.blk]); decide +kernel) (hs : ∀ env, starEach [a] env = [(false, eval a env)] := by intro _; rfl) : JE S Γ (.Call (.Name "tuple" p) [a] [] pos) (.tup ds) :=
  e_callTy c_tuple (a_cons h a_nil hs) (fun χ H vs Q fr rs q => by
    obtain ⟨v, rfl, ad, ws, rfl, sq, rw'⟩ := reps1 rs
    exact ⟨ad, ws, rfl, .inl ⟨Same.seq hid_le sq, fun l hl => q _ _ (same_new hl _) (rep_newT hl (fr l hl) rw')⟩⟩) hm boot_tuple hg (he := hs)

noncomputable def tyD : D → String
  | .non => "NoneType"
  | .bl _ => "bool"
  | .int _ => "int"
  | .str _ => "str"
  | .tup _ => "tuple"
  | .lst _ => "list"
theorem isinst_D {X : Cx} {pins : List (Addr × Obj)} {σ : Internal.L2.St} {H : Hp} {s : Shared} {A : Around} {E : Value → Shared → Prop} {Q : Value → Shared → Prop} {T : String} {k : Bool} {d : D} {v : V} {u : Value} (I : Inv X pins σ H s) (r : Rep X.K H d v) (ru : RelV v u)
    (e : PySem.W.kitOne X.K (.type (tyD d)) (.type T) = some k) (h : ∀ tk, Q (.bool k) { s with toks := tk }) : wpAny (model X.prog X.w) A (call (.builtin "isinstance") [u, .type T]) Q E s := by
  cases d with
  | non => cases (show v = _ from r); cases (show u = Value.none from ru); exact PySem.W.kia_one PySem.W.kitx_none I.kIn True.intro e (fun z => nomatch z) h
  | bl y => cases (show v = _ from r); cases (show u = Value.bool y from ru); exact PySem.W.kia_one PySem.W.kitx_bool I.kIn True.intro e (fun z => nomatch z) h
  | int i => cases (show v = _ from r); obtain ⟨t, q⟩ := (show ∃ t, u = Value.int i t from ru); cases q; exact PySem.W.kia_one PySem.W.kitx_int I.kIn True.intro e (fun z => nomatch z) h
  | str y => cases (show v = _ from r); obtain ⟨t, q⟩ := (show ∃ t, u = Value.str y t from ru); cases q; exact PySem.W.kia_one PySem.W.kitx_str I.kIn True.intro e (fun z => nomatch z) h
  | tup ds =>
    obtain ⟨a, vs, rfl, sq, _⟩ := r
    cases (show u = Value.ref a from ru)
    obtain ⟨its, _, ⟨o, h1, h2, _⟩, _⟩ := I.tuple (SqT.of sq)
    exact PySem.W.kia_one PySem.W.kitx_tuple I.kIn ⟨o, h1, h2⟩ e (fun z => nomatch z) h
  | lst ds =>
    obtain ⟨a, vs, rfl, sq, _⟩ := r
    cases (show u = Value.ref a from ru)
    obtain ⟨its, _, pl, _⟩ := I.list sq
    obtain ⟨o, h1, h2, _⟩ := pl.isList
    exact PySem.W.kia_one PySem.W.kitx_list I.kIn ⟨o, h1, h2⟩ e (fun z => nomatch z) h

theorem e_isi {T : String} {y : Str} {p' : Pos} {k : Bool} {d : D} (h : JE S Γ a d) (hk : PySem.W.kitOne S.K (.type (tyD d)) (.type T) = some k) (hm : S.mg "isinstance" = none) (hy : S.mg y = none) (hT : bootBuiltins y = some (.type T))
    (hg : S.sc.names.lookup ("isinstance" : Str) = some .globalImplicit := by (try dsimp only [Internal.Stat.blk]); decide +kernel) (hgy : S.sc.names.lookup y = some .globalImplicit := by (try dsimp only [Internal.Stat.blk]); decide +kernel) (hny : y ≠ "__name__" := by (try dsimp only [Internal.Stat.blk]); decide +kernel) (hdy : (y == ("__debug__" : Str)) = false := by (try dsimp only [Internal.Stat.blk]); decide +kernel)
    (hs : ∀ env, starEach [a, .Name y p'] env = (false, eval a env) :: starEach [.Name y p'] env := by intro _; rfl) : JE S Γ (.Call (.Name "isinstance" p) [a, .Name y p'] [] pos) (.bl k) := .mk fun X o => by
  have hc : CallR X (.builtin "isinstance") (fun xs H Q => ∃ v d, xs = [v, .ty T] ∧ Rep X.K H d v ∧ PySem.W.kitOne X.K (.type (tyD d)) (.type T) = some k ∧ Q (.bl k) H) := by
    intro pins s σ H xs us Q I r hq
    obtain ⟨v, d, rfl, rv, ek, q⟩ := hq
    obtain ⟨u, w', rfl, ru, rw'⟩ := vals2 r
    cases (show w' = Value.type T from rw')
    exact isinst_D I rv ru ek fun tk => ⟨.bl k, H, I.tok tk, rfl, q⟩
  have hA : PA X [a, .Name y p'] (tCons (dE S.K Γ d) (tCons (tC (.ty T)) tNil)) := pa_cons (h X o) (pa_cons (pe_bltn (gl_of o hgy) (by rw [o.mg]; exact hy) hT rfl hny hdy) pa_nil) (hs X.env)
  refine pe_imp (pe_callB hc (gl_of o hg) (by rw [o.mg]; exact hm) boot_isinstance hA (by decide +kernel) (by decide +kernel) (hs X.env)) fun σ H Q ⟨χ, R, q⟩ => ⟨χ, R, fun v H1 e1 rv => ?_⟩
  exact ⟨v, d, rfl, by rw [o.K]; exact rv.mono hid_le d, by rw [o.K]; exact hk, q _ H1 e1 rfl⟩
end

mutual
noncomputable def eqD : D → D → Bool
  | .non, .non => true
  | .bl a, .bl b => a == b
  | .bl a, .int b => (if a then 1 else 0) == b
  | .int a, .bl b => a == (if b then 1 else 0)
  | .int a, .int b => a == b
  | .str a, .str b => a == b
  | .tup a, .tup b => eqDs a b
  | .lst a, .lst b => eqDs a b
  | _, _ => false
noncomputable def eqDs : List D → List D → Bool
  | [], [] => true
  | a :: as, b :: bs => eqD a b && eqDs as bs
  | _, _ => false
end
noncomputable def flatD : D → Bool
  | .tup _ => false
  | .lst _ => false
  | _ => true

noncomputable def CmpOk : Nat → D → D → Prop
  | 0, a, b => flatD a = true ∧ flatD b = true
  | n + 1, a, b => (flatD a = true ∧ flatD b = true) ∨ (∃ as bs, a = .tup as ∧ b = .tup bs ∧ ∀ (j : Nat) x y, as[j]? = some x → bs[j]? = some y → CmpOk n x y) ∨ (∃ as bs, a = .lst as ∧ b = .lst bs ∧ ∀ (j : Nat) x y, as[j]? = some x → bs[j]? = some y → CmpOk n x y)
mutual
theorem eqD_refl : ∀ d : D, eqD d d = true
  | .non => rfl
  | .bl b => by simp [eqD]
  | .int i => by simp [eqD]
  | .str x => by simp [eqD]
  | .tup ds => by simp only [eqD]; exact eqDs_refl ds
  | .lst ds => by simp only [eqD]; exact eqDs_refl ds
theorem eqDs_refl : ∀ ds : List D, eqDs ds ds = true
  | [] => rfl
  | d :: ds => by simp only [eqDs, eqD_refl d, eqDs_refl ds, Bool.and_self]
end
noncomputable def eAt (as bs : List D) (j : Nat) : Bool := match as[j]?, bs[j]? with
  | some a, some b => eqD a b
  | _, _ => true
theorem eqDs_range : ∀ as bs : List D, eqDs as bs = ((List.range (min as.length bs.length)).all (eAt as bs) && as.length == bs.length)
  | [], [] => rfl
  | [], _ :: _ => by simp [eqDs]
  | _ :: _, [] => by simp [eqDs]
  | a :: as, b :: bs => by
    have ih := eqDs_range as bs
    have e0 : eAt (a :: as) (b :: bs) 0 = eqD a b := rfl
    have e1 : ∀ j, eAt (a :: as) (b :: bs) (j + 1) = eAt as bs j := fun j => by simp [eAt]
    rw [eqDs, ih, List.length_cons, List.length_cons, Nat.succ_min_succ, List.range_succ_eq_map, List.all_cons, e0, List.all_map]
    have e2 : (eAt (a :: as) (b :: bs) ∘ Nat.succ) = eAt as bs := funext e1
    rw [e2, Bool.and_assoc]
    have e3 : (as.length + 1 == bs.length + 1) = (as.length == bs.length) := by
      rw [Bool.eq_iff_iff, beq_iff_eq, beq_iff_eq]; (first | lia | omega)
    rw [e3]

section
variable {X : Cx} {pins : List (Addr × Obj)} {σ : Internal.L2.St} {H : Hp} {s : Shared}
mutual
theorem rep_inj (I : Inv X pins σ H s) : ∀ (d : D) {d' : D} {v : V}, Rep X.K H d v → Rep X.K H d' v → d = d'
  | .non, d', v, h, h' => by
    cases (show v = _ from h)
    cases d' with
    | non => rfl
    | bl _ => cases (show V.non = V.bl _ from h')
    | int _ => cases (show V.non = V.int _ from h')
    | str _ => cases (show V.non = V.str _ from h')
    | tup _ => obtain ⟨_, _, e, _⟩ := h'; cases e
    | lst _ => obtain ⟨_, _, e, _⟩ := h'; cases e
  | .bl b, d', v, h, h' => by
    cases (show v = _ from h)
    cases d' with
    | non => cases (show V.bl b = V.non from h')
    | bl _ => cases (show V.bl b = V.bl _ from h'); rfl
    | int _ => cases (show V.bl b = V.int _ from h')
    | str _ => cases (show V.bl b = V.str _ from h')
    | tup _ => obtain ⟨_, _, e, _⟩ := h'; cases e
    | lst _ => obtain ⟨_, _, e, _⟩ := h'; cases e
  | .int b, d', v, h, h' => by
    cases (show v = _ from h)
    cases d' with
    | non => cases (show V.int b = V.non from h')
    | bl _ => cases (show V.int b = V.bl _ from h')
    | int _ => cases (show V.int b = V.int _ from h'); rfl
    | str _ => cases (show V.int b = V.str _ from h')
    | tup _ => obtain ⟨_, _, e, _⟩ := h'; cases e
    | lst _ => obtain ⟨_, _, e, _⟩ := h'; cases e
  | .str b, d', v, h, h' => by
    cases (show v = _ from h)
    cases d' with
    | non => cases (show V.str b = V.non from h')
    | bl _ => cases (show V.str b = V.bl _ from h')
    | int _ => cases (show V.str b = V.int _ from h')
    | str _ => cases (show V.str b = V.str _ from h'); rfl
    | tup _ => obtain ⟨_, _, e, _⟩ := h'; cases e
    | lst _ => obtain ⟨_, _, e, _⟩ := h'; cases e
  | .tup ds, d', v, h, h' => by
    obtain ⟨a, vs, rfl, sq, rs⟩ := h
    cases d' with
    | non => cases (show V.ref a = V.non from h')
    | bl _ => cases (show V.ref a = V.bl _ from h')
    | int _ => cases (show V.ref a = V.int _ from h')
    | str _ => cases (show V.ref a = V.str _ from h')
    | tup ds' =>
      obtain ⟨a', vs', e, sq', rs'⟩ := h'
      cases e
      rw [I.tuple_inj (SqT.of sq) (SqT.of sq')] at rs
      rw [reps_inj I ds rs rs']
    | lst ds' =>
      obtain ⟨a', vs', e, sq', rs'⟩ := h'
      cases e
      obtain ⟨_, _, ⟨o, h1, h2, _⟩, _⟩ := I.tuple (SqT.of sq)
      obtain ⟨_, _, pl, _⟩ := I.list sq'
      obtain ⟨o', h1', h2', _⟩ := pl.isList
      rw [h1] at h1'; cases h1'
      rw [h2] at h2'
      exact absurd h2' (by decide)
  | .lst ds, d', v, h, h' => by
    obtain ⟨a, vs, rfl, sq, rs⟩ := h
    cases d' with
    | non => cases (show V.ref a = V.non from h')
    | bl _ => cases (show V.ref a = V.bl _ from h')
    | int _ => cases (show V.ref a = V.int _ from h')
    | str _ => cases (show V.ref a = V.str _ from h')
    | lst ds' =>
      obtain ⟨a', vs', e, sq', rs'⟩ := h'
      cases e
      rw [I.list_inj sq sq'] at rs
      rw [reps_inj I ds rs rs']
    | tup ds' =>
      obtain ⟨a', vs', e, sq', rs'⟩ := h'
      cases e
      obtain ⟨_, _, ⟨o, h1, h2, _⟩, _⟩ := I.tuple (SqT.of sq')
      obtain ⟨_, _, pl, _⟩ := I.list sq
      obtain ⟨o', h1', h2', _⟩ := pl.isList
      rw [h1] at h1'; cases h1'
      rw [h2] at h2'
      exact absurd h2' (by decide)
theorem reps_inj (I : Inv X pins σ H s) : ∀ (ds : List D) {ds' : List D} {vs : List V}, Reps X.K H ds vs → Reps X.K H ds' vs → ds = ds'
  | [], ds', vs, h, h' => by
    cases (show vs = [] from h)
    cases ds' with
    | nil => rfl
    | cons d' ds' => obtain ⟨_, _, e, _⟩ := h'; cases e
  | d :: ds, ds', vs, h, h' => by
    obtain ⟨v, r, rfl, h1, h2⟩ := h
    cases ds' with
    | nil => cases (show v :: r = [] from h')
    | cons d' ds' =>
      obtain ⟨v', r', e, h1', h2'⟩ := h'
      cases e
      rw [rep_inj I d h1 h1', reps_inj I ds h2 h2']
end

theorem rep_flat {K : PySem.W.Frag} {d : D} {v : V} (h : Rep K H d v) (f : flatD d = true) : flatV v = true := by
  cases d with
  | non => cases (show v = _ from h); rfl
  | bl _ => cases (show v = _ from h); rfl
  | int _ => cases (show v = _ from h); rfl
  | str _ => cases (show v = _ from h); rfl
  | tup _ => cases f
  | lst _ => cases f
theorem eqV_eqD {K : PySem.W.Frag} {d d' : D} {v v' : V} (h : Rep K H d v) (h' : Rep K H d' v') (f : flatD d = true) (f' : flatD d' = true) : eqV v v' = eqD d d' := by
  cases d with
  | tup _ => cases f
  | lst _ => cases f
  | _ =>
    cases (show v = _ from h)
    cases d' with
    | tup _ => cases f'
    | lst _ => cases f'
    | _ => cases (show v' = _ from h'); rfl

theorem items_eq {A : Around} (I : Inv X pins σ H s) {as bs : List D} {vs ws : List V} {us zs : List Value} (ra : Reps X.K H as vs) (rb : Reps X.K H bs ws) (ru : Vals vs us) (rz : Vals ws zs)
    (he : ∀ (j : Nat) x y v w u z, as[j]? = some x → bs[j]? = some y → Rep X.K H x v → Rep X.K H y w → RelV v u → RelV w z → SeqAt.EqAt A s u z (eqD x y)) :
    ∀ j (h1 : j < us.toArray.size) (h2 : j < zs.toArray.size), SeqAt.EqAt A s us.toArray[j] zs.toArray[j] (eAt as bs j) := fun j h1 h2 => by
  have l1 := ra.len; have l2 := rb.len; have l3 := ru.length; have l4 := rz.length
  rw [List.size_toArray] at h1 h2
  have ha : j < as.length := by (first | lia | omega)
  have hb : j < bs.length := by (first | lia | omega)
  have ea : as[j]? = some as[j] := List.getElem?_eq_getElem ha
  have eb : bs[j]? = some bs[j] := List.getElem?_eq_getElem hb
  obtain ⟨v, ev, rv⟩ := ra.get ea
  obtain ⟨w, ew, rw'⟩ := rb.get eb
  obtain ⟨u, eu, ru'⟩ := ru.get ev
  obtain ⟨z, ez, rz'⟩ := rz.get ew
  have q1 : us.toArray[j] = u := by
    have : us[j]? = some us[j] := List.getElem?_eq_getElem h1
    rw [this] at eu
    simpa using Option.some.inj eu
  have q2 : zs.toArray[j] = z := by
    have : zs[j]? = some zs[j] := List.getElem?_eq_getElem h2
    rw [this] at ez
    simpa using Option.some.inj ez
  rw [q1, q2]
  have e : eAt as bs j = eqD as[j] bs[j] := by unfold eAt; rw [ea, eb]
  rw [e]
  exact he j _ _ v w u z ea eb rv rw' ru' rz'

theorem in1_units {A : Around} : A.in1.units = A.units + 1 := rfl

theorem eqAt_D (I : Inv X pins σ H s) : ∀ (n : Nat) (A : Around) (d d' : D) (v v' : V) (u u' : Value), CmpOk n d d' → A.units + n < cLine → Rep X.K H d v → Rep X.K H d' v' → RelV v u → RelV v' u' → SeqAt.EqAt A s u u' (eqD d d')
  | 0, A, d, d', v, v', u, u', ok, hu, r, r', ru, ru' => by
    rw [← eqV_eqD r r' ok.1 ok.2]
    exact eqAt_V ru ru' (rep_flat r ok.1) (rep_flat r' ok.2)
  | n + 1, A, d, d', v, v', u, u', ok, hu, r, r', ru, ru' => by
    rcases ok with ok | ⟨as, bs, rfl, rfl, ok⟩ | ⟨as, bs, rfl, rfl, ok⟩
    · rw [← eqV_eqD r r' ok.1 ok.2]
      exact eqAt_V ru ru' (rep_flat r ok.1) (rep_flat r' ok.2)
    · by_cases hvv : v = v'
      · subst hvv
        have e := rep_inj I _ r r'
        rw [← e, eqD_refl]
        obtain ⟨a, vs, rfl, _⟩ := r
        cases ru; cases ru'
        exact SeqAt.EqAt.same _
      · obtain ⟨a, vs, rfl, sq, rs⟩ := r
        obtain ⟨a', vs', rfl, sq', rs'⟩ := r'
        cases ru; cases ru'
        obtain ⟨its, ri, pl, _⟩ := I.tuple (SqT.of sq)
        obtain ⟨its', ri', pl', _⟩ := I.tuple (SqT.of sq')
        have hne : a ≠ a' := fun z => hvv (by rw [z])
        have q := SeqAt.RcAt.tuples (A := A) (s := s) pl pl' (by (first | lia | omega)) (items_eq I rs rs' ri ri' fun j x y v w u z hx hy rx ry rxu ryz => eqAt_D I n A.in1 x y v w u z (ok j x y hx hy) (by rw [in1_units]; (first | lia | omega)) rx ry rxu ryz)
        have l1 := rs.len; have l2 := rs'.len; have l3 := ri.length; have l4 := ri'.length
        have e : eqD (.tup as) (.tup bs) = ((List.range (min its.toArray.size its'.toArray.size)).all (eAt as bs) && its.toArray.size == its'.toArray.size) := by
          rw [List.size_toArray, List.size_toArray, ← l3, ← l4, l1, l2]
          exact eqDs_range as bs
        rw [e]
        exact SeqAt.EqAt.of_refs hne q
    · by_cases hvv : v = v'
      · subst hvv
        have e := rep_inj I _ r r'
        rw [← e, eqD_refl]
        obtain ⟨a, vs, rfl, _⟩ := r
        cases ru; cases ru'
        exact SeqAt.EqAt.same _
      · obtain ⟨a, vs, rfl, sq, rs⟩ := r
        obtain ⟨a', vs', rfl, sq', rs'⟩ := r'
        cases ru; cases ru'
        obtain ⟨its, ri, pl, _⟩ := I.list sq
        obtain ⟨its', ri', pl', _⟩ := I.list sq'
        have hne : a ≠ a' := fun z => hvv (by rw [z])
        have l1 := rs.len; have l2 := rs'.len; have l3 := ri.length; have l4 := ri'.length
        have key := eqDs_range as bs
        by_cases hsz : its.toArray.size = its'.toArray.size
        · have q := SeqAt.RcAt.lists (A := A) (s := s) pl.isList pl'.isList hsz (by (first | lia | omega)) (items_eq I rs rs' ri ri' fun j x y v w u z hx hy rx ry rxu ryz => eqAt_D I n A.in1 x y v w u z (ok j x y hx hy) (by rw [in1_units]; (first | lia | omega)) rx ry rxu ryz)
          have e : eqD (.lst as) (.lst bs) = (List.range its.toArray.size).all (eAt as bs) := by
            rw [List.size_toArray, List.size_toArray] at hsz
            have : as.length = bs.length := by (first | lia | omega)
            show eqDs as bs = _
            rw [key, this, Nat.min_self, List.size_toArray, beq_self_eq_true, Bool.and_true, ← l3, l1, this]
          rw [e]
          exact SeqAt.EqAt.of_refs hne q
        · have q := SeqAt.RcAt.lists_lengths (A := A) (s := s) pl.isList pl'.isList (by simpa using hsz) (by (first | lia | omega))
          have e : eqD (.lst as) (.lst bs) = false := by
            rw [List.size_toArray, List.size_toArray] at hsz
            have : (as.length == bs.length) = false := by
              rw [beq_eq_false_iff_ne]; (first | lia | omega)
            show eqDs as bs = _
            rw [key, this, Bool.and_false]
          rw [e]
          exact SeqAt.EqAt.of_refs hne q

noncomputable def SeqD : D → D → Prop
  | .tup _, .tup _ => True
  | .lst _, .lst _ => True
  | _, _ => False
theorem rcAt_D {n : Nat} {A : Around} {d d' : D} {v v' : V} {u u' : Value} (I : Inv X pins σ H s) (sd : SeqD d d') (ok : CmpOk (n + 1) d d') (hu : A.units + n + 1 < cLine) (r : Rep X.K H d v) (r' : Rep X.K H d' v') (ru : RelV v u) (ru' : RelV v' u') :
    SeqAt.RcAt A s u u' (eqD d d') ∧ SeqAt.RcNeAt A s u u' (!eqD d d') := by
  rcases ok with ok | ⟨as, bs, rfl, rfl, ok⟩ | ⟨as, bs, rfl, rfl, ok⟩
  · cases d with
    | tup _ => cases ok.1
    | lst _ => cases ok.1
    | _ => cases sd
  · obtain ⟨a, vs, rfl, sq, rs⟩ := r
    obtain ⟨a', vs', rfl, sq', rs'⟩ := r'
    cases ru; cases ru'
    obtain ⟨its, ri, pl, _⟩ := I.tuple (SqT.of sq)
    obtain ⟨its', ri', pl', _⟩ := I.tuple (SqT.of sq')
    have it := items_eq (A := A.in1) I rs rs' ri ri' fun j x y v w u z hx hy rx ry rxu ryz => eqAt_D I n A.in1 x y v w u z (ok j x y hx hy) (by rw [in1_units]; (first | lia | omega)) rx ry rxu ryz
    have l1 := rs.len; have l2 := rs'.len; have l3 := ri.length; have l4 := ri'.length
    have e : eqD (.tup as) (.tup bs) = ((List.range (min its.toArray.size its'.toArray.size)).all (eAt as bs) && its.toArray.size == its'.toArray.size) := by
      rw [List.size_toArray, List.size_toArray, ← l3, ← l4, l1, l2]
      exact eqDs_range as bs
    rw [e]
    exact ⟨SeqAt.RcAt.tuples pl pl' (by (first | lia | omega)) it, SeqAt.RcNeAt.tuples pl pl' (by (first | lia | omega)) it⟩
  · obtain ⟨a, vs, rfl, sq, rs⟩ := r
    obtain ⟨a', vs', rfl, sq', rs'⟩ := r'
    cases ru; cases ru'
    obtain ⟨its, ri, pl, _⟩ := I.list sq
    obtain ⟨its', ri', pl', _⟩ := I.list sq'
    have it := items_eq (A := A.in1) I rs rs' ri ri' fun j x y v w u z hx hy rx ry rxu ryz => eqAt_D I n A.in1 x y v w u z (ok j x y hx hy) (by rw [in1_units]; (first | lia | omega)) rx ry rxu ryz
    have l1 := rs.len; have l2 := rs'.len; have l3 := ri.length; have l4 := ri'.length
    have key := eqDs_range as bs
    by_cases hsz : its.toArray.size = its'.toArray.size
    · have e : eqD (.lst as) (.lst bs) = (List.range its.toArray.size).all (eAt as bs) := by
        have hsz' := hsz
        rw [List.size_toArray, List.size_toArray] at hsz'
        have : as.length = bs.length := by (first | lia | omega)
        show eqDs as bs = _
        rw [key, this, Nat.min_self, List.size_toArray, beq_self_eq_true, Bool.and_true, ← l3, l1, this]
      rw [e]
      exact ⟨SeqAt.RcAt.lists pl.isList pl'.isList hsz (by (first | lia | omega)) it, SeqAt.RcNeAt.lists pl.isList pl'.isList hsz (by (first | lia | omega)) it⟩
    · have e : eqD (.lst as) (.lst bs) = false := by
        have hsz' := hsz
        rw [List.size_toArray, List.size_toArray] at hsz'
        have : (as.length == bs.length) = false := by
          rw [beq_eq_false_iff_ne]; (first | lia | omega)
        show eqDs as bs = _
        rw [key, this, Bool.and_false]
      rw [e]
      exact ⟨SeqAt.RcAt.lists_lengths pl.isList pl'.isList (by simpa using hsz) (by (first | lia | omega)), SeqAt.RcNeAt.lists_lengths pl.isList pl'.isList (by simpa using hsz) (by (first | lia | omega))⟩
end
section
variable {S : Stat} {Γ : List Sl} {pos p : Pos} {a b : Expr}
noncomputable def rEqD (K : PySem.W.Frag) (n : Nat) (neg : Bool) (d d' : D) : R2 := fun x y H Q => Rep K H d x ∧ Rep K H d' y ∧ SeqD d d' ∧ CmpOk (n + 1) d d' ∧ Q (.bl (if neg then !eqD d d' else eqD d d')) H
theorem op_eqD {n : Nat} {d d' : D} (hn : n ≤ 60) (X : Cx) (o : S.Of X) : OpR X (compareOp .Eq) (rEqD S.K n false d d') := by
  intro pins s σ H x y v u Q I rx ry h
  obtain ⟨h1, h2, sd, ok, q⟩ := h
  rw [← o.K] at h1 h2
  have hu := o.room.units
  exact (rcAt_D I sd ok (by (first | lia | omega)) h1 h2 rx ry).1 _ _ _ _ ⟨.bl (eqD d d'), H, I, rfl, q⟩
theorem op_neD {n : Nat} {d d' : D} (hn : n ≤ 60) (X : Cx) (o : S.Of X) : OpR X (compareOp .NotEq) (rEqD S.K n true d d') := by
  intro pins s σ H x y v u Q I rx ry h
  obtain ⟨h1, h2, sd, ok, q⟩ := h
  rw [← o.K] at h1 h2
  have hu := o.room.units
  exact (rcAt_D I sd ok (by (first | lia | omega)) h1 h2 rx ry).2 _ _ _ _ ⟨.bl (!eqD d d'), H, I, rfl, q⟩
theorem e_eqD {n : Nat} {d d' : D} (ha : JE S Γ a d) (hb : JE S Γ b d') (sd : SeqD d d') (ok : CmpOk (n + 1) d d') (hn : n ≤ 60 := by decide) : JE S Γ (.Compare a [.Eq] [b] pos) (.bl (eqD d d')) :=
  e_cmp (op_eqD hn) ha hb (nomark _) fun χ H x y Q _ rx ry q => ⟨rx.mono hid_le d, ry.mono hid_le d', sd, ok, q _ H (Same.refl H) rfl⟩
theorem t_neD {n : Nat} {d d' : D} (ha : JE S Γ a d) (hb : JE S Γ b d') (sd : SeqD d d') (ok : CmpOk (n + 1) d d') (hn : n ≤ 60 := by decide) : JT S Γ (.Compare a [.NotEq] [b] pos) (!eqD d d') :=
  t_cmp (op_neD hn) ha hb (nomark _) fun χ H x y Q _ rx ry q => ⟨rx.mono hid_le d, ry.mono hid_le d', sd, ok, q _ H (Same.refl H) rfl⟩
end
end Internal

end
section
set_option Elab.async false
set_option linter.all false
set_option maxRecDepth 100000
set_option maxHeartbeats 4000000
namespace Internal
open PySem PySem.Spec PyProof.Rows Internal.L2

noncomputable def ItD (K : PySem.W.Frag) (χ : Addr → Bool) (H : Hp) (J : It) (ds : List D) : Prop := ∀ (χ2 : Addr → Bool) (H2 : Hp), Same (hidB χ H) (hidB χ2 H2) →
  (∀ (i : Nat) d, ds[i]? = some d → J.go i H2 ∧ ∀ x H3, J.yld i H2 x H3 → H3 = H2 ∧ Rep K (hidB χ2 H2) d x) ∧ J.stop ds.length H2
noncomputable def JI (S : Stat) (Γ : List Sl) (tg iter : Expr) (ds : List D) : Prop := ∃ wi : TI, (∀ X : Cx, S.Of X → PI X tg iter wi) ∧
  ∀ σ H R χ, RE S.K χ H σ Γ → (∀ J H', Same H H' → ItD S.K χ H' J ds → R J H') → wi σ H R
section
variable {S : Stat} {Γ : List Sl} {pos p : Pos} {a b e tg : Expr}
theorem itd_tup {K : PySem.W.Frag} {χ : Addr → Bool} {H : Hp} {a : Addr} {vs : List V} {ds : List D} (sq : hidB χ H a = some (.tup vs)) (rs : Reps K (hidB χ H) ds vs) : ItD K χ H (Itt K a) ds := fun χ2 H2 e => by
  have sq2 : SqT K H2 a vs := sqT_of hid_le (e _ _ sq)
  refine ⟨fun i d hd => ?_, vs, sq2, by rw [rs.len]; exact Nat.le_refl _⟩
  obtain ⟨v, ev, rv⟩ := rs.get hd
  refine ⟨⟨vs, v, sq2, ev⟩, fun x H3 ⟨e3, y⟩ => ⟨e3, ?_⟩⟩
  have := y vs sq2
  rw [ev] at this
  cases this
  exact rv.mono e d
theorem itd_lst {K : PySem.W.Frag} {χ : Addr → Bool} {H : Hp} {a : Addr} {vs : List V} {ds : List D} (sq : SqL K (hidB χ H) a vs) (rs : Reps K (hidB χ H) ds vs) : ItD K χ H (Itl K a) ds := fun χ2 H2 e => by
  have sq2 : SqL K H2 a vs := Same.seq hid_le (Same.seq e sq)
  refine ⟨fun i d hd => ?_, vs, sq2, by rw [rs.len]; exact Nat.le_refl _⟩
  obtain ⟨v, ev, rv⟩ := rs.get hd
  refine ⟨⟨vs, v, sq2, ev⟩, fun x H3 ⟨e3, y⟩ => ⟨e3, ?_⟩⟩
  have := y vs sq2
  rw [ev] at this
  cases this
  exact rv.mono e d
theorem i_tup {ds : List D} (h : JE S Γ e (.tup ds)) : JI S Γ tg e ds := ⟨iTup S.K (dE S.K Γ (.tup ds)), fun X o => by
    have q := pi_tup (tg := tg) (h X o)
    rw [o.K] at q; exact q, fun σ H R χ r q => ⟨χ, r, fun v H' e ⟨ad, vs, ev, sq, rs⟩ => ⟨ad, ev, ⟨vs, sqT_of hid_le sq⟩, q _ H' e (itd_tup sq rs)⟩⟩⟩
theorem i_lst {ds : List D} (h : JE S Γ e (.lst ds)) : JI S Γ tg e ds := ⟨iList S.K (dE S.K Γ (.lst ds)), fun X o => by
    have q := pi_list (tg := tg) (h X o)
    rw [o.K] at q; exact q, fun σ H R χ r q => ⟨χ, r, fun v H' e ⟨ad, vs, ev, sq, rs⟩ => ⟨ad, ev, ⟨vs, Same.seq hid_le sq⟩, q _ H' e (itd_lst sq rs)⟩⟩⟩
noncomputable abbrev rangeD (lo : Int) (n : Nat) : List D := (List.range n).map fun i : Nat => D.int (lo + (i : Int))
theorem rangeD_length (lo : Int) (n : Nat) : (rangeD lo n).length = n := by unfold rangeD; rw [List.length_map, List.length_range]
theorem itd_rng {K : PySem.W.Frag} {χ : Addr → Bool} {H : Hp} (lo : Int) (n : Nat) : ItD K χ H (Itr lo n) (rangeD lo n) := fun χ2 H2 e => by
  refine ⟨fun i d hd => ?_, by rw [rangeD_length]; exact Nat.le_refl _⟩
  unfold rangeD at hd
  rw [List.getElem?_map] at hd
  cases q : (List.range n)[i]? with
  | none => rw [q] at hd; cases hd
  | some j =>
    rw [q] at hd
    obtain ⟨hi, hj⟩ := List.getElem?_eq_some_iff.mp q
    rw [List.getElem_range] at hj
    subst hj
    have hd' : D.int (lo + (i : Int)) = d := Option.some.inj hd
    subst hd'
    rw [List.length_range] at hi
    exact ⟨hi, fun x H3 ⟨e3, y⟩ => ⟨e3, y⟩⟩
theorem i_rng1 {n : Int} (h : JE S Γ a (.int n)) (hm : S.mg "range" = none) (hn : -(2 ^ 62) ≤ n ∧ n < 2 ^ 62) (hg : S.sc.names.lookup ("range" : Str) = some .globalImplicit := by (try dsimp only [Internal.Stat.blk]); decide +kernel) (hs : ∀ env, starEach [a] env = [(false, eval a env)] := by intro _; rfl) : JI S Γ tg (.Call (.Name "range" p) [a] [] pos) (rangeD 0 n.toNat) :=
  ⟨iRng1 (dA S.K Γ [.int n]), fun X o => pi_range1 (gl_of o hg) (by rw [o.mg]; exact hm) ((a_cons h a_nil hs) X o) (hs X.env), fun σ H R χ r q => ⟨χ, r, fun vs H' e rs => by
    obtain ⟨v, rfl, rv⟩ := reps1 rs
    cases (show v = _ from rv)
    exact ⟨n, rfl, hn.1, hn.2, q _ H' e (itd_rng 0 n.toNat)⟩⟩⟩

structure JIfs (S : Stat) (Γ : List Sl) (ifs : List Expr) (b : Bool) : Prop where
  run : ∀ X, S.Of X → PIfs X ifs (dT S.K Γ b)
noncomputable instance {S : Stat} {Γ : List Sl} {ifs : List Expr} {b : Bool} : CoeFun (JIfs S Γ ifs b) fun _ => ∀ X, S.Of X → PIfs X ifs (dT S.K Γ b) := ⟨fun h => h.run⟩
theorem ifs_nil : JIfs S Γ [] true := .mk fun X o pins s σ H Q I ⟨χ, R, q⟩ => pifs_nil pins s σ H Q I (q H (Same.refl H))
theorem ifs_one {b : Bool} (h : JT S Γ e b) : JIfs S Γ [e] b := .mk fun X o => pifs_one (h X o)

theorem own_lt {Γ : List Sl} {d : D} {j : Nat} {a : Bool} {es : Ct} (h : (Γ ++ [.val d])[j]? = some (.ll a es)) : j < Γ.length := by
  by_cases hj : j < Γ.length
  · exact hj
  · have hj' := (List.getElem?_eq_some_iff.mp h).1
    rw [List.length_append, List.length_singleton] at hj'
    have hje : j = Γ.length := by (first | lia | omega)
    subst hje
    rw [List.getElem?_append_right (Nat.le_refl _), Nat.sub_self] at h
    cases h
theorem comp_imp {β : Type} {K : PySem.W.Frag} {us : List β} {g F : β → D} {pr : β → Bool} {wi : TI} (hl : us.length ≤ sizeLine) (hw : ∀ σ H R χ, RE K χ H σ Γ → (∀ J H', Same H H' → ItD K χ H' J (us.map g) → R J H') → wi σ H R) (σ : Internal.L2.St) (H : Hp) (Q : VK)
    (h : dF K Γ ((us.filter pr).map F) σ H Q) : tComp wi (fun σ' H Q => ∃ u, u ∈ us ∧ dT K (Γ ++ [.val (g u)]) (pr u) σ' H Q) (fun σ' H Q => ∃ u, u ∈ us ∧ pr u = true ∧ dE K (Γ ++ [.val (g u)]) (F u) σ' H Q) σ H Q := by
  obtain ⟨χ, R, q⟩ := h
  refine hw σ H _ χ R fun J H1 e1 itd l hl1 => ?_
  have hl0 : H l = none := e1.free hl1
  have R1 := R.mono e1
  have up : ∀ {H2 : Hp}, Same H1 H2 → Same (hidB χ H1) (hidB (fun b => χ b || b == l) H2) := fun {H2} e2 b o hb => by
    obtain ⟨c1, c2⟩ := hid_some hb
    have hne : b ≠ l := ne_of_none c2 hl1
    exact hid_of (by rw [c1, Bool.false_or]; simpa using hne) (e2 b o c2)
  refine ⟨fun i m ys H2 => m = us.length - i ∧ i ≤ us.length ∧ H2 l = some (.lst ys) ∧ Same H1 H2 ∧ Reps K (hidB (fun b => χ b || b == l) H2) (((us.take i).filter pr).map F) ys,
    ⟨us.length, by simp, Nat.zero_le _, upd_same, same_new hl1 _, rfl⟩, ?_⟩
  rintro i m ys H2 ⟨rfl, hi, hl2, e2, rs⟩
  refine ⟨hl2, ?_⟩
  obtain ⟨it1, it2⟩ := itd (fun b => χ b || b == l) H2 (up e2)
  by_cases hlt : i < us.length
  · have hu : us[i]? = some us[i] := List.getElem?_eq_getElem hlt
    generalize us[i] = u at hu
    have hd : (us.map g)[i]? = some (g u) := by rw [List.getElem?_map, hu]; rfl
    obtain ⟨go, yl⟩ := it1 i (g u) hd
    have hmem : u ∈ us := List.mem_of_getElem? hu
    have htake : us.take (i + 1) = us.take i ++ [u] := by
      rw [List.take_add_one, hu]; rfl
    refine .inr ⟨go, ?_, fun x H3 y => ?_⟩
    · have := rs.len
      rw [List.length_map] at this
      have h1 := List.length_filter_le pr (us.take i)
      rw [List.length_take] at h1
      (first | lia | omega)
    · obtain ⟨e3, rx⟩ := yl x H3 y
      subst e3
      have R2 : RE K (fun b => χ b || b == l) H3 (σ ++ [some x]) (Γ ++ [.val (g u)]) := by
        refine ⟨fun b hb => ?_, by rw [List.length_append, List.length_append, R.len]; rfl, fun j d' hj => ?_, fun j a es hj => ?_, fun j j' a a' es es' p h1 h2 h3 h4 => ?_⟩
        · cases c : χ b with
          | true => obtain ⟨o, ho⟩ := R1.live b c; exact ⟨o, e2 _ _ ho⟩
          | false =>
            rw [c, Bool.false_or] at hb
            have : b = l := by simpa using hb
            subst this
            exact ⟨⟨_, nt_lst⟩, hl2⟩
        · by_cases hjl : j < Γ.length
          · rw [List.getElem?_append_left hjl] at hj
            obtain ⟨v, ev, rv⟩ := R1.val j d' hj
            exact ⟨v, by rw [List.getElem?_append_left (by rw [R.len]; exact hjl)]; exact ev, rv.mono (up e2) d'⟩
          · have hj' := (List.getElem?_eq_some_iff.mp hj).1
            rw [List.length_append, List.length_singleton] at hj'
            have hje : j = Γ.length := by (first | lia | omega)
            subst hje
            rw [List.getElem?_append_right (Nat.le_refl _), Nat.sub_self] at hj
            have hj2 : Sl.val (g u) = Sl.val d' := Option.some.inj hj
            injection hj2 with hj3
            subst hj3
            refine ⟨x, ?_, rx⟩
            rw [← R.len, List.getElem?_append_right (Nat.le_refl _), Nat.sub_self]
            rfl
        · have hjl := own_lt hj
          rw [List.getElem?_append_left hjl] at hj
          obtain ⟨p, vs, a1, a2, a3, a4⟩ := R1.own j a es hj
          exact ⟨p, vs, by rw [List.getElem?_append_left (by rw [R.len]; exact hjl)]; exact a1, by rw [a2]; rfl, e2 _ _ a3, CRep.mono (up e2) es a4⟩
        · have l1 := own_lt h1
          have l2 := own_lt h2
          rw [List.getElem?_append_left l1] at h1
          rw [List.getElem?_append_left l2] at h2
          rw [List.getElem?_append_left (by rw [R.len]; exact l1)] at h3
          rw [List.getElem?_append_left (by rw [R.len]; exact l2)] at h4
          exact R1.inj j j' a a' es es' p h1 h2 h3 h4
      refine ⟨u, hmem, _, R2, fun H4 e4 => ?_⟩
      have hl4 := e4 _ _ hl2
      have e24 : Same H1 H4 := e2.trans e4
      have rs4 := Reps.mono (hid_same (χ := fun b => χ b || b == l) e4) _ rs
      cases hp : pr u with
      | false =>
        refine iteF ⟨us.length - (i + 1), by (first | lia | omega), rfl, hlt, hl4, e24, ?_⟩
        rw [htake, List.filter_append, List.filter_cons_of_neg (by rw [hp]; exact Bool.false_ne_true), List.filter_nil, List.append_nil]
        exact rs4
      | true =>
        refine iteT ⟨u, hmem, hp, _, R2.mono e4, fun y H5 e5 ry => ⟨e5 _ _ hl4, us.length - (i + 1), by (first | lia | omega), rfl, hlt, upd_same, fun b o hb => ?_, ?_⟩⟩
        · rw [upd_ne (ne_of_none hb hl1)]
          exact e5 _ _ (e24 _ _ hb)
        · rw [htake, List.filter_append, List.filter_cons_of_pos hp, List.filter_nil, List.map_append]
          have hh : Same (hidB (fun b => χ b || b == l) H5) (hidB (fun b => χ b || b == l) (upd H5 l (.lst (ys ++ [y])))) := fun b o hb => by
            obtain ⟨c1, c2⟩ := hid_some hb
            have hne : b ≠ l := fun z => by subst z; simp at c1
            exact hid_of c1 (by rw [upd_ne hne]; exact c2)
          exact Reps.mono hh _ ((Reps.mono (hid_same e5) _ rs4).app (.one ry))
  · have hie : i = us.length := by (first | lia | omega)
    subst hie
    rw [List.take_length] at rs
    rw [List.length_map] at it2
    exact .inl ⟨it2, q l ys H2 hl0 (e1.trans e2) hl2 rs⟩

section
variable {elt iter : Expr} {x : Str} {px : Pos} {ifs : List Expr} {scope : Scope} {β : Type} {us : List β} {g : β → D}
theorem f_comp (F : β → D) (pr : β → Bool) (hi : JI S Γ (.Name x px) iter (us.map g)) (hl : us.length ≤ sizeLine) (ht : ∀ u, u ∈ us → JIfs (S.blk x scope) (Γ ++ [.val (g u)]) ifs (pr u)) (he : ∀ u, u ∈ us → pr u = true → JE (S.blk x scope) (Γ ++ [.val (g u)]) elt (F u))
    (ok : compOk S.N S.sc x scope = true := by (try dsimp only [Internal.Stat.blk]); decide +kernel) (hs : ∀ env v, foldedSetIterable iter env v = pure v := by intro _ _; rfl) : JF S Γ (.ListComp elt [⟨.Name x px, iter, ifs, 0⟩] scope pos) ((us.filter pr).map F) := .mk fun X o => by
  obtain ⟨wi, hw1, hw2⟩ := hi
  refine pe_imp (pe_comp (tt := fun σ' H Q => ∃ u, u ∈ us ∧ dT S.K (Γ ++ [Sl.val (g u)]) (pr u) σ' H Q) (te := fun σ' H Q => ∃ u, u ∈ us ∧ pr u = true ∧ dE S.K (Γ ++ [Sl.val (g u)]) (F u) σ' H Q) o.calm (hw1 X o) o.N o.sc ok
    (fun C s₀ H₀ ex pins s σ H Q I ⟨u, hd, q⟩ => ht u hd _ (o.blk x scope C s₀ H₀ ex) pins s σ H Q I q) (fun C s₀ H₀ ex pins s σ H Q I ⟨u, hd, hp, q⟩ => he u hd hp _ (o.blk x scope C s₀ H₀ ex) pins s σ H Q I q) (hs X.env)) fun σ H Q h => comp_imp hl hw2 σ H Q h

theorem f_map (F : β → D) (hi : JI S Γ (.Name x px) iter (us.map g)) (hl : us.length ≤ sizeLine) (he : ∀ u, u ∈ us → JE (S.blk x scope) (Γ ++ [.val (g u)]) elt (F u))
    (ok : compOk S.N S.sc x scope = true := by (try dsimp only [Internal.Stat.blk]); decide +kernel) (hs : ∀ env v, foldedSetIterable iter env v = pure v := by intro _ _; rfl) : JF S Γ (.ListComp elt [⟨.Name x px, iter, [], 0⟩] scope pos) (us.map F) := by
  have h := f_comp (S := S) (Γ := Γ) (pos := pos) (scope := scope) F (fun _ => true) (elt := elt) hi hl (fun d _ => ifs_nil) (fun d hd _ => he d hd) ok hs
  have e : us.filter (fun _ => true) = us := List.filter_eq_self.mpr fun _ _ => rfl
  rw [e] at h
  exact h
end
end
end Internal

end
section
set_option Elab.async false
set_option linter.all false
set_option maxRecDepth 100000
set_option maxHeartbeats 4000000
namespace Internal
open PySem PySem.Spec PyProof.Rows Internal.L2

noncomputable def both (φ : Addr → Bool) (ω : Addr → Option (Bool × Nat)) : Addr → Bool := fun b => φ b || (ω b).isSome
structure RS (K : PySem.W.Frag) (φ : Addr → Bool) (ω : Addr → Option (Bool × Nat)) (H : Hp) (σ : Internal.L2.St) (Γ : List Sl) : Prop where
  live : ∀ p, both φ ω p = true → ∃ o : HN, H p = some o.1
  len : σ.length = Γ.length
  val : ∀ (i : Nat) (d : D), Γ[i]? = some (.val d) → ∃ v, σ[i]? = some (some v) ∧ Rep K (hidB (both φ ω) H) d v
  own : ∀ (i : Nat) (a : Bool) (c : Ct), Γ[i]? = some (.ll a c) → ∃ p ho, σ[i]? = some (some (.ref p)) ∧ ω p = some (a, i) ∧ φ p = false ∧ H p = some ho ∧ CRep K (hidB (both φ ω) H) c ho
  argu : ∀ b b' i, ω b = some (true, i) → ω b' = some (true, i) → b = b'
structure Kp (φ : Addr → Bool) (ω : Addr → Option (Bool × Nat)) (H : Hp) (ω' : Addr → Option (Bool × Nat)) (H' : Hp) : Prop where
  same : Same (hidB (both φ ω) H) (hidB (both φ ω') H')
  frn : ∀ b o, φ b = true → H b = some o → H' b = some o
  dom : ∀ b o, H b = some o → ∃ o', H' b = some o'
  new : ∀ b i, ω' b = some i → (∃ j, ω b = some j) ∨ H b = none
  arg : ∀ b i, ω b = some (true, i) → ω' b = some (true, i)
section
variable {K : PySem.W.Frag} {φ : Addr → Bool} {ω ω' ω2 : Addr → Option (Bool × Nat)} {H H' H2 : Hp} {σ : Internal.L2.St} {Γ : List Sl}
theorem RS.re (r : RS K φ ω H σ Γ) : RE K (both φ ω) H σ Γ := ⟨r.live, r.len, r.val, fun i a ds h => let ⟨p, vs, h1, h2, _, h4, h5⟩ := r.own i a ds h; ⟨p, vs, h1, by unfold both; rw [h2]; simp, h4, h5⟩, fun i j a a' ds es p h1 h2 h3 h4 => by
  obtain ⟨q, _, a1, a2, _⟩ := r.own i a ds h1
  obtain ⟨q', _, b1, b2, _⟩ := r.own j a' es h2
  rw [h3] at a1; cases a1
  rw [h4] at b1; cases b1
  rw [a2] at b2
  exact congrArg Prod.snd (Option.some.inj b2)⟩
theorem RS.mono (r : RS K φ ω H σ Γ) (e : Same H H') : RS K φ ω H' σ Γ :=
  ⟨fun p h => let ⟨o, q⟩ := r.live p h; ⟨o, e _ _ q⟩, r.len, fun i d h => let ⟨v, q, p⟩ := r.val i d h; ⟨v, q, p.mono (hid_same e) d⟩,
    fun i a ds h => let ⟨p, vs, h1, h2, h3, h4, h5⟩ := r.own i a ds h; ⟨p, vs, h1, h2, h3, e _ _ h4, CRep.mono (hid_same e) ds h5⟩, r.argu⟩
theorem Kp.refl : Kp φ ω H ω H := ⟨Same.refl _, fun _ _ _ h => h, fun _ o h => ⟨o, h⟩, fun _ i h => .inl ⟨i, h⟩, fun _ _ h => h⟩
theorem Kp.of (e : Same H H') : Kp φ ω H ω H' := ⟨hid_same e, fun b o _ h => e b o h, fun b o h => ⟨o, e b o h⟩, fun _ i h => .inl ⟨i, h⟩, fun _ _ h => h⟩
theorem Kp.none (k : Kp φ ω H ω' H') {b : Addr} (h : H' b = none) : H b = none := by
  cases c : H b with
  | none => rfl
  | some o => obtain ⟨o', q⟩ := k.dom b o c; rw [h] at q; cases q
theorem Kp.trans (a : Kp φ ω H ω' H') (b : Kp φ ω' H' ω2 H2) : Kp φ ω H ω2 H2 := ⟨a.same.trans b.same, fun c o hc h => b.frn c o hc (a.frn c o hc h), fun c o h => let ⟨o1, h1⟩ := a.dom c o h; b.dom c o1 h1, fun c i h => by
  rcases b.new c i h with ⟨j, h1⟩ | h1
  · exact a.new c j h1
  · exact .inr (a.none h1), fun c i h => b.arg c i (a.arg c i h)⟩
theorem RS.set (r : RS K φ ω H σ Γ) {i : Nat} {d : D} {v : V} (hv : Rep K (hidB (both φ ω) H) d v) : RS K φ ω H (σ.set i (some v)) (Γ.set i (.val d)) := by
  refine ⟨r.live, by rw [List.length_set, List.length_set]; exact r.len, fun j d' h => ?_, fun j a ds h => ?_, r.argu⟩
  · by_cases hj : i = j
    · subst hj
      have hlt : i < Γ.length := by
        have := (List.getElem?_eq_some_iff.mp h).1
        rwa [List.length_set] at this
      rw [List.getElem?_set_self hlt] at h
      have h' : Sl.val d = Sl.val d' := Option.some.inj h
      cases h'
      exact ⟨v, by rw [List.getElem?_set_self (by rw [r.len]; exact hlt)], hv⟩
    · rw [List.getElem?_set_ne hj] at h
      obtain ⟨v', e, q⟩ := r.val j d' h
      exact ⟨v', by rw [List.getElem?_set_ne hj]; exact e, q⟩
  · by_cases hj : i = j
    · subst hj
      have hlt : i < Γ.length := by
        have := (List.getElem?_eq_some_iff.mp h).1
        rwa [List.length_set] at this
      rw [List.getElem?_set_self hlt] at h
      have h' : Sl.val d = Sl.ll a ds := Option.some.inj h
      cases h'
    · rw [List.getElem?_set_ne hj] at h
      obtain ⟨p, vs, e, q⟩ := r.own j a ds h
      exact ⟨p, vs, by rw [List.getElem?_set_ne hj]; exact e, q⟩

theorem RS.takeC (r : RS K φ ω H σ Γ) {i : Nat} {l : Addr} {vs : HO} {ds : Ct} (hi : i < Γ.length) (hl : H l = none) (e : Same H H') (hv : H' l = some vs) (hr : CRep K (hidB (fun b => both φ ω b || b == l) H') ds vs) :
    RS K φ (fun b => if b = l then some (false, i) else ω b) H' (σ.set i (some (.ref l))) (Γ.set i (.ll false ds)) ∧ Kp φ ω H (fun b => if b = l then some (false, i) else ω b) H' := by
  have fl : both φ ω l = false := r.re.fresh hl
  have φl : φ l = false := by
    unfold both at fl
    cases c : φ l with
    | false => rfl
    | true => rw [c] at fl; cases fl
  have eb : both φ (fun b => if b = l then some (false, i) else ω b) = fun b => both φ ω b || b == l := by
    funext b
    unfold both
    by_cases hb : b = l
    · subst hb; simp
    · have : (b == l) = false := by simpa using hb
      dsimp only
      rw [if_neg hb, this, Bool.or_false]
  have up : Same (hidB (both φ ω) H) (hidB (fun b => both φ ω b || b == l) H') := fun b o hb => by
    obtain ⟨c1, c2⟩ := hid_some hb
    have hne : b ≠ l := ne_of_none c2 hl
    exact hid_of (by rw [c1, Bool.false_or]; simpa using hne) (e b o c2)
  refine ⟨⟨fun p hp => ?_, by rw [List.length_set, List.length_set]; exact r.len, fun j d h => ?_, fun j a es h => ?_, fun b b' k h1 h2 => ?_⟩, ⟨by rw [eb]; exact up, fun b o _ h => e b o h, fun b o h => ⟨o, e b o h⟩, fun b j h => by
    by_cases hb : b = l
    · subst hb; exact .inr hl
    · rw [if_neg hb] at h; exact .inl ⟨j, h⟩, fun b j h => by
    have hb : b ≠ l := fun z => by
      subst z
      unfold both at fl
      rw [h] at fl
      simp at fl
    rw [if_neg hb]; exact h⟩⟩
  · rw [eb] at hp
    by_cases hpl : p = l
    · subst hpl; exact ⟨⟨_, hr.nt⟩, hv⟩
    · have : (p == l) = false := by simpa using hpl
      dsimp only at hp
      rw [this, Bool.or_false] at hp
      obtain ⟨o, ho⟩ := r.live p hp
      exact ⟨o, e _ _ ho⟩
  · by_cases hj : i = j
    · subst hj
      rw [List.getElem?_set_self hi] at h
      have h' : Sl.ll false ds = Sl.val d := Option.some.inj h
      cases h'
    · rw [List.getElem?_set_ne hj] at h
      obtain ⟨v, ev, rv⟩ := r.val j d h
      refine ⟨v, by rw [List.getElem?_set_ne hj]; exact ev, ?_⟩
      rw [eb]; exact rv.mono up d
  · by_cases hj : i = j
    · subst hj
      rw [List.getElem?_set_self hi] at h
      have h' : Sl.ll false ds = Sl.ll a es := Option.some.inj h
      cases h'
      refine ⟨l, vs, by rw [List.getElem?_set_self (by rw [r.len]; exact hi)], by simp, φl, hv, ?_⟩
      rw [eb]; exact hr
    · rw [List.getElem?_set_ne hj] at h
      obtain ⟨p, ws, h1, h2, h3, h4, h5⟩ := r.own j a es h
      have hpl : p ≠ l := ne_of_none h4 hl
      refine ⟨p, ws, by rw [List.getElem?_set_ne hj]; exact h1, by rw [if_neg hpl]; exact h2, h3, e _ _ h4, ?_⟩
      rw [eb]; exact CRep.mono up es h5
  · have g : ∀ c, (if c = l then some (false, i) else ω c) = some (true, k) → ω c = some (true, k) := fun c h => by
      by_cases hc : c = l
      · rw [if_pos hc] at h; cases h
      · rw [if_neg hc] at h; exact h
    exact r.argu b b' k (g b h1) (g b' h2)

theorem RS.putC (r : RS K φ ω H σ Γ) {i : Nat} {l : Addr} {vs' : HO} {ds' ds : Ct} {a : Bool} (hi : Γ[i]? = some (.ll a ds)) (hl : ω l = some (a, i)) (hσ : σ[i]? = some (some (.ref l))) (hr : CRep K (hidB (both φ ω) H) ds' vs') (φl : φ l = false) :
    RS K φ ω (upd H l vs') σ (Γ.set i (.ll a ds')) ∧ Kp φ ω H ω (upd H l vs') := by
  have hb : both φ ω l = true := by unfold both; rw [hl]; simp
  have up : Same (hidB (both φ ω) H) (hidB (both φ ω) (upd H l vs')) := fun b o h => by
    obtain ⟨c1, c2⟩ := hid_some h
    have hne : b ≠ l := fun z => by subst z; rw [hb] at c1; cases c1
    exact hid_of c1 (by rw [upd_ne hne]; exact c2)
  have hlt := (List.getElem?_eq_some_iff.mp hi).1
  refine ⟨⟨fun p hp => ?_, by rw [List.length_set]; exact r.len, fun j d h => ?_, fun j a' es h => ?_, r.argu⟩, ⟨up, fun b o hφ h => ?_, fun b o h => by
    by_cases hbl : b = l
    · subst hbl; exact ⟨_, upd_same⟩
    · exact ⟨o, by rw [upd_ne hbl]; exact h⟩, fun _ j h => .inl ⟨j, h⟩, fun _ _ h => h⟩⟩
  · by_cases hpl : p = l
    · subst hpl; exact ⟨⟨_, hr.nt⟩, upd_same⟩
    · obtain ⟨o, ho⟩ := r.live p hp
      exact ⟨o, by rw [upd_ne hpl]; exact ho⟩
  · by_cases hj : i = j
    · subst hj
      rw [List.getElem?_set_self hlt] at h
      have h' : Sl.ll a ds' = Sl.val d := Option.some.inj h
      cases h'
    · rw [List.getElem?_set_ne hj] at h
      obtain ⟨v, ev, rv⟩ := r.val j d h
      exact ⟨v, ev, rv.mono up d⟩
  · by_cases hj : i = j
    · subst hj
      rw [List.getElem?_set_self hlt] at h
      have h' : Sl.ll a ds' = Sl.ll a' es := Option.some.inj h
      cases h'
      exact ⟨l, vs', hσ, hl, φl, upd_same, CRep.mono up _ hr⟩
    · rw [List.getElem?_set_ne hj] at h
      obtain ⟨p, ws, h1, h2, h3, h4, h5⟩ := r.own j a' es h
      have hpl : p ≠ l := fun z => by subst z; rw [hl] at h2; exact hj (congrArg Prod.snd (Option.some.inj h2))
      exact ⟨p, ws, h1, h2, h3, by rw [upd_ne hpl]; exact h4, CRep.mono up es h5⟩
  · have hne : b ≠ l := fun z => by subst z; rw [φl] at hφ; cases hφ
    rw [upd_ne hne]; exact h
theorem RS.ownL (r : RS K φ ω H σ Γ) (i : Nat) (a : Bool) (ds : List D) (h : Γ[i]? = some (.li a ds)) : ∃ p vs, σ[i]? = some (some (.ref p)) ∧ ω p = some (a, i) ∧ φ p = false ∧ H p = some (.lst vs) ∧ Reps K (hidB (both φ ω) H) ds vs := by
  obtain ⟨p, ho, h1, h2, h3, h4, vs, rfl, h5⟩ := r.own i a _ h
  exact ⟨p, vs, h1, h2, h3, h4, h5⟩
theorem RS.take (r : RS K φ ω H σ Γ) {i : Nat} {l : Addr} {vs : List V} {ds : List D} (hi : i < Γ.length) (hl : H l = none) (e : Same H H') (hv : H' l = some (.lst vs)) (hr : Reps K (hidB (fun b => both φ ω b || b == l) H') ds vs) :
    RS K φ (fun b => if b = l then some (false, i) else ω b) H' (σ.set i (some (.ref l))) (Γ.set i (.own ds)) ∧ Kp φ ω H (fun b => if b = l then some (false, i) else ω b) H' := r.takeC hi hl e hv ⟨vs, rfl, hr⟩
theorem RS.put (r : RS K φ ω H σ Γ) {i : Nat} {l : Addr} {vs' : List V} {ds' ds : List D} {a : Bool} (hi : Γ[i]? = some (.li a ds)) (hl : ω l = some (a, i)) (hσ : σ[i]? = some (some (.ref l))) (hr : Reps K (hidB (both φ ω) H) ds' vs') (φl : φ l = false) :
    RS K φ ω (upd H l (.lst vs')) σ (Γ.set i (.li a ds')) ∧ Kp φ ω H ω (upd H l (.lst vs')) := r.putC hi hl hσ ⟨vs', rfl, hr⟩ φl

theorem RS.frzC (r : RS K φ ω H σ Γ) {i : Nat} {c : Ct} {dd : D} (hi : Γ[i]? = some (.ll false c)) (hd : ∀ (H : Hp) (l : Addr) (ho : HO), H l = some ho → CRep K H c ho → Rep K H dd (.ref l)) : ∃ ω', RS K φ ω' H σ (Γ.set i (.val dd)) ∧ Kp φ ω H ω' H := by
  obtain ⟨l, ho, hσ, hl, φl, hv, hr⟩ := r.own i false _ hi
  have hlt := (List.getElem?_eq_some_iff.mp hi).1
  have le : ∀ b, both φ (fun b => if b = l then none else ω b) b = true → both φ ω b = true := fun b h => by
    unfold both at h ⊢
    dsimp only at h
    by_cases hb : b = l
    · subst hb; rw [hl]; simp
    · rw [if_neg hb] at h; exact h
  have up : Same (hidB (both φ ω) H) (hidB (both φ (fun b => if b = l then none else ω b)) H) := fun b o h => by
    obtain ⟨c1, c2⟩ := hid_some h
    refine hid_of ?_ c2
    cases c : both φ (fun b => if b = l then none else ω b) b with
    | false => rfl
    | true => rw [le b c] at c1; cases c1
  refine ⟨fun b => if b = l then none else ω b, ⟨fun p hp => r.live p (le p hp), by rw [List.length_set]; exact r.len, fun j d h => ?_, fun j a es h => ?_, fun b b' k h1 h2 => ?_⟩, ⟨up, fun _ _ _ h => h, fun _ o h => ⟨o, h⟩, fun b j h => by
    by_cases hb : b = l
    · rw [if_pos hb] at h; cases h
    · rw [if_neg hb] at h; exact .inl ⟨j, h⟩, fun b j h => by
    have hb : b ≠ l := fun z => by subst z; rw [hl] at h; cases h
    rw [if_neg hb]; exact h⟩⟩
  · by_cases hj : i = j
    · subst hj
      rw [List.getElem?_set_self hlt] at h
      have h' : Sl.val dd = Sl.val d := Option.some.inj h
      cases h'
      refine ⟨.ref l, hσ, hd _ l ho (hid_of ?_ hv) (CRep.mono up _ hr)⟩
      unfold both
      dsimp only
      rw [φl, if_pos rfl]; rfl
    · rw [List.getElem?_set_ne hj] at h
      obtain ⟨v, ev, rv⟩ := r.val j d h
      exact ⟨v, ev, rv.mono up d⟩
  · by_cases hj : i = j
    · subst hj
      rw [List.getElem?_set_self hlt] at h
      have h' : Sl.val dd = Sl.ll a es := Option.some.inj h
      cases h'
    · rw [List.getElem?_set_ne hj] at h
      obtain ⟨p, ws, h1, h2, h3, h4, h5⟩ := r.own j a es h
      have hpl : p ≠ l := fun z => by subst z; rw [hl] at h2; exact hj (congrArg Prod.snd (Option.some.inj h2))
      exact ⟨p, ws, h1, by rw [if_neg hpl]; exact h2, h3, h4, CRep.mono up es h5⟩
  · have g : ∀ c, (if c = l then none else ω c) = some (true, k) → ω c = some (true, k) := fun c h => by
      by_cases hc : c = l
      · rw [if_pos hc] at h; cases h
      · rw [if_neg hc] at h; exact h
    exact r.argu b b' k (g b h1) (g b' h2)
theorem RS.frz (r : RS K φ ω H σ Γ) {i : Nat} {ds : List D} (hi : Γ[i]? = some (.own ds)) : ∃ ω', RS K φ ω' H σ (Γ.set i (.val (.lst ds))) ∧ Kp φ ω H ω' H :=
  r.frzC hi fun _ l _ e ⟨vs, e2, h⟩ => ⟨l, vs, rfl, SqL.of (by rw [e, e2]), h⟩
end

set_option genInjectivity false in
structure DEnds where
  nx : List Sl → Prop
  rt : D → List Sl → Prop
  bk : List Sl → Prop := fun _ => False
  ct : List Sl → Prop := fun _ => False
  rf : List D → List Sl → Prop := fun _ _ => False

structure Cn (K : PySem.W.Frag) (φ : Addr → Bool) (ω : Addr → Option (Bool × Nat)) (H : Hp) (E : DEnds) (Z : Ends) : Prop where
  n : ∀ ω' σ' H' Γ', E.nx Γ' → RS K φ ω' H' σ' Γ' → Kp φ ω H ω' H' → Z.nx σ' H'
  rt : ∀ ω' σ' v H' d Γ', E.rt d Γ' → RS K φ ω' H' σ' Γ' → Kp φ ω H ω' H' → Rep K (hidB (both φ ω') H') d v → Z.rt v H'
  bk : ∀ ω' σ' H' Γ', E.bk Γ' → RS K φ ω' H' σ' Γ' → Kp φ ω H ω' H' → Z.bk σ' H'
  ct : ∀ ω' σ' H' Γ', E.ct Γ' → RS K φ ω' H' σ' Γ' → Kp φ ω H ω' H' → Z.ct σ' H'
  rf : ∀ ω' σ' l vs H' ds Γ', E.rf ds Γ' → RS K φ ω' H' σ' Γ' → Kp φ ω H ω' H' → ((∃ j, ω l = some j) ∨ H l = none) → H' l = some (.lst vs) → Reps K (hidB (fun b => both φ ω' b || b == l) H') ds vs → Z.rt (.ref l) H'
theorem Cn.step {K : PySem.W.Frag} {φ : Addr → Bool} {ω ω1 : Addr → Option (Bool × Nat)} {H H1 : Hp} {E : DEnds} {Z : Ends} (c : Cn K φ ω H E Z) (k : Kp φ ω H ω1 H1) : Cn K φ ω1 H1 E Z where
  n := fun ω' σ' H' Γ' h r k2 => c.n ω' σ' H' Γ' h r (k.trans k2)
  rt := fun ω' σ' v H' d Γ' h r k2 => c.rt ω' σ' v H' d Γ' h r (k.trans k2)
  bk := fun ω' σ' H' Γ' h r k2 => c.bk ω' σ' H' Γ' h r (k.trans k2)
  ct := fun ω' σ' H' Γ' h r k2 => c.ct ω' σ' H' Γ' h r (k.trans k2)
  rf := fun ω' σ' l vs H' ds Γ' h r k2 hl => c.rf ω' σ' l vs H' ds Γ' h r (k.trans k2) (by
    rcases hl with ⟨j, hl⟩ | hl
    · exact k.new l j hl
    · exact .inr (k.none hl))
noncomputable def dS (K : PySem.W.Frag) (Γ : List Sl) (E : DEnds) : TS := fun Z σ H => ∃ φ ω, RS K φ ω H σ Γ ∧ Cn K φ ω H E Z
structure JS (S : Stat) (Γ : List Sl) (st : Stmt) (E : DEnds) : Prop where
  run : ∀ X, S.Of X → PS X st (dS S.K Γ E)
noncomputable instance {S : Stat} {Γ : List Sl} {st : Stmt} {E : DEnds} : CoeFun (JS S Γ st E) fun _ => ∀ X, S.Of X → PS X st (dS S.K Γ E) := ⟨fun h => h.run⟩
structure JB (S : Stat) (Γ : List Sl) (st : List Stmt) (E : DEnds) : Prop where
  run : ∀ X, S.Of X → PSs X st (dS S.K Γ E)
noncomputable instance {S : Stat} {Γ : List Sl} {st : List Stmt} {E : DEnds} : CoeFun (JB S Γ st E) fun _ => ∀ X, S.Of X → PSs X st (dS S.K Γ E) := ⟨fun h => h.run⟩

section
variable {S : Stat} {Γ : List Sl} {E : DEnds} {pos pos' p : Pos} {st : Stmt} {rest : List Stmt} {e a b c : Expr} {x : Str}
theorem b_nil (h : E.nx Γ) : JB S Γ [] E := .mk fun X o pins s σ H Z I ⟨φ, ω, r, c⟩ => pss_nil pins s σ H Z I (c.n ω σ H Γ h r Kp.refl)
theorem b_cons (h : JS S Γ st { E with nx := fun Γ' => JB S Γ' rest E }) : JB S Γ (st :: rest) E := .mk fun X o => by
  have h2 : PSs X rest (fun Z σ H => ∃ Γ', JB S Γ' rest E ∧ dS S.K Γ' E Z σ H) := fun pins s σ H Z I ⟨Γ', hb, q⟩ => hb X o pins s σ H Z I q
  refine fun pins s σ H Z I ⟨φ, ω, r, c⟩ => pss_cons (h X o) h2 pins s σ H Z I ?_
  exact ⟨φ, ω, r, { n := fun ω' σ' H' Γ' hb r' k => ⟨Γ', hb, φ, ω', r', c.step k⟩, rt := c.rt, bk := c.bk, ct := c.ct, rf := c.rf }⟩

theorem b_frz (i : Nat) {ds : List D} (hi : Γ[i]? = some (.own ds)) (h : JB S (Γ.set i (.val (.lst ds))) rest E) : JB S Γ rest E := .mk fun X o pins s σ H Z I hP31 => by
  obtain ⟨φ, ω, r, c⟩ := hP31
  obtain ⟨ω', r', k⟩ := r.frz hi
  exact h X o pins s σ H Z I ⟨φ, ω', r', c.step k⟩

theorem s_ret {d : D} (he : JE S Γ e d) (h : E.rt d Γ) : JS S Γ (.Return (some e) pos) E := .mk fun X o =>
  ps_imp (ps_ret (he X o)) fun Z σ H ⟨φ, ω, r, c⟩ => ⟨both φ ω, r.re, fun v H' e' rv => c.rt ω σ v H' d Γ h (r.mono e') (Kp.of e') rv⟩

theorem s_retF {ds : List D} (he : JF S Γ e ds) (h : E.rf ds Γ) : JS S Γ (.Return (some e) pos) E := .mk fun X o =>
  ps_imp (ps_ret (he X o)) fun Z σ H ⟨φ, ω, r, c⟩ => ⟨both φ ω, r.re, fun l vs H' hl e' hv rv => c.rf ω σ l vs H' ds Γ h (r.mono e') (Kp.of e') (.inr hl) hv rv⟩

theorem s_retO (i : Nat) {ds : List D} {x : Str} (hi : Γ[i]? = some (.own ds)) (h : E.rf ds Γ) (hN : S.N[i]? = some x := by (try dsimp only [Internal.Stat.blk]); decide +kernel) (hv : Vis S.sc x := by (try dsimp only [Internal.Stat.blk]); decide +kernel)
    (h1 : (x == ("__debug__" : Str)) = false := by (try dsimp only [Internal.Stat.blk]); decide +kernel) (h2 : (x == ("__classdict__" : Str)) = false := by (try dsimp only [Internal.Stat.blk]); decide +kernel) : JS S Γ (.Return (some (.Name x p)) pos) E := .mk fun X o =>
  ps_imp (ps_ret (pe_var (i := i) (by rw [o.N]; exact hN) (by rw [o.sc]; exact hv) h1 h2)) fun Z σ H hP32 => by
    obtain ⟨φ, ω, r, c⟩ := hP32
    obtain ⟨l, vs, hσ, hω, φl, hH, hr⟩ := r.ownL i false ds hi
    refine ⟨.ref l, hσ, c.rf ω σ l vs H ds Γ h r Kp.refl (.inl ⟨_, hω⟩) hH (Reps.mono (fun b ob hb => ?_) _ hr)⟩
    obtain ⟨c1, c2⟩ := hid_some hb
    refine hid_of ?_ c2
    have hne : b ≠ l := fun z => by subst z; unfold both at c1; rw [hω] at c1; simp at c1
    rw [c1, Bool.false_or]; simpa using hne
theorem s_drop {d : D} (he : JE S Γ e d) (h : E.nx Γ) (hs : ∀ X : Cx, swapsWith e none pos.line X.env = pure false := by intro _; rfl) : JS S Γ (.Expr e pos) E := .mk fun X o =>
  ps_imp (ps_expr (he X o) (hs X)) fun Z σ H ⟨φ, ω, r, c⟩ => ⟨both φ ω, r.re, fun v H' e' rv => c.n ω σ H' Γ h (r.mono e') (Kp.of e')⟩
theorem s_if {q : Bool} {sa sb : List Stmt} (hc : JT S Γ c q) (ha : q = true → JB S Γ sa E) (hb : q = false → JB S Γ sb E) : JS S Γ (.If c sa sb pos) E := .mk fun X o => by
  cases q with
  | true => exact ps_imp (ps_if (hc X o) (ha rfl X o) pss_never) fun Z σ H ⟨φ, ω, r, c⟩ => ⟨both φ ω, r.re, fun H1 e => iteT ⟨φ, ω, r.mono e, c.step (Kp.of e)⟩⟩
  | false => exact ps_imp (ps_if (hc X o) pss_never (hb rfl X o)) fun Z σ H ⟨φ, ω, r, c⟩ => ⟨both φ ω, r.re, fun H1 e => iteF ⟨φ, ω, r.mono e, c.step (Kp.of e)⟩⟩

theorem s_set (i : Nat) {d : D} (he : JE S Γ e d) (h : E.nx (Γ.set i (.val d))) (hN : S.N.Nodup := by (try dsimp only [Internal.Stat.blk]); decide +kernel) (hi : S.N[i]? = some x := by (try dsimp only [Internal.Stat.blk]); decide +kernel) (hx : Loc S.sc x := by (try dsimp only [Internal.Stat.blk]); decide +kernel)
    (hs : ∀ X : Cx, S.Of X → swapsWith e (some (.Name x pos')) pos.line X.env = pure false := by intro _ _; rfl) (htop : S.top = true := by rfl) : JS S Γ (.Assign [.Name x pos'] e pos) E := .mk fun X o =>
  ps_imp (ps_set (i := i) (by rw [o.N]; exact hN) (by rw [o.N]; exact hi) (by rw [o.sc]; exact hx) (he X o) (hs X o) (.inl (o.fn htop x))) fun Z σ H ⟨φ, ω, r, c⟩ =>
    ⟨both φ ω, r.re, fun v H' e' rv => c.n ω _ H' _ h ((r.mono e').set rv) (Kp.of e')⟩

theorem s_own (i : Nat) {ds : List D} (he : JF S Γ e ds) (h : E.nx (Γ.set i (.own ds))) (hiΓ : i < Γ.length := by exact Nat.le_of_ble_eq_true rfl) (hN : S.N.Nodup := by (try dsimp only [Internal.Stat.blk]); decide +kernel) (hi : S.N[i]? = some x := by (try dsimp only [Internal.Stat.blk]); decide +kernel) (hx : Loc S.sc x := by (try dsimp only [Internal.Stat.blk]); decide +kernel)
    (hs : ∀ X : Cx, S.Of X → swapsWith e (some (.Name x pos')) pos.line X.env = pure false := by first | (intro _ _; rfl) | (intro _ o; exact Internal.sw_cell o (by (try dsimp only [Internal.Stat.blk]); decide +kernel))) (htop : S.top = true := by rfl) : JS S Γ (.Assign [.Name x pos'] e pos) E := .mk fun X o =>
  ps_imp (ps_set (i := i) (by rw [o.N]; exact hN) (by rw [o.N]; exact hi) (by rw [o.sc]; exact hx) (he X o) (hs X o) (.inl (o.fn htop x))) fun Z σ H ⟨φ, ω, r, c⟩ =>
    ⟨both φ ω, r.re, fun l vs H' hl e' hv hr => let ⟨r', k⟩ := r.take hiΓ hl e' hv hr; c.n _ _ H' _ h r' k⟩

theorem s_app (i : Nat) {ds : List D} {d : D} {al : Bool} {apos cpos : Pos} (hΓ : Γ[i]? = some (.li al ds)) (he : JE S Γ e d) (hl : ds.length < sizeLine) (h : E.nx (Γ.set i (.li al (ds ++ [d])))) (hi : S.N[i]? = some x := by (try dsimp only [Internal.Stat.blk]); decide +kernel) (hv : Vis S.sc x := by (try dsimp only [Internal.Stat.blk]); decide +kernel)
    (h1 : (x == ("__debug__" : Str)) = false := by (try dsimp only [Internal.Stat.blk]); decide +kernel) (h2 : (x == ("__classdict__" : Str)) = false := by (try dsimp only [Internal.Stat.blk]); decide +kernel)
    (hbase : ∀ env, attributeBase (.Name x p) "append" env (eval (.Name x p) env) = eval (.Name x p) env := by intro _; rfl)
    (hfew : ∀ env, ((backTo cpos (starEach [e] env)).all (fun x => !x.1) && (backToKw cpos (keywordEach [] env)).all (fun x => x.1.isSome)
      && decide ([e].length + ([] : List Keyword).length + (if ([] : List Keyword).isEmpty then 0 else 1) < 30)) = true := by intro _; rfl)
    (hline : (apos.endLine == cpos.line) = true := by rfl) (hs : ∀ env, starEach [e] env = [(false, eval e env)] := by intro _; rfl) (hsw : ∀ X : Cx, swapsWith (.Call (.Attribute (.Name x p) "append" apos) [e] [] cpos) none pos.line X.env = pure false := by intro _; rfl) :
    JS S Γ (.Expr (.Call (.Attribute (.Name x p) "append" apos) [e] [] cpos) pos) E := .mk fun X o => by
  have hA := (a_cons he a_nil hs) X o
  refine ps_imp (ps_expr (pe_bm PySem.F.plainAttrs_list PySem.F.slot_list_append PySem.F.type_list_append mt_append (pe_var (i := i) (by rw [o.N]; exact hi) (by rw [o.sc]; exact hv) h1 h2) hA (hbase X.env) (hfew X.env) hline (hs X.env)) (hsw X)) fun Z σ H hP33 => ?_
  obtain ⟨φ, ω, r, c⟩ := hP33
  obtain ⟨l, vs, hσ, hω, φl, hH, hr⟩ := r.ownL i al ds hΓ
  refine ⟨.ref l, hσ, .inl ⟨rfl, vs, SqL.of hH⟩, both φ ω, r.re, fun ws H1 e1 rws => ?_⟩
  obtain ⟨v, rfl, rv⟩ := reps1 rws
  refine ⟨l, vs, v, rfl, rfl, e1 _ _ hH, by rw [hr.len]; exact hl, ?_⟩
  obtain ⟨r', k⟩ := (r.mono e1).put (ds' := ds ++ [d]) (vs' := vs ++ [v]) hΓ hω hσ ((Reps.mono (hid_same e1) _ hr).app (.one rv)) φl
  exact c.n ω σ _ _ h r' ((Kp.of e1).trans k)

theorem s_for (i : Nat) {iter : Expr} {body : List Stmt} {β : Type} {us : List β} {g : β → D} {px : Pos} (hi : JI S Γ (.Name x px) iter (us.map g)) (Iv : Nat → List Sl → Prop) (h0 : Iv 0 Γ)
    (hb : ∀ (k : Nat) u Γ', us[k]? = some u → Iv k Γ' → JB S (Γ'.set i (.val (g u))) body { nx := Iv (k + 1), rt := E.rt, bk := E.nx, ct := Iv (k + 1), rf := E.rf }) (hd : ∀ Γ', Iv us.length Γ' → E.nx Γ')
    (hN : S.N.Nodup := by (try dsimp only [Internal.Stat.blk]); decide +kernel) (hxi : S.N[i]? = some x := by (try dsimp only [Internal.Stat.blk]); decide +kernel) (hx : Loc S.sc x := by (try dsimp only [Internal.Stat.blk]); decide +kernel) (hs : ∀ env v, foldedSetIterable iter env v = pure v := by intro _ _; rfl)
    (htop : S.top = true := by rfl) : JS S Γ (.For (.Name x px) iter body [] pos) E := .mk fun X o => by
  obtain ⟨wi, hw1, hw2⟩ := hi
  have hB : PSs X body (fun Z σ H => ∃ k u Γ', us[k]? = some u ∧ Iv k Γ' ∧ dS S.K (Γ'.set i (.val (g u))) { nx := Iv (k + 1), rt := E.rt, bk := E.nx, ct := Iv (k + 1), rf := E.rf } Z σ H) := fun pins s σ H Z I ⟨k, u, Γ', h1, h2, q⟩ => hb k u Γ' h1 h2 X o pins s σ H Z I q
  refine ps_imp (ps_for o.own o.calm (hw1 X o) (pg_name (i := i) (by rw [o.N]; exact hN) (by rw [o.N]; exact hxi) (by rw [o.sc]; exact hx) (.inl (o.fn htop x))) hB (hs X.env)) fun Z σ H hP34 => ?_
  obtain ⟨φ, ω, r, c⟩ := hP34
  refine hw2 σ H _ (both φ ω) r.re fun J H1 e1 itd => ?_
  refine ⟨fun k m σ' H' => m = us.length - k ∧ k ≤ us.length ∧ ∃ ω' Γ', Iv k Γ' ∧ RS S.K φ ω' H' σ' Γ' ∧ Kp φ ω H ω' H' ∧ Same (hidB (both φ ω) H1) (hidB (both φ ω') H'), ⟨us.length, by simp, Nat.zero_le _, ω, Γ, h0, r.mono e1, Kp.of e1, Same.refl _⟩, ?_⟩
  rintro k m σ' H' ⟨rfl, hk, ω', Γ', iv, r', kp, sm⟩
  obtain ⟨it1, it2⟩ := itd (both φ ω') H' sm
  by_cases hlt : k < us.length
  · have huk : us[k]? = some us[k] := List.getElem?_eq_getElem hlt
    generalize us[k] = u at huk
    have hdk : (us.map g)[k]? = some (g u) := by rw [List.getElem?_map, huk]; rfl
    obtain ⟨go, yl⟩ := it1 k (g u) hdk
    refine .inr ⟨go, fun σ2 H2 => k + 1 ≤ us.length ∧ ∃ ω2 Γ2, Iv (k + 1) Γ2 ∧ RS S.K φ ω2 H2 σ2 Γ2 ∧ Kp φ ω H ω2 H2 ∧ Same (hidB (both φ ω) H1) (hidB (both φ ω2) H2), fun σ2 H2 q => ⟨us.length - (k + 1), by (first | lia | omega), rfl, q⟩, fun y H3 hy => ?_⟩
    obtain ⟨e3, ry⟩ := yl y H3 hy
    subst e3
    have c' := c.step kp
    exact ⟨k, u, Γ', huk, iv, φ, ω', r'.set ry, { n := fun ω2 σ2 H2 Γ2 h2 r2 k2 => ⟨hlt, ω2, Γ2, h2, r2, kp.trans k2, sm.trans k2.same⟩, rt := c'.rt, bk := c'.n, ct := fun ω2 σ2 H2 Γ2 h2 r2 k2 => ⟨hlt, ω2, Γ2, h2, r2, kp.trans k2, sm.trans k2.same⟩, rf := c'.rf }⟩
  · have hke : k = us.length := by (first | lia | omega)
    subst hke
    rw [List.length_map] at it2
    exact .inl ⟨it2, c.n ω' σ' H' Γ' (hd Γ' iv) r' kp⟩

end

noncomputable def spF {α : Type} (enc : α → List D) (dom : α → Prop) (res : α → D) (K : PySem.W.Frag) : Sp := fun vs H Q _ => ∃ (χ : Addr → Bool) (u : α), (∀ p, χ p = true → ∃ o : HN, H p = some o.1) ∧ Reps K (hidB χ H) (enc u) vs ∧ dom u ∧ ∀ v H', Same H H' → Rep K (hidB χ H') (res u) v → Q v H'
noncomputable def startΓ (N : List Str) (ds : List D) : List Sl := ds.map Sl.val ++ List.replicate (N.length - ds.length) Sl.no
theorem kp_same {φ : Addr → Bool} {ω' : Addr → Option (Bool × Nat)} {H H' : Hp} (k : Kp φ (fun _ => none) H ω' H') : Same H H' := fun b o h => by
  cases c : φ b with
  | true => exact k.frn b o c h
  | false => exact hid_le b o (k.same b o (hid_of (by unfold both; rw [c]; rfl) h))
theorem start_RS {K : PySem.W.Frag} {N : List Str} {χ : Addr → Bool} {H : Hp} {ds : List D} {vs : List V} (hl : ∀ p, χ p = true → ∃ o : HN, H p = some o.1) (r : Reps K (hidB χ H) ds vs) : RS K χ (fun _ => none) H (Internal.L2.start N vs) (startΓ N ds) := by
  have eb : both χ (fun _ => none) = χ := by funext b; unfold both; simp
  refine ⟨by rw [eb]; exact hl, ?_, fun i d h => ?_, fun i a es h => ?_, fun _ _ _ h => nomatch h⟩
  · unfold Internal.L2.start startΓ
    rw [List.length_append, List.length_append, List.length_map, List.length_map, List.length_replicate, List.length_replicate, r.len]
  · unfold startΓ at h
    unfold Internal.L2.start
    by_cases hi : i < ds.length
    · rw [List.getElem?_append_left (by rw [List.length_map]; exact hi), List.getElem?_map] at h
      cases q : ds[i]? with
      | none => rw [q] at h; cases h
      | some d' =>
        rw [q] at h
        have h' : Sl.val d' = Sl.val d := Option.some.inj h
        cases h'
        obtain ⟨v, ev, rv⟩ := r.get q
        refine ⟨v, ?_, by rw [eb]; exact rv⟩
        rw [List.getElem?_append_left (by rw [List.length_map, r.len]; exact hi), List.getElem?_map, ev]
        rfl
    · rw [List.getElem?_append_right (by rw [List.length_map]; (first | lia | omega)), List.getElem?_replicate] at h
      split at h <;> cases h
  · unfold startΓ at h
    by_cases hi : i < ds.length
    · rw [List.getElem?_append_left (by rw [List.length_map]; exact hi), List.getElem?_map] at h
      cases q : ds[i]? with
      | none => rw [q] at h; cases h
      | some d' => rw [q] at h; cases h
    · rw [List.getElem?_append_right (by rw [List.length_map]; (first | lia | omega)), List.getElem?_replicate] at h
      split at h <;> cases h
section
variable {P : Program} {w : World} {K : PySem.W.Frag} {mg : Str → Option Value} {base : Heap} {α : Type} {enc : α → List D} {dom : α → Prop} {res : α → D}

theorem fn_D {x qual : Str} {st : Stmt} {f : Addr} {fd : FuncData} {N ps : List Str} {k : Nat} (F : Fun K x qual st f fd) (Sc : FnScope N ps (defScope st)) (hlen : ∀ u, dom u → (enc u).length = ps.length)
    (hb : ∀ u, dom u → JB ⟨P, w, K, mg, base, k, N, defScope st, true⟩ (startΓ N (enc u)) (defBody st) { nx := fun _ => res u = .non, rt := fun d _ => d = res u }) : FnOk P w K mg base CX0 (k + 1) f fd ps (spF enc dom res K) := by
  refine F.ok Sc (fun vs H Q E h => ?_) (fun cdv A outer s H vs Q E hr h => ?_)
  · obtain ⟨χ, u, _, r, hd, _⟩ := h
    rw [r.len, hlen u hd]
  · obtain ⟨χ, u, hl, r, hd, q⟩ := h
    refine ⟨_, hb u hd _ ⟨rfl, rfl, rfl, rfl, rfl, rfl, rfl, hr, rfl, PassesOwn.never, fun _ _ => rfl, fun _ => ⟨rfl, rfl⟩⟩, χ, fun _ => none, start_RS hl r, ?_, ?_, ?_, ?_, ?_⟩
    · intro ω' σ' H' Γ' hn _ k
      refine q .non H' (kp_same k) ?_
      rw [show res u = .non from hn]; exact rfl
    · intro ω' σ' v H' d Γ' hd' _ k rv
      cases (show d = res u from hd')
      refine q v H' (kp_same k) (rv.mono (fun b o h => ?_) _)
      obtain ⟨c1, c2⟩ := hid_some h
      refine hid_of ?_ c2
      cases c : χ b with
      | false => rfl
      | true => unfold both at c1; rw [c] at c1; cases c1
    · intro _ _ _ _ h; exact h.elim
    · intro _ _ _ _ h; exact h.elim
    · intro _ _ _ _ _ _ _ h; exact h.elim

theorem e_call {S : Stat} {Γ : List Sl} {f : Addr} {fd : FuncData} {ps : List Str} {x : Str} {p pos : Pos} {e : Expr} {es : List Expr} {j : Nat} (u : α) (F : FnOk S.P S.w S.K S.mg S.base CX0 j f fd ps (spF enc dom res S.K)) (hj : j ≤ S.k) (hm : S.mg x = some (.ref f)) (hk : PySem.W.keepIn S.K (.ref f) = true) (hb : Binds S.K fd ps [])
    (ha : JA S Γ (e :: es) (enc u)) (hd : dom u) (hg : S.sc.names.lookup x = some .globalImplicit := by (try dsimp only [Internal.Stat.blk]); decide +kernel) (hdb : (x == ("__debug__" : Str)) = false := by (try dsimp only [Internal.Stat.blk]); decide +kernel)
    (he : ∀ env, starEach (e :: es) env = (false, eval e env) :: starEach es env := by intro _; rfl) (hpl : ∀ env, (backTo pos (starEach es env)).any (·.1) = false := by intro _; rfl) : JE S Γ (.Call (.Name x p) (e :: es) [] pos) (res u) := .mk fun X o => by
  have F' : FnOk X.prog X.w X.K X.mg X.base CX0 j f fd ps (spF enc dom res S.K) := by rw [o.prog, o.w, o.K, o.mg, o.base]; exact F
  refine pe_imp (pe_call F' (o.room.mono hj) (gl_of o hg) (by rw [o.mg]; exact hm) (by rw [o.K]; exact hk) (by rw [o.K]; exact hb) .nil pass0 (ha X o) hdb (he X.env) (hpl X.env)) fun σ H Q ⟨χ, R, q⟩ => ⟨χ, R, fun vs H1 e1 rvs => ?_⟩
  show spF enc dom res S.K (vs ++ []) H1 Q E0
  rw [List.append_nil]
  exact ⟨χ, u, (R.mono e1).live, rvs, hd, fun v H' e2 rv => q v H' (e1.trans e2) rv⟩

noncomputable def Def (K : PySem.W.Frag) (mg : Str → Option Value) (x : Str) (st : Stmt) (ps : List Str) : Prop := ∃ f fd, Fun K x x st f fd ∧ Binds K fd ps [] ∧ mg x = some (.ref f)
noncomputable def FnAt (P : Program) (w : World) (K : PySem.W.Frag) (mg : Str → Option Value) (base : Heap) (k : Nat) (x : Str) (ps : List Str) (sp : Sp) : Prop := ∃ f fd, mg x = some (.ref f) ∧ PySem.W.keepIn K (.ref f) = true ∧ Binds K fd ps [] ∧ FnOk P w K mg base CX0 k f fd ps sp
theorem fn_at {x : Str} {st : Stmt} {N ps : List Str} {k : Nat} (F : Def K mg x st ps) (Sc : FnScope N ps (defScope st)) (hlen : ∀ u, dom u → (enc u).length = ps.length)
    (hb : ∀ u, dom u → JB ⟨P, w, K, mg, base, k, N, defScope st, true⟩ (startΓ N (enc u)) (defBody st) { nx := fun _ => res u = .non, rt := fun d _ => d = res u }) : FnAt P w K mg base (k + 1) x ps (spF enc dom res K) := by
  obtain ⟨f, fd, F, b, m⟩ := F
  exact ⟨f, fd, m, F.kp, b, fn_D F Sc hlen hb⟩
theorem e_fn {S : Stat} {Γ : List Sl} {ps : List Str} {x : Str} {p pos : Pos} {e : Expr} {es : List Expr} {j : Nat} (F : FnAt S.P S.w S.K S.mg S.base j x ps (spF enc dom res S.K)) (u : α) (ha : JA S Γ (e :: es) (enc u)) (hd : dom u) (hj : j ≤ S.k := by exact Nat.le_of_ble_eq_true rfl)
    (hg : S.sc.names.lookup x = some .globalImplicit := by (try dsimp only [Internal.Stat.blk]); decide +kernel) (hdb : (x == ("__debug__" : Str)) = false := by (try dsimp only [Internal.Stat.blk]); decide +kernel)
    (he : ∀ env, starEach (e :: es) env = (false, eval e env) :: starEach es env := by intro _; rfl) (hpl : ∀ env, (backTo pos (starEach es env)).any (·.1) = false := by intro _; rfl) : JE S Γ (.Call (.Name x p) (e :: es) [] pos) (res u) := by
  obtain ⟨f, fd, m, kp, b, F⟩ := F
  exact e_call u F hj m kp b ha hd hg hdb he hpl

noncomputable def spLaw (K : PySem.W.Frag) : Sp := spF (fun ns : List Int => [D.lst (ns.map D.int)]) (fun ns => ns.length ≤ 63) (fun _ => .bl true) K
theorem hid_none {H : Hp} : hidB (fun _ => false) H = H := by funext b; unfold hidB; rw [if_neg Bool.false_ne_true]
theorem walk {l : PySem.W.OpenLaw} {q : Program} {loose : List Str} {XP : (Str → Option Value) → Heap → Prop} {YP : World → Heap → Prop} {d : DefRec} {K : Params → PySem.W.Frag} (hn : l.most = some 63) (hdf : d.params.defaults = [])
    (hY : ∀ (w : World) (h : Heap), YP w h → (K w.params).In h)
    (F : ∀ (w : World) (mg : Str → Option Value) (fa : Addr) (h : Heap), (K w.params).In h → h.Ns mainGlobals mg → mg d.name = some (.ref fa) →
      ∃ fd : FuncData, (∀ (s : Shared) (u : Value), BindsTo s fd ⟨[u], []⟩ [("script", u)]) ∧ ∀ base : Heap, (K w.params).In base → base.Ns mainGlobals mg → FnOk l.prog w (K w.params) mg base CX0 40 fa fd ["script"] (spLaw (K w.params))) :
    PySem.W.WalkO q loose XP YP l.row.toRowW d [] (fun f vs => PySem.call f vs) :=
  Internal.L2.walk_of (n := 63) (k := 40) (x := "script") (CX := fun _ => CX0) (sp := fun w => spLaw (K w.params)) hn (by decide) hdf ⟨rfl, rfl, by decide, by decide⟩ hY F (fun w H a ns hl _ hS => ⟨fun _ => false, ns, fun p hp => (nomatch hp), ⟨.ref a, [], rfl, ⟨a, ns.map V.int, rfl, by rw [hid_none]; exact hS, Reps.ints ns⟩, rfl⟩, hl, fun v H' _ rv => rv⟩) fun _ _ _ _ _ z => z
end
end Internal

end
section
set_option Elab.async false
set_option linter.all false
set_option maxRecDepth 100000
set_option maxHeartbeats 400000

namespace DRv
open PySem PySem.Spec PyProof.Rows
open Sem (wp)
open AutoSeq1 (wpAny_loadPart')
section
variable {prog : Program} {w : World} {A : Around} {E : Value → Shared → Prop} {s : Shared}
end
end DRv

end
section
set_option Elab.async false
set_option linter.all false
set_option maxRecDepth 100000
set_option maxHeartbeats 1000000
namespace DRv
open PySem PySem.Spec PyProof.Rows
open Sem (wp)
open AutoSeq1 (wpAny_loadPart')
section
variable {prog : Program} {w : World} {A : Around} {E : Value → Shared → Prop} {s : Shared}
end

section
variable {prog : Program} {w : World} {A : Around} {E : Value → Shared → Prop} {s : Shared}
end

open Internal.L2
section
variable {X : Cx}
variable {e : Expr} {te : TE} {pins : List (Addr × Obj)} {σ : Internal.L2.St} {H : Hp} {s : Shared} {tg : Expr} {p p' pos pos' : Pos}
end
end DRv
namespace Internal
open PySem PySem.Spec PyProof.Rows Internal.L2 DRv
section
variable {S : Stat} {Γ : List Sl} {pos pos' p p' : Pos} {e tg : Expr}
end
end Internal

end
section
set_option linter.all false

namespace Internal.BM
noncomputable abbrev Bd := List (List Int)
structure Rect (w h : Nat) (b : Bd) : Prop where
  len : b.length = h
  row : ∀ r ∈ b, r.length = w

noncomputable def mir (b : Bd) : Bd := b.map List.reverse
noncomputable def col (b : Bd) (x : Nat) : List Int := b.reverse.map fun r => r.getD x 0
noncomputable def qt (w : Nat) (b : Bd) : Bd := (List.range w).map (col b)

noncomputable def qts : Nat → Nat → Nat → Bd → Bd
  | 0, _, _, b => b
  | n + 1, w, h, b => qts n h w (qt w b)
noncomputable def turn (w h : Nat) (t : Nat) (b : Bd) : Bd := qts (t % 4) w h (if 4 ≤ t then mir b else b)
noncomputable def rowSlid (r : List Int) (a : Int) : List Int := (List.range r.length).map fun x : Nat => r.getD (((x : Int) - a) % (r.length : Int)).toNat 0
noncomputable def slid (b : Bd) (a c : Int) : Bd := (List.range b.length).map fun y : Nat => (b.map (rowSlid · a)).getD (((y : Int) - c) % (b.length : Int)).toNat []

theorem getD_lt {α : Type} (l : List α) (i : Nat) (d : α) (h : i < l.length) : l.getD i d = l[i] := by
  rw [List.getD_eq_getElem?_getD, List.getElem?_eq_getElem h]; rfl
end Internal.BM

end
section
set_option linter.all false
namespace Internal.BM

noncomputable def nxt (c : Int) : Int := (c * 48271 + 13) % 2147483647
noncomputable def it : Nat → Int → Int
  | 0, c => c
  | n + 1, c => nxt (it n c)
noncomputable def genRow (c col : Int) (k n : Nat) : List Int := (List.range n).map fun x => it (k + x + 1) c / 7 % col
noncomputable def gen (c col : Int) (w h : Nat) : Bd := (List.range h).map fun y => genRow c col (y * w) w
end Internal.BM

end
section
set_option linter.all false
namespace Internal.BM

noncomputable def cell (w h : Nat) (b : Bd) (x y : Int) : Int := (b.getD (y % (h : Int)).toNat []).getD (x % (w : Int)).toNat 0
section
variable {w h : Nat} {b : Bd}
end

noncomputable def gq : Nat → Int × Int → Int × Int
  | 0, p => p
  | k + 1, p => ((gq k p).2, -1 - (gq k p).1)
noncomputable def ga (t : Nat) (p : Int × Int) : Int × Int := if 4 ≤ t then (-1 - (gq (t % 4) p).1, (gq (t % 4) p).2) else gq (t % 4) p

structure Deed where
  t : Nat
  a : Int
  b : Int
deriving DecidableEq
noncomputable def dn (w h : Nat) (B : Bd) (d : Deed) : Bd := slid (turn w h d.t B) d.a d.b
noncomputable def tb (s t : Nat) : Nat := ((if 4 ≤ t then (t : Int) - s else (s : Int) + t) % 4).toNat + (if (decide (4 ≤ s)) != decide (4 ≤ t) then 4 else 0)

end Internal.BM

end
section
set_option Elab.async false
set_option linter.all false
set_option maxRecDepth 100000
set_option maxHeartbeats 4000000
namespace Internal
open PySem PySem.Spec PyProof.Rows Internal.L2

noncomputable abbrev rowD (r : List Int) : D := .tup (r.map D.int)
noncomputable abbrev bdD (b : Internal.BM.Bd) : D := .tup (b.map rowD)
noncomputable abbrev intsD (r : List Int) : D := .lst (r.map D.int)
section
variable {S : Stat} {Γ : List Sl} {pos p : Pos} {e a b : Expr} {tg : Expr} {α : Type} {l : List α} {f : α → D}
theorem e_lenTM (h : JE S Γ a (.tup (l.map f))) (hm : S.mg "len" = none) (hg : S.sc.names.lookup ("len" : Str) = some .globalImplicit := by (try dsimp only [Internal.Stat.blk]); decide +kernel) (hs : ∀ env, starEach [a] env = [(false, eval a env)] := by intro _; rfl) : JE S Γ (.Call (.Name "len" p) [a] [] pos) (.int (l.length : Nat)) :=
  (e_lenT h hm hg hs).cast (by rw [List.length_map])
theorem e_lenLM (h : JE S Γ a (.lst (l.map f))) (hm : S.mg "len" = none) (hg : S.sc.names.lookup ("len" : Str) = some .globalImplicit := by (try dsimp only [Internal.Stat.blk]); decide +kernel) (hs : ∀ env, starEach [a] env = [(false, eval a env)] := by intro _; rfl) : JE S Γ (.Call (.Name "len" p) [a] [] pos) (.int (l.length : Nat)) :=
  (e_lenL h hm hg hs).cast (by rw [List.length_map])
theorem atI_get {i : Int} (d : α) (h0 : 0 ≤ i) (h1 : i < (l.length : Nat)) : atI (l.map f) i = some (f (l.getD i.toNat d)) := by
  have hn : i.toNat < l.length := by (first | lia | omega)
  unfold atI ixN
  rw [List.length_map, if_pos h0, if_pos h1]
  show (l.map f)[i.toNat]? = _
  rw [List.getElem?_map, List.getElem?_eq_getElem hn, Internal.BM.getD_lt l _ d hn]
  rfl
theorem e_ixTM {i : Int} (d : α) (ha : JE S Γ a (.tup (l.map f))) (hb : JE S Γ b (.int i)) (h0 : 0 ≤ i) (h1 : i < (l.length : Nat)) (hs : PlainIx b := by intro _ _; rfl) : JE S Γ (.Subscript a b pos) (f (l.getD i.toNat d)) := e_ixT ha hb (atI_get d h0 h1) hs
theorem e_ixLM {i : Int} (d : α) (ha : JE S Γ a (.lst (l.map f))) (hb : JE S Γ b (.int i)) (h0 : 0 ≤ i) (h1 : i < (l.length : Nat)) (hs : PlainIx b := by intro _ _; rfl) : JE S Γ (.Subscript a b pos) (f (l.getD i.toNat d)) := e_ixL ha hb (atI_get d h0 h1) hs
theorem JW.cast {d d' : Bool} (h : JW S Γ e d) (q : d = d') : JW S Γ e d' := q ▸ h
noncomputable abbrev natD (i : Nat) : D := .int (i : Nat)
theorem rangeD0 (n : Nat) : rangeD 0 n = (List.range n).map natD := by
  unfold rangeD; apply List.map_congr_left; intro i _; rw [Int.zero_add]
theorem i_rngN {n : Nat} (h : JE S Γ a (.int (n : Nat))) (hm : S.mg "range" = none) (hn : n < 2 ^ 62) (hg : S.sc.names.lookup ("range" : Str) = some .globalImplicit := by (try dsimp only [Internal.Stat.blk]); decide +kernel) (hs : ∀ env, starEach [a] env = [(false, eval a env)] := by intro _; rfl) : JI S Γ tg (.Call (.Name "range" p) [a] [] pos) ((List.range n).map natD) := by
  have q := i_rng1 (tg := tg) (p := p) (pos := pos) h hm (by (first | lia | omega)) hg hs
  rw [Int.toNat_natCast, rangeD0] at q
  exact q
end

noncomputable abbrev deedD (d : Internal.BM.Deed) : D := .tup [natD d.t, .int d.a, .int d.b]
theorem eqD_deed (d e : Internal.BM.Deed) : eqD (deedD d) (deedD e) = decide (d = e) := by
  obtain ⟨t, a, b⟩ := d
  obtain ⟨t', a', b'⟩ := e
  show ((t : Int) == (t' : Int) && (a == a' && (b == b' && true))) = _
  have e1 : ((t : Int) == (t' : Int)) = (t == t') := by
    by_cases h : t = t'
    · subst h; simp
    · rw [beq_eq_false_iff_ne.mpr h, beq_eq_false_iff_ne.mpr (by (first | lia | omega))]
  rw [e1, Bool.and_true]
  by_cases h1 : t = t' <;> by_cases h2 : a = a' <;> by_cases h3 : b = b' <;> simp [h1, h2, h3]
theorem cmp_row (n : Nat) (r r' : List Int) : CmpOk (n + 1) (rowD r) (rowD r') := .inr (.inl ⟨_, _, rfl, rfl, fun j x y hx hy => by
  rw [List.getElem?_map] at hx hy
  obtain ⟨a, _, rfl⟩ := Option.map_eq_some_iff.mp hx
  obtain ⟨b, _, rfl⟩ := Option.map_eq_some_iff.mp hy
  cases n with
  | zero => exact ⟨rfl, rfl⟩
  | succ n => exact .inl ⟨rfl, rfl⟩⟩)
theorem cmp_ints (n : Nat) (r r' : List Int) : CmpOk (n + 1) (intsD r) (intsD r') := .inr (.inr ⟨_, _, rfl, rfl, fun j x y hx hy => by
  rw [List.getElem?_map] at hx hy
  obtain ⟨a, _, rfl⟩ := Option.map_eq_some_iff.mp hx
  obtain ⟨b, _, rfl⟩ := Option.map_eq_some_iff.mp hy
  cases n with
  | zero => exact ⟨rfl, rfl⟩
  | succ n => exact .inl ⟨rfl, rfl⟩⟩)
theorem cmp_deed (n : Nat) (d e : Internal.BM.Deed) : CmpOk (n + 1) (deedD d) (deedD e) := cmp_row n [(d.t : Int), d.a, d.b] [(e.t : Int), e.a, e.b]
section
variable {S : Stat} {Γ : List Sl} {pos : Pos} {a b : Expr}
theorem e_eqDd {x y : Internal.BM.Deed} (ha : JE S Γ a (deedD x)) (hb : JE S Γ b (deedD y)) : JE S Γ (.Compare a [.Eq] [b] pos) (.bl (decide (x = y))) := eqD_deed x y ▸ e_eqD (d := deedD x) (d' := deedD y) (n := 0) ha hb trivial (cmp_deed 0 x y)
end

open Internal.BM
structure BdIn (w h : Nat) (b : Bd) : Prop where
  r : Rect w h b
  w0 : 0 < w
  h0 : 0 < h
  w1 : w ≤ 1000
  h1 : h ≤ 1000
theorem BdIn.row0 {w h : Nat} {b : Bd} (q : BdIn w h b) : (b.getD 0 []).length = w := by
  rw [getD_lt b 0 [] (by rw [q.r.len]; exact q.h0)]
  exact q.r.row _ (List.getElem_mem _)
theorem m8 (c : Int) (n : Nat) (hn : 0 < n) : ∃ w : Nat, 1 + c % (n : Int) = (w : Int) ∧ 1 ≤ w ∧ w ≤ n := by
  have h1 := Int.emod_nonneg c (show (n : Int) ≠ 0 by (first | lia | omega))
  have h2 := Int.emod_lt_of_pos c (show (0 : Int) < n by (first | lia | omega))
  exact ⟨(1 + c % (n : Int)).toNat, by (first | lia | omega), by (first | lia | omega), by (first | lia | omega)⟩
theorem m0 (c : Int) (n : Nat) (hn : 0 < n) : ∃ w : Nat, c % (n : Int) = (w : Int) ∧ w < n := by
  have h1 := Int.emod_nonneg c (show (n : Int) ≠ 0 by (first | lia | omega))
  have h2 := Int.emod_lt_of_pos c (show (0 : Int) < n by (first | lia | omega))
  exact ⟨(c % (n : Int)).toNat, by (first | lia | omega), by (first | lia | omega)⟩
end Internal

end
section
set_option Elab.async false
set_option linter.all false
set_option maxRecDepth 100000
set_option maxHeartbeats 4000000
namespace Internal
open PySem PySem.Spec PyProof.Rows Internal.L2

section
variable {X : Cx}
theorem vals_strs : ∀ {ts : List Str} {us : List Value}, Vals (ts.map V.str) us → ∃ l, us = strValues l ∧ l.map (·.1) = ts
  | [], _, .nil => ⟨[], rfl, rfl⟩
  | t :: ts, _, .cons r h => by
    obtain ⟨k, rfl⟩ := r
    obtain ⟨l, rfl, e⟩ := vals_strs h
    exact ⟨(t, k) :: l, rfl, by rw [List.map_cons, e]⟩
theorem mt_join : MtR X "str.join" (fun x xs H Q => ∃ sep p ts, x = .str sep ∧ xs = [.ref p] ∧ SqL X.K H p (ts.map V.str) ∧ JoinOk sep ts = true ∧ Q (.str (Str.join sep ts)) H) := by
  intro pins s σ H x vs v us Q I rx rv h
  obtain ⟨sep, p, ts, rfl, rfl, sq, ok, q⟩ := h
  obtain ⟨t, rfl⟩ := rx
  obtain ⟨u, rfl, ru⟩ := rv.one
  cases ru
  obtain ⟨its, rvs, pl, _⟩ := I.list sq
  obtain ⟨l, rfl, el⟩ := vals_strs rvs
  refine SC.join pl.isList el ok fun t' k => ⟨.str (Str.join sep ts), H, I.tok k, ⟨t', ?_⟩, q⟩
  show Value.str (Builtin.Str.glued sep ts) t' = _
  rw [StrLaws.glued_eq_join]
noncomputable def chD (c : Nat) : D := .str ⟨#[c]⟩

noncomputable def Its (x : Str) : It := ⟨fun i _ => i < x.cps.size, fun i H y H' => H' = H ∧ ∃ c, x.cps[i]? = some c ∧ y = .str ⟨#[c]⟩, fun i _ => x.cps.size ≤ i⟩
theorem turn_str {P : Program} {w : World} {K : PySem.W.Frag} {tg : Expr} (it : Addr) (x : Str) (t : Tok) (wd : Bool) : Turn P w K tg (Its x) [it] it (fun i h => i ≤ x.cps.size ∧ h.IsStrIter it (if wd then "str_iterator" else "str_ascii_iterator") x t i) where
  mem := by simp
  obj := fun i h st b hb => by
    have e : b = it := by simpa using hb
    subst e
    obtain ⟨_, o, e, c, d⟩ := st
    exact ⟨o, e, fun v z => by rw [d] at z; cases z⟩
  keep := fun i h h' st k => let ⟨z, o, e, r⟩ := st; ⟨z, o, k it (by simp) o e, r⟩
  item := by
    intro X hP hw hK hc i pins s σ H E I hf st hg
    subst hP hw hK
    obtain ⟨hz, st⟩ := st
    obtain ⟨f0, f1, f2, f3, f4, f5⟩ := hf it (by simp)
    have hi : i < x.cps.size := hg
    have go : ∀ (h' : Heap) (tk : Tok), h'.IsStrIter it (if wd then "str_iterator" else "str_ascii_iterator") x t (i + 1) → (∀ b o, b ≠ it → s.heap.get? b = some o → h'.get? b = some o) →
        ∃ u, some (Value.str ⟨#[x.cps[i]]⟩ tk) = some u ∧ wpAny (model X.prog X.w) X.A (letOwnedTupleGo tg (.ref it) u) (fun _ s2 => ∃ y H', Internal.L2.Inv X pins σ H' s2 ∧ RelV y u ∧ (Its x).yld i H y H' ∧ (i + 1 ≤ x.cps.size ∧ s2.heap.IsStrIter it (if wd then "str_iterator" else "str_ascii_iterator") x t (i + 1)) ∧ ∀ b ∈ [it], H' b = none) E { s with heap := h', toks := s.toks + 1 } := by
      intro h' tk st' kk
      have I1 : Internal.L2.Inv X pins σ H { s with heap := h', toks := s.toks + 1 } := I.turned (fun b o hb e => kk b o hb e) f0 f1 f3 f4 f5
      obtain ⟨o, e, c, d⟩ := id st'
      refine ⟨_, rfl, go_of (s := { s with heap := h', toks := s.toks + 1 }) e c d (by cases wd <;> decide) ⟨.str ⟨#[x.cps[i]]⟩, H, I1, ⟨tk, rfl⟩, ⟨rfl, x.cps[i], by simp [hi], rfl⟩, ⟨hi, st'⟩, fun b hb => (hf b hb).1⟩⟩
    cases wd with
    | true => exact wpAny_pyNext_wide_item st (c := x.cps[i]) (by simp [hi]) fun h' st' sb => go h' _ st' fun b o hb e => (sb.2 b hb).trans e
    | false => exact wpAny_pyNext_ascii_item st (c := x.cps[i]) (by simp [hi]) fun h' st' sb => go h' _ st' fun b o hb e => (sb.2 b hb).trans e
  done := by
    intro X hP hw hK hc i pins s σ H E I hf st hg
    subst hP hw hK
    obtain ⟨hz, st⟩ := st
    have hg' : x.cps.size ≤ i := hg
    have hi : i = x.cps.size := Nat.le_antisymm hz hg'
    obtain ⟨f0, f1, f2, f3, f4, f5⟩ := hf it (by simp)
    subst hi
    cases wd with
    | true => exact wpAny_pyNext_wide_end (I.ok.hd hc) st (by simp) fun h' eb => ⟨rfl, I.turned (t' := s.toks) (fun b o hb e => eb b o hb e) f0 f1 f3 f4 f5⟩
    | false => exact wpAny_pyNext_ascii_end (I.ok.hd hc) st (by simp) fun h' eb => ⟨rfl, I.turned (t' := s.toks) (fun b o hb e => eb b o hb e) f0 f1 f3 f4 f5⟩
  self := fun _ _ _ _ _ st h => by
    obtain ⟨_, st⟩ := st
    cases wd with
    | true => exact wpAny_pyIter_striter_wide st h
    | false => exact wpAny_pyIter_striter_ascii st h
noncomputable def iStr (te : TE) : TI := fun σ H R => te σ H fun y H1 => ∃ x, y = .str x ∧ R (Its x) H1
theorem pi_str {tg e : Expr} {te : TE} (he : PE X e te) : PI X tg e (iStr te) := by
  intro pins s σ H R I h
  refine thn (he pins s σ H _ I h) fun v s1 hP35 => ?_
  obtain ⟨y, H1, I1, r1, q1⟩ := hP35
  obtain ⟨x, rfl, q⟩ := q1
  obtain ⟨t, rfl⟩ := r1
  have fp : ∀ b ∈ [s1.heap.objs.size], FpOk X pins H1 b := fun b hb => by
    have e : b = s1.heap.objs.size := by simpa using hb
    subst e
    exact I1.fpOk (Nat.le_refl _) (I1.hok.fresh (Nat.le_refl _))
  cases ha : x.cps.all (· < 128) with
  | true =>
    refine wpAny_pyIter_ascii ha ⟨s1.heap.objs.size, [s1.heap.objs.size], _, _, H1, rfl, I1.kept (t' := s1.toks) fun b o e => Heap.get?_push_of_some _ e, turn_str _ x t false, ⟨Nat.zero_le _, _, Heap.get?_push_size _ rfl, rfl, rfl⟩, fp, q⟩
  | false =>
    refine wpAny_pyIter_wide ha ⟨s1.heap.objs.size, [s1.heap.objs.size], _, _, H1, rfl, I1.kept (t' := s1.toks) fun b o e => Heap.get?_push_of_some _ e, turn_str _ x t true, ⟨Nat.zero_le _, _, Heap.get?_push_size _ rfl, rfl, rfl⟩, fp, q⟩
end
section
variable {S : Stat} {Γ : List Sl} {E : DEnds} {pos p p' apos cpos : Pos} {e a b o : Expr} {tg : Expr}
theorem i_str {x : Str} (h : JE S Γ e (.str x)) : JI S Γ tg e (x.cps.toList.map chD) := ⟨iStr (dE S.K Γ (.str x)), fun X o => pi_str (h X o), fun σ H R χ r q => ⟨χ, r, fun v H' e' rv => by
  cases (show v = _ from rv)
  refine ⟨x, rfl, q _ H' e' fun χ2 H2 e2 => ⟨fun i d hd => ?_, ?_⟩⟩
  · rw [List.getElem?_map] at hd
    obtain ⟨c, hc, rfl⟩ := Option.map_eq_some_iff.mp hd
    have hc' : x.cps[i]? = some c := by rw [← Array.getElem?_toList]; exact hc
    refine ⟨(Array.getElem?_eq_some_iff.mp hc').1, fun y H3 ⟨e3, c', h1, h2⟩ => ⟨e3, ?_⟩⟩
    rw [hc'] at h1
    cases h1
    exact h2
  · rw [List.length_map, Array.length_toList]; exact Nat.le_refl _⟩⟩
theorem e_addS {i j : Str} (ha : JE S Γ a (.str i)) (hb : JE S Γ b (.str j)) (hl : i.length + j.length ≤ sizeLine) : JE S Γ (.BinOp a .Add b pos) (.str (i ++ j)) := e_op (fun _ _ => op_add_str) ha hb fun _ H _ _ _ _ rx ry q => ⟨i, j, rx, ry, hl, q _ H (Same.refl H) rfl⟩
theorem e_ixS {x : Str} {i : Int} {c : Nat} (ha : JE S Γ a (.str x)) (hb : JE S Γ b (.int i)) (h : atI x.cps.toList i = some c) (hx : x.length ≤ sizeLine) (hs : PlainIx b := by intro _ _; rfl) : JE S Γ (.Subscript a b pos) (chD c) := .mk fun X o =>
  pe_imp (pe_ix ix_str (ha X o) (hb X o) hs) (tOp_imp fun χ H x' y Q _ rx ry q => ⟨x, i, c, rx, ry, hx, h, q _ H (Same.refl H) rfl⟩)
theorem inS_one (x : Str) (c : Nat) : (!(Builtin.Str.occurrences x ⟨#[c]⟩ 0 x.length 1).isEmpty) = decide (c ∈ x.cps.toList) := StrLaws.found_one x c
theorem t_inS {x : Str} {c : Nat} (ha : JE S Γ a (chD c)) (hb : JE S Γ b (.str x)) (hm : behindInMarks .In b = false := by rfl) : JT S Γ (.Compare a [.In] [b] pos) (decide (c ∈ x.cps.toList)) :=
  t_cmp (fun _ _ => op_in_str) ha hb hm fun _ H x' y _ _ rx ry q => ⟨⟨#[c]⟩, x, rx, ry, by rw [inS_one]; exact q _ H (Same.refl H) rfl⟩
theorem reps_strs {K : PySem.W.Frag} {H : Hp} : ∀ {ts : List Str} {vs : List V}, Reps K H (ts.map D.str) vs → vs = ts.map V.str
  | [], _, h => h
  | t :: ts, _, ⟨v, r, e, rv, rs⟩ => by rw [e, show v = .str t from rv, reps_strs rs]; rfl
theorem e_join {sep : Str} {ts : List Str} (ho : JE S Γ o (.str sep)) (ha : JE S Γ e (.lst (ts.map D.str))) (ok : JoinOk sep ts = true) (hbase : ∀ env, attributeBase o "join" env (eval o env) = eval o env := by intro _; rfl)
    (hfew : ∀ env, ((backTo cpos (starEach [e] env)).all (fun x => !x.1) && (backToKw cpos (keywordEach [] env)).all (fun x => x.1.isSome)
      && decide ([e].length + ([] : List Keyword).length + (if ([] : List Keyword).isEmpty then 0 else 1) < 30)) = true := by intro _; rfl)
    (hline : (apos.endLine == cpos.line) = true := by rfl) (hs : ∀ env, starEach [e] env = [(false, eval e env)] := by intro _; rfl) : JE S Γ (.Call (.Attribute o "join" apos) [e] [] cpos) (.str (Str.join sep ts)) := .mk fun X oo =>
  pe_imp (pe_bm PySem.F.plainAttrs_str PySem.F.slot_str_join PySem.F.type_str_join mt_join (ho X oo) ((a_cons ha a_nil hs) X oo) (hbase X.env) (hfew X.env) hline (hs X.env)) fun σ H Q ⟨χ, R, q⟩ => ⟨χ, R, fun v H1 e1 rv => by
    cases (show v = _ from rv)
    refine ⟨rfl, χ, R.mono e1, fun ws H2 e2 rws => ?_⟩
    obtain ⟨v, rfl, ad, vs, rfl, sq, rs⟩ := reps1 rws
    cases (reps_strs rs)
    refine ⟨sep, ad, ts, rfl, rfl, ?_, ok, q _ H2 (e1.trans e2) rfl⟩
    rw [oo.K]; exact Same.seq hid_le sq⟩

theorem inv_xe {X : Cx} {pins : List (Addr × Obj)} {σ : Internal.L2.St} {H : Hp} {s : Shared} {xe : Value → Shared → Prop} (I : Internal.L2.Inv X pins σ H s) : Internal.L2.Inv { X with xe := xe } pins σ H s :=
  ⟨⟨I.ok.mod, I.ok.kind, I.ok.glob, I.ok.blt, I.ok.above, I.ok.inj, I.ok.has, I.ok.cab, I.ok.hd, I.ok.frames, I.ok.stk, I.ok.exf, I.ok.bs, I.ok.bsz, I.ok.noex, I.ok.exfs, I.ok.funs, I.ok.frf⟩, I.os, I.bare, I.base, I.loc, I.cell, I.free, I.freeC, I.pin, I.hok, I.len⟩
theorem of_xe {X : Cx} {xe : Value → Shared → Prop} (o : S.Of X) (h : PassesOwn (model X.prog X.w) X.A X.env xe) : S.Of { X with xe := xe } := ⟨o.prog, o.w, o.K, o.mg, o.base, o.N, o.sc, o.room, o.calm, h, o.fn, o.stk⟩
end
end Internal

end
section
set_option Elab.async false
set_option linter.all false
set_option maxRecDepth 100000
set_option maxHeartbeats 4000000
namespace Internal
open PySem PySem.Spec PyProof.Rows Internal.L2

noncomputable def sl (l : List Nat) : Str := ⟨l.toArray⟩
theorem sl_cps (l : List Nat) : (sl l).cps.toList = l := by simp [sl]
theorem sl_len (l : List Nat) : (sl l).length = l.length := by simp [sl, Str.length]
theorem sl_app (a b : List Nat) : sl a ++ sl b = sl (a ++ b) := StrLaws.mk_of_toList (by rw [Str.cps_append]; simp [sl])
theorem joinE (ls : List (List Nat)) : Str.join (sl []) (ls.map sl) = sl ls.flatten := by
  induction ls with
  | nil => rfl
  | cons x r ih =>
    cases r with
    | nil => show sl x = _; simp
    | cons y r =>
      show sl x ++ sl [] ++ Str.join (sl []) ((y :: r).map sl) = _
      rw [ih, sl_app, sl_app]; simp
theorem join_ok {sep : Str} {ts : List Str} {B : Nat} (hB : ∀ y ∈ ts, y.length ≤ B) (h : ts.length * B + ts.length * sep.length ≤ 16777216) : JoinOk sep ts = true := by
  unfold JoinOk
  rw [StrLaws.joinFits hB h]; rfl

section
variable {S : Stat} {Γ : List Sl} {pos p2 : Pos} {a b : Expr}
theorem same_none {H H' : Hp} (e : Same H H') {l : Addr} (h : H' l = none) : H l = none := by
  cases c : H l with
  | none => rfl
  | some o => rw [e _ _ c] at h; cases h
theorem hid_new {χ : Addr → Bool} {H : Hp} {l : Addr} {o : HO} (h : H l = none) : Same (hidB χ H) (hidB (fun b => χ b || b == l) (upd H l o)) := fun b u q => by
  obtain ⟨c1, c2⟩ := hid_some q
  have hne : b ≠ l := ne_of_none c2 h
  exact hid_of (by rw [c1, Bool.false_or]; simpa using hne) (by rw [upd_ne hne]; exact c2)
end

end Internal

end
section
set_option Elab.async false
set_option linter.all false
set_option maxRecDepth 100000
set_option maxHeartbeats 4000000
namespace Internal
open PySem PySem.Spec PyProof.Rows Internal.L2

noncomputable def unh (χ : Addr → Bool) (p : Addr) : Addr → Bool := fun b => χ b && !(b == p)
theorem unh_same {χ : Addr → Bool} {p : Addr} {H : Hp} : Same (hidB χ H) (hidB (unh χ p) H) := fun b o h => by
  obtain ⟨c1, c2⟩ := hid_some h
  exact hid_of (by unfold unh; rw [c1]; rfl) c2
theorem RE.lend {K : PySem.W.Frag} {χ : Addr → Bool} {H : Hp} {σ : Internal.L2.St} {Γ : List Sl} (r : RE K χ H σ Γ) {i : Nat} {a : Bool} {ds : List D} (hi : Γ[i]? = some (.li a ds)) :
    ∃ p vs, H p = some (.lst vs) ∧ χ p = true ∧ RE K (unh χ p) H σ (Γ.set i (.val (.lst ds))) := by
  obtain ⟨p, vs, h1, h2, h3, h4⟩ := r.ownL i a ds hi
  have hlt := (List.getElem?_eq_some_iff.mp hi).1
  refine ⟨p, vs, h3, h2, ⟨fun b hb => ?_, by rw [List.length_set]; exact r.len, fun j d hj => ?_, fun j a2 es hj => ?_, fun j j' b b' es es' q a1 a2 a3 a4 => ?_⟩⟩
  · refine r.live b ?_
    unfold unh at hb
    rw [Bool.and_eq_true] at hb
    exact hb.1
  · by_cases e : i = j
    · subst e
      rw [List.getElem?_set_self hlt] at hj
      cases hj
      exact ⟨.ref p, h1, p, vs, rfl, SqL.of (hid_of (by unfold unh; simp) h3), Reps.mono unh_same _ h4⟩
    · rw [List.getElem?_set_ne e] at hj
      obtain ⟨v, ev, rv⟩ := r.val j d hj
      exact ⟨v, ev, rv.mono unh_same d⟩
  · by_cases e : i = j
    · subst e
      rw [List.getElem?_set_self hlt] at hj
      cases hj
    · rw [List.getElem?_set_ne e] at hj
      obtain ⟨q, ws, b1, b2, b3, b4⟩ := r.own j a2 es hj
      have hne : q ≠ p := fun z => by
        subst z
        exact e (r.inj i j a a2 _ es q hi hj h1 b1)
      exact ⟨q, ws, b1, by unfold unh; rw [b2]; simpa using hne, b3, CRep.mono unh_same _ b4⟩
  · have ne : ∀ {k : Nat} {c : Bool} {fs : Ct}, (Γ.set i (.val (.lst ds)))[k]? = some (.ll c fs) → i ≠ k := fun {k c fs} h z => by
      subst z
      rw [List.getElem?_set_self hlt] at h
      cases h
    have n1 := ne a1
    have n2 := ne a2
    rw [List.getElem?_set_ne n1] at a1
    rw [List.getElem?_set_ne n2] at a2
    exact r.inj j j' b b' es es' q a1 a2 a3 a4
section
variable {S : Stat} {Γ : List Sl} {e : Expr}
theorem t_bor (i : Nat) {a : Bool} {ds : List D} {b : Bool} (hi : Γ[i]? = some (.li a ds)) (h : JT S (Γ.set i (.val (.lst ds))) e b) : JT S Γ e b := .mk fun X o => pt_imp (h X o) fun σ H Q hP36 => by
  obtain ⟨χ, R, q⟩ := hP36
  obtain ⟨p, vs, hp, _, R'⟩ := R.lend hi
  exact ⟨unh χ p, R', q⟩
end
end Internal

end
section
set_option Elab.async false
set_option linter.all false
set_option maxRecDepth 100000
set_option maxHeartbeats 4000000
namespace Internal
open PySem PySem.Spec PyProof.Rows Internal.L2
noncomputable def forBody : Stmt → List Stmt
  | .For _ _ b _ _ => b
  | _ => []

noncomputable def spFr {α : Type} (enc : α → List D) (dom : α → Prop) (res : α → List D) (K : PySem.W.Frag) : Sp := fun vs H Q _ => ∃ (χ : Addr → Bool) (u : α), (∀ p, χ p = true → ∃ o : HN, H p = some o.1) ∧ Reps K (hidB χ H) (enc u) vs ∧ dom u ∧
  ∀ l ws H', H l = none → Same H H' → H' l = some (.lst ws) → Reps K (hidB (fun b => χ b || b == l) H') (res u) ws → Q (.ref l) H'
section
variable {P : Program} {w : World} {K : PySem.W.Frag} {mg : Str → Option Value} {base : Heap} {α : Type} {enc : α → List D} {dom : α → Prop} {res : α → List D}
theorem both_le {χ : Addr → Bool} {ω : Addr → Option (Bool × Nat)} {l : Addr} {H : Hp} : Same (hidB (fun b => both χ ω b || b == l) H) (hidB (fun b => χ b || b == l) H) := fun b o h => by
  obtain ⟨c1, c2⟩ := hid_some h
  refine hid_of ?_ c2
  cases c : χ b with
  | true => unfold both at c1; rw [c] at c1; simp at c1
  | false =>
    rw [Bool.false_or]
    cases c3 : (b == l) with
    | false => rfl
    | true => rw [c3] at c1; simp at c1
theorem fnr_at {x : Str} {st : Stmt} {N ps : List Str} {k : Nat} (F : Def K mg x st ps) (Sc : FnScope N ps (defScope st)) (hlen : ∀ u, dom u → (enc u).length = ps.length)
    (hb : ∀ u, dom u → JB ⟨P, w, K, mg, base, k, N, defScope st, true⟩ (startΓ N (enc u)) (defBody st) { nx := fun _ => False, rt := fun _ _ => False, rf := fun ds _ => ds = res u }) : FnAt P w K mg base (k + 1) x ps (spFr enc dom res K) := by
  obtain ⟨f, fd, F, b, m⟩ := F
  refine ⟨f, fd, m, F.kp, b, F.ok Sc (fun vs H Q E h => ?_) (fun cdv A outer s H vs Q E hr h => ?_)⟩
  · obtain ⟨χ, u, _, r, hd, _⟩ := h
    rw [r.len, hlen u hd]
  · obtain ⟨χ, u, hl, r, hd, q⟩ := h
    refine ⟨_, hb u hd _ ⟨rfl, rfl, rfl, rfl, rfl, rfl, rfl, hr, rfl, PassesOwn.never, fun _ _ => rfl, fun _ => ⟨rfl, rfl⟩⟩, χ, fun _ => none, start_RS hl r, ?_, ?_, ?_, ?_, ?_⟩
    · intro _ _ _ _ h; exact h.elim
    · intro _ _ _ _ _ _ h; exact h.elim
    · intro _ _ _ _ h; exact h.elim
    · intro _ _ _ _ h; exact h.elim
    · intro ω' σ' l vs' H' ds Γ' hds _ k hl' hv rs
      cases (show ds = res u from hds)
      rcases hl' with ⟨j, hj⟩ | hl'
      · cases hj
      · exact q l vs' H' hl' (kp_same k) hv (Reps.mono both_le _ rs)
theorem f_fn {S : Stat} {Γ : List Sl} {ps : List Str} {x : Str} {p pos : Pos} {e : Expr} {es : List Expr} {j : Nat} (F : FnAt S.P S.w S.K S.mg S.base j x ps (spFr enc dom res S.K)) (u : α) (ha : JA S Γ (e :: es) (enc u)) (hd : dom u) (hj : j ≤ S.k := by exact Nat.le_of_ble_eq_true rfl)
    (hg : S.sc.names.lookup x = some .globalImplicit := by (try dsimp only [Internal.Stat.blk]); decide +kernel) (hdb : (x == ("__debug__" : Str)) = false := by (try dsimp only [Internal.Stat.blk]); decide +kernel)
    (he : ∀ env, starEach (e :: es) env = (false, eval e env) :: starEach es env := by intro _; rfl) (hpl : ∀ env, (backTo pos (starEach es env)).any (·.1) = false := by intro _; rfl) : JF S Γ (.Call (.Name x p) (e :: es) [] pos) (res u) := .mk fun X o => by
  obtain ⟨f, fd, m, kp, b, F⟩ := F
  have F' : FnOk X.prog X.w X.K X.mg X.base CX0 j f fd ps (spFr enc dom res S.K) := by rw [o.prog, o.w, o.K, o.mg, o.base]; exact F
  refine pe_imp (pe_call F' (o.room.mono hj) (gl_of o hg) (by rw [o.mg]; exact m) (by rw [o.K]; exact kp) (by rw [o.K]; exact b) .nil pass0 (ha X o) hdb (he X.env) (hpl X.env)) fun σ H Q ⟨χ, R, q⟩ => ⟨χ, R, fun vs H1 e1 rvs => ?_⟩
  show spFr enc dom res S.K (vs ++ []) H1 Q E0
  rw [List.append_nil]
  exact ⟨χ, u, (R.mono e1).live, rvs, hd, fun l ws H' hl e2 hv rs => q l ws H' (same_none e1 hl) (e1.trans e2) hv rs⟩

theorem e_fnr {S : Stat} {Γ : List Sl} {ps : List Str} {x : Str} {p pos : Pos} {e : Expr} {es : List Expr} {j : Nat} (F : FnAt S.P S.w S.K S.mg S.base j x ps (spFr enc dom res S.K)) (u : α) (ha : JA S Γ (e :: es) (enc u)) (hd : dom u) (hj : j ≤ S.k := by exact Nat.le_of_ble_eq_true rfl)
    (hg : S.sc.names.lookup x = some .globalImplicit := by (try dsimp only [Internal.Stat.blk]); decide +kernel) (hdb : (x == ("__debug__" : Str)) = false := by (try dsimp only [Internal.Stat.blk]); decide +kernel)
    (he : ∀ env, starEach (e :: es) env = (false, eval e env) :: starEach es env := by intro _; rfl) (hpl : ∀ env, (backTo pos (starEach es env)).any (·.1) = false := by intro _; rfl) : JE S Γ (.Call (.Name x p) (e :: es) [] pos) (.lst (res u)) := (f_fn F u ha hd hj hg hdb he hpl).je
end

noncomputable def But (p : Addr) (H H' : Hp) : Prop := ∀ b o, b ≠ p → H b = some o → H' b = some o
section
variable {P : Program} {w : World} {K : PySem.W.Frag} {mg : Str → Option Value} {base : Heap} {α : Type} {enc ow ow' : α → List D} {dom : α → Prop} {res : α → D}
end
end Internal

end
section
set_option Elab.async false
set_option linter.all false
set_option maxRecDepth 100000
set_option maxHeartbeats 4000000
namespace Internal
open PySem PySem.Spec PyProof.Rows Internal.L2

noncomputable def dM (K : PySem.W.Frag) (Γ : List Sl) (i : Nat) (ds' : List D) (d : D) : TE := fun σ H Q => ∃ χ, RE K χ H σ Γ ∧ ∀ p, σ[i]? = some (some (.ref p)) → ∀ v ws' H', But p H H' → H' p = some (.lst ws') → Reps K (hidB χ H') ds' ws' → Rep K (hidB χ H') d v → Q v H'
structure JM (S : Stat) (Γ : List Sl) (i : Nat) (e : Expr) (ds' : List D) (d : D) : Prop where
  run : ∀ X, S.Of X → PE X e (dM S.K Γ i ds' d)
noncomputable instance {S : Stat} {Γ : List Sl} {i : Nat} {e : Expr} {ds' : List D} {d : D} : CoeFun (JM S Γ i e ds' d) fun _ => ∀ X, S.Of X → PE X e (dM S.K Γ i ds' d) := ⟨fun h => h.run⟩
section
variable {S : Stat} {Γ : List Sl} {E : DEnds} {i : Nat} {e : Expr} {es : List Expr} {x : Str} {p pos : Pos}
end
section
variable {K : PySem.W.Frag} {φ : Addr → Bool} {ω : Addr → Option (Bool × Nat)} {H H' : Hp} {σ : Internal.L2.St} {Γ : List Sl}
end
section
variable {S : Stat} {Γ : List Sl} {E : DEnds} {i j : Nat} {e a b : Expr} {x y : Str} {p pos pos' : Pos}

theorem s_clear (i : Nat) {ds : List D} {al : Bool} {apos cpos : Pos} (hΓ : Γ[i]? = some (.li al ds)) (h : E.nx (Γ.set i (.li al []))) (hi : S.N[i]? = some x := by (try dsimp only [Internal.Stat.blk]); decide +kernel) (hv : Vis S.sc x := by (try dsimp only [Internal.Stat.blk]); decide +kernel)
    (h1 : (x == ("__debug__" : Str)) = false := by (try dsimp only [Internal.Stat.blk]); decide +kernel) (h2 : (x == ("__classdict__" : Str)) = false := by (try dsimp only [Internal.Stat.blk]); decide +kernel)
    (hbase : ∀ env, attributeBase (.Name x p) "clear" env (eval (.Name x p) env) = eval (.Name x p) env := by intro _; rfl)
    (hline : (apos.endLine == cpos.line) = true := by rfl) (hsw : ∀ X : Cx, swapsWith (.Call (.Attribute (.Name x p) "clear" apos) [] [] cpos) none pos.line X.env = pure false := by intro _; rfl) :
    JS S Γ (.Expr (.Call (.Attribute (.Name x p) "clear" apos) [] [] cpos) pos) E := .mk fun X o => by
  refine ps_imp (ps_expr (pe_bm0 PySem.F.plainAttrs_list PySem.F.slot_list_clear PySem.F.type_list_clear mt_clear (pe_var (i := i) (by rw [o.N]; exact hi) (by rw [o.sc]; exact hv) h1 h2) (hbase X.env) hline) (hsw X)) fun Z σ H hP37 => ?_
  obtain ⟨φ, ω, r, c⟩ := hP37
  obtain ⟨l, vs, hσ, hω, φl, hH, hr⟩ := r.ownL i al ds hΓ
  refine ⟨.ref l, hσ, .inl ⟨rfl, vs, SqL.of hH⟩, l, vs, rfl, rfl, hH, ?_⟩
  obtain ⟨r', k⟩ := r.put (ds' := []) (vs' := []) hΓ hω hσ rfl φl
  exact c.n ω σ _ _ h r' k
end
end Internal

end
section
set_option Elab.async false
set_option linter.all false
set_option maxRecDepth 100000
set_option maxHeartbeats 4000000
namespace DRg
open PySem PySem.Spec PyProof.Rows
open Sem (wp)
open AutoSeq1 (wpAny_loadPart')
section
variable {prog : Program} {w : World} {A : Around} {E : Value → Shared → Prop} {s : Shared}

end
end DRg
namespace Internal
open PySem PySem.Spec PyProof.Rows Internal.L2
section
variable {X : Cx} {pins : List (Addr × Obj)} {σ : Internal.L2.St} {H : Hp} {s : Shared}
theorem acc_rng {a c : Int} {n : Nat} {acc : Array Value} (h : ItemsOf (fun i v => ∃ t, v = .int (a + i * c) t) acc n) : Vals ((List.range n).map fun i : Nat => V.int (a + i * c)) acc.toList := by
  have key : ∀ (l : List Value) (k : Nat), (∀ j v, l[j]? = some v → ∃ t, v = Value.int (a + ((k + j : Nat) : Int) * c) t) → Vals ((List.range' k l.length).map fun i : Nat => V.int (a + i * c)) l := by
    intro l
    induction l with
    | nil => intro k _; exact .nil
    | cons v l ih =>
      intro k hk
      rw [List.length_cons, List.range'_succ, List.map_cons]
      refine .cons (by have q := hk 0 v rfl; rw [Nat.add_zero] at q; exact q) (ih (k + 1) fun j w hj => ?_)
      obtain ⟨t, e⟩ := hk (j + 1) w (by simpa using hj)
      exact ⟨t, by rw [e, show k + (j + 1) = k + 1 + j by (first | lia | omega)]⟩
  have := key acc.toList 0 fun j v hj => by
    obtain ⟨t, e⟩ := h.2 j v (by simpa using hj)
    exact ⟨t, by rw [e, Nat.zero_add]⟩
  rw [Array.length_toList, h.1, ← List.range_eq_range'] at this
  exact this
end
section
variable {S : Stat} {Γ : List Sl} {pos p p' pos' : Pos} {a b : Expr}
theorem reps_of_ints {K : PySem.W.Frag} {H : Hp} {α : Type} (f : α → Int) : ∀ l : List α, Reps K H (l.map fun x => D.int (f x)) (l.map fun x => V.int (f x))
  | [] => rfl
  | x :: l => ⟨_, _, rfl, rfl, reps_of_ints f l⟩
end
end Internal

end
section
set_option Elab.async false
set_option linter.all false
set_option maxRecDepth 100000
set_option maxHeartbeats 4000000
namespace Internal
open PySem PySem.Spec PyProof.Rows Internal.L2
open AutoSeq1 (wpAny_loadPart')

section
variable {X : Cx} {pins : List (Addr × Obj)} {σ : Internal.L2.St} {H : Hp} {s : Shared}
open Classical in
noncomputable def eqW (X : Cx) (H : Hp) (d : D) (u : Value) : Bool := if ∃ y d', RelV y u ∧ Rep X.K H d' y ∧ eqD d' d = true then true else false
end
section
variable {S : Stat} {Γ : List Sl} {pos p : Pos} {a b : Expr} {ds : List D} {d : D}
end

theorem ext_any (T : String) (hT : T = "list" ∨ T = "tuple") (l b : Addr) (hlb : l ≠ b) (xs ys : Array Value) (n m : Nat) (dd : Option Addr) (sl : Array (Option Value)) (h0 : ¬ (!xs.isEmpty && Builtin.List.listTooLong (xs.size + ys.size)) = true) (h1 : xs.size ≤ sizeLine) (h2 : xs.size + ys.size ≤ sizeLine + 1) :
    Meets (Builtin.«list.extend» ⟨[.ref l, .ref b], []⟩) (fun _ R s => s.heap.get? l = some { cls := .type "list", data := .seq xs n } ∧ s.heap.get? b = some { cls := .type T, dict := dd, data := .seq ys m, slots := sl } ∧
      R (.ok (.ret Value.none)) { s with heap := s.heap.update l (Obj.mapSeq fun x => x ++ ys), toks := s.toks }) :=
  .of_wp fun prog w A R s h => by
    obtain ⟨hp, g, d, tk, os⟩ := s
    obtain ⟨hl, hb, h⟩ := h
    have z : (xs ++ ys).size ≤ sizeLine + 1 := by rw [Array.size_append]; exact h2
    have f2 := AutoSeq1.sub_tuple_tuple
    have f3 := AutoSeq1.sub_list_list
    have f4 := AutoSeq1.sub_tuple_list
    have f5 := AutoSeq1.sub_list_tuple
    rcases hT with rfl | rfl
    · wp_walk using (wpAny_updateSeq hl rfl (hz := h1) (_hz' := z)), wpAny_loadPart' hl, wpAny_loadPart' hb
      exact ⟨_, rfl, h⟩
    · wp_walk using (wpAny_updateSeq hl rfl (hz := h1) (_hz' := z)), wpAny_loadPart' hl, wpAny_loadPart' hb
      exact ⟨_, rfl, h⟩
theorem mt_ext {X : Cx} : MtM X "list.extend" (fun x vs H Q => ∃ l b xs zs, x = .ref l ∧ vs = [.ref b] ∧ H l = some (.lst xs) ∧ (∃ H0 : Hp, H0 l = none ∧ Same H0 H ∧ (SqL X.K H0 b zs ∨ SqT X.K H0 b zs)) ∧ xs.length + zs.length ≤ sizeLine ∧ Q .non (upd H l (.lst (xs ++ zs)))) := by
  intro pins s σ H x vs v us Q I rx rv h
  obtain ⟨l, b, xs, zs, rfl, rfl, hH, ⟨H0, h0, hsm, hB0⟩, hz, q⟩ := h
  have hnk : ∀ o, X.K.lookup l = some o → False := fun o ho => by
    have := (I.bs l o (I.mod.kin l o ho)).2
    rw [hH] at this; cases this
  have hne : l ≠ b := fun z => by
    subst z
    rcases hB0 with ((q | ⟨_, q⟩) | ⟨o, _, _, q, _⟩) | ((q | ⟨_, q⟩) | ⟨o, _, _, q, _⟩)
    · rw [h0] at q; cases q
    · rw [h0] at q; cases q
    · exact hnk o q
    · rw [h0] at q; cases q
    · rw [h0] at q; cases q
    · exact hnk o q
  have hB : SqL X.K H b zs ∨ SqT X.K H b zs := hB0.imp (fun q => Same.seq hsm q) (fun q => sqT_mono hsm q)
  cases rx
  obtain ⟨u, rfl, ru⟩ := rv.one
  cases ru
  obtain ⟨z, its, n, r, hl, e⟩ := I.lstM hH
  have go : ∀ (T : String) (its2 : List Value) (ob : Obj) (m : Nat), (T = "list" ∨ T = "tuple") → Vals zs its2 → s.heap.get? b = some ob → ob.cls = .type T → ob.data = .seq its2.toArray m →
      wpAny (model X.prog X.w) X.A (call (.builtin "list.extend") [.ref l, .ref b]) (EP X pins σ Q) X.xe s := by
    intro T its2 ob m hT r2 hb hc hd
    have hl2 := r2.length
    have hsz : its.toArray.size + its2.toArray.size ≤ sizeLine := by rw [List.size_toArray, List.size_toArray]; (first | lia | omega)
    have hlong : ¬ (!its.toArray.isEmpty && Builtin.List.listTooLong (its.toArray.size + its2.toArray.size)) = true := by
      rw [notLongL hsz, Bool.and_false]
      exact Bool.false_ne_true
    obtain ⟨cls, dd, data, sl⟩ := ob
    simp only at hc hd
    subst hc hd
    refine call_meets F.slot_list_extend ⟨_, e, rfl⟩ F.entry_list_extend (F.args_list_extend_2 _ _) (ext_any T hT l b hne its.toArray its2.toArray n m dd sl hlong (by rw [List.size_toArray]; (first | lia | omega)) (by (first | lia | omega))) ⟨e, hb, ?_⟩
    refine ⟨.non, _, I.lset (its' := its ++ its2) hH e (by simp) (r.append r2) ?_, rfl, q⟩
    rw [List.length_append]
    (first | lia | omega)
  rcases hB with hB | hB
  · obtain ⟨its2, r2, pl, _⟩ := I.list hB
    obtain ⟨ob, m, e1, c1, _, d1⟩ := pl
    exact go "list" its2 ob m (.inl rfl) r2 e1 c1 d1
  · obtain ⟨its2, r2, pl, _⟩ := I.tuple hB
    obtain ⟨ob, e1, c1, m, d1⟩ := pl
    exact go "tuple" its2 ob m (.inr rfl) r2 e1 c1 d1
section
variable {S : Stat} {Γ : List Sl} {E : DEnds} {pos p : Pos} {e a b : Expr} {x : Str}
theorem s_ext (i : Nat) {ds es : List D} {al : Bool} {apos cpos : Pos} (hΓ : Γ[i]? = some (.li al ds)) (he : JE S Γ e (.lst es) ∨ JE S Γ e (.tup es)) (hl : ds.length + es.length ≤ sizeLine) (h : E.nx (Γ.set i (.li al (ds ++ es)))) (hi : S.N[i]? = some x := by (try dsimp only [Internal.Stat.blk]); decide +kernel) (hv : Vis S.sc x := by (try dsimp only [Internal.Stat.blk]); decide +kernel)
    (h1 : (x == ("__debug__" : Str)) = false := by (try dsimp only [Internal.Stat.blk]); decide +kernel) (h2 : (x == ("__classdict__" : Str)) = false := by (try dsimp only [Internal.Stat.blk]); decide +kernel)
    (hbase : ∀ env, attributeBase (.Name x p) "extend" env (eval (.Name x p) env) = eval (.Name x p) env := by intro _; rfl)
    (hfew : ∀ env, ((backTo cpos (starEach [e] env)).all (fun x => !x.1) && (backToKw cpos (keywordEach [] env)).all (fun x => x.1.isSome)
      && decide ([e].length + ([] : List Keyword).length + (if ([] : List Keyword).isEmpty then 0 else 1) < 30)) = true := by intro _; rfl)
    (hline : (apos.endLine == cpos.line) = true := by rfl) (hs : ∀ env, starEach [e] env = [(false, eval e env)] := by intro _; rfl) (hsw : ∀ X : Cx, swapsWith (.Call (.Attribute (.Name x p) "extend" apos) [e] [] cpos) none pos.line X.env = pure false := by intro _; rfl) :
    JS S Γ (.Expr (.Call (.Attribute (.Name x p) "extend" apos) [e] [] cpos) pos) E := .mk fun X o => by
  have fin : ∀ {Z : Ends} {σ : Internal.L2.St} {H H1 : Hp} {φ : Addr → Bool} {ω : Addr → Option (Bool × Nat)} {l bb : Addr} {vs ws zs : List V}, RS S.K φ ω H σ Γ → Cn S.K φ ω H E Z → σ[i]? = some (some (.ref l)) → ω l = some (al, i) → φ l = false → H l = some (.lst vs) → Reps S.K (hidB (both φ ω) H) ds vs → Same H H1 → (SqL S.K (hidB (both φ ω) H1) bb zs ∨ SqT S.K (hidB (both φ ω) H1) bb zs) → Reps S.K (hidB (both φ ω) H1) es zs → ws = [.ref bb] →
      ∃ l' b' xs zs', V.ref l = .ref l' ∧ ws = [.ref b'] ∧ H1 l' = some (.lst xs) ∧ (∃ H0 : Hp, H0 l' = none ∧ Same H0 H1 ∧ (SqL X.K H0 b' zs' ∨ SqT X.K H0 b' zs')) ∧ xs.length + zs'.length ≤ sizeLine ∧ Z.nx σ (upd H1 l' (.lst (xs ++ zs'))) := by
    intro Z σ H H1 φ ω l bb vs ws zs r c hσ hω φl hH hr e1 sq rz ew
    have hb : both φ ω l = true := by unfold both; rw [hω]; simp
    have hid : hidB (both φ ω) H1 l = none := by unfold hidB; rw [if_pos hb]
    refine ⟨l, bb, vs, zs, rfl, ew, e1 _ _ hH, ⟨hidB (both φ ω) H1, hid, hid_le, by rw [o.K]; exact sq⟩, by rw [hr.len, rz.len]; exact hl, ?_⟩
    · obtain ⟨r', k⟩ := (r.mono e1).put (ds' := ds ++ es) (vs' := vs ++ zs) hΓ hω hσ ((Reps.mono (hid_same e1) _ hr).app rz) φl
      exact c.n ω σ _ _ h r' ((Kp.of e1).trans k)
  rcases he with he | he
  · refine ps_imp (ps_expr (pe_bm PySem.F.plainAttrs_list PySem.F.slot_list_extend PySem.F.type_list_extend mt_ext (pe_var (i := i) (by rw [o.N]; exact hi) (by rw [o.sc]; exact hv) h1 h2) ((a_cons he a_nil hs) X o) (hbase X.env) (hfew X.env) hline (hs X.env)) (hsw X)) fun Z σ H hP38 => ?_
    obtain ⟨φ, ω, r, c⟩ := hP38
    obtain ⟨l, vs, hσ, hω, φl, hH, hr⟩ := r.ownL i al ds hΓ
    refine ⟨.ref l, hσ, .inl ⟨rfl, vs, SqL.of hH⟩, both φ ω, r.re, fun ws H1 e1 rws => ?_⟩
    obtain ⟨v, rfl, ad, zs, rfl, sq, rz⟩ := reps1 rws
    exact fin r c hσ hω φl hH hr e1 (.inl sq) rz rfl
  · refine ps_imp (ps_expr (pe_bm PySem.F.plainAttrs_list PySem.F.slot_list_extend PySem.F.type_list_extend mt_ext (pe_var (i := i) (by rw [o.N]; exact hi) (by rw [o.sc]; exact hv) h1 h2) ((a_cons he a_nil hs) X o) (hbase X.env) (hfew X.env) hline (hs X.env)) (hsw X)) fun Z σ H hP39 => ?_
    obtain ⟨φ, ω, r, c⟩ := hP39
    obtain ⟨l, vs, hσ, hω, φl, hH, hr⟩ := r.ownL i al ds hΓ
    refine ⟨.ref l, hσ, .inl ⟨rfl, vs, SqL.of hH⟩, both φ ω, r.re, fun ws H1 e1 rws => ?_⟩
    obtain ⟨v, rfl, ad, zs, rfl, sq, rz⟩ := reps1 rws
    exact fin r c hσ hω φl hH hr e1 (.inr (SqT.of sq)) rz rfl

end
section
variable {S : Stat} {Γ : List Sl} {pos p : Pos} {a : Expr}
end
end Internal

end
section
set_option Elab.async false
set_option linter.all false
set_option maxRecDepth 100000
set_option maxHeartbeats 4000000
namespace Internal
open PySem PySem.Spec PyProof.Rows Internal.L2
section
variable {S : Stat} {Γ : List Sl} {E : DEnds} {pos p pos' : Pos} {e a b : Expr} {x y z : Str}
end
end Internal

end
section
set_option Elab.async false
set_option linter.all false
set_option maxRecDepth 100000
set_option maxHeartbeats 4000000
namespace Internal
open PySem PySem.Spec PyProof.Rows Internal.L2

section
variable {S : Stat} {Γ : List Sl} {pos p p' pos' : Pos} {a b c : Expr}
end

section
variable {X : Cx} {pins : List (Addr × Obj)} {σ : Internal.L2.St} {H : Hp} {s : Shared}
noncomputable def tLRg (n : Nat) (ta : TA) : TE := fun σ H Q => ta σ H fun vs H1 => ∃ i j k : Int, vs = [.int i, .int j, .int k] ∧ 0 < k ∧ k < 1073741824 ∧ Builtin.Range.small i j k = true ∧ Builtin.Range.rangeSize i j k = (n : Int) ∧ n ≤ 2 ^ 24 ∧ ∀ l, H1 l = none → Q (.ref l) (upd H1 l (.lst ((List.range n).map fun m : Nat => V.int (i + m * k))))
theorem pe_listrng {n : Nat} {a b c : Expr} {ta : TA} {p p' pos pos' : Pos} (hc : X.calm = true) (hg : Gl X "range") (hm : X.mg "range" = none) (hgt : Gl X "list") (hmt : X.mg "list" = none) (ha : PA X [a, b, c] ta)
    (hs : starEach [a, b, c] X.env = (false, eval a X.env) :: starEach [b, c] X.env) (hs2 : (backTo pos (starEach [b, c] X.env)).any (·.1) = false) : PE X (.Call (.Name "list" p') [.Call (.Name "range" p) [a, b, c] [] pos] [] pos') (tLRg n ta) := by
  intro pins s σ H Q I h
  refine wpAny_Call_Name_kw (ld_blt I hgt hmt boot_list ?_)
  refine PyProof.Rows.callWith_type1 ?_ rfl rfl
  show wpAny _ _ (spliced ((false, eval (.Call (.Name "range" p) [a, b, c] [] pos) X.env) :: [])) _ _ s
  refine Calls.spliced_cons (Call_ (ld_blt I hg hm boot_range (PyProof.Rows.callWith_type1 (thn (ha pos pins s σ H _ I h) fun us s1 hP40 => ?_) hs hs2)))
  obtain ⟨vs, H1, I1, r1, q1⟩ := hP40
  obtain ⟨i, j, k, rfl, k0, k1, hsm, hn, hl, q⟩ := q1
  cases r1 with
  | cons r rr =>
    cases rr with
    | cons r' rr =>
      cases rr with
      | cons r'' rr =>
        cases rr
        obtain ⟨t, rfl⟩ := r
        obtain ⟨t', rfl⟩ := r'
        obtain ⟨t'', rfl⟩ := r''
        refine call_range_3 (by (first | lia | omega)) ?_ (.inl (PyProof.noPylong_small (by (first | lia | omega))))
        refine Calls.spliced_nil ?_
        have I2 : Internal.L2.Inv X pins σ H1 { s1 with heap := s1.heap.push { cls := .type "range", data := .fields #[.int i t, .int j t', .int k t''] }, toks := s1.toks } := I1.kept (t' := s1.toks) fun b o e => Heap.get?_push_of_some _ e
        refine call_list_range (I2.ok.hd hc) (IsRange.new ..) hsm hn hl fun h' tk acc c' hk hS hacc => ?_
        have vv := acc_rng hacc
        refine ⟨.ref _, _, I2.laid (t' := tk) (o := .lst ((List.range n).map fun m : Nat => V.int (i + m * k))) hk (Nat.le_refl _) ?_, rfl, q _ (I2.hok.fresh (Nat.le_refl _))⟩
        exact ⟨by rw [List.length_map, List.length_range, sizeLine_eq]; (first | lia | omega), acc.toList, c', vv, by simpa using hS⟩
end
section
variable {S : Stat} {Γ : List Sl} {pos p p' pos' : Pos} {a b c : Expr}
theorem f_listrng {i j k : Int} (n : Nat) (ha : JE S Γ a (.int i)) (hb : JE S Γ b (.int j)) (hc : JE S Γ c (.int k)) (hm : S.mg "range" = none) (hmt : S.mg "list" = none) (k0 : 0 < k) (k1 : k < 1073741824) (hsm : Builtin.Range.small i j k = true) (hn : Builtin.Range.rangeSize i j k = (n : Int)) (hl : n ≤ 2 ^ 24) (hg : S.sc.names.lookup ("range" : Str) = some .globalImplicit := by (try dsimp only [Internal.Stat.blk]); decide +kernel)
    (hgt : S.sc.names.lookup ("list" : Str) = some .globalImplicit := by (try dsimp only [Internal.Stat.blk]); decide +kernel) (hs1 : ∀ env, starEach [a, b, c] env = (false, eval a env) :: starEach [b, c] env := by intro _; rfl) (hs2 : ∀ env, starEach [b, c] env = (false, eval b env) :: starEach [c] env := by intro _; rfl) (hs3 : ∀ env, starEach [c] env = [(false, eval c env)] := by intro _; rfl)
    (hpl : ∀ env, (backTo pos (starEach [b, c] env)).any (·.1) = false := by intro _; rfl) :
    JF S Γ (.Call (.Name "list" p') [.Call (.Name "range" p) [a, b, c] [] pos] [] pos') ((List.range n).map fun m : Nat => D.int (i + m * k)) := .mk fun X o =>
  pe_imp (pe_listrng (n := n) o.calm (gl_of o hg) (by rw [o.mg]; exact hm) (gl_of o hgt) (by rw [o.mg]; exact hmt) ((a_cons ha (a_cons hb (a_cons hc a_nil hs3) hs2) hs1) X o) (hs1 X.env) (hpl X.env)) fun σ H Q ⟨χ, R, q⟩ => ⟨χ, R, fun vs H1 e1 rs => by
    obtain ⟨v, r', rfl, rv, rs'⟩ := rs
    obtain ⟨v', r'', rfl, rv', rs''⟩ := rs'
    obtain ⟨v'', rfl, rv''⟩ := reps1 rs''
    cases (show v = _ from rv)
    cases (show v' = _ from rv')
    cases (show v'' = _ from rv'')
    exact ⟨i, j, k, rfl, k0, k1, hsm, hn, hl, fun l hl' => q l _ _ (same_none e1 hl') (e1.trans (same_new hl' _)) upd_same (reps_of_ints (fun m : Nat => i + (m : Int) * k) (List.range n))⟩⟩
theorem t_neS {i j : Str} (ha : JE S Γ a (.str i)) (hb : JE S Γ b (.str j)) : JT S Γ (.Compare a [.NotEq] [b] pos) (!decide (i = j)) := t_cmp (fun _ _ => op_ne) ha hb (nomark _) fun _ H x y _ _ rx ry q => by
  cases (show x = _ from rx); cases (show y = _ from ry)
  refine ⟨rfl, ?_⟩
  have e : decide (V.str i = V.str j) = decide (i = j) := by simp
  rw [e]; exact q _ H (Same.refl H) rfl
end
end Internal

end
section
set_option Elab.async false
set_option linter.all false
set_option maxRecDepth 100000
set_option maxHeartbeats 4000000
namespace Internal
open PySem PySem.Spec PyProof.Rows Internal.L2

theorem add_list_any (l : Addr) (items : Array Value) (n : Nat) (b : Addr) (items2 : Array Value) (n2 : Nat) (sl sl2 : Array (Option Value)) (hc0 : items.size + items2.size ≤ sizeLine) :
    Meets (Builtin.«list.__add__» ⟨[.ref l, .ref b], []⟩) (fun _ R s => s.heap.get? l = some { cls := .type "list", dict := none, data := .seq items n, slots := sl } ∧ s.heap.get? b = some { cls := .type "list", dict := none, data := .seq items2 n2, slots := sl2 } ∧ R (.ok (.ret (Value.ref s.heap.objs.size))) { s with heap := s.heap.push { cls := Value.type "list", data := Data.seq (items ++ items2) }, toks := s.toks }) :=
  .of_wp fun prog w A R s h => by obtain ⟨hp, g, d, tk, os⟩ := s; obtain ⟨hl, hb, h⟩ := h; have f1 := AutoSeq1.idx_int; have f2 := AutoSeq1.sub_tuple_tuple; have f3 := AutoSeq1.sub_list_list; have f4 := AutoSeq1.sub_tuple_list; have f5 := AutoSeq1.sub_list_tuple; wp_walk using wpAny_loadPart' hl, wpAny_loadPart' hb; exact ⟨_, rfl, h⟩
noncomputable def rCatP (K : PySem.W.Frag) : R2 := fun x y H Q => ∃ l b xs zs, x = .ref l ∧ y = .ref b ∧ SqL K H l xs ∧ SqL K H b zs ∧ xs.length + zs.length ≤ sizeLine ∧ ∀ p, H p = none → Q (.ref p) (upd H p (.lst (xs ++ zs)))
theorem op_catP {X : Cx} : OpR X (binaryOp .Add) (rCatP X.K) := by
  intro pins s σ H x y v u Q I rx ry h
  obtain ⟨l, b, xs, zs, rfl, rfl, hH, hB, hz, q⟩ := h
  cases rx
  cases ry
  obtain ⟨its, r, ⟨⟨c1, d1, dt1, sl1⟩, n, e, h1, h2, h3⟩, z⟩ := I.list hH
  obtain ⟨its2, r2, ⟨⟨c2, d2, dt2, sl2⟩, n2, e2, g1, g2, g3⟩, z2⟩ := I.list hB
  dsimp only at h1 h2 h3 g1 g2 g3
  subst h1 h2 h3 g1 g2 g3
  refine concat_meets ⟨_, e, rfl⟩ ⟨_, e2, rfl⟩ noFill_list_add seq_list_add F.slot_list_add F.entry_list_add (F.args_list_add_2 _ _) (add_list_any l its.toArray n b its2.toArray n2 sl1 sl2 (by rw [List.size_toArray, List.size_toArray, ← r.length, ← r2.length]; exact hz)) ⟨e, e2, ?_⟩
  have ea : its.toArray ++ its2.toArray = (its ++ its2).toArray := by simp
  rw [ea]
  exact ⟨.ref _, _, I.lnew (t' := s.toks) (r.append r2) (by rw [List.length_append]; (first | lia | omega)), rfl, q _ I.fresh⟩
section
variable {S : Stat} {Γ : List Sl} {E : DEnds} {pos p pos' : Pos} {e a b : Expr} {x y z : Str}
theorem f_cat {ds es : List D} (ha : JE S Γ a (.lst ds)) (hb : JE S Γ b (.lst es)) (hl : ds.length + es.length ≤ sizeLine) : JF S Γ (.BinOp a .Add b pos) (ds ++ es) := .mk fun X o =>
  pe_imp (pe_op op_catP (ha X o) (hb X o)) fun σ H Q ⟨χ, R, q⟩ => ⟨χ, R, fun x H1 e1 ⟨l, vs, ex, sq, rs⟩ => ⟨χ, R.mono e1, fun y H2 e2 hP41 => by
    obtain ⟨l2, ws, ey, sq2, rs2⟩ := hP41
    refine ⟨l, l2, vs, ws, ex, ey, ?_, ?_, by rw [rs.len, rs2.len]; exact hl, fun p' hp' => ?_⟩
    · rw [o.K]; exact Same.seq hid_le (Same.seq (hid_same e2) sq)
    · rw [o.K]; exact Same.seq hid_le sq2
    · exact q p' _ _ (same_none (e1.trans e2) hp') ((e1.trans e2).trans (same_new hp' _)) upd_same ((Reps.mono (hid_new hp') _ (Reps.mono (hid_same e2) _ rs)).app (Reps.mono (hid_new hp') _ rs2))⟩⟩
end
end Internal

end
section
set_option Elab.async false
set_option linter.all false
set_option maxRecDepth 100000
namespace Internal.L2
open PySem PySem.Spec PyProof.Rows

section
variable {κ : Type} [DecidableEq κ]
end

section
variable {P : Program} {w : World} {H : Hp} {h : Heap} {a : Addr}
end

section
variable {X : Cx} {pins : List (Addr × Obj)} {σ : St} {H : Hp} {s : Shared} {a : Addr} {y v : V} {u r : Value} {o : Option V} {A : Around} {E : Value → Shared → Prop}

end

section
variable {X : Cx} {pins : List (Addr × Obj)} {σ : St} {H : Hp} {s : Shared} {a : Addr} {kvs : List (Key × V)} {k : Key} {u : Value} {A : Around} {E : Value → Shared → Prop}
end

section
variable {X : Cx} {o i e value : Expr} {pos pos' tpos : Pos} {td ty tv : TE}
end

section
variable {X : Cx} {pos : Pos}
end

section
variable {X : Cx} {pins : List (Addr × Obj)} {σ : St} {H : Hp} {s : Shared} {a : Addr} {y d : V} {u r : Value} {o : Option V} {A : Around} {E : Value → Shared → Prop}
end

section
variable {X : Cx} {o e f : Expr} {apos cpos : Pos} {td ty tx : TE}
end

section
variable {X : Cx} {pins : List (Addr × Obj)} {σ : St} {H : Hp} {s : Shared} {a : Addr} {kvs : List (Key × V)} {A : Around} {E : Value → Shared → Prop}
end

section
variable {X : Cx} {pins : List (Addr × Obj)} {σ : St} {H : Hp} {s : Shared} {a : Addr} {y : V} {u : Value} {A : Around} {E : Value → Shared → Prop}
end
end Internal.L2

end
section
set_option Elab.async false
set_option linter.all false
set_option maxRecDepth 100000
set_option maxHeartbeats 4000000
namespace Internal
open PySem PySem.Spec PyProof.Rows Internal.L2

section
variable {K : PySem.W.Frag} {H : Hp}
end
section
variable {S : Stat} {Γ : List Sl} {E : DEnds} {pos p pos' : Pos} {e value : Expr} {x : Str}
end
section
variable {S : Stat} {Γ : List Sl} {pos : Pos} {a b : Expr}
theorem e_notinS {x : Str} {c : Nat} (ha : JE S Γ a (chD c)) (hb : JE S Γ b (.str x)) (hm : behindInMarks .NotIn b = false := by rfl) : JE S Γ (.Compare a [.NotIn] [b] pos) (.bl (!decide (c ∈ x.cps.toList))) :=
  e_cmp (fun _ _ => op_notin_str) ha hb hm fun _ H x' y _ _ rx ry q => ⟨⟨#[c]⟩, x, rx, ry, by rw [inS_one]; exact q _ H (Same.refl H) rfl⟩
theorem JW.cast' {e : Expr} {d d' : Bool} (h : JW S Γ e d) (q : d = d') : JW S Γ e d' := q ▸ h
end
end Internal

end
section
set_option linter.all false
namespace Internal.BM
theorem flatMap_len {α β : Type} (l : List α) (f : α → List β) (n : Nat) (h : ∀ a, (f a).length = n) : (l.flatMap f).length = l.length * n := by
  induction l with
  | nil => simp
  | cons a l ih => rw [List.flatMap_cons, List.length_append, ih, h, List.length_cons, Nat.succ_mul, Nat.add_comm]

structure Kin where
  h : Bool
  q : Bool
  m : Bool
  s : Bool
deriving DecidableEq
noncomputable def kinL (k : Kin) : List Nat := (if k.h then [104] else []) ++ (if k.q then [113] else []) ++ (if k.m then [109] else []) ++ (if k.s then [115] else [])
theorem kin_h (k : Kin) : decide (104 ∈ kinL k) = k.h := by obtain ⟨h, q, m, s⟩ := k; cases h <;> cases q <;> cases m <;> cases s <;> rfl
theorem kin_q (k : Kin) : decide (113 ∈ kinL k) = k.q := by obtain ⟨h, q, m, s⟩ := k; cases h <;> cases q <;> cases m <;> cases s <;> rfl
theorem kin_m (k : Kin) : decide (109 ∈ kinL k) = k.m := by obtain ⟨h, q, m, s⟩ := k; cases h <;> cases q <;> cases m <;> cases s <;> rfl
theorem kin_s (k : Kin) : decide (115 ∈ kinL k) = k.s := by obtain ⟨h, q, m, s⟩ := k; cases h <;> cases q <;> cases m <;> cases s <;> rfl
theorem kin_order (k : Kin) : [104, 113, 109, 115].filter (fun c => decide (c ∈ kinL k)) = kinL k := by obtain ⟨h, q, m, s⟩ := k; cases h <;> cases q <;> cases m <;> cases s <;> rfl
noncomputable def kstep (k : Kin) : Nat := if k.q then 1 else if k.h then 2 else 4
noncomputable def kend (k : Kin) : Nat := if k.m then 8 else 4
noncomputable def turns (k : Kin) : List Nat := (List.range (kend k / kstep k)).map fun i => i * kstep k
noncomputable def slides (k : Kin) (w h : Nat) : List (Nat × Nat) := if k.s then (List.range w).flatMap fun a => (List.range h).map fun b => (a, b) else [(0, 0)]
noncomputable def deedsL (k : Kin) (w h : Nat) : List Deed := (turns k).flatMap fun t => (slides k w h).map fun p => ⟨t, p.1, p.2⟩
end Internal.BM

end
section
set_option linter.all false
namespace Internal.BM

end Internal.BM

end
section
set_option Elab.async false
set_option linter.all false
set_option maxRecDepth 100000
set_option maxHeartbeats 4000000
namespace Internal.BM
open Internal

theorem nat_log {n : Nat} (h : n ≤ 1000) : ((n : Int)).natAbs.log2 < 1920 := by
  rw [Int.natAbs_natCast]
  by_cases hn : n = 0
  · subst hn; decide
  · rw [Nat.log2_lt hn]
    exact Nat.lt_of_lt_of_le (show n < 2 ^ 10 by (first | lia | omega)) (Nat.pow_le_pow_right (by (first | lia | omega)) (by (first | lia | omega)))
end Internal.BM

end
section
set_option Elab.async false
set_option linter.all false
set_option maxRecDepth 100000
set_option maxHeartbeats 4000000

namespace Internal
open PySem PySem.Spec PyProof.Rows Internal.L2

structure Fly (P : Program) (w : World) (outer : List Env) (H : Hp) (s : Shared) (cls : Value) (a : Addr) (s' : Shared) (H' : Hp) (B : Heap) (t : Addr) : Prop where
  os : s'.os = s.os
  bare : AllBare s'.gens
  fly : Heap.FlyingW B outer a cls (.ref t) s'.heap
  hok : HOk P w H' B
  same : Same H H'
  keep : ∀ b o, s.heap.get? b = some o → H b = none → b ∉ frs outer → B.get? b = some o
  slot : ∀ b o, s.heap.get? b = some o → H b = none → b ∈ frs outer → ∃ sl, s'.heap.get? b = some { o with slots := sl }
  free : ∀ b o, s.heap.get? b = some o → H b = none → H' b = none
noncomputable abbrev CX1 (P : Program) (w : World) : CXT := fun outer H s E e s' => ∃ cls a H' B t, e = .ref a ∧ Fly P w outer H s cls a s' H' B t ∧ E cls none H'

theorem hok_hide {P : Program} {w : World} {H : Hp} {h : Heap} {fs : List Addr} (x : HOk P w H h) (hf : ∀ b ∈ fs, H b = none) : HOk P w H (PySem.W.hideAll h fs) := fun a o e =>
  (x a o e).stay (fun b u hb q => PySem.W.hideAll_get _ q fun hm => by
    have n := hf b hm
    rcases hb with rfl | hb
    · rw [n] at e; cases e
    · rw [n] at hb; cases hb) (fun _ q => q) fun _ _ q => q
theorem frames_dict {base h : Heap} : ∀ {l : List Env}, h.FunFrames base l → ∀ b ∈ frs l, ∃ o, h.get? b = some o ∧ ∀ vs, o.data ≠ .fields vs := fun {l} x b hb => by
  obtain ⟨_, o, ho, hd⟩ := x.mem hb
  exact ⟨o, ho, hd⟩

structure XOk (X : Cx) (H₁ : Hp) (cls : Value) : Prop where
  made : ∀ (pins : List (Addr × Obj)) (σ : Internal.L2.St) (H : Hp) (s : Shared) (h' : Heap) (a : Addr) (vs : List Value), Inv X pins σ H s → Same H₁ H → Heap.MadeExcOf s.heap h' a cls vs → X.xe (.ref a) { s with heap := h' }
  on : ∀ (pins : List (Addr × Obj)) (σ : Internal.L2.St) (H : Hp) (s : Shared) (a : Addr) (s' : Shared) (H' : Hp) (B : Heap) (t : Addr), Inv X pins σ H s → Same H₁ H → Fly X.prog X.w X.stack H s cls a s' H' B t → X.xe (.ref a) s'

section
variable {P : Program} {w : World} {K : PySem.W.Frag} {mg : Str → Option Value} {base : Heap} {N : List Str} {qual : Str} {scope : Scope} {f : Addr} {cd : Value} {A : Around} {outer : List Env} {s₀ : Shared} {H₀ : Hp} {E : XK} {cls : Value}
theorem xok_def (hE : ∀ H', Same H₀ H' → E cls none H') : XOk (cxOf (CX1 P w) P w K mg base N qual scope f cd A outer s₀ H₀ E) H₀ cls := by
  have fr0 : (envOfC qual scope s₀.heap.objs.size f cd).frame = some s₀.heap.objs.size := rfl
  constructor
  · intro pins σ H s h' a vs I sm hx
    have hst : (cxOf (CX1 P w) P w K mg base N qual scope f cd A outer s₀ H₀ E).A.frames = some (envOfC qual scope s₀.heap.objs.size f cd :: outer) := I.ok.frames
    have fun1 := I.stack
    have hin : ∀ env ∈ (envOfC qual scope s₀.heap.objs.size f cd :: outer), ∀ b, env.frame = some b → b ∈ frs (envOfC qual scope s₀.heap.objs.size f cd :: outer) := fun env he b hb => List.mem_filterMap.mpr ⟨env, he, hb⟩
    refine wpAny_leaves_madeW (base := PySem.W.hideAll s.heap (frs (envOfC qual scope s₀.heap.objs.size f cd :: outer))) hst fr0 (fun b o q => PySem.W.of_hideAll _ q) (PySem.W.funFrames_hide fun1 hin) hx fun h'' t x1 x2 x3 x4 => ?_
    refine ⟨cls, a, H, _, t, rfl, ⟨I.os, I.bare, x1, hok_hide I.hok fun b hb => I.stkFree b hb, sm, fun b o e n hb => ?_, fun b o e n hb => ?_, fun b o e n => I.base.free b o e n (by exact List.not_mem_nil)⟩, hE H sm⟩
    · refine PySem.W.hideAll_get _ (I.base.keep b o e n hb (by exact List.not_mem_nil)) fun hm => ?_
      rcases List.mem_cons.mp (show b ∈ s₀.heap.objs.size :: frs outer from hm) with z | z
      · exact absurd (Heap.lt_size e) (by rw [z]; exact Nat.lt_irrefl _)
      · exact hb z
    · obtain ⟨sl, e1⟩ := I.base.slot b o e n hb (by exact List.not_mem_nil)
      obtain ⟨o2, e2, hd⟩ := frames_dict I.funs b hb
      rw [e1] at e2; cases e2
      obtain ⟨sl', e3⟩ := x4 b _ (hx.keeps _ _ e1) hd
      exact ⟨sl', e3⟩
  · intro pins σ H s a s' H' B t I sm fl
    have hst : (cxOf (CX1 P w) P w K mg base N qual scope f cd A outer s₀ H₀ E).A.frames = some (envOfC qual scope s₀.heap.objs.size f cd :: outer) := I.ok.frames
    have nL : ∀ b, b ∈ frs outer → b ∈ frs (envOfC qual scope s₀.heap.objs.size f cd :: outer) := fun b hb => by show b ∈ s₀.heap.objs.size :: frs outer; exact List.mem_cons_of_mem _ hb
    refine wpAny_leaves_onW hst fr0 fl.fly fun h'' x1 x2 => ?_
    refine ⟨cls, a, H', B, t, rfl, ⟨fl.os.trans I.os, fl.bare, x1, fl.hok, sm.trans fl.same, fun b o e n hb => ?_, fun b o e n hb => ?_, fun b o e n => ?_⟩, hE H' (sm.trans fl.same)⟩
    · refine fl.keep b o (I.base.keep b o e n hb (by exact List.not_mem_nil)) (I.base.free b o e n (by exact List.not_mem_nil)) fun hm => ?_
      rcases List.mem_cons.mp (show b ∈ s₀.heap.objs.size :: frs outer from hm) with z | z
      · exact absurd (Heap.lt_size e) (by rw [z]; exact Nat.lt_irrefl _)
      · exact hb z
    · obtain ⟨sl, e1⟩ := I.base.slot b o e n hb (by exact List.not_mem_nil)
      obtain ⟨sl2, e2⟩ := fl.slot b _ e1 (I.base.free b o e n (by exact List.not_mem_nil)) (nL b hb)
      obtain ⟨o2, e3, hd⟩ := frames_dict I.funs b hb
      rw [e1] at e3; cases e3
      obtain ⟨sl', e4⟩ := x2 b _ e2 hd
      exact ⟨sl', e4⟩
    · have hn := I.base.free b o e n (by exact List.not_mem_nil)
      by_cases hb : b ∈ frs outer
      · obtain ⟨sl, e1⟩ := I.base.slot b o e n hb (by exact List.not_mem_nil)
        exact fl.free b _ e1 hn
      · exact fl.free b o (I.base.keep b o e n hb (by exact List.not_mem_nil)) hn
end
end Internal

end
section
set_option Elab.async false
set_option linter.all false
set_option maxRecDepth 100000
set_option maxHeartbeats 4000000
namespace Internal
open PySem PySem.Spec PyProof.Rows Internal.L2

structure JXE (S : Stat) (Γ : List Sl) (e : Expr) (cls : Value) : Prop where
  run : ∀ X, S.Of X → ∀ (pins : List (Addr × Obj)) (s : Shared) (σ : Internal.L2.St) (H : Hp) (χ : Addr → Bool), Inv X pins σ H s → RE S.K χ H σ Γ →
    (∀ (H2 : Hp) (s2 : Shared) (a : Addr) (s' : Shared) (H' : Hp) (B : Heap) (t : Addr), Inv X pins σ H2 s2 → Same H H2 → Fly X.prog X.w X.stack H2 s2 cls a s' H' B t → X.xe (.ref a) s') → ∀ Q, wpAny (model X.prog X.w) X.A (eval e X.env) Q X.xe s
structure JXS (S : Stat) (Γ : List Sl) (st : Stmt) (cls : Value) : Prop where
  run : ∀ X, S.Of X → ∀ (pins : List (Addr × Obj)) (s : Shared) (σ : Internal.L2.St) (H H₁ : Hp) (φ : Addr → Bool) (ω : Addr → Option (Bool × Nat)), Inv X pins σ H s → RS S.K φ ω H σ Γ → Kp φ (fun _ => none) H₁ ω H → XOk X H₁ cls → ∀ Q, wpAny (model X.prog X.w) X.A (exec st X.env) Q X.xe s
structure JX (S : Stat) (Γ : List Sl) (st : List Stmt) (cls : Value) : Prop where
  run : ∀ X, S.Of X → ∀ (pins : List (Addr × Obj)) (s : Shared) (σ : Internal.L2.St) (H H₁ : Hp) (φ : Addr → Bool) (ω : Addr → Option (Bool × Nat)), Inv X pins σ H s → RS S.K φ ω H σ Γ → Kp φ (fun _ => none) H₁ ω H → XOk X H₁ cls → ∀ Q, wpAny (model X.prog X.w) X.A (execs st X.env) Q X.xe s

section
variable {S : Stat} {Γ : List Sl} {pos pos' p : Pos} {st : Stmt} {rest : List Stmt} {e a b c : Expr} {x : Str} {cls : Value}
theorem x_head (h : JXS S Γ st cls) : JX S Γ (st :: rest) cls := .mk fun X o pins s σ H H₁ φ ω I r k ok Q =>
  wpAny_execs_cons (thn (h.run X o pins s σ H H₁ φ ω I r k ok (fun _ _ => False)) fun _ _ z => z.elim)
theorem x_cons (h : JS S Γ st { nx := fun Γ' => JX S Γ' rest cls, rt := fun _ _ => False }) : JX S Γ (st :: rest) cls := .mk fun X o pins s σ H H₁ φ ω I r k ok Q => by
  have h2 : PSs X rest (fun _ σ' H' => ∃ Γ' ω', JX S Γ' rest cls ∧ RS S.K φ ω' H' σ' Γ' ∧ Kp φ (fun _ => none) H₁ ω' H') := fun pins s σ H Z I ⟨Γ', ω', hb, q, kk⟩ => hb.run X o pins s σ H H₁ φ ω' I q kk ok _
  refine thn (pss_cons (h X o) h2 pins s σ H { nx := fun _ _ => False, rt := fun _ _ => False } I ?_) fun f s' z => ?_
  · exact ⟨φ, ω, r, { n := fun ω' σ' H' Γ' hb r' k' => ⟨Γ', ω', hb, r', k.trans k'⟩, rt := fun _ _ _ _ _ _ z => z.elim, bk := fun _ _ _ _ z => z.elim, ct := fun _ _ _ _ z => z.elim, rf := fun _ _ _ _ _ _ _ z => z.elim }⟩
  · cases f with
    | next => obtain ⟨_, _, _, q⟩ := z; exact q.elim
    | brk => obtain ⟨_, _, _, q⟩ := z; exact q.elim
    | cont => obtain ⟨_, _, _, q⟩ := z; exact q.elim
    | ret u => obtain ⟨_, _, _, _, _, q⟩ := z; exact q.elim
theorem x_expr (h : JXE S Γ e cls) (hs : ∀ X : Cx, swapsWith e none pos.line X.env = pure false := by intro _; rfl) : JXS S Γ (.Expr e pos) cls := .mk fun X o pins s σ H H₁ φ ω I r k ok Q =>
  wpAny_Expr_any (thn (h.run X o pins s σ H (both φ ω) I r.re (fun H2 s2 a s' H' B t I2 e2 fl => ok.on pins σ H2 s2 a s' H' B t I2 ((kp_same k).trans e2) fl) (fun _ _ => False)) fun _ _ z => z.elim) I.quiet (hs X)

theorem x_set {px : Pos} (h : JXE S Γ e cls) (hs : ∀ X : Cx, S.Of X → swapsWith e (some (.Name x px)) pos.line X.env = pure false := by intro _ _; rfl) : JXS S Γ (.Assign [.Name x px] e pos) cls := .mk fun X o pins s σ H H₁ φ ω I r k ok Q =>
  wpAny_Assign_Name (thn (h.run X o pins s σ H (both φ ω) I r.re (fun H2 s2 a s' H' B t I2 e2 fl => ok.on pins σ H2 s2 a s' H' B t I2 ((kp_same k).trans e2) fl) (fun _ _ => False)) fun _ _ z => z.elim) (hs X o)
theorem x_if {q : Bool} {sa sb : List Stmt} (hc : JT S Γ c q) (ha : q = true → JX S Γ sa cls) (hb : q = false → JX S Γ sb cls) : JXS S Γ (.If c sa sb pos) cls := .mk fun X o pins s σ H H₁ φ ω I r k ok Q => by
  refine wpAny_If (thn (hc X o pins s σ H (fun b H' => b = q ∧ Same H H') I ⟨both φ ω, r.re, fun H' e => ⟨rfl, e⟩⟩) fun d s1 hP42 => ?_)
  obtain ⟨H1, I1, hd, e1⟩ := hP42
  subst hd
  cases d with
  | true => exact (ha rfl).run X o pins s1 σ H1 H₁ φ ω I1 (r.mono e1) (k.trans (Kp.of e1)) ok Q
  | false => exact (hb rfl).run X o pins s1 σ H1 H₁ φ ω I1 (r.mono e1) (k.trans (Kp.of e1)) ok Q
end
end Internal

end
section
set_option Elab.async false
set_option linter.all false
set_option maxRecDepth 100000
set_option maxHeartbeats 4000000
namespace Internal
open PySem PySem.Spec PyProof.Rows Internal.L2

noncomputable def spX {α : Type} (enc : α → List D) (bad : α → Prop) (cls : Value) (K : PySem.W.Frag) : Sp := fun vs H Q E => ∃ (χ : Addr → Bool) (u : α), (∀ p, χ p = true → ∃ o : HN, H p = some o.1) ∧ Reps K (hidB χ H) (enc u) vs ∧ bad u ∧ ∀ H', Same H H' → E cls none H'
noncomputable def FnX (P : Program) (w : World) (K : PySem.W.Frag) (mg : Str → Option Value) (base : Heap) (k : Nat) (x : Str) (ps : List Str) (sp : Sp) : Prop := ∃ f fd, mg x = some (.ref f) ∧ PySem.W.keepIn K (.ref f) = true ∧ Binds K fd ps [] ∧ FnOk P w K mg base (CX1 P w) k f fd ps sp
section
variable {P : Program} {w : World} {K : PySem.W.Frag} {mg : Str → Option Value} {base : Heap} {α : Type} {enc : α → List D} {bad : α → Prop} {cls : Value}
theorem fx_D {x qual : Str} {st : Stmt} {f : Addr} {fd : FuncData} {N ps : List Str} {k : Nat} (F : Fun K x qual st f fd) (Sc : FnScope N ps (defScope st)) (hlen : ∀ u, bad u → (enc u).length = ps.length)
    (hb : ∀ u, bad u → JX ⟨P, w, K, mg, base, k, N, defScope st, true⟩ (startΓ N (enc u)) (defBody st) cls) : FnOk P w K mg base (CX1 P w) (k + 1) f fd ps (spX enc bad cls K) := by
  obtain ⟨oc, od, kV, doc, pm, an, cdv, ct, osl, rfl, lk, hcd⟩ := F.ex
  refine fn_of lk hcd Sc (fun vs H Q E h => ?_) fun A outer s H vs Q E hr h => ?_
  · obtain ⟨χ, u, _, r, hd, _⟩ := h
    rw [r.len, hlen u hd]
  · obtain ⟨χ, u, hl, r, hd, q⟩ := h
    exact ⟨fun _ σ' H' => H' = H ∧ σ' = start N vs, fun pins s' σ' H' Z I z => by
      obtain ⟨rfl, rfl⟩ := z
      exact (hb u hd).run _ ⟨rfl, rfl, rfl, rfl, rfl, rfl, rfl, hr, rfl, PassesOwn.leaving, fun _ _ => rfl, fun _ => ⟨rfl, rfl⟩⟩ pins s' _ _ _ χ (fun _ => none) I (start_RS hl r) Kp.refl (xok_def q) _, rfl, rfl⟩
theorem fx_at {x : Str} {st : Stmt} {N ps : List Str} {k : Nat} (F : Def K mg x st ps) (Sc : FnScope N ps (defScope st)) (hlen : ∀ u, bad u → (enc u).length = ps.length)
    (hb : ∀ u, bad u → JX ⟨P, w, K, mg, base, k, N, defScope st, true⟩ (startΓ N (enc u)) (defBody st) cls) : FnX P w K mg base (k + 1) x ps (spX enc bad cls K) := by
  obtain ⟨f, fd, F, b, m⟩ := F
  exact ⟨f, fd, m, F.kp, b, fx_D F Sc hlen hb⟩

theorem e_fnx {S : Stat} {Γ : List Sl} {ps : List Str} {x : Str} {p pos : Pos} {e : Expr} {es : List Expr} {j : Nat} (F : FnX S.P S.w S.K S.mg S.base j x ps (spX enc bad cls S.K)) (u : α) (ha : JA S Γ (e :: es) (enc u)) (hd : bad u) (hj : j ≤ S.k := by exact Nat.le_of_ble_eq_true rfl)
    (hg : S.sc.names.lookup x = some .globalImplicit := by (try dsimp only [Internal.Stat.blk]); decide +kernel) (hdb : (x == ("__debug__" : Str)) = false := by (try dsimp only [Internal.Stat.blk]); decide +kernel)
    (he : ∀ env, starEach (e :: es) env = (false, eval e env) :: starEach es env := by intro _; rfl) (hpl : ∀ env, (backTo pos (starEach es env)).any (·.1) = false := by intro _; rfl) : JXE S Γ (.Call (.Name x p) (e :: es) [] pos) cls := .mk fun X o pins s σ H χ I R hx Q => by
  obtain ⟨f, fd, hm, hk, hb, F⟩ := F
  have F' : FnOk X.prog X.w X.K X.mg X.base (CX1 X.prog X.w) j f fd ps (spX enc bad cls S.K) := by rw [o.prog, o.w, o.K, o.mg, o.base]; exact F
  have hb' : Binds X.K fd ps [] := by rw [o.K]; exact hb
  refine wpAny_Call_Name_kw (ld_glob I (gl_of o hg) (by rw [o.mg]; exact hm) ?_ hdb)
  refine PySem.W.callWith_K (h₀ := X.base) I.ok.mod.kin (by rw [o.K]; exact hk) (thn (ha X o pos pins s σ H (fun vs H1 => Same H H1 ∧ Reps S.K (hidB χ H1) (enc u) vs) I ⟨χ, R, fun vs H1 e1 rv => ⟨e1, rv⟩⟩) fun us s1 ⟨vs, H1, I1, r, e1, rv⟩ => ⟨I1.kIn, ?_⟩) (he X.env) (hpl X.env)
  have hsp : spX enc bad cls S.K vs H1 (fun _ _ => False) (fun c _ _ => c = cls) := ⟨χ, u, (R.mono e1).live, rv, hd, fun _ _ => rfl⟩
  have hl : us.length = ps.length := by rw [← r.length]; exact F'.len _ _ _ _ hsp
  refine wpAny_call (codeAny_mono (F'.run X.A X.stack s1 H1 ⟨us, []⟩ us vs (fun _ _ => False) (fun c _ _ => c = cls) (o.room.mono hj) I1.env0 (by have := hb' s1 us I1.kIn (by rw [List.append_nil]; exact hl); rw [List.append_nil] at this; exact this) r hsp) fun r s' hq => ?_)
  cases r with
  | error ev =>
    obtain ⟨c, a, H', B, t, rfl, fl, rfl⟩ := hq
    exact hx H1 s1 a s' H' B t I1 e1 fl
  | ok fl =>
    cases fl with
    | ret u => obtain ⟨_, _, _, _, _, _, _, q⟩ := hq; exact q.elim
    | next => exact False.elim hq
    | brk => exact False.elim hq
    | cont => exact False.elim hq
end

abbrev bmV : List Value := [.type "ValueError", .type "Exception", .type "BaseException", .type "object"]

structure ExCls (K : PySem.W.Frag) (mg : Str → Option Value) (x : Str) (C : Addr) : Prop where
  bound : mg x = some (.ref C)
  exc : PySem.W.excIn K C bmV "ValueError.__new__" = true
theorem exc_of_in {K : PySem.W.Frag} {h : Heap} {C : Addr} {bmB : List Value} {newId : String} (X : K.In h) (q : PySem.W.excIn K C bmB newId = true) :
    ∃ bm N nm q bs hdct sn sub ab col dd k0 k1 k2 k3 k5 mN, h.get? C = some (excClassObj nm q C N bs bm hdct sn sub ab col dd k0 k1 k2 k3 k5 newId) ∧ h.Ns N mN ∧ mN "__init__" = none ∧ OwnTail h bmB bm := by
  unfold PySem.W.excIn at q
  split at q
  · rename_i dd cd sl ho
    split at q
    · rename_i C' bm k0 k1 k2 k3 n k5 hm hs
      simp only [Bool.and_eq_true, beq_iff_eq, Bool.not_eq_true'] at q
      obtain ⟨⟨⟨⟨⟨rfl, rfl⟩, hdel⟩, ht⟩, hok⟩, hni⟩ := q
      obtain ⟨nm, bs, mro, ns, qn, hd, sn, sub, ab, col, del⟩ := cd
      dsimp only at hm hdel hok hni
      subst hm hdel
      have hsl : sl = #[k0, k1, k2, k3, some (.builtin n), k5] := by
        obtain ⟨l⟩ := sl
        simp only at hs
        rw [hs]
      subst hsl
      exact ⟨bm, ns, nm, qn, bs, hd, sn, sub, ab, col, dd, k0, k1, k2, k3, k5, _, X _ _ ho, .of_isNs (PySem.W.isNs_of_in X hok), PySem.W.nsMap_none_of_in X hok hni, PySem.W.tail_of_in X ht⟩
    · cases q
  · cases q
section
variable {S : Stat} {Γ : List Sl} {pos cpos np p : Pos} {e : Expr} {x : Str}
theorem x_raise {C : Addr} {d : D} (hC : ExCls S.K S.mg x C) (hm : JE S Γ e d) (hg : S.sc.names.lookup x = some .globalImplicit := by (try dsimp only [Internal.Stat.blk]); decide +kernel) (hdb : (x == ("__debug__" : Str)) = false := by (try dsimp only [Internal.Stat.blk]); decide +kernel)
    (hs : ∀ env, starEach [e] env = [(false, eval e env)] := by intro _; rfl) : JXS S Γ (.Raise (some (.Call (.Name x np) [e] [] cpos)) none pos) (.ref C) := .mk fun X o pins s σ H H₁ φ ω I r k ok Q => by
  have XK := I.mod.kin
  rw [o.K] at XK
  obtain ⟨tl, N, nm, q, bs, hdct, sn, sub, ab, col, dd, k0, k1, k2, k3, k5, mN, hCo, hN, hni, T⟩ := exc_of_in XK hC.exc
  refine wpAny_Raise_call_subT (C := C) (nm := nm) (q := q) (N := N) (bs := bs) (bm := tl) (hdct := hdct) (sn := sn) (sub := sub) (ab := ab) (col := col) (dd := dd) (k0 := k0) (k1 := k1) (k2 := k2) (k3 := k3) (k5 := k5)
    PySem.F.excBase_ValueError (mN := mN) (T.hasType PySem.F.excBase_ValueError.hasBase) (I.ok.hd o.calm) (by rw [hs]; rfl) hni (ld_glob I (gl_of o hg) (by rw [o.mg]; exact hC.bound) ⟨rfl, ?_⟩ hdb)
  have hA := (a_cons hm a_nil hs) X o cpos pins s σ H (fun vs H1 => Same H H1 ∧ vs.length = 1) I ⟨both φ ω, r.re, fun vs H1 e1 rv => ⟨e1, by rw [rv.len]; rfl⟩⟩
  rw [hs] at hA ⊢
  refine Calls.evalArgs_plain (thn hA fun us s1 hP43 => ?_)
  obtain ⟨vs, H1, I1, rvs, e1, hl⟩ := hP43
  have hlen : us.length = 1 := by rw [← rvs.length]; exact hl
  exact ⟨rfl, by dsimp only; rw [hlen]; decide, I1.bk _ _ hCo, hN.keeps I1.bk, T.keeps I1.bk, fun h' a hx => ok.made pins σ H1 s1 h' a us I1 ((kp_same k).trans e1) hx⟩
end
end Internal

end
section
set_option Elab.async false
set_option linter.all false
set_option maxRecDepth 100000
set_option maxHeartbeats 4000000
namespace Internal
open PySem PySem.Spec PyProof.Rows Internal.L2

section
variable {S : Stat} {Γ : List Sl} {pos p : Pos} {e a : Expr}
theorem e_fmtS {x : Str} (h : JE S Γ a (.str x)) (hx : x.length ≤ sizeLine) : JE S Γ (.FormattedValue a (-1) none pos) (.str x) := .mk fun X o pins s σ H Q I hP44 => by
  obtain ⟨χ, R, q⟩ := hP44
  refine wpAny_FormattedValue_plain (thn (h X o pins s σ H (fun v H1 => Same H H1 ∧ Rep S.K (hidB χ H1) (.str x) v) I ⟨χ, R, fun v H1 e1 rv => ⟨e1, rv⟩⟩) fun u s1 hP45 => ?_)
  obtain ⟨v, H1, I1, ru, e1, rv⟩ := hP45
  cases (show v = V.str x from rv)
  obtain ⟨t, rfl⟩ := (show ∃ t, u = Value.str x t from ru)
  exact wpAny_formatField_str ⟨.str x, H1, I1, ⟨_, rfl⟩, q _ H1 e1 rfl⟩ ⟨.str x, H1, I1.tok _, ⟨_, rfl⟩, q _ H1 e1 rfl⟩ hx
theorem e_fmtI {i : Int} (h : JE S Γ a (.int i)) (hi : i.natAbs.log2 < 1920) : JE S Γ (.FormattedValue a (-1) none pos) (.str (toString i)) := .mk fun X o pins s σ H Q I hP46 => by
  obtain ⟨χ, R, q⟩ := hP46
  refine wpAny_FormattedValue_plain (thn (h X o pins s σ H (fun v H1 => Same H H1 ∧ Rep S.K (hidB χ H1) (.int i) v) I ⟨χ, R, fun v H1 e1 rv => ⟨e1, rv⟩⟩) fun u s1 hP47 => ?_)
  obtain ⟨v, H1, I1, ru, e1, rv⟩ := hP47
  cases (show v = V.int i from rv)
  obtain ⟨t, rfl⟩ := (show ∃ t, u = Value.int i t from ru)
  exact wpAny_formatField_int hi ⟨.str (toString i), H1, I1.tok _, ⟨_, rfl⟩, q _ H1 e1 rfl⟩

theorem e_fmtR {x : Str} (h : JE S Γ a (.str x)) (hx : (reprText x).length ≤ sizeLine) : JE S Γ (.FormattedValue a 114 none pos) (.str (reprText x)) := .mk fun X o pins s σ H Q I hP48 => by
  obtain ⟨χ, R, q⟩ := hP48
  refine wpAny_FormattedValue_repr (thn (h X o pins s σ H (fun v H1 => Same H H1 ∧ Rep S.K (hidB χ H1) (.str x) v) I ⟨χ, R, fun v H1 e1 rv => ⟨e1, rv⟩⟩) fun u s1 hP49 => ?_)
  obtain ⟨v, H1, I1, ru, e1, rv⟩ := hP49
  cases (show v = V.str x from rv)
  obtain ⟨t, rfl⟩ := (show ∃ t, u = Value.str x t from ru)
  exact pyReprObj_str (wpAny_formatField_str ⟨.str _, H1, I1.tok _, ⟨_, rfl⟩, q _ H1 e1 rfl⟩ ⟨.str _, H1, (I1.tok _).tok _, ⟨_, rfl⟩, q _ H1 e1 rfl⟩ hx) hx

noncomputable def JP (S : Stat) (Γ : List Sl) (L : Nat) : List Expr → List Str → Prop
  | [], xs => xs = []
  | e :: es, xs => ∃ x r, xs = x :: r ∧ JE S Γ e (.str x) ∧ x.length ≤ L ∧ JP S Γ L es r
theorem p_nil {L : Nat} : JP S Γ L [] [] := rfl
theorem p_cons {L : Nat} {es : List Expr} {x : Str} {xs : List Str} (h : JE S Γ e (.str x)) (hl : x.length ≤ L) (r : JP S Γ L es xs) : JP S Γ L (e :: es) (x :: xs) := ⟨x, xs, rfl, h, hl, r⟩
noncomputable def catS (acc : Str) (xs : List Str) : Str := xs.foldl (· ++ ·) acc
theorem joins_ok {X : Cx} {L : Nat} (o : S.Of X) {pins : List (Addr × Obj)} {σ : Internal.L2.St} {χ : Addr → Bool} : ∀ (es : List Expr) (xs : List Str) (acc : Str) (k : Nat) (s : Shared) (H : Hp) (Q : Str → Shared → Prop), JP S Γ L es xs → acc.length ≤ k * L → (k + es.length) * L ≤ sizeLine → Inv X pins σ H s → RE S.K χ H σ Γ →
    (∀ s1 H1, Inv X pins σ H1 s1 → Same H H1 → (catS acc xs).length ≤ sizeLine → Q (catS acc xs) s1) → Joins (model X.prog X.w) X.A X.xe (evalEach es X.env) acc Q s
  | [], xs, acc, k, s, H, Q, hp, hk, hl, I, R, q => by
    cases (show xs = [] from hp)
    exact q s H I (Same.refl H) (Nat.le_trans hk hl)
  | e :: es, xs, acc, k, s, H, Q, hp, hk, hl, I, R, q => by
    obtain ⟨x, r, rfl, hx, hxl, hr⟩ := hp
    rw [List.length_cons] at hl
    have hl2 : (acc ++ x).length ≤ (k + 1) * L := by rw [strLen_append, Nat.succ_mul]; (first | lia | omega)
    show wpAny _ _ (eval e X.env) _ _ s
    refine thn (hx X o pins s σ H (fun v H1 => Same H H1 ∧ Rep S.K (hidB χ H1) (.str x) v) I ⟨χ, R, fun v H1 e1 rv => ⟨e1, rv⟩⟩) fun u s1 hP50 => ?_
    obtain ⟨v, H1, I1, ru, e1, rv⟩ := hP50
    cases (show v = V.str x from rv)
    obtain ⟨t, rfl⟩ := (show ∃ t, u = Value.str x t from ru)
    refine ⟨x, t, rfl, Nat.le_trans hl2 (Nat.le_trans (Nat.mul_le_mul_right L (by (first | lia | omega))) hl), ?_⟩
    exact joins_ok o es r (acc ++ x) (k + 1) s1 H1 Q hr hl2 (by rw [show k + 1 + es.length = k + (es.length + 1) by (first | lia | omega)]; exact hl) I1 (R.mono e1) fun s2 H2 I2 e2 hz => q s2 H2 I2 (e1.trans e2) hz
theorem e_fstr {e' : Expr} {es : List Expr} {xs : List Str} (h : JP S Γ 1000000 (e :: e' :: es) xs) (hl : es.length ≤ 10) : JE S Γ (.JoinedStr (e :: e' :: es) pos) (.str (catS Str.empty xs)) := .mk fun X o pins s σ H Q I hP51 => by
  obtain ⟨χ, R, q⟩ := hP51
  refine wpAny_JoinedStr (joins_ok o _ xs Str.empty 0 s H _ h (Nat.zero_le _) ?_ I R fun s1 H1 I1 e1 hz => ⟨hz, .str _, H1, I1.tok _, ⟨_, rfl⟩, q _ H1 e1 rfl⟩)
  rw [List.length_cons, List.length_cons]
  exact Nat.le_trans (Nat.mul_le_mul_right _ (show 0 + (es.length + 1 + 1) ≤ 12 by (first | lia | omega))) (by decide)
end
end Internal

end
section
set_option Elab.async false
set_option linter.all false
set_option maxRecDepth 100000
set_option maxHeartbeats 4000000
namespace Internal
open PySem PySem.Spec PyProof.Rows Internal.L2

structure ExLook (K : PySem.W.Frag) (C : Addr) : Prop where
  exc : PySem.W.excIn K C bmV "ValueError.__new__" = true
  cl : PySem.W.findIn K (.ref C) "__class__" = some (some (.builtin "object.__class__"))
  ga : PySem.W.findIn K (.ref C) "__getattribute__" = some (some (.builtin "BaseException.__getattribute__"))
  gt : PySem.W.findIn K (.ref C) "__getattr__" = some none
noncomputable def XcAt (a C : Addr) (h : Heap) : Prop := ∃ o, h.get? a = some o ∧ o.cls = .ref C
section
variable {prog : Program} {w : World} {A : Around} {E : Value → Shared → Prop} {h : Heap} {g : Array GenState} {d : Drawn} {t : Nat} {os : OsState} {a C : Addr} {o : Obj} {K : PySem.W.Frag}
theorem xc_sub {M : Model} {T : String} {Q : Bool → Shared → Prop} (X : K.In h) (L : ExLook K C) (hT : bmV.contains (.type T) = true) (hq : Q true ⟨h, g, d, t, os⟩) : wpAny M A (isSubtype (.ref C) (.type T)) Q E ⟨h, g, d, t, os⟩ := by
  obtain ⟨bm, N, nm, q, bs, hdct, sn, sub, ab, col, dd, k0, k1, k2, k3, k5, mN, hC, hN, hni, T'⟩ := exc_of_in X L.exc
  refine wpAny_isSubtype_exc hC ?_
  rw [show (Value.ref C :: bm).contains (.type T) = true from by rw [List.contains_cons, T'.hasType hT]; exact Bool.or_true _]
  exact hq
theorem xc_get {R : Result → Shared → Prop} (X : K.In h) (L : ExLook K C) (hx : h.get? a = some o) (hc : o.cls = .ref C) (hq : R (.ok (.ret (.ref C))) ⟨h, g, d, t, os⟩) :
    codeAny (model prog w) A (.call (.builtin "getset_descriptor.__get__") ⟨[.builtin "object.__class__", .ref a, .ref C], []⟩) R ⟨h, g, d, t, os⟩ := by
  have hT5 : (⟨h, g, d, t, os⟩ : Shared).TypeIs (.builtin "object.__class__") "getset_descriptor" := F.typeOf_object_class
  have hcB : bmV.contains (.type (".".intercalate ("object.__class__".cutAt '.').dropLast)) = true := by
    rw [F.owner_object_class]; decide +kernel
  refine codeAny_call_builtin F.slot_gs_get.plain F.entry_gs_get (F.slot_gs_get.check _ _ _ _ _ _ _ _ hT5 (F.args_gs_get _ _ _) ?_)
  repeat (any_goals (first | assumption | (with_reducible refine wpAny_loadPart_at hx ?_; rw [hc]) | with_reducible refine xc_sub X L hcB ?_ | wp_step))
  refine ⟨Code.quiet_builtin _ (by decide +kernel), codeAny_builtin F.entry_object_class ?_⟩
  repeat (any_goals (first | assumption | (with_reducible refine wpAny_loadPart_at hx ?_; rw [hc]) | wp_step))
theorem xc_entry {tk : Tok} {Q : Fin → Shared → Prop} (X : K.In h) (L : ExLook K C) (hx : h.get? a = some o) (hc : o.cls = .ref C) (hq : Q (.done (.ret (.ref C))) ⟨h, g, d, t, os⟩) :
    wpAny (model prog w) A (Builtin.«object.__getattribute__» ⟨[.ref a, .str "__class__" tk], []⟩) Q E ⟨h, g, d, t, os⟩ := by
  have hT5 : (⟨h, g, d, t, os⟩ : Shared).TypeIs (.builtin "object.__class__") "getset_descriptor" := F.typeOf_object_class
  have f5 := F.typeOf_object_class
  have f6 := F.slot_gs_get.lookup
  have f7 := F.slot_gs_set.lookup
  have LK : PySem.W.Looks (model prog w) h (typeLookup (.ref C) "__class__") (some (.builtin "object.__class__")) := PySem.W.looks_findIn X L.cl
  repeat (any_goals (first | assumption | (with_reducible refine wpAny_loadPart_at hx ?_; rw [hc]) | with_reducible refine LK.at ?_ | wp_step))
  refine xc_get X L hx hc ?_
  repeat (any_goals (first | assumption | wp_step))
theorem xc_check {M : Model} {nameV : Value} {Q : Unit → Shared → Prop} (X : K.In h) (L : ExLook K C) (hx : h.get? a = some o) (hc : o.cls = .ref C) (hq : Q () ⟨h, g, d, t, os⟩) : wpAny M A (checkBuiltinCall "BaseException.__getattribute__" ⟨[.ref a, nameV], []⟩) Q E ⟨h, g, d, t, os⟩ := by
  have hk : builtinKind "BaseException.__getattribute__" = some .slot := by decide +kernel
  have hsplit : splitId "BaseException.__getattribute__" = some ("BaseException", "__getattribute__") := by decide +kernel
  have ha := F.args_bexc_ga (.ref a) nameV
  have hcB : bmV.contains (.type "BaseException") = true := by decide +kernel
  simp only [checkBuiltinCall, hk, hsplit]
  refine wpAny_bind ?_
  · unfold isInstance
    repeat (first | (with_reducible refine wpAny_loadPart_at hx ?_; rw [hc]) | with_reducible refine xc_sub X L hcB ?_ | wp_step)
    exact hq
theorem xc_call {tk : Tok} {R : Result → Shared → Prop} (X : K.In h) (L : ExLook K C) (hx : h.get? a = some o) (hc : o.cls = .ref C) (hq : R (.ok (.ret (.ref C))) ⟨h, g, d, t, os⟩) :
    codeAny (model prog w) A (.call (.builtin "BaseException.__getattribute__") ⟨[.ref a, .str "__class__" tk], []⟩) R ⟨h, g, d, t, os⟩ :=
  codeAny_call_builtin F.attr_ValueError.ga.plain F.entry_bexc_ga (xc_check X L hx hc (xc_entry X L hx hc hq))
theorem xc_by {tk : Tok} {Q : Value → Shared → Prop} (X : K.In h) (L : ExLook K C) (hx : h.get? a = some o) (hc : o.cls = .ref C) (hq : Q (.ref C) ⟨h, g, d, t, os⟩) :
    wpAny (model prog w) A (getAttrBy (.ref a) (.str "__class__" tk) false) Q E ⟨h, g, d, t, os⟩ := by
  have f3 := F.attr_ValueError.ga.bind (.ref a)
  have hx2 : (Value.builtin "BaseException.__getattribute__" == Value.builtin "object.__getattribute__") = false := by decide +kernel
  have hx1 : (onTheHeap (Value.ref C) && Value.builtin "BaseException.__getattribute__" == Value.builtin "object.__getattribute__") = false := by rw [hx2]; rfl
  have L1 : PySem.W.Looks (model prog w) h (typeLookup (.ref C) "__getattribute__") (some (.builtin "BaseException.__getattribute__")) := PySem.W.looks_findIn X L.ga
  have Internal.L2 : PySem.W.Looks (model prog w) h (typeLookup (.ref C) "__getattr__") none := PySem.W.looks_findIn X L.gt
  repeat (any_goals (first | assumption | (with_reducible refine wpAny_loadPart_at hx ?_; rw [hc]) | with_reducible refine L1.at ?_ | with_reducible refine Internal.L2.at ?_ | wp_step))
  refine xc_call X L hx hc ?_
  repeat (any_goals (first | assumption | wp_step))
theorem xc_attr {Q : Option Value → Shared → Prop} (X : K.In h) (L : ExLook K C) (hx : h.get? a = some o) (hc : o.cls = .ref C) (hq : Q (some (.ref C)) ⟨h, g, d, t + 1, os⟩) : wpAny (model prog w) A (getAttr? (.ref a) "__class__") Q E ⟨h, g, d, t, os⟩ := by
  unfold getAttr? getAttrBy?
  repeat (any_goals (first | assumption | with_reducible apply xc_by X L hx hc | wp_step))
theorem kitx_exc (L : ExLook K C) : PySem.W.KitX K (.ref a) (.ref C) (XcAt a C) where
  ty := fun M h _ ⟨o, h1, h2⟩ => h2 ▸ (PySem.W.Looks.ld h1).andThen .now
  it := fun M h X _ => by
    obtain ⟨bm, N, nm, q, bs, hdct, sn, sub, ab, col, dd, k0, k1, k2, k3, k5, mN, hC, hN, hni, T'⟩ := exc_of_in X L.exc
    intro A' Q' E' s' k q
    unfold isType loadHead
    exact wpAny_bind (wpAny_loadPart (k _ _ hC) (wpAny_pure q))
  ne := fun h tp dd its n sl X htp => by
    obtain ⟨bm, N, nm, q, bs, hdct, sn, sub, ab, col, dd, k0, k1, k2, k3, k5, mN, hC, hN, hni, T'⟩ := exc_of_in X L.exc
    refine Bool.eq_false_iff.mpr fun q => ?_
    have e : C = tp := Value.ref.inj (beq_iff_eq.mp q)
    subst e
    have z := congrArg Obj.data (Option.some.inj (hC.symm.trans htp))
    unfold excClassObj at z
    nomatch z
  ca := fun {_ _ _ _ _ s} X ⟨o, h1, h2⟩ k => by obtain ⟨h, g, d, t, os⟩ := s; exact xc_attr X L h1 h2 k
end
end Internal

end
section
set_option Elab.async false
set_option linter.all false
set_option maxRecDepth 100000
set_option maxHeartbeats 4000000
namespace Internal
open PySem PySem.Spec PyProof.Rows Internal.L2

theorem objOk_there {P : Program} {w : World} {H : Hp} {h : Heap} {a : Addr} {o : HO} (x : ObjOk P w H h a o) : ∃ ob, h.get? a = some ob := by
  cases o with
  | lst xs => obtain ⟨_, _, _, _, e⟩ := x; exact ⟨_, e⟩
  | tup xs => obtain ⟨_, _, _, ob, e, _⟩ := x; exact ⟨_, e⟩
  | dK kvs => obtain ⟨_, _, _, _, o, _, _, e, _⟩ := x; exact ⟨_, e⟩
  | dT kvs => obtain ⟨_, _, _, _, o, _, _, e, _⟩ := x; exact ⟨_, e⟩
  | set S n => obtain ⟨o, _, _, _, e, _⟩ := x; exact ⟨_, e⟩
  | ins C dx fs => obtain ⟨_, _, _, e, _⟩ := x; exact ⟨_, e⟩
  | own y => exact x
  | xd fs => obtain ⟨_, ⟨_, _, _, e, _⟩, _⟩ := x; exact ⟨_, e⟩
  | rng lo hi => obtain ⟨_, _, _, e⟩ := x; exact ⟨_, e⟩
  | frz ob u => obtain ⟨e, _⟩ := x; exact ⟨_, e⟩
  | tbl ps => exact ⟨_, (show h.get? a = some _ from x)⟩
  | met f y => exact ⟨_, (show h.get? a = some _ from x)⟩
  | ext φ => obtain ⟨_, e, _⟩ := x; exact e
section
variable {X : Cx} {pins : List (Addr × Obj)} {σ : Internal.L2.St} {H H' : Hp} {s s' : Shared} {B h5 : Heap} {a t : Addr} {cls : Value}
theorem fly_out (fl : Fly X.prog X.w X.stack H s cls a s' H' B t) : H' a = none := by
  cases c : H' a with
  | none => rfl
  | some o =>
    obtain ⟨ob, e⟩ := objOk_there (fl.hok a o c)
    have := fl.fly.2.1
    rw [e] at this; cases this
theorem inv_fly (I : Internal.L2.Inv X pins σ H s) (fl : Fly X.prog X.w X.stack H s cls a s' H' B t) (hB : B.StaysIn h5) (hU : s'.heap.UpToSlots h5) : Internal.L2.Inv X pins σ H' { s' with heap := h5 } := by
  refine I.call' (s' := { s' with heap := h5 }) (ch := []) fl.os ⟨fun b o e n hb _ => hB _ _ (fl.keep b o e n hb), fun b o e n hb _ => ?_, fun b o e n _ => fl.free b o e n, fun b o e _ => ?_, fun b xs e => fl.same _ _ e, fun b o u e => fl.same _ _ e, fun b ps e => ⟨#[], by rw [fl.same _ _ e]; simp⟩⟩ (fl.hok.kept hB) fl.bare (fun b hb => nomatch hb)
  · obtain ⟨sl, e1⟩ := fl.slot b o e n hb
    obtain ⟨o2, e2, hd⟩ := frames_dict fl.fly.2.2.1 b hb
    rw [e1] at e2; cases e2
    obtain ⟨sl', e3⟩ := hU b _ e1 hd
    exact ⟨sl', e3⟩
  · cases c : H b with
    | some u =>
      obtain ⟨ob, q⟩ := objOk_there (fl.hok b u (fl.same _ _ c))
      exact ⟨ob, hB _ _ q⟩
    | none =>
      by_cases hb : b ∈ frs X.stack
      · obtain ⟨sl, e1⟩ := fl.slot b o e c hb
        obtain ⟨o2, e2, hd⟩ := frames_dict fl.fly.2.2.1 b hb
        rw [e1] at e2; cases e2
        obtain ⟨sl', e3⟩ := hU b _ e1 hd
        exact ⟨_, e3⟩
      · exact ⟨o, hB _ _ (fl.keep b o e c hb)⟩

noncomputable def mkd (X : Cx) (a : Addr) (oe : Obj) : Cx := { X with A := X.A.mark (some (.ref a)), calm := false, pn := (a, oe) :: X.pn, xe := fun _ _ => False }
theorem inv_mkd {oe : Obj} {vs : Array Value} (I : Internal.L2.Inv X pins σ H s) (he : s.heap.get? a = some oe) (hd : oe.data = .fields vs) (hn : H a = none) : Internal.L2.Inv (mkd X a oe) pins σ H s := by
  refine ⟨⟨I.ok.mod, I.ok.kind, I.ok.glob, I.ok.blt, I.ok.above, I.ok.inj, I.ok.has, I.ok.cab, (fun z => Bool.noConfusion z), I.ok.frames, I.ok.stk, I.ok.exf, I.ok.bs, I.ok.bsz, I.ok.noex, I.ok.exfs, I.ok.funs, I.ok.frf⟩, I.os, I.bare, I.base, I.loc, I.cell, I.free, I.freeC, fun p hp => ?_, I.hok, I.len⟩
  rcases List.mem_cons.mp (show p ∈ (a, oe) :: (X.pn ++ pins) from hp) with rfl | hp
  · refine ⟨he, hn, fun z => ?_, fun z => ?_, fun v z => by rw [hd] at z; cases z⟩
    · obtain ⟨m, ⟨o', es, ep, ho', hd', _⟩, _⟩ := I.loc
      have z' : a = X.env.locals := z
      rw [← z', he] at ho'; cases ho'
      rw [hd] at hd'; cases hd'
    · obtain ⟨o2, e2, hd2⟩ := frames_dict I.funs a z
      rw [he] at e2; cases e2
      exact hd2 vs hd
  · exact I.pin p hp
theorem inv_unmkd {oe : Obj} (ok : X.Ok) (I : Internal.L2.Inv (mkd X a oe) pins σ H s) : Internal.L2.Inv X pins σ H s :=
  ⟨ok, I.os, I.bare, I.base, I.loc, I.cell, I.free, I.freeC, fun p hp => I.pin p (List.mem_cons_of_mem _ hp), I.hok, I.len⟩
theorem mkd_at {oe : Obj} (I : Internal.L2.Inv (mkd X a oe) pins σ H s) : s.heap.get? a = some oe := (I.pin (a, oe) (List.mem_cons_self ..)).1

theorem inv_gone {n : Str} {i : Nat} {h' : Heap} {m m' : Str → Option Value} {t' : Nat} (I : Internal.L2.Inv X pins σ H s) (hN : X.N.Nodup) (hi : X.N[i]? = some n) (hk : X.env.kindOf n = some .local) (hn : s.heap.Ns X.env.locals m)
    (hn' : h'.Ns X.env.locals m') (hm : ∀ x, x ≠ n → m' x = m x) (hs : Heap.SameBut X.env.locals s.heap h') : Internal.L2.Inv X pins (σ.set i none) H { s with heap := h', toks := t' } := by
  have cne := I.cne
  obtain ⟨oL, _, _, hoL, _⟩ := id hn
  have tracked : HOk X.prog X.w H h' := fun b ob e => by
    refine (I.hok b ob e).stay (fun c w' hc q => (hs.2 c ?_).trans q) (fun _ q => q) fun _ _ q => q
    rintro rfl
    rcases hc with rfl | hc
    · rw [I.free] at e; cases e
    · rw [I.free] at hc; cases hc
  refine ⟨I.ok, I.os, I.bare, ⟨fun b o e n hb hx => ?_, fun b o e n hb hx => ?_, I.base.free, fun b o e hx => ?_, I.base.tups, I.base.frzs, I.base.tbls⟩, ⟨_, hn', fun j y v' e1 e2 e3 => ?_⟩, fun y c e => ?_, I.free, I.freeC, fun p hp => ?_, tracked, by simpa using I.len⟩
  · exact (hs.2 b (Nat.ne_of_lt (Nat.lt_of_lt_of_le (Heap.lt_size e) I.ok.above))).trans (I.base.keep b o e n hb hx)
  · obtain ⟨sl, e1⟩ := I.base.slot b o e n hb hx
    exact ⟨sl, (hs.2 b (Nat.ne_of_lt (Nat.lt_of_lt_of_le (Heap.lt_size e) I.ok.above))).trans e1⟩
  · obtain ⟨o', e1⟩ := I.base.there b o e hx
    exact ⟨o', (hs.2 b (Nat.ne_of_lt (Nat.lt_of_lt_of_le (Heap.lt_size e) I.ok.above))).trans e1⟩
  · obtain ⟨m0, hn0, hl0⟩ := I.loc
    have em : m0 = m := hn0.eq_nsMap.trans hn.eq_nsMap.symm
    subst em
    by_cases hj : j = i
    · subst hj
      have hiσ : j < σ.length := by rw [I.len]; exact (List.getElem?_eq_some_iff.mp hi).1
      rw [List.getElem?_set_self hiσ] at e2
      cases e2
    · rw [List.getElem?_set_ne (Ne.symm hj)] at e2
      obtain ⟨u', r', q⟩ := hl0 j y v' e1 e2 e3
      refine ⟨u', r', ?_⟩
      rcases q with ⟨k, e⟩ | ⟨k, c, e, z⟩
      · refine .inl ⟨k, ?_⟩
        have : y ≠ n := fun e => hj (nodup_ix hN e1 (e ▸ hi))
        rw [hm y this]; exact e
      · exact .inr ⟨k, c, e, z.sameBut hs (cne y c e)⟩
  · obtain ⟨w', z⟩ := I.cell y c e
    exact ⟨w', z.sameBut hs (cne y c e)⟩
  · obtain ⟨e, n, ne, nf, d⟩ := I.pin p hp
    exact ⟨(hs.2 p.1 ne).trans e, n, ne, nf, d⟩
end
end Internal

end
section
set_option Elab.async false
set_option linter.all false
set_option maxRecDepth 100000
set_option maxHeartbeats 4000000
namespace Internal
open PySem PySem.Spec PyProof.Rows Internal.L2
section
variable {K : PySem.W.Frag} {A : Around} {E : Value → Shared → Prop} {h : Heap} {g : Array GenState} {d : Drawn} {t : Nat} {os : OsState} {a C D : Addr} {o : Obj}

theorem excMatches_sup {prog : Program} {w : World} {Q : Bool → Shared → Prop} (X : K.In h) (hD : PySem.W.excIn K D bmV "ValueError.__new__" = true) (hs : PySem.W.subIn K (.ref C) (.ref D) = some true) (he : h.get? a = some o) (hcls : o.cls = .ref C) (hq : Q true ⟨h, g, d, t, os⟩) :
    wpAny (model prog w) A (excMatches (.ref a) (.ref D)) Q E ⟨h, g, d, t, os⟩ := by
  obtain ⟨bm, N, nm, q, bs, hdct, sn, sub, ab, col, dd, k0, k1, k2, k3, k5, mN, hDo, hN, hni, T⟩ := exc_of_in X hD
  have hcB : (Value.ref D :: bm).contains (.type "BaseException") = true := by rw [List.contains_cons, T.hasType (by decide +kernel : bmV.contains (.type "BaseException") = true), Bool.or_true]
  have L1 : PySem.W.Looks (model prog w) h (isSubtype (.ref C) (.ref D)) true := PySem.W.looks_subIn X hs
  have f := tc_notTuple
  unfold excMatches
  repeat (first | (with_reducible refine wpAny_loadPart_at he ?_; rw [hcls]) | with_reducible refine wpAny_loadPart_at hDo ?_ | (with_reducible refine wpAny_isSubtype_exc hDo ?_; rw [hcB]) | with_reducible refine L1.at ?_ | wp_step)
  exact hq
end

noncomputable def IsC (S : Stat) (y : Str) (C : Addr) (b : Bool) : Prop := (∃ D, S.mg y = some (.ref D) ∧ PySem.W.kitOne S.K (.ref C) (.ref D) = some b) ∨ (∃ T, S.mg y = none ∧ bootBuiltins y = some (.type T) ∧ PySem.W.kitOne S.K (.ref C) (.type T) = some b)
noncomputable def tMk (i : Nat) (a : Addr) (b : Bool) : TE := fun σ H Q => σ[i]? = some (some (.ref a)) ∧ Q (.bl b) H
section
variable {S : Stat} {Γ : List Sl} {pos p p1 p2 : Pos} {C a : Addr} {oe : Obj} {b : Bool} {x y : Str} {i : Nat}
theorem pe_isi {X : Cx} (o : S.Of X) (L : ExLook S.K C) (hc : oe.cls = .ref C) (hy : IsC S y C b) (hm : S.mg "isinstance" = none) (hN : S.N[i]? = some x) (hx : Loc S.sc x) (h1 : (x == ("__debug__" : Str)) = false) (h2 : (x == ("__classdict__" : Str)) = false)
    (hg : S.sc.names.lookup ("isinstance" : Str) = some .globalImplicit) (hgy : S.sc.names.lookup y = some .globalImplicit) (hn : y ≠ "__name__") (hdb : (y == ("__debug__" : Str)) = false) :
    PE (mkd X a oe) (.Call (.Name "isinstance" p) [.Name x p1, .Name y p2] [] pos) (tMk i a b) := by
  have gl : ∀ z : Str, S.sc.names.lookup z = some .globalImplicit → Gl (mkd X a oe) z := fun z q => gl_of o q
  have ev : ∃ (v : V) (u : Value), PE (mkd X a oe) (.Name y p2) (tC v) ∧ (∀ u', RelV v u' → u' = u) ∧ PySem.W.kitOne S.K (.ref C) u = some b := by
    rcases hy with ⟨D, m1, k1⟩ | ⟨T, m1, m2, k1⟩
    · exact ⟨.ref D, .ref D, pe_glob (gl y hgy) (by show X.mg y = _; rw [o.mg]; exact m1) rfl hdb, fun _ z => z, k1⟩
    · exact ⟨.ty T, .type T, pe_bltn (gl y hgy) (by show X.mg y = _; rw [o.mg]; exact m1) m2 rfl hn hdb, fun _ z => z, k1⟩
  obtain ⟨v, u, hv, ru, hk⟩ := ev
  intro pins s σ H Q I ⟨hσ, q⟩
  refine wpAny_Call_Name_kw (ld_blt I (gl _ hg) (by show X.mg _ = _; rw [o.mg]; exact hm) boot_isinstance ?_)
  have ha := pa_cons (pe_var (X := mkd X a oe) (i := i) (x := x) (pos := p1) (by show X.N[i]? = _; rw [o.N]; exact hN) (by show Vis X.env.scope x; rw [o.sc]; exact hx.elim .inl fun z => .inr (.inl z)) h1 h2) (pa_cons hv pa_nil)
  refine PyProof.Rows.callWith_builtin1 (thn (ha pos pins s σ H (fun vs H1 => vs = [.ref a, v] ∧ H1 = H) I ⟨.ref a, hσ, rfl, rfl⟩) fun us s1 hP52 => ?_)
  obtain ⟨vs, H1, I1, r1, e1, e2⟩ := hP52
  subst e1 e2
  cases r1 with
  | cons ra r1 =>
    cases r1 with
    | cons rb r1 =>
      cases r1
      cases (show _ = Value.ref a from ra)
      cases ru _ rb
      have Kin : S.K.In s1.heap := by have := I1.kIn; rw [show (mkd X a oe).K = S.K from o.K] at this; exact this
      exact PySem.W.kia_one (kitx_exc L) Kin ⟨oe, mkd_at I1, hc⟩ hk (by intro z; cases z) fun tk => ⟨.bl b, H1, I1.tok _, rfl, q⟩
end
end Internal

end
section
set_option Elab.async false
set_option linter.all false
set_option maxRecDepth 100000
set_option maxHeartbeats 4000000
namespace Internal
open PySem PySem.Spec PyProof.Rows Internal.L2
theorem handleBy_sup {prog : Program} {w : World} {A : Around} {E : Value → Shared → Prop} {s : Shared} {env : Env} {K : PySem.W.Frag} {e C D : Addr} {t : Expr} {n : Str} {b₀ : Stmt} {suite : List Stmt} {pos : Pos} {rest : List ExceptHandler} {Q : Flow → Shared → Prop} (hD : PySem.W.excIn K D bmV "ValueError.__new__" = true)
    (hs : PySem.W.subIn K (.ref C) (.ref D) = some true)
    (h : wpAny (model prog w) (A.mark (some (.ref e))) (eval t env) (fun c s₁ => c = .ref D ∧ K.In s₁.heap ∧ (∃ oe, s₁.heap.get? e = some oe ∧ oe.cls = .ref C) ∧
      wpAny (model prog w) (A.mark (some (.ref e))) (setFlight (.ref e) none) (fun _ s₂ =>
          wpAny (model prog w) (A.mark (some (.ref e))) (storeName env n (.ref e)) (fun _ s₃ =>
            wpAny (model prog w) (A.mark (some (.ref e))) (execs (b₀ :: suite) env)
              (fun f s₄ => wpAny (model prog w) A (do bindName env n .none; unbindBehindTheSuite env n pos) (fun _ s₅ => Q f s₅) E s₄)
              (AsSuiteRaised (model prog w) (A.mark (some (.ref e))) env n pos (notedBy (model prog w) (A.mark (some (.ref e))) env (cameBackBy (model prog w) A env E))) s₃) (notedBy (model prog w) (A.mark (some (.ref e))) env (cameBackBy (model prog w) A env E)) s₂) (notedBy (model prog w) (A.mark (some (.ref e))) env (cameBackBy (model prog w) A env E)) s₁) (notedBy (model prog w) (A.mark (some (.ref e))) env (cameBackBy (model prog w) A env E)) s) :
    wpAny (model prog w) A (handleBy (.ref e) env (.ExceptHandler (some t) (some n) (b₀ :: suite) pos :: rest)) Q E s := by
  refine wpAny_handleBy_cons (codeAny_handlers_test (wpAny_mono h (fun c s₁ h₁ => ?_) fun _ _ y => y)) (by intro q; cases q)
  obtain ⟨rfl, X, ⟨oe, he, hcls⟩, hk⟩ := h₁
  obtain ⟨hh, g, d, tk, os⟩ := s₁
  exact excMatches_sup X hD hs he hcls (codeAny_handlers_suite_as hk)
section
variable {K : PySem.W.Frag} {φ : Addr → Bool} {ω : Addr → Option (Bool × Nat)} {H : Hp} {σ : Internal.L2.St} {Γ : List Sl}

theorem RS.skip (r : RS K φ ω H σ Γ) {i : Nat} (hi : Γ[i]? = some .no) (v : Option V) : RS K φ ω H (σ.set i v) Γ := by
  refine ⟨r.live, by rw [List.length_set]; exact r.len, fun j d h => ?_, fun j a ds h => ?_, r.argu⟩
  · have hj : i ≠ j := fun z => by rw [← z, hi] at h; cases h
    obtain ⟨v', e, q⟩ := r.val j d h
    exact ⟨v', by rw [List.getElem?_set_ne hj]; exact e, q⟩
  · have hj : i ≠ j := fun z => by rw [← z, hi] at h; cases h
    obtain ⟨p, vs, e, q⟩ := r.own j a ds h
    exact ⟨p, vs, by rw [List.getElem?_set_ne hj]; exact e, q⟩
end
theorem inv_unxe {X : Cx} {xe : Value → Shared → Prop} {pins : List (Addr × Obj)} {σ : Internal.L2.St} {H : Hp} {s : Shared} (I : Internal.L2.Inv { X with xe := xe } pins σ H s) : Internal.L2.Inv X pins σ H s :=
  ⟨⟨I.ok.mod, I.ok.kind, I.ok.glob, I.ok.blt, I.ok.above, I.ok.inj, I.ok.has, I.ok.cab, I.ok.hd, I.ok.frames, I.ok.stk, I.ok.exf, I.ok.bs, I.ok.bsz, I.ok.noex, I.ok.exfs, I.ok.funs, I.ok.frf⟩, I.os, I.bare, I.base, I.loc, I.cell, I.free, I.freeC, I.pin, I.hok, I.len⟩
section
variable {S : Stat} {Γ : List Sl} {E : DEnds} {pos p1 dp hp mp lp ap q1 q2 q3 q4 r1 r2 r3 r4 t1 t2 t3 t4 : Pos} {C D : Addr} {b1 b2 b3 : Bool} {dn en mn y1 y2 y3 : Str} {call : Expr}
theorem s_tryM (ie im : Nat) (hx : JXE S Γ call (.ref C)) (L : ExLook S.K C) (hD : S.mg dn = some (.ref D)) (xD : PySem.W.excIn S.K D bmV "ValueError.__new__" = true) (sub : PySem.W.subIn S.K (.ref C) (.ref D) = some true)
    (hy1 : IsC S y1 C b1) (hy2 : IsC S y2 C b2) (hy3 : IsC S y3 C b3) (hm : S.mg "isinstance" = none) (hΓ : Γ[ie]? = some .no) (h : E.nx (Γ.set im (.own [.bl b1, .bl b2, .bl b3])))
    (him : im < Γ.length := by exact Nat.le_of_ble_eq_true rfl) (hne : ie ≠ im := by decide)
    (hN : S.N.Nodup := by (try dsimp only [Internal.Stat.blk]); decide +kernel) (hie : S.N[ie]? = some en := by (try dsimp only [Internal.Stat.blk]); decide +kernel) (hen : S.sc.names.lookup en = some .local := by (try dsimp only [Internal.Stat.blk]); decide +kernel)
    (himn : S.N[im]? = some mn := by (try dsimp only [Internal.Stat.blk]); decide +kernel) (hmn : Loc S.sc mn := by (try dsimp only [Internal.Stat.blk]); decide +kernel)
    (h1 : (en == ("__debug__" : Str)) = false := by decide +kernel) (h2 : (en == ("__classdict__" : Str)) = false := by decide +kernel) (hg : S.sc.names.lookup ("isinstance" : Str) = some .globalImplicit := by (try dsimp only [Internal.Stat.blk]); decide +kernel)
    (hdn : S.sc.names.lookup dn = some .globalImplicit := by (try dsimp only [Internal.Stat.blk]); decide +kernel) (hdd : (dn == ("__debug__" : Str)) = false := by decide +kernel)
    (hg1 : S.sc.names.lookup y1 = some .globalImplicit := by (try dsimp only [Internal.Stat.blk]); decide +kernel) (hn1 : y1 ≠ "__name__" := by decide +kernel) (hd1 : (y1 == ("__debug__" : Str)) = false := by decide +kernel)
    (hg2 : S.sc.names.lookup y2 = some .globalImplicit := by (try dsimp only [Internal.Stat.blk]); decide +kernel) (hn2 : y2 ≠ "__name__" := by decide +kernel) (hd2 : (y2 == ("__debug__" : Str)) = false := by decide +kernel)
    (hg3 : S.sc.names.lookup y3 = some .globalImplicit := by (try dsimp only [Internal.Stat.blk]); decide +kernel) (hn3 : y3 ≠ "__name__" := by decide +kernel) (hd3 : (y3 == ("__debug__" : Str)) = false := by decide +kernel)
    (hs : ∀ X : Cx, swapsWith call none p1.line X.env = pure false := by intro _; rfl) (htop : S.top = true := by rfl) :
    JS S Γ (.Try [.Expr call p1] [.ExceptHandler (some (.Name dn dp)) (some en) [.Assign [.Name mn mp] (.List [.Call (.Name "isinstance" q1) [.Name en q2, .Name y1 q3] [] q4, .Call (.Name "isinstance" r1) [.Name en r2, .Name y2 r3] [] r4, .Call (.Name "isinstance" t1) [.Name en t2, .Name y3 t3] [] t4] lp) ap] hp] [] [] pos) E := .mk fun X o pins s σ H Z I hP53 => by
  obtain ⟨φ, ω, r, c⟩ := hP53
  obtain ⟨stk, fr0⟩ := o.stk htop
  have o' := of_xe (S := S) (xe := fun e s1 => wpAny (model X.prog X.w) X.A (noteFrame e X.env) (fun _ s2 => wpAny (model X.prog X.w) X.A (setFlight e none) (fun _ s3 => wpAny (model X.prog X.w) X.A (handleBy e X.env [.ExceptHandler (some (.Name dn dp)) (some en) [.Assign [.Name mn mp] (.List [.Call (.Name "isinstance" q1) [.Name en q2, .Name y1 q3] [] q4, .Call (.Name "isinstance" r1) [.Name en r2, .Name y2 r3] [] r4, .Call (.Name "isinstance" t1) [.Name en t2, .Name y3 t3] [] t4] lp) ap] hp]) (SP X pins Z) X.xe s3) X.xe s2) X.xe s1) o PassesOwn.looking
  refine wpAny_Try_except (wpAny_execs_cons (thn (wpAny_Expr_any (thn (hx.run _ o' pins s σ H (both φ ω) (inv_xe I) r.re (fun H2 s2 a s' H' B t I2 e2 fl => ?_) (fun _ _ => False)) fun _ _ z => z.elim) I.quiet (hs X)) fun _ _ z => z))
  have I2' : Internal.L2.Inv X pins σ H2 s2 := inv_unxe I2
  have fl' : Fly X.prog X.w X.stack H2 s2 (.ref C) a s' H' B t := fl
  have hfr : X.A.frames = some (X.env :: X.outer) := by rw [I.ok.frames, stk]
  have ff := fl'.fly
  rw [stk] at ff
  refine wpAny_looks_onW hfr fr0 ff fun h1' x1 u1 => ?_
  refine wpAny_landsW x1 fun h2' x2 u2 => ?_
  obtain ⟨oe, vs, he, hcls, hd, _⟩ := x2.first
  have I3 := inv_fly I2' fl' x2.1 (u1.trans u2)
  have Im := inv_mkd I3 he hd (fly_out fl')
  have gl : ∀ (b : Addr) (ob : Obj) (z : Str), S.sc.names.lookup z = some .globalImplicit → Gl (mkd X b ob) z := fun b ob z q => gl_of o q
  refine handleBy_sup (K := S.K) (C := C) (D := D) xD sub (ld_glob Im (gl _ _ _ hdn) (by show X.mg _ = _; rw [o.mg]; exact hD) ⟨rfl, ?_, ⟨oe, he, hcls⟩, ?_⟩ hdd)
  · have := Im.kIn; rw [show (mkd X a oe).K = S.K from o.K] at this; exact this
  refine lands_againW x2 fun h4 x4 u4 => ?_
  obtain ⟨oe4, vs4, he4, hcls4, hd4, _⟩ := x4.first
  have I4 := inv_fly I2' fl' x4.1 ((u1.trans u2).trans u4)
  have Im4 := inv_mkd I4 he4 hd4 (fly_out fl')
  refine store_ok (X := mkd X a oe4) Im4 (by show X.N.Nodup; rw [o.N]; exact hN) (by show X.N[ie]? = _; rw [o.N]; exact hie) (by show Loc X.env.scope en; rw [o.sc]; exact .inl hen) (v := .ref a) rfl (fun s5 I5 => ?_) (.inl (o.fn htop en))
  have P : PS (mkd X a oe4) (.Assign [.Name mn mp] (.List [.Call (.Name "isinstance" q1) [.Name en q2, .Name y1 q3] [] q4, .Call (.Name "isinstance" r1) [.Name en r2, .Name y2 r3] [] r4, .Call (.Name "isinstance" t1) [.Name en t2, .Name y3 t3] [] t4] lp) ap) _ :=
    ps_set (i := im) (by show X.N.Nodup; rw [o.N]; exact hN) (by show X.N[im]? = _; rw [o.N]; exact himn) (by show Loc X.env.scope mn; rw [o.sc]; exact hmn)
      (pe_lst (pa_cons (pe_isi o L hcls4 hy1 hm hie (.inl hen) h1 h2 hg hg1 hn1 hd1) (pa_cons (pe_isi o L hcls4 hy2 hm hie (.inl hen) h1 h2 hg hg2 hn2 hd2) (pa_cons (pe_isi o L hcls4 hy3 hm hie (.inl hen) h1 h2 hg hg3 hn3 hd3) pa_nil)))) rfl (.inl (o.fn htop mn))
  have hσ : (σ.set ie (some (V.ref a)))[ie]? = some (some (V.ref a)) := List.getElem?_set_self (by rw [r.len]; exact (List.getElem?_eq_some_iff.mp hΓ).1)
  refine wpAny_mono ((pss_cons P pss_nil) pins s5 _ H' { nx := fun σ' H'' => ∃ p, H' p = none ∧ σ' = (σ.set ie (some (V.ref a))).set im (some (.ref p)) ∧ H'' = upd H' p (.lst [.bl b1, .bl b2, .bl b3]), rt := fun _ _ => False } I5 ⟨hσ, hσ, hσ, by show 3 ≤ sizeLine; decide, fun p hp => ⟨p, hp, rfl, rfl⟩⟩) (fun f s6 z => ?_) fun _ _ z => z.elim
  cases f with
  | brk => obtain ⟨_, _, _, q⟩ := z; exact q.elim
  | cont => obtain ⟨_, _, _, q⟩ := z; exact q.elim
  | ret u => obtain ⟨_, _, _, _, _, q⟩ := z; exact q.elim
  | next =>
    obtain ⟨_, _, I6, p, hp, rfl, rfl⟩ := z
    have I6' := inv_unmkd I.ok I6
    obtain ⟨m, hn, _⟩ := id I6'.loc
    refine wpAny_nameGoes_keeps (by show X.env.scope.names.lookup en = _; rw [o.sc]; exact hen) hn (by rw [I.ok.kind]; rfl) fun h7 v hn7 hs7 => ?_
    have hsm : Same H H' := e2.trans fl'.same
    obtain ⟨r', k'⟩ := ((r.mono hsm).skip hΓ (some (.ref a))).takeC (H' := upd H' p (.lst [.bl b1, .bl b2, .bl b3])) (vs := .lst [.bl b1, .bl b2, .bl b3]) (ds := .lst [.bl b1, .bl b2, .bl b3]) him hp (same_new hp _) upd_same ⟨_, rfl, _, _, rfl, rfl, _, _, rfl, rfl, _, _, rfl, rfl, rfl⟩
    refine ⟨_, _, inv_gone I6' (by rw [o.N]; exact hN) (by rw [o.N]; exact hie) (by show X.env.scope.names.lookup en = _; rw [o.sc]; exact hen) hn hn7 (fun x hx => by simp [hx]) hs7, c.n _ _ _ _ h (r'.skip ?_ none) ((Kp.of hsm).trans k')⟩
    rw [List.getElem?_set_ne (Ne.symm hne)]; exact hΓ
end
end Internal

end
section
set_option Elab.async false
set_option linter.all false
set_option maxRecDepth 100000
set_option maxHeartbeats 4000000
namespace Internal
open PySem PySem.Spec PyProof.Rows Internal.L2

structure JXA (S : Stat) (Γ : List Sl) (es : List Expr) (cls : Value) : Prop where
  run : ∀ X, S.Of X → ∀ (pos : Pos) (pins : List (Addr × Obj)) (s : Shared) (σ : Internal.L2.St) (H : Hp) (χ : Addr → Bool), Inv X pins σ H s → RE S.K χ H σ Γ →
    (∀ (H2 : Hp) (s2 : Shared) (a : Addr) (s' : Shared) (H' : Hp) (B : Heap) (t : Addr), Inv X pins σ H2 s2 → Same H H2 → Fly X.prog X.w X.stack H2 s2 cls a s' H' B t → X.xe (.ref a) s') → ∀ Q, wpAny (model X.prog X.w) X.A (spliced (backTo pos (starEach es X.env))) Q X.xe s
section
variable {S : Stat} {Γ : List Sl} {pos pos' p : Pos} {e a b : Expr} {es : List Expr} {x : Str} {cls : Value} {d : D}
theorem x_ret (h : JXE S Γ e cls) : JXS S Γ (.Return (some e) pos) cls := .mk fun X o pins s σ H H₁ φ ω I r k ok Q =>
  wpAny_Return_some (thn (h.run X o pins s σ H (both φ ω) I r.re (fun H2 s2 a s' H' B t I2 e2 fl => ok.on pins σ H2 s2 a s' H' B t I2 ((kp_same k).trans e2) fl) (fun _ _ => False)) fun _ _ z => z.elim)
theorem xa_head (h : JXE S Γ e cls) (hs : ∀ env, starEach (e :: es) env = (false, eval e env) :: starEach es env := by intro _; rfl) : JXA S Γ (e :: es) cls := .mk fun X o pos pins s σ H χ I R hx Q => by
  rw [hs]
  show wpAny _ _ (spliced ((false, eval e X.env) :: backTo pos (starEach es X.env))) _ _ s
  exact Calls.spliced_cons (thn (h.run X o pins s σ H χ I R hx (fun _ _ => False)) fun _ _ z => z.elim)
theorem xa_cons (he : JE S Γ e d) (h : JXA S Γ es cls) (hs : ∀ env, starEach (e :: es) env = (false, eval e env) :: starEach es env := by intro _; rfl) : JXA S Γ (e :: es) cls := .mk fun X o pos pins s σ H χ I R hx Q => by
  rw [hs]
  show wpAny _ _ (spliced ((false, eval e X.env) :: backTo pos (starEach es X.env))) _ _ s
  refine Calls.spliced_cons (thn (he X o pins s σ H (fun v H1 => Same H H1) I ⟨χ, R, fun v H1 e1 _ => e1⟩) fun u s1 hP54 => ?_)
  obtain ⟨v, H1, I1, _, e1⟩ := hP54
  exact thn (h.run X o pos pins s1 σ H1 χ I1 (R.mono e1) (fun H2 s2 a s' H' B t I2 e2 fl => hx H2 s2 a s' H' B t I2 (e1.trans e2) fl) (fun _ _ => False)) fun _ _ z => z.elim
theorem xe_call (hn : (∃ u, S.mg x = some u) ∨ (S.mg x = none ∧ (∃ u, bootBuiltins x = some u) ∧ x ≠ "__name__")) (ha : JXA S Γ (e :: es) cls) (hg : S.sc.names.lookup x = some .globalImplicit := by (try dsimp only [Internal.Stat.blk]); decide +kernel) (hdb : (x == ("__debug__" : Str)) = false := by (try dsimp only [Internal.Stat.blk]); decide +kernel)
    (he : ∀ env, starEach (e :: es) env = (false, eval e env) :: starEach es env := by intro _; rfl) (hpl : ∀ env, (backTo pos (starEach es env)).any (·.1) = false := by intro _; rfl) : JXE S Γ (.Call (.Name x p) (e :: es) [] pos) cls := .mk fun X o pins s σ H χ I R hx Q => by
  have key : ∀ f, wpAny (model X.prog X.w) X.A (callWith pos f [] (backTo pos (starEach (e :: es) X.env)) []) Q X.xe s := fun f => by
    unfold callWith
    have hA := ha.run X o pos pins s σ H χ I R hx (fun _ _ => False)
    rw [he] at hA ⊢
    exact wpAny_bind (wpAny_holding (Calls.evalArgs_plain (thn hA fun _ _ z => z.elim)))
  rcases hn with ⟨u, hm⟩ | ⟨hm, ⟨u, hb⟩, hnn⟩
  · exact wpAny_Call_Name_kw (ld_glob I (gl_of o hg) (by rw [o.mg]; exact hm) (key u) hdb)
  · exact wpAny_Call_Name_kw (ld_blt I (gl_of o hg) (by rw [o.mg]; exact hm) hb (key u) hnn hdb)

theorem x_forI {tg iter : Expr} {body : List Stmt} (h : JXE S Γ iter cls) (hs : ∀ env v, foldedSetIterable iter env v = pure v := by intro _ _; rfl) : JXS S Γ (.For tg iter body [] pos) cls := .mk fun X o pins s σ H H₁ φ ω I r k ok Q =>
  wpAny_For (thn (h.run X o pins s σ H (both φ ω) I r.re (fun H2 s2 a s' H' B t I2 e2 fl => ok.on pins σ H2 s2 a s' H' B t I2 ((kp_same k).trans e2) fl) (fun _ _ => False)) fun _ _ z => z.elim) (hs X.env)

theorem xe_compI {elt iter : Expr} {px : Pos} {ifs : List Expr} {scope : Scope} (h : JXE S Γ iter cls) (ok : compOk S.N S.sc x scope = true := by (try dsimp only [Internal.Stat.blk]); decide +kernel) (hs : ∀ env v, foldedSetIterable iter env v = pure v := by intro _ _; rfl) :
    JXE S Γ (.ListComp elt [⟨.Name x px, iter, ifs, 0⟩] scope pos) cls := .mk fun X o pins s σ H χ I R hx Q => by
  have F : CompFacts X.N X.env.scope x scope := by rw [o.N, o.sc]; exact compOk_facts ok
  rw [eval_ListComp]
  exact wpAny_comprehension_free (use := none) rfl (hs X.env) (closureFor_eq (has_free I F)) F.kind F.locs (thn (h.run X o pins s σ H χ I R hx (fun _ _ => False)) fun _ _ z => z.elim)
end
end Internal

end
section
set_option maxRecDepth 100000
set_option maxHeartbeats 4000000
namespace Internal
open PySem PySem.W PySem.W.X
theorem walkX_of {q : Program} {loose : List Str} {XP : (Str → Option Value) → Heap → Prop} {K : Params → Frag} {as : List Addr} {n t : Nat} {r : RowW} {d : DefRec} {kwd : List (Str × PySem.Expr)} {run : Value → List Value → Sem Value} (e : ∀ P, as = (K P).map (·.1)) (h : WalkO q loose XP (InK K) r d kwd run) : WalkX q loose XP (obsZ as) (valZ K n t) r d kwd run :=
  fun w s₀ s₁ mg mb G y a o pm cd doc dV kV ho hd hcd hD hmg hg args vals as' L hpre hlay hrd hwl hlo => h w s₀ s₁ mg mb G (InK.keeps w _ _ (z_facts e y).2.1 (Laid.keeps L)) a o pm cd doc dV kV ho hd hcd hD hmg hg args vals as' hpre hlay hrd hwl hlo
end Internal
namespace Internal.k02
open PySem Internal.L2 Internal
noncomputable def top (i : Nat) : Stmt := PySem.Challenge.pw_boardkin_k02_kinds_of_kinship.main.body.getD i (.Pass ⟨0, 0, 0, 0⟩)
noncomputable abbrev s_turnings : Stmt := top 11
noncomputable abbrev N_turnings : List Str := ["kinship", "step", "end"]
theorem sc_turnings : FnScope N_turnings ["kinship"] (defScope s_turnings) := ⟨rfl, rfl, rfl, by decide +kernel, rfl, by decide +kernel, by decide +kernel⟩
noncomputable abbrev s_check_kinship : Stmt := top 12
noncomputable abbrev N_check_kinship : List Str := ["kinship", "in_order"]
theorem sc_check_kinship : FnScope N_check_kinship ["kinship"] (defScope s_check_kinship) := ⟨rfl, rfl, rfl, by decide +kernel, rfl, by decide +kernel, by decide +kernel⟩
noncomputable abbrev s_deeds : Stmt := top 13
noncomputable abbrev N_deeds : List Str := ["kinship", "width", "height", "kinship_turnings", "slides", "told", "turning"]
theorem sc_deeds : FnScope N_deeds ["kinship", "width", "height"] (defScope s_deeds) := ⟨rfl, rfl, rfl, by decide +kernel, rfl, by decide +kernel, by decide +kernel⟩
noncomputable abbrev s_all_slides : Stmt := top 14
noncomputable abbrev N_all_slides : List Str := ["width", "height", "slides", "a"]
theorem sc_all_slides : FnScope N_all_slides ["width", "height"] (defScope s_all_slides) := ⟨rfl, rfl, rfl, by decide +kernel, rfl, by decide +kernel, by decide +kernel⟩
noncomputable abbrev s_how_many : Stmt := top 28
noncomputable abbrev N_how_many : List Str := ["colours", "kinship", "width", "height", "kinship_deeds", "boards_left"]
theorem sc_how_many : FnScope N_how_many ["colours", "kinship", "width", "height"] (defScope s_how_many) := ⟨rfl, rfl, rfl, by decide +kernel, rfl, by decide +kernel, by decide +kernel⟩
noncomputable abbrev s_how_many_with : Stmt := top 29
noncomputable abbrev N_how_many_with : List Str := ["numbers", "kinship", "width", "height", "kinship_deeds", "shared", "boards_left"]
theorem sc_how_many_with : FnScope N_how_many_with ["numbers", "kinship", "width", "height"] (defScope s_how_many_with) := ⟨rfl, rfl, rfl, by decide +kernel, rfl, by decide +kernel, by decide +kernel⟩
noncomputable abbrev s_kin : Stmt := top 39
noncomputable abbrev N_kin : List Str := ["board", "kinship"]
theorem sc_kin : FnScope N_kin ["board", "kinship"] (defScope s_kin) := ⟨rfl, rfl, rfl, by decide +kernel, rfl, by decide +kernel, by decide +kernel⟩
noncomputable abbrev s_least : Stmt := top 40
noncomputable abbrev N_least : List Str := ["board", "kinship"]
theorem sc_least : FnScope N_least ["board", "kinship"] (defScope s_least) := ⟨rfl, rfl, rfl, by decide +kernel, rfl, by decide +kernel, by decide +kernel⟩
noncomputable abbrev s_leaving : Stmt := top 41
noncomputable abbrev N_leaving : List Str := ["board", "kinship"]
theorem sc_leaving : FnScope N_leaving ["board", "kinship"] (defScope s_leaving) := ⟨rfl, rfl, rfl, by decide +kernel, rfl, by decide +kernel, by decide +kernel⟩
noncomputable abbrev s_alike : Stmt := top 42
noncomputable abbrev N_alike : List Str := ["one", "other", "kinship", "deed"]
theorem sc_alike : FnScope N_alike ["one", "other", "kinship"] (defScope s_alike) := ⟨rfl, rfl, rfl, by decide +kernel, rfl, by decide +kernel, by decide +kernel⟩
noncomputable abbrev s_deeds_for : Stmt := top 43
noncomputable abbrev N_deeds_for : List Str := ["board", "kinship", "size"]
theorem sc_deeds_for : FnScope N_deeds_for ["board", "kinship"] (defScope s_deeds_for) := ⟨rfl, rfl, rfl, by decide +kernel, rfl, by decide +kernel, by decide +kernel⟩
noncomputable abbrev s_size_of : Stmt := top 44
noncomputable abbrev N_size_of : List Str := ["board"]
theorem sc_size_of : FnScope N_size_of ["board"] (defScope s_size_of) := ⟨rfl, rfl, rfl, by decide +kernel, rfl, by decide +kernel, by decide +kernel⟩
noncomputable abbrev s_all_led_to : Stmt := top 45
noncomputable abbrev s_families : Stmt := top 46
noncomputable abbrev N_families : List Str := ["colours", "kinship", "width", "height", "size_deeds", "told", "met", "board", "relative"]
theorem sc_families : FnScope N_families ["colours", "kinship", "width", "height"] (defScope s_families) := ⟨rfl, rfl, rfl, by decide +kernel, rfl, by decide +kernel, by decide +kernel⟩
noncomputable abbrev s_law_cell_at : Stmt := top 51
noncomputable abbrev N_law_cell_at : List Str := ["script", "k"]
theorem sc_law_cell_at : FnScope N_law_cell_at ["script", "k"] (defScope s_law_cell_at) := ⟨rfl, rfl, rfl, by decide +kernel, rfl, by decide +kernel, by decide +kernel⟩
noncomputable abbrev s_law_whole : Stmt := top 52
noncomputable abbrev N_law_whole : List Str := ["found"]
theorem sc_law_whole : FnScope N_law_whole ["found"] (defScope s_law_whole) := ⟨rfl, rfl, rfl, by decide +kernel, rfl, by decide +kernel, by decide +kernel⟩
noncomputable abbrev s_law_kinship : Stmt := top 53
noncomputable abbrev N_law_kinship : List Str := ["cell", "width", "height", "found", "k"]
theorem sc_law_kinship : FnScope N_law_kinship ["cell", "width", "height"] (defScope s_law_kinship) := ⟨rfl, rfl, rfl, by decide +kernel, rfl, by decide +kernel, by decide +kernel⟩
noncomputable abbrev s_law_turnings : Stmt := top 54
noncomputable abbrev N_law_turnings : List Str := ["kinship", "found", "turning", "quarter", "half"]
theorem sc_law_turnings : FnScope N_law_turnings ["kinship"] (defScope s_law_turnings) := ⟨rfl, rfl, rfl, by decide +kernel, rfl, by decide +kernel, by decide +kernel⟩
noncomputable abbrev s_law_deeds : Stmt := top 55
noncomputable abbrev N_law_deeds : List Str := ["kinship", "width", "height", "found", "turning", "a", "b"]
theorem sc_law_deeds : FnScope N_law_deeds ["kinship", "width", "height"] (defScope s_law_deeds) := ⟨rfl, rfl, rfl, by decide +kernel, rfl, by decide +kernel, by decide +kernel⟩
noncomputable abbrev s_law_is_deed : Stmt := top 56
noncomputable abbrev N_law_is_deed : List Str := ["found", "due"]
theorem sc_law_is_deed : FnScope N_law_is_deed ["found", "due"] (defScope s_law_is_deed) := ⟨rfl, rfl, rfl, by decide +kernel, rfl, by decide +kernel, by decide +kernel⟩
noncomputable abbrev s_law_call : Stmt := top 57
noncomputable abbrev N_law_call : List Str := ["way", "kinship", "width", "height", "odd", "board"]
theorem sc_law_call : FnScope N_law_call ["way", "kinship", "width", "height", "odd"] (defScope s_law_call) := ⟨rfl, rfl, rfl, by decide +kernel, rfl, by decide +kernel, by decide +kernel⟩
noncomputable abbrev s_law_refused : Stmt := top 58
noncomputable abbrev N_law_refused : List Str := ["way", "kinship", "width", "height", "odd", "marks", "e"]
theorem sc_law_refused : FnScope N_law_refused ["way", "kinship", "width", "height", "odd"] (defScope s_law_refused) := ⟨rfl, rfl, rfl, by decide +kernel, rfl, by decide +kernel, by decide +kernel⟩
noncomputable abbrev s_law_none : Stmt := top 59
noncomputable abbrev N_law_none : List Str := ["cell", "some"]
theorem sc_law_none : FnScope N_law_none ["cell"] (defScope s_law_none) := ⟨rfl, rfl, rfl, by decide +kernel, rfl, by decide +kernel, by decide +kernel⟩
noncomputable abbrev s_law : Stmt := top 60
noncomputable abbrev N_law : List Str := ["script", "width", "height", "kinship", "turn", "found", "told", "due", "k", "cell", "odd", "quarter"]
theorem sc_law : FnScope N_law ["script"] (defScope s_law) := ⟨rfl, rfl, rfl, by decide +kernel, rfl, by decide +kernel, by decide +kernel⟩
structure Exs (K : PySem.W.Frag) (mg : Str → Option Value) (c_KinError c_NoKinship c_NotSquare : Addr) : Prop where
  m_KinError : mg "KinError" = some (.ref c_KinError)
  m_NoKinship : mg "NoKinship" = some (.ref c_NoKinship)
  m_NotSquare : mg "NotSquare" = some (.ref c_NotSquare)
  x_NoKinship : ExLook K c_NoKinship
  s_NoKinship : PySem.W.subIn K (.ref c_NoKinship) (.ref c_KinError) = some true
  w_NoKinship : PySem.W.subIn K (.ref c_NoKinship) (.ref c_NoKinship) = some true
  v_NoKinship : PySem.W.kitOne K (.ref c_NoKinship) (.type "ValueError") = some true
  k_NoKinship_NoKinship : PySem.W.kitOne K (.ref c_NoKinship) (.ref c_NoKinship) = some true
  k_NoKinship_NotSquare : PySem.W.kitOne K (.ref c_NoKinship) (.ref c_NotSquare) = some false
  x_NotSquare : ExLook K c_NotSquare
  s_NotSquare : PySem.W.subIn K (.ref c_NotSquare) (.ref c_KinError) = some true
  w_NotSquare : PySem.W.subIn K (.ref c_NotSquare) (.ref c_NotSquare) = some true
  v_NotSquare : PySem.W.kitOne K (.ref c_NotSquare) (.type "ValueError") = some true
  k_NotSquare_NoKinship : PySem.W.kitOne K (.ref c_NotSquare) (.ref c_NoKinship) = some false
  k_NotSquare_NotSquare : PySem.W.kitOne K (.ref c_NotSquare) (.ref c_NotSquare) = some true
  e_KinError : PySem.W.excIn K c_KinError bmV "ValueError.__new__" = true
structure Txt (K : PySem.W.Frag) (mg : Str → Option Value) : Prop where
  d_turnings : Def K mg "turnings" s_turnings ["kinship"]
  d_check_kinship : Def K mg "check_kinship" s_check_kinship ["kinship"]
  d_deeds : Def K mg "deeds" s_deeds ["kinship", "width", "height"]
  d_all_slides : Def K mg "all_slides" s_all_slides ["width", "height"]
  d_how_many : Def K mg "how_many" s_how_many ["colours", "kinship", "width", "height"]
  d_how_many_with : Def K mg "how_many_with" s_how_many_with ["numbers", "kinship", "width", "height"]
  d_kin : Def K mg "kin" s_kin ["board", "kinship"]
  d_least : Def K mg "least" s_least ["board", "kinship"]
  d_leaving : Def K mg "leaving" s_leaving ["board", "kinship"]
  d_alike : Def K mg "alike" s_alike ["one", "other", "kinship"]
  d_deeds_for : Def K mg "deeds_for" s_deeds_for ["board", "kinship"]
  d_size_of : Def K mg "size_of" s_size_of ["board"]
  d_all_led_to : Def K mg "all_led_to" s_all_led_to ["board", "board_deeds"]
  d_families : Def K mg "families" s_families ["colours", "kinship", "width", "height"]
  d_law_cell_at : Def K mg "_law_cell_at" s_law_cell_at ["script", "k"]
  d_law_whole : Def K mg "_law_whole" s_law_whole ["found"]
  d_law_kinship : Def K mg "_law_kinship" s_law_kinship ["cell", "width", "height"]
  d_law_turnings : Def K mg "_law_turnings" s_law_turnings ["kinship"]
  d_law_deeds : Def K mg "_law_deeds" s_law_deeds ["kinship", "width", "height"]
  d_law_is_deed : Def K mg "_law_is_deed" s_law_is_deed ["found", "due"]
  d_law_call : Def K mg "_law_call" s_law_call ["way", "kinship", "width", "height", "odd"]
  d_law_refused : Def K mg "_law_refused" s_law_refused ["way", "kinship", "width", "height", "odd"]
  d_law_none : Def K mg "_law_none" s_law_none ["cell"]
  d_law : Def K mg "law" s_law ["script"]
  n_ValueError : mg "ValueError" = none
  n_bool : mg "bool" = none
  n_int : mg "int" = none
  n_isinstance : mg "isinstance" = none
  n_len : mg "len" = none
  n_list : mg "list" = none
  n_min : mg "min" = none
  n_range : mg "range" = none
  n_set : mg "set" = none
  n_sorted : mg "sorted" = none
  n_sum : mg "sum" = none
  n_tuple : mg "tuple" = none
  c_LETTERS : ∃ t, mg "LETTERS" = some (.str (Str.ofString "hqms") t)
  c_QUARTERS : ∃ t, mg "QUARTERS" = some (.int 4 t)
  c_FIRST_MIRRORING : ∃ t, mg "FIRST_MIRRORING" = some (.int 4 t)
  c_MOST_BOARDS : ∃ t, mg "MOST_BOARDS" = some (.int 1100 t)
  cl : ∃ c_KinError c_NoKinship c_NotSquare : Addr, Exs K mg c_KinError c_NoKinship c_NotSquare
end Internal.k02
namespace Internal.k02
open PySem PySem.Spec PyProof.Rows Internal.L2 Internal Internal.BM
section
variable {P : Program} {wd : World} {K : PySem.W.Frag} {mg : Str → Option Value} {base : Heap}
noncomputable abbrev kinD (k : Kin) : D := .str (sl (kinL k))
theorem t_let {S : Stat} {Γ : List Sl} {a : Expr} {pos pc : Pos} {j : Nat} {x : Str} {c : Nat} {k : Kin} {b : Bool} (hx : x = ⟨#[c]⟩) (hb : JE S Γ a (kinD k)) (e : decide (c ∈ kinL k) = b) (hm : behindInMarks .In a = false := by rfl) : JT S Γ (.Compare (.Constant (.str x) j pc) [.In] [a] pos) b := by
  subst hx
  exact (t_inS (c := c) e_str hb hm).cast (by rw [sl_cps]; exact e)
theorem f_check_kinship (T : Txt K mg) : FnAt P wd K mg base 1 "check_kinship" ["kinship"] (spF (fun k : Kin => [kinD k]) (fun _ => True) (fun _ => .non) K) := by
  refine fn_at T.d_check_kinship sc_check_kinship (fun _ _ => rfl) ?_
  rintro k _
  obtain ⟨t, hL⟩ := T.c_LETTERS
  have el : (Str.ofString "hqms").cps.toList = [104, 113, 109, 115] := by decide +kernel
  have ej : Str.join (sl []) (([104, 113, 109, 115].filter fun c => decide (c ∈ kinL k)).map fun c => sl [c]) = sl (kinL k) := by
    rw [kin_order]
    have := joinE ((kinL k).map fun c => [c])
    rw [List.map_map] at this
    rw [show ((kinL k).map fun c => sl [c]) = (kinL k).map (sl ∘ fun c : Nat => [c]) from rfl, this]
    congr 1
    generalize kinL k = l
    induction l with
    | nil => rfl
    | cons a l ih => simp at ih ⊢; exact ih
  have ji : JI ⟨P, wd, K, mg, base, 0, N_check_kinship, defScope s_check_kinship, true⟩ (startΓ N_check_kinship [kinD k]) (.Name "letter" ⟨0, 0, 0, 0⟩) (.Name "LETTERS" ⟨0, 0, 0, 0⟩) ([104, 113, 109, 115].map chD) := el ▸ i_str (e_globS hL)
  refine b_cons (s_set 1 ((e_join (sep := sl []) (ts := ([104, 113, 109, 115].filter fun c => decide (c ∈ kinL k)).map fun c => sl [c]) e_str (JE.cast (f_comp (us := [104, 113, 109, 115]) (g := chD) (fun c : Nat => D.str (sl [c])) (fun c => decide (c ∈ kinL k)) (el ▸ i_str (e_globS hL)) (by decide) (fun c _ => ifs_one ((t_inS (c := c) (e_var 2) (e_var 0)).cast (by rw [sl_cps]))) (fun c _ _ => e_var 2)).je (by rw [List.map_map]; rfl)) (join_ok (B := 1) (fun y hy => ?_) ?_)).cast (by rw [ej])) ?_)
  · obtain ⟨c, _, rfl⟩ := List.mem_map.mp hy
    exact Nat.le_refl _
  · rw [kin_order, List.length_map, sl_len]
    have : (kinL k).length ≤ 4 := by obtain ⟨h, q, m, s⟩ := k; cases h <;> cases q <;> cases m <;> cases s <;> decide
    simp; (first | lia | omega)
  refine b_cons (s_if (q := false) ((t_neS (e_var 0) (e_var 1)).cast (by simp)) (fun z => (nomatch z)) fun _ => b_nil (b_nil rfl))
theorem f_turnings (T : Txt K mg) : FnAt P wd K mg base 2 "turnings" ["kinship"] (spFr (fun k : Kin => [kinD k]) (fun _ => True) (fun k => (turns k).map natD) K) := by
  refine fnr_at T.d_turnings sc_turnings (fun _ _ => rfl) ?_
  rintro k _
  obtain ⟨t4, hc⟩ := T.c_FIRST_MIRRORING
  obtain ⟨t5, hq⟩ := T.c_QUARTERS
  refine b_cons (s_drop (e_fn (f_check_kinship T) k (a_cons (e_var 0) a_nil) trivial) ?_)
  refine b_cons (s_set 1 (e_globI hq) ?_)
  have fin : ∀ st en : Nat, st = kstep k → en = kend k → JB ⟨P, wd, K, mg, base, 1, N_turnings, defScope s_turnings, true⟩ [.val (kinD k), .val (natD st), .val (natD en)] ((defBody s_turnings).drop 6) { nx := fun _ => False, rt := fun _ _ => False, rf := fun ds _ => ds = (turns k).map natD } := by
    rintro st en rfl rfl
    have hk : 0 < kstep k ∧ kstep k ≤ 4 ∧ kend k ≤ 8 := by obtain ⟨h, q, m, s⟩ := k; cases h <;> cases q <;> cases m <;> cases s <;> decide
    refine b_cons (s_retF (f_listrng (kend k / kstep k) e_int (e_var 2) (e_var 1) T.n_range T.n_list (by (first | lia | omega)) (by (first | lia | omega)) ?_ ?_ ?_) ?_)
    · obtain ⟨h, q, m, s⟩ := k; cases h <;> cases q <;> cases m <;> cases s <;> decide
    · obtain ⟨h, q, m, s⟩ := k; cases h <;> cases q <;> cases m <;> cases s <;> decide
    · obtain ⟨h, q, m, s⟩ := k; cases h <;> cases q <;> cases m <;> cases s <;> decide
    · show _ = _
      unfold turns
      rw [List.map_map]
      apply List.map_congr_left
      intro i _
      show D.int _ = natD _
      rw [Int.zero_add, natD, Int.natCast_mul]
  have mid : ∀ st : Nat, st = kstep k → JB ⟨P, wd, K, mg, base, 1, N_turnings, defScope s_turnings, true⟩ [.val (kinD k), .val (natD st), .no] ((defBody s_turnings).drop 4) { nx := fun _ => False, rt := fun _ _ => False, rf := fun ds _ => ds = (turns k).map natD } := by
    intro st hst
    refine b_cons (s_set 2 (e_globI hc) ?_)
    refine b_cons (s_if (t_let (c := 109) (by decide +kernel) (e_var 0) (kin_m k)) (fun z => ?_) (fun z => b_nil (fin st 4 hst (by unfold kend; rw [z]; rfl))))
    refine b_cons (s_set 2 (e_add (e_globI hc) (e_globI hq)) (b_nil ?_))
    exact fin st 8 hst (by unfold kend; rw [z]; rfl)
  have aft : ∀ st : Nat, st = (if k.h then 2 else 4) → JB ⟨P, wd, K, mg, base, 1, N_turnings, defScope s_turnings, true⟩ [.val (kinD k), .val (natD st), .no] ((defBody s_turnings).drop 3) { nx := fun _ => False, rt := fun _ _ => False, rf := fun ds _ => ds = (turns k).map natD } := by
    intro st hst
    refine b_cons (s_if (t_let (c := 113) (by decide +kernel) (e_var 0) (kin_q k)) (fun z => ?_) (fun z => b_nil (mid st (by unfold kstep; rw [z]; exact hst))))
    refine b_cons (s_set 1 e_int (b_nil ?_))
    exact mid 1 (by unfold kstep; rw [z]; rfl)
  refine b_cons (s_if (t_let (c := 104) (by decide +kernel) (e_var 0) (kin_h k)) (fun z => ?_) (fun z => b_nil (aft 4 (by rw [z]; rfl))))
  refine b_cons (s_set 1 e_int (b_nil ?_))
  exact aft 2 (by rw [z]; rfl)
noncomputable abbrev slD (p : Nat × Nat) : D := .tup [natD p.1, natD p.2]
theorem f_all_slides (T : Txt K mg) : FnAt P wd K mg base 1 "all_slides" ["width", "height"] (spFr (fun u : Nat × Nat => [natD u.1, natD u.2]) (fun u => u.1 ≤ 100 ∧ u.2 ≤ 100) (fun u => ((List.range u.1).flatMap fun a => (List.range u.2).map fun b => (a, b)).map slD) K) := by
  refine fnr_at T.d_all_slides sc_all_slides (fun _ _ => rfl) ?_
  rintro ⟨w, h⟩ ⟨hw, hh⟩
  dsimp only at hw hh ⊢
  refine b_cons (s_own 2 (f_lst a_nil) ?_)
  refine b_cons (s_for 3 (us := List.range w) (g := natD) (i_rngN (e_var 0) T.n_range (by (first | lia | omega))) (fun k Γ' => ∃ x, Γ' = [.val (natD w), .val (natD h), .own (((List.range k).flatMap fun a => (List.range h).map fun b => (a, b)).map slD), x]) ⟨.no, rfl⟩ ?_ ?_)
  · rintro k u Γ' hu ⟨x, rfl⟩
    have hk : k < w ∧ u = k := by
      obtain ⟨a1, a2⟩ := List.getElem?_eq_some_iff.mp hu
      rw [List.length_range] at a1
      rw [List.getElem_range] at a2
      exact ⟨a1, a2.symm⟩
    obtain ⟨hk, rfl⟩ := hk
    refine b_cons (s_ext 2 rfl (.inl (f_map (us := List.range h) (fun b : Nat => slD (u, b)) (i_rngN (e_var 1) T.n_range (by (first | lia | omega))) (by rw [List.length_range]; exact Nat.le_trans hh (by decide)) fun b _ => e_tup (a_cons (e_var 3) (a_cons (e_var 4) a_nil))).je) ?_ (b_nil ⟨.val (natD u), ?_⟩))
    · rw [List.length_map, List.length_map, List.length_range, flatMap_len _ _ h (fun a => by rw [List.length_map, List.length_range]), List.length_range]
      have : u * h ≤ 100 * 100 := Nat.mul_le_mul (by (first | lia | omega)) hh
      exact Nat.le_trans (show _ ≤ 20000 by (first | lia | omega)) (by decide)
    · show [_, _, _, _] = _
      rw [List.range_succ, List.flatMap_append, List.map_append]
      simp
  · rintro Γ' ⟨x, rfl⟩
    rw [List.length_range]
    exact b_cons (s_retO 2 rfl rfl)
theorem slides_len (k : Kin) (w h : Nat) : (slides k w h).length ≤ w * h + 1 := by
  unfold slides
  split
  · rw [flatMap_len _ _ h (fun a => by rw [List.length_map, List.length_range]), List.length_range]; (first | lia | omega)
  · simp
theorem f_deeds (T : Txt K mg) : FnAt P wd K mg base 3 "deeds" ["kinship", "width", "height"] (spFr (fun u : Kin × Nat × Nat => [kinD u.1, natD u.2.1, natD u.2.2]) (fun u => u.2.1 ≤ 100 ∧ u.2.2 ≤ 100 ∧ (u.1.q = true → u.2.1 = u.2.2)) (fun u => (deedsL u.1 u.2.1 u.2.2).map deedD) K) := by
  refine fnr_at T.d_deeds sc_deeds (fun _ _ => rfl) ?_
  rintro ⟨k, w, h⟩ hu
  obtain ⟨hw, hh, hq⟩ : w ≤ 100 ∧ h ≤ 100 ∧ (k.q = true → w = h) := hu
  dsimp only
  refine b_cons (s_set 3 (e_fnr (f_turnings T) k (a_cons (e_var 0) a_nil) trivial) ?_)
  refine b_cons (s_if (q := false) (JW.t (JW.cast (w_and (t_let (c := 113) (by decide +kernel) (e_var 0) (kin_q k)) (p' := !decide ((w : Int) = (h : Int))) fun _ => w_and1 (t_neI (e_var 1) (e_var 2))) ?_)) (fun z => (nomatch z)) fun _ => b_nil ?_)
  · cases e : k.q with
    | false => rfl
    | true => rw [hq e]; simp
  refine b_cons (s_own 4 (f_lst (a_cons (e_tup (a_cons e_int (a_cons e_int a_nil))) a_nil)) ?_)
  have fin : JB ⟨P, wd, K, mg, base, 2, N_deeds, defScope s_deeds, true⟩ [.val (kinD k), .val (natD w), .val (natD h), .val (.lst ((turns k).map natD)), .val (.lst ((slides k w h).map slD)), .no, .no] ((defBody s_deeds).drop 4) { nx := fun _ => False, rt := fun _ _ => False, rf := fun ds _ => ds = (deedsL k w h).map deedD } := by
    refine b_cons (s_own 5 (f_lst a_nil) ?_)
    have sl1 := slides_len k w h
    have hwh : w * h ≤ 10000 := Nat.mul_le_mul hw hh
    have tl : (turns k).length ≤ 8 := by obtain ⟨h, q, m, s⟩ := k; cases h <;> cases q <;> cases m <;> cases s <;> decide
    refine b_cons (s_for 6 (us := turns k) (g := natD) (i_lst (e_var 3)) (fun j Γ' => ∃ x, Γ' = [.val (kinD k), .val (natD w), .val (natD h), .val (.lst ((turns k).map natD)), .val (.lst ((slides k w h).map slD)), .own ((((turns k).take j).flatMap fun t => (slides k w h).map fun p => (⟨t, p.1, p.2⟩ : Deed)).map deedD), x]) ⟨.no, rfl⟩ ?_ ?_)
    · rintro j t Γ' hj ⟨x, rfl⟩
      refine b_cons (s_ext 5 rfl (.inl (f_map (us := slides k w h) (g := slD) (fun p : Nat × Nat => deedD ⟨t, p.1, p.2⟩) (i_lst (e_var 4)) (Nat.le_trans (show _ ≤ 20000 by (first | lia | omega)) (by decide)) fun p _ => e_tup (a_cons (e_var 6) (a_cons (e_ixT (i := 0) (e_var 7) e_int rfl) (a_cons (e_ixT (i := 1) (e_var 7) e_int rfl) a_nil)))).je) ?_ (b_nil ⟨.val (natD t), ?_⟩))
      · rw [List.length_map, List.length_map, flatMap_len _ _ (slides k w h).length (fun a => by rw [List.length_map]), List.length_take]
        have : min j (turns k).length * (slides k w h).length ≤ 8 * 10001 := Nat.mul_le_mul (by (first | lia | omega)) (by (first | lia | omega))
        exact Nat.le_trans (show _ ≤ 100000 by (first | lia | omega)) (by decide)
      · show [_, _, _, _, _, _, _] = _
        rw [List.take_add_one, hj]
        simp
    · rintro Γ' ⟨x, rfl⟩
      rw [List.take_length]
      exact b_cons (s_retO 5 rfl rfl)
  refine b_cons (s_if (t_let (c := 115) (by decide +kernel) (e_var 0) (kin_s k)) (fun z => ?_) (fun z => ?_))
  · refine b_cons (s_own 4 (f_fn (f_all_slides T) (w, h) (a_cons (e_var 1) (a_cons (e_var 2) a_nil)) ⟨hw, hh⟩) (b_nil ?_))
    refine b_frz 4 rfl ?_
    have e : slides k w h = (List.range w).flatMap fun a => (List.range h).map fun b => (a, b) := by unfold slides; rw [z]; rfl
    rw [← e]
    exact fin
  · refine b_nil (b_frz 4 rfl ?_)
    have e : slides k w h = [(0, 0)] := by unfold slides; rw [z]; rfl
    rw [e] at fin
    exact fin
theorem len_int {i : Int} (h : i.natAbs.log2 < 1920) : (toString i : Str).length ≤ 1000000 := Nat.le_trans (int_text_len_1921 h) (by decide)
noncomputable def inOrder (x : Str) : List Nat := [104, 113, 109, 115].filter fun c => decide (c ∈ x.cps.toList)

noncomputable def noKin (x : Str) : Prop := x ≠ sl (inOrder x) ∧ (reprText x).length ≤ 1000000
theorem x_check_kinship {c1 c2 c3 : Addr} (T : Txt K mg) (C : Exs K mg c1 c2 c3) : FnX P wd K mg base 1 "check_kinship" ["kinship"] (spX (fun x : Str => [.str x]) noKin (.ref c2) K) := by
  refine fx_at T.d_check_kinship sc_check_kinship (fun _ _ => rfl) ?_
  rintro x ⟨hx, hr⟩
  obtain ⟨t, hL⟩ := T.c_LETTERS
  have el : (Str.ofString "hqms").cps.toList = [104, 113, 109, 115] := by decide +kernel
  have ej : Str.join (sl []) ((inOrder x).map fun c => sl [c]) = sl (inOrder x) := by
    have := joinE ((inOrder x).map fun c => [c])
    rw [List.map_map] at this
    rw [show ((inOrder x).map fun c => sl [c]) = (inOrder x).map (sl ∘ fun c : Nat => [c]) from rfl, this]
    congr 1
    generalize inOrder x = l
    induction l with
    | nil => rfl
    | cons a l ih => simp at ih ⊢; exact ih
  refine x_cons (s_set 1 ((e_join (sep := sl []) (ts := (inOrder x).map fun c => sl [c]) e_str (JE.cast (f_comp (us := [104, 113, 109, 115]) (g := chD) (fun c : Nat => D.str (sl [c])) (fun c => decide (c ∈ x.cps.toList)) (el ▸ i_str (e_globS hL)) (by decide) (fun c _ => ifs_one (t_inS (c := c) (e_var 2) (e_var 0))) (fun c _ _ => e_var 2)).je (by rw [List.map_map]; rfl)) (join_ok (B := 1) (fun y hy => ?_) ?_)).cast (by rw [ej])) ?_)
  · obtain ⟨c, _, rfl⟩ := List.mem_map.mp hy
    exact Nat.le_refl _
  · have : (inOrder x).length ≤ 4 := List.length_filter_le _ _
    rw [List.length_map, sl_len]
    simp; (first | lia | omega)
  refine x_head (x_if (q := true) ((t_neS (e_var 0) (e_var 1)).cast ?_) (fun _ => ?_) (fun z => nomatch z))
  · rw [decide_eq_false hx]; rfl
  · exact x_head (x_raise ⟨C.m_NoKinship, C.x_NoKinship.exc⟩ (e_fstr (p_cons e_str (by decide +kernel) (p_cons (e_fmtS (e_globS hL) (by decide +kernel)) (by decide +kernel) (p_cons e_str (by decide +kernel) (p_cons (e_fmtR (e_var 0) (Nat.le_trans hr (by decide))) hr p_nil)))) (by decide)))
theorem x_turnings {c1 c2 c3 : Addr} (T : Txt K mg) (C : Exs K mg c1 c2 c3) : FnX P wd K mg base 2 "turnings" ["kinship"] (spX (fun x : Str => [.str x]) noKin (.ref c2) K) := by
  refine fx_at T.d_turnings sc_turnings (fun _ _ => rfl) ?_
  rintro x hx
  exact x_head (x_expr (e_fnx (x_check_kinship T C) x (a_cons (e_var 0) a_nil) hx))

noncomputable abbrev Cl : Type := Str × Nat × Nat
noncomputable abbrev clD (u : Cl) : List D := [.str u.1, natD u.2.1, natD u.2.2]
theorem x_deedsN {c1 c2 c3 : Addr} (T : Txt K mg) (C : Exs K mg c1 c2 c3) : FnX P wd K mg base 3 "deeds" ["kinship", "width", "height"] (spX clD (fun u => noKin u.1) (.ref c2) K) := by
  refine fx_at T.d_deeds sc_deeds (fun _ _ => rfl) ?_
  rintro ⟨x, w, h⟩ hx
  exact x_head (x_set (e_fnx (x_turnings T C) x (a_cons (e_var 0) a_nil) hx))
noncomputable def noSq (u : Cl) : Prop := ∃ k : Kin, u.1 = sl (kinL k) ∧ k.q = true ∧ u.2.1 ≠ u.2.2 ∧ u.2.1 ≤ 100 ∧ u.2.2 ≤ 100
theorem x_deedsQ {c1 c2 c3 : Addr} (T : Txt K mg) (C : Exs K mg c1 c2 c3) : FnX P wd K mg base 3 "deeds" ["kinship", "width", "height"] (spX clD noSq (.ref c3) K) := by
  refine fx_at T.d_deeds sc_deeds (fun _ _ => rfl) ?_
  rintro ⟨x, w, h⟩ ⟨k, hx, hq, hwh, hw, hh⟩
  dsimp only at hx hwh hw hh
  subst hx
  show JX _ (startΓ N_deeds [.str (sl (kinL k)), natD w, natD h]) _ _
  have kl : (sl (kinL k)).length ≤ 4 := by rw [sl_len]; obtain ⟨h, q, m, s⟩ := k; cases h <;> cases q <;> cases m <;> cases s <;> decide
  refine x_cons (s_set 3 (e_fnr (f_turnings T) k (a_cons (e_var 0) a_nil) trivial) ?_)
  refine x_head (x_if (q := true) (JW.t (JW.cast (w_and (t_let (c := 113) (by decide +kernel) (e_var 0) (kin_q k)) (p' := true) fun _ => w_and1 ((t_neI (e_var 1) (e_var 2)).cast (by rw [decide_eq_false (by (first | lia | omega))]; rfl))) (by rw [hq]; rfl))) (fun _ => ?_) (fun z => nomatch z))
  exact x_head (x_raise ⟨C.m_NotSquare, C.x_NotSquare.exc⟩ (e_fstr (p_cons (e_fmtS (e_var 0) (Nat.le_trans kl (by decide))) (Nat.le_trans kl (by decide)) (p_cons e_str (by decide +kernel) (p_cons (e_fmtI (e_var 1) (nat_log (by (first | lia | omega)))) (len_int (nat_log (by (first | lia | omega)))) (p_cons e_str (by decide +kernel) (p_cons (e_fmtI (e_var 2) (nat_log (by (first | lia | omega)))) (len_int (nat_log (by (first | lia | omega)))) p_nil))))) (by decide)))
theorem f_size_of (T : Txt K mg) : FnAt P wd K mg base 1 "size_of" ["board"] (spF (fun u : Bd × Nat × Nat => [bdD u.1]) (fun u => BdIn u.2.1 u.2.2 u.1) (fun u => .tup [natD u.2.1, natD u.2.2]) K) := by
  refine fn_at T.d_size_of sc_size_of (fun _ _ => rfl) ?_
  rintro ⟨B, w, h⟩ q
  replace q : BdIn w h B := q
  have hl := q.r.len
  have h0 := q.h0
  exact b_cons (s_ret (e_tup (a_cons ((e_lenTM (e_ixTM (l := B) (i := 0) (f := rowD) [] (e_var 0) e_int (by (first | lia | omega)) (by (first | lia | omega))) T.n_len).cast (by rw [show (0 : Int).toNat = 0 from rfl, q.row0])) (a_cons ((e_lenTM (e_var 0) T.n_len).cast (by rw [hl])) a_nil))) rfl)
section
variable {bad : Cl → Prop} {cls : Value}
theorem x_deeds_for (T : Txt K mg) (F : FnX P wd K mg base 3 "deeds" ["kinship", "width", "height"] (spX clD bad cls K)) : FnX P wd K mg base 4 "deeds_for" ["board", "kinship"] (spX (fun u : Bd × Cl => [bdD u.1, .str u.2.1]) (fun u => BdIn u.2.2.1 u.2.2.2 u.1 ∧ bad u.2) cls K) := by
  refine fx_at T.d_deeds_for sc_deeds_for (fun _ _ => rfl) ?_
  rintro ⟨B, x, w, h⟩ ⟨q, hb⟩
  refine x_cons (s_set 2 (e_fn (f_size_of T) (B, w, h) (a_cons (e_var 0) a_nil) q) ?_)
  exact x_head (x_ret (e_fnx F (x, w, h) (a_cons (e_var 1) (a_cons (e_ixT (i := 0) (e_var 2) e_int rfl) (a_cons (e_ixT (i := 1) (e_var 2) e_int rfl) a_nil))) hb))
theorem x_kin (T : Txt K mg) (F : FnX P wd K mg base 3 "deeds" ["kinship", "width", "height"] (spX clD bad cls K)) : FnX P wd K mg base 5 "kin" ["board", "kinship"] (spX (fun u : Bd × Cl => [bdD u.1, .str u.2.1]) (fun u => BdIn u.2.2.1 u.2.2.2 u.1 ∧ bad u.2) cls K) := by
  refine fx_at T.d_kin sc_kin (fun _ _ => rfl) ?_
  rintro ⟨B, x, w, h⟩ hu
  obtain ⟨fa, _, _, _, ma⟩ := T.d_all_led_to
  exact x_head (x_ret (xe_call (.inr ⟨T.n_sorted, ⟨_, boot_sorted⟩, by decide⟩) (xa_head (xe_call (.inr ⟨T.n_set, ⟨_, by with_unfolding_all rfl⟩, by decide⟩) (xa_head (xe_call (.inl ⟨_, ma⟩) (xa_cons (e_var 0) (xa_head (e_fnx (x_deeds_for T F) (B, x, w, h) (a_cons (e_var 0) (a_cons (e_var 1) a_nil)) hu)))))))))
theorem x_least (T : Txt K mg) (F : FnX P wd K mg base 3 "deeds" ["kinship", "width", "height"] (spX clD bad cls K)) : FnX P wd K mg base 5 "least" ["board", "kinship"] (spX (fun u : Bd × Cl => [bdD u.1, .str u.2.1]) (fun u => BdIn u.2.2.1 u.2.2.2 u.1 ∧ bad u.2) cls K) := by
  refine fx_at T.d_least sc_least (fun _ _ => rfl) ?_
  rintro ⟨B, x, w, h⟩ hu
  obtain ⟨fa, _, _, _, ma⟩ := T.d_all_led_to
  exact x_head (x_ret (xe_call (.inr ⟨T.n_min, ⟨_, by with_unfolding_all rfl⟩, by decide⟩) (xa_head (xe_call (.inl ⟨_, ma⟩) (xa_cons (e_var 0) (xa_head (e_fnx (x_deeds_for T F) (B, x, w, h) (a_cons (e_var 0) (a_cons (e_var 1) a_nil)) hu)))))))
theorem x_leaving (T : Txt K mg) (F : FnX P wd K mg base 3 "deeds" ["kinship", "width", "height"] (spX clD bad cls K)) : FnX P wd K mg base 5 "leaving" ["board", "kinship"] (spX (fun u : Bd × Cl => [bdD u.1, .str u.2.1]) (fun u => BdIn u.2.2.1 u.2.2.2 u.1 ∧ bad u.2) cls K) := by
  refine fx_at T.d_leaving sc_leaving (fun _ _ => rfl) ?_
  rintro ⟨B, x, w, h⟩ hu
  exact x_head (x_ret (xe_compI (e_fnx (x_deeds_for T F) (B, x, w, h) (a_cons (e_var 0) (a_cons (e_var 1) a_nil)) hu)))
theorem x_alike (T : Txt K mg) (F : FnX P wd K mg base 3 "deeds" ["kinship", "width", "height"] (spX clD bad cls K)) : FnX P wd K mg base 5 "alike" ["one", "other", "kinship"] (spX (fun u : Bd × Cl => [bdD u.1, bdD u.1, .str u.2.1]) (fun u => BdIn u.2.2.1 u.2.2.2 u.1 ∧ bad u.2) cls K) := by
  refine fx_at T.d_alike sc_alike (fun _ _ => rfl) ?_
  rintro ⟨B, x, w, h⟩ hu
  refine x_cons (s_if (q := false) ((t_neD (n := 0) (d := .tup [natD w, natD h]) (d' := .tup [natD w, natD h]) (e_fn (f_size_of T) (B, w, h) (a_cons (e_var 0) a_nil) hu.1) (e_fn (f_size_of T) (B, w, h) (a_cons (e_var 1) a_nil) hu.1) trivial (cmp_row 0 [(w : Int), (h : Int)] [(w : Int), (h : Int)])).cast (by rw [eqD_refl]; rfl)) (fun z => nomatch z) fun _ => b_nil ?_)
  exact x_head (x_forI (e_fnx (x_deeds_for T F) (B, x, w, h) (a_cons (e_var 0) (a_cons (e_var 2) a_nil)) hu))
theorem x_families (T : Txt K mg) (F : FnX P wd K mg base 3 "deeds" ["kinship", "width", "height"] (spX clD bad cls K)) : FnX P wd K mg base 4 "families" ["colours", "kinship", "width", "height"] (spX (fun u : D × Cl => u.1 :: clD u.2) (fun u => bad u.2) cls K) := by
  refine fx_at T.d_families sc_families (fun _ _ => rfl) ?_
  rintro ⟨d, x, w, h⟩ hu
  exact x_head (x_set (e_fnx F (x, w, h) (a_cons (e_var 1) (a_cons (e_var 2) (a_cons (e_var 3) a_nil))) hu))
theorem x_how_many (T : Txt K mg) (F : FnX P wd K mg base 3 "deeds" ["kinship", "width", "height"] (spX clD bad cls K)) : FnX P wd K mg base 4 "how_many" ["colours", "kinship", "width", "height"] (spX (fun u : D × Cl => u.1 :: clD u.2) (fun u => bad u.2) cls K) := by
  refine fx_at T.d_how_many sc_how_many (fun _ _ => rfl) ?_
  rintro ⟨d, x, w, h⟩ hu
  exact x_head (x_set (e_fnx F (x, w, h) (a_cons (e_var 1) (a_cons (e_var 2) (a_cons (e_var 3) a_nil))) hu))
theorem x_how_many_with (T : Txt K mg) (F : FnX P wd K mg base 3 "deeds" ["kinship", "width", "height"] (spX clD bad cls K)) : FnX P wd K mg base 4 "how_many_with" ["numbers", "kinship", "width", "height"] (spX (fun u : D × Cl => u.1 :: clD u.2) (fun u => bad u.2) cls K) := by
  refine fx_at T.d_how_many_with sc_how_many_with (fun _ _ => rfl) ?_
  rintro ⟨d, x, w, h⟩ hu
  exact x_head (x_set (e_fnx F (x, w, h) (a_cons (e_var 1) (a_cons (e_var 2) (a_cons (e_var 3) a_nil))) hu))
end
theorem f_law_cell_at (T : Txt K mg) : FnAt P wd K mg base 1 "_law_cell_at" ["script", "k"] (spF (fun u : List Int × Nat => [intsD u.1, natD u.2]) (fun _ => True) (fun u => .int (u.1.getD u.2 0)) K) := by
  refine fn_at T.d_law_cell_at sc_law_cell_at (fun _ _ => rfl) ?_
  rintro ⟨ns, k⟩ _
  dsimp only
  refine b_cons (s_if (t_lt (e_var 1) (e_lenLM (e_var 0) T.n_len)) (fun ht => ?_) (fun ht => ?_))
  · have ht' : k < ns.length := by have := of_decide_eq_true ht; (first | lia | omega)
    exact b_cons (s_ret (e_ixLM (i := (k : Int)) 0 (e_var 0) (e_var 1) (by (first | lia | omega)) (by (first | lia | omega))) rfl)
  · have ht' : ¬ k < ns.length := by have := of_decide_eq_false ht; (first | lia | omega)
    refine b_nil (b_cons (s_ret e_int ?_))
    show _ = _
    rw [List.getD_eq_getElem?_getD, List.getElem?_eq_none (by (first | lia | omega))]; rfl
theorem f_law_whole (T : Txt K mg) : FnAt P wd K mg base 1 "_law_whole" ["found"] (spF (fun u : Int => [.int u]) (fun _ => True) (fun u => .bl true) K) := by
  refine fn_at T.d_law_whole sc_law_whole (fun _ _ => rfl) ?_
  rintro i _
  refine b_cons (s_ret (e_and (p := true) (e_isi (T := "int") (e_var 0) (by with_unfolding_all rfl) T.n_isinstance T.n_int rfl) fun _ => e_one (e_not (e_isi (T := "bool") (k := false) (e_var 0) (by with_unfolding_all rfl) T.n_isinstance T.n_bool rfl))) rfl)
noncomputable def lk (c : Int) (w h : Nat) : Kin := ⟨decide (c / 1 % 2 = 1), decide (c / 2 % 2 = 1) && decide (w = h), decide (c / 4 % 2 = 1), decide (c / 8 % 2 = 1)⟩
noncomputable def kinT (k : Kin) (j : Nat) : List Nat := ([if k.h then [104] else [], if k.q then [113] else [], if k.m then [109] else [], if k.s then [115] else []].take j).flatten
theorem f_law_kinship (T : Txt K mg) : FnAt P wd K mg base 1 "_law_kinship" ["cell", "width", "height"] (spF (fun u : Int × Nat × Nat => [.int u.1, natD u.2.1, natD u.2.2]) (fun _ => True) (fun u => kinD (lk u.1 u.2.1 u.2.2)) K) := by
  refine fn_at T.d_law_kinship sc_law_kinship (fun _ _ => rfl) ?_
  rintro ⟨c, w, h⟩ _
  dsimp only
  refine b_cons (s_set 3 (d := .str (sl [])) e_str ?_)
  have tl : ∀ j, j ≤ 4 → (kinT (lk c w h) j).length ≤ 4 := fun j hj => by
    obtain ⟨a, b, d, e⟩ := lk c w h
    have : ∀ a b d e : Bool, ∀ j ≤ 4, (kinT ⟨a, b, d, e⟩ j).length ≤ 4 := by decide
    exact this a b d e j hj
  refine b_cons (s_for 4 (us := List.range 4) (g := natD) (i_rngN (n := 4) e_int T.n_range (by decide)) (fun k Γ' => ∃ x, Γ' = [.val (.int c), .val (natD w), .val (natD h), .val (.str (sl (kinT (lk c w h) k))), x]) ⟨.no, rfl⟩ ?_ ?_)
  · rintro j u Γ' hu ⟨x, rfl⟩
    have hj : j < 4 ∧ u = j := by
      obtain ⟨a1, a2⟩ := List.getElem?_eq_some_iff.mp hu
      rw [List.length_range] at a1
      rw [List.getElem_range] at a2
      exact ⟨a1, a2.symm⟩
    obtain ⟨hj, rfl⟩ := hj
    have go : ∀ (dv : Int) (ch : Nat) (bit : Bool), atI [D.int 1, D.int 2, D.int 4, D.int 8] (u : Int) = some (.int dv) → 0 < dv → dv < 100 → atI (Str.ofString "hqms").cps.toList (u : Int) = some ch →
        (decide (c / dv % 2 = 1) && (!decide ((u : Int) = 1) || decide ((w : Int) = (h : Int)))) = bit → kinT (lk c w h) (u + 1) = kinT (lk c w h) u ++ (if bit then [ch] else []) →
        JB ⟨P, wd, K, mg, base, 0, N_law_kinship, defScope s_law_kinship, true⟩ [.val (.int c), .val (natD w), .val (natD h), .val (.str (sl (kinT (lk c w h) u))), .val (natD u)] (forBody ((defBody s_law_kinship).getD 1 (.Pass ⟨0, 0, 0, 0⟩))) { nx := fun Γ' => ∃ x, Γ' = [.val (.int c), .val (natD w), .val (natD h), .val (.str (sl (kinT (lk c w h) (u + 1)))), x], rt := fun d _ => d = kinD (lk c w h), bk := fun Γ' => JB ⟨P, wd, K, mg, base, 0, N_law_kinship, defScope s_law_kinship, true⟩ Γ' ((defBody s_law_kinship).drop 2) { nx := fun _ => kinD (lk c w h) = .non, rt := fun d _ => d = kinD (lk c w h) }, ct := fun Γ' => ∃ x, Γ' = [.val (.int c), .val (natD w), .val (natD h), .val (.str (sl (kinT (lk c w h) (u + 1)))), x] } := by
      intro dv ch bit h1 h2 h3 h4 h5 h6
      refine b_cons (s_if (q := bit) (JW.t (JW.cast' (w_and (t_eqI (e_mod (e_fdiv (e_var 0) (e_ixL (i := (u : Int)) (f_lst (a_cons e_int (a_cons e_int (a_cons e_int (a_cons e_int a_nil))))).je (e_var 4) h1) ⟨h2, by (first | lia | omega)⟩) e_int (by decide)) e_int) (p' := (!decide ((u : Int) = 1) || decide ((w : Int) = (h : Int)))) fun _ => w_and1 (JW.t (w_or (t_neI (e_var 4) e_int) fun _ => w_or1 (t_eqI (e_var 1) (e_var 2))))) h5)) (fun hb => ?_) (fun hb => b_nil (b_nil ⟨.val (natD u), ?_⟩)))
      · rw [hb, if_pos rfl] at h6
        refine b_cons (s_set 3 ((e_addS (j := sl [ch]) (e_var 3) (e_ixS e_str (e_var 4) h4 (by decide)) ?_).cast (by rw [sl_app])) (b_nil (b_nil ⟨.val (natD u), ?_⟩)))
        · rw [sl_len, sl_len]
          have := tl u (by (first | lia | omega))
          exact Nat.le_trans (show _ ≤ 10 by simp only [List.length_singleton]; (first | lia | omega)) (by decide)
        · show [_, _, _, _, _] = _
          rw [h6]
      · rw [hb, if_neg Bool.false_ne_true, List.append_nil] at h6
        rw [h6]
    have ea : ∀ x : Int, decide ((w : Int) = (h : Int)) = decide (w = h) := fun _ => decide_eq_decide.mpr (by (first | lia | omega))
    have four : u = 0 ∨ u = 1 ∨ u = 2 ∨ u = 3 := by (first | lia | omega)
    rcases four with rfl | rfl | rfl | rfl
    · exact go 1 104 (lk c w h).h rfl (by decide) (by decide) (by decide +kernel) (by simp [lk]) (by simp [kinT])
    · exact go 2 113 (lk c w h).q rfl (by decide) (by decide) (by decide +kernel) (by simp [lk, ea c]) (by simp [kinT])
    · exact go 4 109 (lk c w h).m rfl (by decide) (by decide) (by decide +kernel) (by simp [lk]) (by simp [kinT])
    · exact go 8 115 (lk c w h).s rfl (by decide) (by decide) (by decide +kernel) (by simp [lk]) (by simp [kinT])
  · rintro Γ' ⟨x, rfl⟩
    refine b_cons (s_ret (e_var 3) ?_)
    show _ = kinD _
    simp [kinT, kinL]
noncomputable def lcond (k : Kin) (t : Nat) : Bool := decide (0 < t) && (!(decide (t % 2 = 1) && !k.q) && (!(decide (t % 4 = 2) && (!k.h && !k.q)) && (decide (t < 4) || k.m)))
noncomputable def lturn (k : Kin) (j : Nat) : List Nat := 0 :: (List.range j).filter (lcond k)
theorem lturn_eq (k : Kin) : lturn k 8 = turns k := by obtain ⟨h, q, m, s⟩ := k; cases h <;> cases q <;> cases m <;> cases s <;> decide
theorem f_law_turnings (T : Txt K mg) : FnAt P wd K mg base 1 "_law_turnings" ["kinship"] (spF (fun k : Kin => [kinD k]) (fun _ => True) (fun k => .lst ((turns k).map natD)) K) := by
  refine fn_at T.d_law_turnings sc_law_turnings (fun _ _ => rfl) ?_
  rintro k _
  refine b_cons (s_own 1 (f_lst (a_cons e_int a_nil)) ?_)
  have nq : ∀ {Γ : List Sl} {pc ps pos : Pos} {j : Nat}, Γ[0]? = some (.val (kinD k)) → JE ⟨P, wd, K, mg, base, 0, N_law_turnings, defScope s_law_turnings, true⟩ Γ (.Compare (.Constant (.str (Str.ofString "q")) j pc) [.NotIn] [.Name "kinship" ps] pos) (.bl (!k.q)) := fun h => (e_notinS (c := 113) e_str (e_var 0 (hd := h))).cast (by rw [sl_cps, kin_q])
  have nh : ∀ {Γ : List Sl} {pc ps pos : Pos} {j : Nat}, Γ[0]? = some (.val (kinD k)) → JE ⟨P, wd, K, mg, base, 0, N_law_turnings, defScope s_law_turnings, true⟩ Γ (.Compare (.Constant (.str (Str.ofString "h")) j pc) [.NotIn] [.Name "kinship" ps] pos) (.bl (!k.h)) := fun h => (e_notinS (c := 104) e_str (e_var 0 (hd := h))).cast (by rw [sl_cps, kin_h])
  refine b_cons (s_for 2 (us := List.range 8) (g := natD) (i_rngN (n := 8) e_int T.n_range (by decide)) (fun j Γ' => ∃ x y z, Γ' = [.val (kinD k), .own ((lturn k j).map natD), x, y, z]) ⟨.no, .no, .no, rfl⟩ ?_ ?_)
  · rintro j u Γ' hu ⟨x, y, z, rfl⟩
    have hj : j < 8 ∧ u = j := by
      obtain ⟨a1, a2⟩ := List.getElem?_eq_some_iff.mp hu
      rw [List.length_range] at a1
      rw [List.getElem_range] at a2
      exact ⟨a1, a2.symm⟩
    obtain ⟨hj, rfl⟩ := hj
    have c1 : decide ((u : Int) % 2 = 1) = decide (u % 2 = 1) := decide_eq_decide.mpr (by (first | lia | omega))
    have c2 : decide ((u : Int) % 4 = 2) = decide (u % 4 = 2) := decide_eq_decide.mpr (by (first | lia | omega))
    have c3 : decide ((0 : Int) < (u : Int)) = decide (0 < u) := decide_eq_decide.mpr (by (first | lia | omega))
    have c4 : decide ((u : Int) < 4) = decide (u < 4) := decide_eq_decide.mpr (by (first | lia | omega))
    refine b_cons (s_set 3 (e_and (e_eqI (e_mod (e_var 2) e_int (by decide)) e_int) (p' := !k.q) fun _ => e_one (nq rfl)) ?_)
    refine b_cons (s_set 4 (e_and (e_eqI (e_mod (e_var 2) e_int (by decide)) e_int) (p' := !k.h && !k.q) fun _ => e_and (nh rfl) (p' := !k.q) fun _ => e_one (nq rfl)) ?_)
    have hl : (lturn k u).length ≤ 9 := by
      unfold lturn
      have := List.length_filter_le (lcond k) (List.range u)
      rw [List.length_range] at this
      rw [List.length_cons]; (first | lia | omega)
    have es : lturn k (u + 1) = lturn k u ++ (if lcond k u then [u] else []) := by
      unfold lturn
      rw [List.range_succ, List.filter_append, List.cons_append]
      congr 2
      rw [List.filter_cons]
      split <;> rfl
    refine b_cons (s_if (q := lcond k u) (JW.t (JW.cast' (w_and (t_gt (e_var 2) e_int) (p' := (!(decide (u % 2 = 1) && !k.q) && (!(decide (u % 4 = 2) && (!k.h && !k.q)) && (decide (u < 4) || k.m)))) fun _ => w_and ((t_not (t_val (e_var 3))).cast (by rw [c1])) (p' := (!(decide (u % 4 = 2) && (!k.h && !k.q)) && (decide (u < 4) || k.m))) fun _ => w_and ((t_not (t_val (e_var 4))).cast (by rw [c2])) (p' := (decide (u < 4) || k.m)) fun _ => w_and1 (JW.t (JW.cast' (w_or (t_lt (e_var 2) e_int) (p' := k.m) fun _ => w_or1 (t_let (c := 109) (by decide +kernel) (e_var 0) (kin_m k))) (by rw [c4])))) (by rw [c3]; rfl))) (fun hc => ?_) (fun hc => b_nil (b_nil ⟨.val (natD u), .val (.bl (decide ((u : Int) % 2 = 1) && !k.q)), .val (.bl (decide ((u : Int) % 4 = 2) && (!k.h && !k.q))), ?_⟩)))
    · rw [hc, if_pos rfl] at es
      refine b_cons (s_app 1 rfl (e_var 2) (by rw [List.length_map]; exact Nat.lt_of_lt_of_le (show _ < 100 by (first | lia | omega)) (by decide)) (b_nil (b_nil ⟨.val (natD u), .val (.bl (decide ((u : Int) % 2 = 1) && !k.q)), .val (.bl (decide ((u : Int) % 4 = 2) && (!k.h && !k.q))), ?_⟩)))
      show [_, _, _, _, _] = _
      rw [es, List.map_append]; rfl
    · rw [hc, if_neg Bool.false_ne_true, List.append_nil] at es
      rw [es]; rfl
  · rintro Γ' ⟨x, y, z, rfl⟩
    rw [List.length_range, lturn_eq]
    refine b_frz 1 rfl ?_
    exact b_cons (s_ret (e_var 1) rfl)
theorem slides_eq (k : Kin) (w h : Nat) : slides k w h = (List.range (if k.s then w else 1)).flatMap fun a => (List.range (if k.s then h else 1)).map fun b => (a, b) := by
  unfold slides
  cases k.s <;> rfl
theorem f_law_deeds (T : Txt K mg) : FnAt P wd K mg base 2 "_law_deeds" ["kinship", "width", "height"] (spF (fun u : Kin × Nat × Nat => [kinD u.1, natD u.2.1, natD u.2.2]) (fun u => u.2.1 ≤ 100 ∧ u.2.2 ≤ 100) (fun u => .lst ((deedsL u.1 u.2.1 u.2.2).map deedD)) K) := by
  refine fn_at T.d_law_deeds sc_law_deeds (fun _ _ => rfl) ?_
  rintro ⟨k, w, h⟩ ⟨hw, hh⟩
  dsimp only at hw hh ⊢
  have nd : ∀ {Γ : List Sl} {i : Nat} {x : Str} {pb p1 p2 p3 ps pp : Pos} {j1 j2 : Nat} {n : Nat}, Γ[0]? = some (.val (kinD k)) → JE ⟨P, wd, K, mg, base, 1, N_law_deeds, defScope s_law_deeds, true⟩ Γ (.Name x pb) (natD n) → JE ⟨P, wd, K, mg, base, 1, N_law_deeds, defScope s_law_deeds, true⟩ Γ (.IfExp (.Compare (.Constant (.str (Str.ofString "s")) j1 p1) [.In] [.Name "kinship" ps] p2) (.Name x pb) (.Constant (.int 1) j2 p3) pp) (natD (if k.s then n else 1)) := by
    intro Γ i x pb p1 p2 p3 ps pp j1 j2 n h0 hn
    refine e_if (t_let (c := 115) (by decide +kernel) (e_var 0 (hd := h0)) (kin_s k)) (fun z => ?_) (fun z => ?_)
    · rw [z]; exact hn
    · rw [z]; exact e_int
  have hW : (if k.s then w else 1) ≤ 100 := by split <;> (first | lia | omega)
  have hH : (if k.s then h else 1) ≤ 100 := by split <;> (first | lia | omega)
  have edl : deedsL k w h = (turns k).flatMap fun t => (List.range (if k.s then w else 1)).flatMap fun a => (List.range (if k.s then h else 1)).map fun b => (⟨t, (a : Nat), (b : Nat)⟩ : Deed) := by
    unfold deedsL
    rw [slides_eq]
    congr 1
    funext t
    rw [List.map_flatMap]
    congr 1
    funext a
    rw [List.map_map]; rfl
  rw [edl]
  generalize hWe : (if k.s then w else 1) = W at hW
  generalize hHe : (if k.s then h else 1) = V at hH
  have tl : (turns k).length ≤ 8 := by obtain ⟨h, q, m, s⟩ := k; cases h <;> cases q <;> cases m <;> cases s <;> decide
  have lenF : ∀ t, ((List.range W).flatMap fun a => (List.range V).map fun b => (⟨t, (a : Nat), (b : Nat)⟩ : Deed)).length = W * V := fun t => by
    rw [flatMap_len _ _ V (fun a => by rw [List.length_map, List.length_range]), List.length_range]
  have hWV : W * V ≤ 10000 := Nat.mul_le_mul hW hH
  refine b_cons (s_own 3 (f_lst a_nil) ?_)
  refine b_cons (s_for 4 (us := turns k) (g := natD) (i_lst (e_fn (f_law_turnings T) k (a_cons (e_var 0) a_nil) trivial)) (fun j Γ' => ∃ x y z, Γ' = [.val (kinD k), .val (natD w), .val (natD h), .own ((((turns k).take j).flatMap fun t => (List.range W).flatMap fun a => (List.range V).map fun b => (⟨t, (a : Nat), (b : Nat)⟩ : Deed)).map deedD), x, y, z]) ⟨.no, .no, .no, rfl⟩ ?_ ?_)
  · rintro j t Γ' hj ⟨x, y, z, rfl⟩
    have hl1 : (((turns k).take j).flatMap fun t => (List.range W).flatMap fun a => (List.range V).map fun b => (⟨t, (a : Nat), (b : Nat)⟩ : Deed)).length ≤ 80000 := by
      rw [flatMap_len _ _ (W * V) lenF, List.length_take]
      exact Nat.le_trans (Nat.mul_le_mul (show min j (turns k).length ≤ 8 by (first | lia | omega)) hWV) (by decide)
    generalize hLe : (((turns k).take j).flatMap fun t => (List.range W).flatMap fun a => (List.range V).map fun b => (⟨t, (a : Nat), (b : Nat)⟩ : Deed)) = L at hl1
    refine b_cons (s_for 5 (us := List.range W) (g := natD) (i_rngN (hWe ▸ nd (i := 1) rfl (e_var 1)) T.n_range (by (first | lia | omega))) (fun i Γ' => ∃ y z, Γ' = [.val (kinD k), .val (natD w), .val (natD h), .own ((L ++ ((List.range i).flatMap fun a => (List.range V).map fun b => (⟨t, (a : Nat), (b : Nat)⟩ : Deed))).map deedD), .val (natD t), y, z]) ⟨y, z, by show _ = [_, _, _, Sl.own ((L ++ []).map deedD), _, _, _]; rw [List.append_nil]; rfl⟩ ?_ ?_)
    · rintro i u Γ' hu ⟨y, z, rfl⟩
      have hi : i < W ∧ u = i := by
        obtain ⟨a1, a2⟩ := List.getElem?_eq_some_iff.mp hu
        rw [List.length_range] at a1
        rw [List.getElem_range] at a2
        exact ⟨a1, a2.symm⟩
      obtain ⟨hi, rfl⟩ := hi
      have hl2 : ((List.range u).flatMap fun a => (List.range V).map fun b => (⟨t, (a : Nat), (b : Nat)⟩ : Deed)).length ≤ 10000 := by
        rw [flatMap_len _ _ V (fun a => by rw [List.length_map, List.length_range]), List.length_range]
        have : u * V ≤ 100 * 100 := Nat.mul_le_mul (by (first | lia | omega)) hH
        (first | lia | omega)
      have esu : (List.range (u + 1)).flatMap (fun a => (List.range V).map fun b => (⟨t, (a : Nat), (b : Nat)⟩ : Deed)) = (List.range u).flatMap (fun a => (List.range V).map fun b => (⟨t, (a : Nat), (b : Nat)⟩ : Deed)) ++ (List.range V).map fun b => (⟨t, (u : Nat), (b : Nat)⟩ : Deed) := by
        rw [List.range_succ, List.flatMap_append]; simp
      rw [esu]
      generalize ((List.range u).flatMap fun a => (List.range V).map fun b => (⟨t, (a : Nat), (b : Nat)⟩ : Deed)) = M at hl2
      refine b_cons (s_for 6 (us := List.range V) (g := natD) (i_rngN (hHe ▸ nd (i := 2) rfl (e_var 2)) T.n_range (by (first | lia | omega))) (fun i Γ' => ∃ z, Γ' = [.val (kinD k), .val (natD w), .val (natD h), .own ((L ++ (M ++ (List.range i).map fun b => (⟨t, (u : Nat), (b : Nat)⟩ : Deed))).map deedD), .val (natD t), .val (natD u), z]) ⟨z, by show _ = [_, _, _, Sl.own ((L ++ (M ++ [])).map deedD), _, _, _]; rw [List.append_nil]; rfl⟩ ?_ ?_)
      · rintro i v Γ' hv ⟨z, rfl⟩
        have hb : i < V ∧ v = i := by
          obtain ⟨a1, a2⟩ := List.getElem?_eq_some_iff.mp hv
          rw [List.length_range] at a1
          rw [List.getElem_range] at a2
          exact ⟨a1, a2.symm⟩
        obtain ⟨hb, rfl⟩ := hb
        refine b_cons (s_app 3 rfl (e_tup (a_cons (e_var 4) (a_cons (e_var 5) (a_cons (e_var 6) a_nil)))) ?_ (b_nil ⟨.val (natD v), ?_⟩))
        · rw [List.length_map, List.length_append, List.length_append, List.length_map, List.length_range]
          exact Nat.lt_of_lt_of_le (show _ < 200000 by (first | lia | omega)) (by decide)
        · show [_, _, _, _, _, _, _] = [_, _, _, _, _, _, _]
          rw [List.range_succ]
          simp [List.append_assoc]
      · rintro Γ' ⟨z, rfl⟩
        rw [List.length_range]
        exact b_nil ⟨_, _, rfl⟩
    · rintro Γ' ⟨y, z, rfl⟩
      rw [List.length_range]
      refine b_nil ⟨.val (natD t), y, z, ?_⟩
      rw [List.take_add_one, hj, List.flatMap_append, hLe]
      simp
  · rintro Γ' ⟨x, y, z, rfl⟩
    rw [List.take_length]
    refine b_frz 3 rfl ?_
    exact b_cons (s_ret (e_var 3) rfl)
theorem cmp_marks {b1 b2 b3 c1 c2 c3 : Bool} : CmpOk 1 (.lst [.bl b1, .bl b2, .bl b3]) (.lst [.bl c1, .bl c2, .bl c3]) := .inr (.inr ⟨_, _, rfl, rfl, fun j x y hx hy => by
  match j with
  | 0 => cases hx; cases hy; exact ⟨rfl, rfl⟩
  | 1 => cases hx; cases hy; exact ⟨rfl, rfl⟩
  | 2 => cases hx; cases hy; exact ⟨rfl, rfl⟩
  | j + 3 => simp at hx⟩)
theorem f_law_is_deed (T : Txt K mg) : FnAt P wd K mg base 2 "_law_is_deed" ["found", "due"] (spF (fun d : Deed => [deedD d, deedD d]) (fun _ => True) (fun _ => .bl true) K) := by
  refine fn_at T.d_law_is_deed sc_law_is_deed (fun _ _ => rfl) ?_
  rintro d _
  refine b_cons (s_if (q := false) (JW.t (w_or (p := false) (p' := false) (t_not (p := true) (t_val (e_isi (T := "tuple") (e_var 0) (by with_unfolding_all rfl) T.n_isinstance T.n_tuple rfl))) fun _ => w_or (p := false) (p' := false) ((t_neI (e_lenTM (l := [(d.t : Int), d.a, d.b]) (f := D.int) (e_var 0) T.n_len) e_int).cast rfl) fun _ => w_or1 ((t_gt (e_lenL (f_comp (us := [(d.t : Int), d.a, d.b]) (g := D.int) (fun i : Int => D.int i) (fun _ => false) (i_tup (e_var 0)) (by show 3 ≤ sizeLine; decide) (fun i _ => ifs_one (t_not (p := true) (t_val (e_fn (f_law_whole T) i (a_cons (e_var 2) a_nil) trivial)))) (fun _ _ z => nomatch z)).je T.n_len) e_int).cast rfl))) (fun z => nomatch z) fun _ => b_nil ?_)
  exact b_cons (s_ret ((e_eqDd (e_var 0) (e_var 1)).cast (by simp)) rfl)
section
variable {bad : Cl → Prop} {badT : Str → Prop} {cls : Value}
noncomputable abbrev zB (w h : Nat) : Bd := (List.range h).map fun _ => (List.range w).map fun _ => (0 : Int)
theorem zB_in {w h : Nat} (w0 : 1 ≤ w) (h0 : 1 ≤ h) (w8 : w ≤ 8) (h8 : h ≤ 8) : BdIn w h (zB w h) := by
  refine ⟨⟨by simp, fun r hr => ?_⟩, by (first | lia | omega), by (first | lia | omega), by (first | lia | omega), by (first | lia | omega)⟩
  obtain ⟨_, _, rfl⟩ := List.mem_map.mp hr
  simp
noncomputable abbrev Cw : Type := Nat × Cl × Nat
theorem x_law_call (T : Txt K mg) (F : FnX P wd K mg base 3 "deeds" ["kinship", "width", "height"] (spX clD bad cls K)) (Ft : FnX P wd K mg base 2 "turnings" ["kinship"] (spX (fun x : Str => [.str x]) badT cls K)) :
    FnX P wd K mg base 6 "_law_call" ["way", "kinship", "width", "height", "odd"] (spX (fun u : Cw => [natD u.1, .str u.2.1.1, natD u.2.1.2.1, natD u.2.1.2.2, natD u.2.2]) (fun u => bad u.2.1 ∧ u.1 < 9 ∧ (u.1 = 8 → badT u.2.1.1) ∧ 1 ≤ u.2.1.2.1 ∧ u.2.1.2.1 ≤ 8 ∧ 1 ≤ u.2.1.2.2 ∧ u.2.1.2.2 ≤ 8 ∧ u.2.2 < 3) cls K) := by
  refine fx_at T.d_law_call sc_law_call (fun _ _ => rfl) ?_
  rintro ⟨wy, ⟨x, w, h⟩, od⟩ hu
  obtain ⟨hb, hw9, h8', w0, w8, h0, h8, ho⟩ : bad (x, w, h) ∧ wy < 9 ∧ (wy = 8 → badT x) ∧ 1 ≤ w ∧ w ≤ 8 ∧ 1 ≤ h ∧ h ≤ 8 ∧ od < 3 := hu
  show JX _ (startΓ N_law_call [natD wy, .str x, natD w, natD h, natD od]) _ _
  have q := zB_in w0 h0 w8 h8
  refine x_cons (s_set 5 (JE.cast (e_tupL (f_map (us := List.range h) (g := natD) (fun _ : Nat => rowD ((List.range w).map fun _ => (0 : Int))) (i_rngN (e_var 3) T.n_range (by (first | lia | omega))) (by rw [List.length_range]; exact Nat.le_trans h8 (by decide)) fun y hy => (e_tupL (f_map (us := List.range w) (g := natD) (fun _ : Nat => D.int 0) (i_rngN (e_var 2) T.n_range (by (first | lia | omega))) (by rw [List.length_range]; exact Nat.le_trans w8 (by decide)) fun _ _ => e_int).je T.n_tuple).cast (by rw [rowD, List.map_map]; rfl)).je T.n_tuple) (d' := bdD (zB w h)) (by rw [bdD, zB, List.map_map]; rfl)) ?_)
  have eq : ∀ k : Nat, decide ((wy : Int) = (k : Int)) = true → wy = k := fun k z => by have := of_decide_eq_true z; (first | lia | omega)
  refine x_head (x_if (t_eqI (e_var 0) e_int) (fun z => ?_) fun z0 => ?_)
  · exact x_head (x_expr (e_fnx F (x, w, h) (a_cons (e_var 1) (a_cons (e_var 2) (a_cons (e_var 3) a_nil))) hb))
  refine x_head (x_if (t_eqI (e_var 0) e_int) (fun z => ?_) fun z1 => ?_)
  · exact x_head (x_expr (e_fnx (x_kin T F) (zB w h, x, w, h) (a_cons (e_var 5) (a_cons (e_var 1) a_nil)) ⟨q, hb⟩))
  refine x_head (x_if (t_eqI (e_var 0) e_int) (fun z => ?_) fun z2 => ?_)
  · exact x_head (x_expr (e_fnx (x_least T F) (zB w h, x, w, h) (a_cons (e_var 5) (a_cons (e_var 1) a_nil)) ⟨q, hb⟩))
  refine x_head (x_if (t_eqI (e_var 0) e_int) (fun z => ?_) fun z3 => ?_)
  · exact x_head (x_expr (e_fnx (x_leaving T F) (zB w h, x, w, h) (a_cons (e_var 5) (a_cons (e_var 1) a_nil)) ⟨q, hb⟩))
  refine x_head (x_if (t_eqI (e_var 0) e_int) (fun z => ?_) fun z4 => ?_)
  · exact x_head (x_expr (e_fnx (x_alike T F) (zB w h, x, w, h) (a_cons (e_var 5) (a_cons (e_var 5) (a_cons (e_var 1) a_nil))) ⟨q, hb⟩))
  refine x_head (x_if (t_eqI (e_var 0) e_int) (fun z => ?_) fun z5 => ?_)
  · exact x_head (x_expr (e_fnx (x_families T F) (.int 2, x, w, h) (a_cons e_int (a_cons (e_var 1) (a_cons (e_var 2) (a_cons (e_var 3) a_nil)))) hb))
  refine x_head (x_if (t_eqI (e_var 0) e_int) (fun z => ?_) fun z6 => ?_)
  · exact x_head (x_expr (e_fnx (x_how_many T F) (.int 2, x, w, h) (a_cons e_int (a_cons (e_var 1) (a_cons (e_var 2) (a_cons (e_var 3) a_nil)))) hb))
  refine x_head (x_if (t_eqI (e_var 0) e_int) (fun z => ?_) fun z7 => ?_)
  · have m : ∀ {Γ : List Sl} {a b : Expr} {pos : Pos}, JE ⟨P, wd, K, mg, base, 5, N_law_call, defScope s_law_call, true⟩ Γ a (natD w) → JE ⟨P, wd, K, mg, base, 5, N_law_call, defScope s_law_call, true⟩ Γ b (natD h) → JE ⟨P, wd, K, mg, base, 5, N_law_call, defScope s_law_call, true⟩ Γ (.BinOp a .Mult b pos) (.int ((w : Int) * (h : Int))) := fun ha hb => e_mul ha hb (.inr ⟨by (first | lia | omega), by (first | lia | omega)⟩)
    refine x_head (x_expr (e_fnx (x_how_many_with T F) ([D.lst [.int ((w : Int) * (h : Int))], .lst [.int ((w : Int) * (h : Int) + 1)], .lst [.int (-1)]].getD od .non, x, w, h) (a_cons (e_ixL (ds := [D.lst [.int ((w : Int) * (h : Int))], .lst [.int ((w : Int) * (h : Int) + 1)], .lst [.int (-1)]]) (i := (od : Int)) (f_lst (a_cons (f_lst (a_cons (m (e_var 2) (e_var 3)) a_nil)).je (a_cons (f_lst (a_cons (e_add (m (e_var 2) (e_var 3)) e_int) a_nil)).je (a_cons (f_lst (a_cons (e_neg e_int) a_nil)).je a_nil)))).je (e_var 4) ?_) (a_cons (e_var 1) (a_cons (e_var 2) (a_cons (e_var 3) a_nil)))) hb))
    have : od = 0 ∨ od = 1 ∨ od = 2 := by (first | lia | omega)
    rcases this with rfl | rfl | rfl <;> rfl
  · have n : ∀ k : Nat, decide ((wy : Int) = (k : Int)) = false → wy ≠ k := fun k z e => by have := of_decide_eq_false z; (first | lia | omega)
    have := n 0 z0; have := n 1 z1; have := n 2 z2; have := n 3 z3; have := n 4 z4; have := n 5 z5; have := n 6 z6; have := n 7 z7
    exact x_head (x_expr (e_fnx Ft x (a_cons (e_var 1) a_nil) (h8' (by (first | lia | omega)))))
end
theorem f_refN {c1 c2 c3 : Addr} (T : Txt K mg) (C : Exs K mg c1 c2 c3) : FnAt P wd K mg base 7 "_law_refused" ["way", "kinship", "width", "height", "odd"] (spF (fun u : Cw => [natD u.1, .str u.2.1.1, natD u.2.1.2.1, natD u.2.1.2.2, natD u.2.2]) (fun u => noKin u.2.1.1 ∧ u.1 < 9 ∧ (u.1 = 8 → noKin u.2.1.1) ∧ 1 ≤ u.2.1.2.1 ∧ u.2.1.2.1 ≤ 8 ∧ 1 ≤ u.2.1.2.2 ∧ u.2.1.2.2 ≤ 8 ∧ u.2.2 < 3) (fun _ => .lst [.bl true, .bl false, .bl true]) K) := by
  refine fn_at T.d_law_refused sc_law_refused (fun _ _ => rfl) ?_
  rintro ⟨wy, ⟨x, w, h⟩, od⟩ hu
  show JB _ (startΓ N_law_refused [natD wy, .str x, natD w, natD h, natD od]) _ _
  refine b_cons (s_own 5 (f_lst a_nil) ?_)
  refine b_cons (s_tryM 6 5 (b1 := true) (b2 := false) (b3 := true) (C := c2) (D := c1) (e_fnx (x_law_call T (x_deedsN T C) (x_turnings T C)) (wy, (x, w, h), od) (a_cons (e_var 0) (a_cons (e_var 1) (a_cons (e_var 2) (a_cons (e_var 3) (a_cons (e_var 4) a_nil))))) hu)
    C.x_NoKinship C.m_KinError C.e_KinError C.s_NoKinship (.inl ⟨c2, C.m_NoKinship, C.k_NoKinship_NoKinship⟩) (.inl ⟨c3, C.m_NotSquare, C.k_NoKinship_NotSquare⟩) (.inr ⟨"ValueError", T.n_ValueError, by with_unfolding_all rfl, C.v_NoKinship⟩) T.n_isinstance rfl ?_)
  refine b_frz 5 rfl ?_
  exact b_cons (s_ret (e_var 5) rfl)
theorem fnx_none {x : Str} {ps : List Str} {k : Nat} {α : Type} {enc : α → List D} {bad : α → Prop} {cls cls' : Value} (F : FnX P wd K mg base k x ps (spX enc bad cls K)) : FnX P wd K mg base k x ps (spX enc (fun _ => False) cls' K) := by
  obtain ⟨f, fd, h1, h2, h3, h4⟩ := F
  exact ⟨f, fd, h1, h2, h3, h4.imp fun vs H Q E z => by obtain ⟨_, _, _, _, q, _⟩ := z; exact q.elim⟩
theorem f_refQ {c1 c2 c3 : Addr} (T : Txt K mg) (C : Exs K mg c1 c2 c3) : FnAt P wd K mg base 7 "_law_refused" ["way", "kinship", "width", "height", "odd"] (spF (fun u : Cw => [natD u.1, .str u.2.1.1, natD u.2.1.2.1, natD u.2.1.2.2, natD u.2.2]) (fun u => noSq u.2.1 ∧ u.1 < 9 ∧ (u.1 = 8 → False) ∧ 1 ≤ u.2.1.2.1 ∧ u.2.1.2.1 ≤ 8 ∧ 1 ≤ u.2.1.2.2 ∧ u.2.1.2.2 ≤ 8 ∧ u.2.2 < 3) (fun _ => .lst [.bl false, .bl true, .bl true]) K) := by
  refine fn_at T.d_law_refused sc_law_refused (fun _ _ => rfl) ?_
  rintro ⟨wy, ⟨x, w, h⟩, od⟩ hu
  show JB _ (startΓ N_law_refused [natD wy, .str x, natD w, natD h, natD od]) _ _
  refine b_cons (s_own 5 (f_lst a_nil) ?_)
  refine b_cons (s_tryM 6 5 (b1 := false) (b2 := true) (b3 := true) (C := c3) (D := c1) (e_fnx (x_law_call T (x_deedsQ T C) (fnx_none (x_turnings T C))) (wy, (x, w, h), od) (a_cons (e_var 0) (a_cons (e_var 1) (a_cons (e_var 2) (a_cons (e_var 3) (a_cons (e_var 4) a_nil))))) hu)
    C.x_NotSquare C.m_KinError C.e_KinError C.s_NotSquare (.inl ⟨c2, C.m_NoKinship, C.k_NotSquare_NoKinship⟩) (.inl ⟨c3, C.m_NotSquare, C.k_NotSquare_NotSquare⟩) (.inr ⟨"ValueError", T.n_ValueError, by with_unfolding_all rfl, C.v_NotSquare⟩) T.n_isinstance rfl ?_)
  refine b_frz 5 rfl ?_
  exact b_cons (s_ret (e_var 5) rfl)
noncomputable def nones : List Str := ["qh", "hh", "mh", "sh", "sm", "mq", "x", "H", "h ", " h", "h q", "hqmsh", "sq", "hqmsx", "mm", "Q", "hm,s"]
noncomputable instance (x : Str) : Decidable (x ≠ sl (inOrder x) ∧ (reprText x).length ≤ 1000000) := inferInstance
theorem nones_no : ∀ x ∈ nones, x ≠ sl (inOrder x) ∧ (reprText x).length ≤ 1000000 := by decide +kernel
theorem f_law_none (T : Txt K mg) : FnAt P wd K mg base 1 "_law_none" ["cell"] (spF (fun c : Int => [.int c]) (fun _ => True) (fun c => .str (nones.getD (c % 17).toNat Str.empty)) K) := by
  refine fn_at T.d_law_none sc_law_none (fun _ _ => rfl) ?_
  rintro c _
  have h1 := Int.emod_nonneg c (show (17 : Int) ≠ 0 by decide)
  have h2 := Int.emod_lt_of_pos c (show (0 : Int) < 17 by decide)
  refine b_cons (s_set 1 (f_lst (a_cons e_str (a_cons e_str (a_cons e_str (a_cons e_str (a_cons e_str (a_cons e_str (a_cons e_str (a_cons e_str (a_cons e_str (a_cons e_str (a_cons e_str (a_cons e_str (a_cons e_str a_nil)))))))))))))).je ?_)
  refine b_cons (s_set 1 (f_cat (e_var 1) (f_lst (a_cons e_str (a_cons e_str (a_cons e_str (a_cons e_str a_nil))))).je (by decide)).je ?_)
  exact b_cons (s_ret (e_ixLM (l := nones) (f := D.str) Str.empty (e_var 1) (e_mod (e_var 0) e_int (by decide)) h1 h2) rfl)
noncomputable def quars : List Kin := [⟨false, true, false, false⟩, ⟨true, true, false, false⟩, ⟨false, true, true, false⟩, ⟨false, true, false, true⟩, ⟨true, true, true, true⟩, ⟨false, true, true, true⟩]
theorem law_ok {l : PySem.W.OpenLaw} {f : Addr} {fd : FuncData} (T : Txt K mg) (F : Fun K "law" "law" s_law f fd) : FnOk l.prog wd K mg base CX0 40 f fd ["script"] (spLaw K) := by
  refine fn_D F sc_law (fun _ _ => rfl) ?_
  rintro ns hns
  have cell : ∀ {Γ : List Sl} {p pos pc ps : Pos} {j : Nat} (i : Nat), Γ[0]? = some (.val (intsD ns)) → JE ⟨l.prog, wd, K, mg, base, 39, N_law, defScope s_law, true⟩ Γ (.Call (.Name "_law_cell_at" p) [.Name "script" ps, .Constant (.int (i : Nat)) j pc] [] pos) (.int (ns.getD i 0)) := fun i h =>
    e_fn (f_law_cell_at T) (ns, i) (a_cons (e_var 0 (hd := h)) (a_cons e_int a_nil)) trivial
  obtain ⟨w, hw, w0, w8⟩ := m8 (ns.getD 0 0) 8 (by decide)
  obtain ⟨c1, c2, c3, C⟩ := T.cl
  refine b_cons (s_set 1 ((e_add e_int (e_mod (cell 0 rfl) e_int (by decide))).cast (congrArg D.int hw)) ?_)
  refine b_cons (s_set 2 (e_var 1) ?_)
  have key : ∀ h : Nat, 1 ≤ h → h ≤ 8 → JB ⟨l.prog, wd, K, mg, base, 39, N_law, defScope s_law, true⟩ [.val (intsD ns), .val (natD w), .val (natD h), .no, .no, .no, .no, .no, .no, .no, .no, .no] ((defBody s_law).drop 3) { nx := fun _ => D.bl true = .non, rt := fun d _ => d = D.bl true } := by
    intro h h0 h8
    refine b_cons (s_set 3 (e_fn (f_law_kinship T) (ns.getD 2 0, w, h) (a_cons (cell 2 rfl) (a_cons (e_var 1) (a_cons (e_var 2) a_nil))) trivial) ?_)
    dsimp only
    have hq : (lk (ns.getD 2 0) w h).q = true → w = h := fun z => by
      unfold lk at z
      simp only [Bool.and_eq_true, decide_eq_true_eq] at z
      exact z.2
    generalize lk (ns.getD 2 0) w h = k at hq
    have tl : (turns k).length ≤ 8 := by obtain ⟨h, q, m, s⟩ := k; cases h <;> cases q <;> cases m <;> cases s <;> decide
    have dl : (deedsL k w h).length ≤ 1000 := by
      have e1 : (deedsL k w h).length = (turns k).length * (slides k w h).length := by unfold deedsL; rw [flatMap_len _ _ (slides k w h).length (fun a => by rw [List.length_map])]
      have sl1 := slides_len k w h
      have : w * h ≤ 8 * 8 := Nat.mul_le_mul w8 h8
      rw [e1]
      exact Nat.le_trans (Nat.mul_le_mul tl (show _ ≤ 65 by (first | lia | omega))) (by decide)
    refine b_cons (s_for 4 (us := List.range 2) (g := natD) (i_rngN (n := 2) e_int T.n_range (by decide)) (fun _ Γ' => ∃ t a b c d, Γ' = [.val (intsD ns), .val (natD w), .val (natD h), .val (kinD k), t, a, b, c, d, .no, .no, .no]) ⟨.no, .no, .no, .no, .no, rfl⟩ ?_ ?_)
    · rintro j u Γ' _ ⟨t, a, b, c, d, rfl⟩
      refine b_cons (s_own 5 (f_fn (f_turnings T) k (a_cons (e_var 3) a_nil) trivial) ?_)
      refine b_cons (s_own 6 (f_fn (f_deeds T) (k, w, h) (a_cons (e_var 3) (a_cons (e_var 1) (a_cons (e_var 2) a_nil))) ⟨by dsimp only; (first | lia | omega), by dsimp only; (first | lia | omega), hq⟩) ?_)
      refine b_cons (s_set 7 (e_fn (f_law_deeds T) (k, w, h) (a_cons (e_var 3) (a_cons (e_var 1) (a_cons (e_var 2) a_nil))) ⟨by dsimp only; (first | lia | omega), by dsimp only; (first | lia | omega)⟩) ?_)
      dsimp only
      refine b_cons (s_if (q := false) (t_bor 5 (ds := (turns k).map natD) rfl (t_bor 6 (ds := (deedsL k w h).map deedD) rfl (JW.t (w_or (p := false) (p' := false) (t_not (p := true) (t_val (e_isi (T := "list") (e_var 5) (by with_unfolding_all rfl) T.n_isinstance T.n_list rfl))) fun _ => w_or (p := false) (p' := false) ((t_neD (n := 0) (d := .lst ((turns k).map natD)) (d' := .lst ((turns k).map natD)) (e_var 5) (e_fn (f_law_turnings T) k (a_cons (e_var 3) a_nil) trivial) trivial ?_).cast (by rw [eqD_refl]; rfl)) fun _ => w_or1 (t_not (p := true) (t_val (e_isi (T := "list") (e_var 6) (by with_unfolding_all rfl) T.n_isinstance T.n_list rfl))))))) (fun z => nomatch z) fun _ => b_nil ?_)
      · have := cmp_ints 0 ((turns k).map fun i : Nat => (i : Int)) ((turns k).map fun i : Nat => (i : Int))
        rw [intsD, List.map_map] at this
        exact this
      refine b_cons (s_if (q := false) (t_bor 5 (ds := (turns k).map natD) rfl (t_bor 6 (ds := (deedsL k w h).map deedD) rfl (JW.t (w_or (p := false) (p' := false) ((t_gt (e_lenL (f_comp (us := turns k) (g := natD) (fun i : Nat => natD i) (fun _ => false) (i_lst (e_var 5)) (Nat.le_trans tl (by decide)) (fun i _ => ifs_one (t_not (p := true) (t_val (e_fn (f_law_whole T) (i : Int) (a_cons (e_var 12) a_nil) trivial)))) (fun _ _ z => nomatch z)).je T.n_len) e_int).cast ?_) fun _ => w_or1 ((t_neI (e_lenLM (l := deedsL k w h) (f := deedD) (e_var 6) T.n_len) (e_lenLM (l := deedsL k w h) (f := deedD) (e_var 7) T.n_len)).cast (by simp)))))) (fun z => nomatch z) fun _ => b_nil ?_)
      · rw [List.filter_eq_nil_iff.mpr (by simp)]; rfl
      refine b_cons (s_for 8 (us := List.range (deedsL k w h).length) (g := natD) (i_rngN (e_lenLM (l := deedsL k w h) (f := deedD) (e_var 7) T.n_len) T.n_range (by (first | lia | omega))) (fun _ Γ' => ∃ d, Γ' = [.val (intsD ns), .val (natD w), .val (natD h), .val (kinD k), .val (natD u), .own ((turns k).map natD), .own ((deedsL k w h).map deedD), .val (.lst ((deedsL k w h).map deedD)), d, .no, .no, .no]) ⟨_, rfl⟩ ?_ ?_)
      · rintro i v Γ' hv ⟨d, rfl⟩
        have hvl : v < (deedsL k w h).length := by have := List.mem_of_getElem? hv; exact List.mem_range.mp this
        have ev : (v : Int).toNat = v := rfl
        exact b_cons (s_if (q := false) (t_bor 6 (ds := (deedsL k w h).map deedD) rfl (t_not (p := true) (t_val (e_fn (f_law_is_deed T) ((deedsL k w h).getD v ⟨0, 0, 0⟩) (a_cons (e_ixLM (l := deedsL k w h) (f := deedD) (i := (v : Int)) ⟨0, 0, 0⟩ (e_var 6) (e_var 8) (by (first | lia | omega)) (by (first | lia | omega))) (a_cons (e_ixLM (l := deedsL k w h) (f := deedD) (i := (v : Int)) ⟨0, 0, 0⟩ (e_var 7) (e_var 8) (by (first | lia | omega)) (by (first | lia | omega))) a_nil)) trivial)))) (fun z => nomatch z) fun _ => b_nil (b_nil ⟨_, rfl⟩))
      · rintro Γ' ⟨d, rfl⟩
        exact b_cons (s_clear 5 rfl (b_cons (s_clear 6 rfl (b_nil ⟨_, _, _, _, _, rfl⟩))))
    · rintro Γ' ⟨t, a, b, c, d, rfl⟩
      refine b_cons (s_set 9 (cell 3 rfl) ?_)
      obtain ⟨od, hod, od3⟩ := m0 (ns.getD 3 0 / 1600) 3 (by decide)
      refine b_cons (s_set 10 ((e_mod (e_fdiv (e_var 9) e_int ⟨by decide, by decide⟩) e_int (by decide)).cast (congrArg D.int hod)) ?_)
      obtain ⟨w9, hw9, w9l⟩ := m0 (ns.getD 3 0) 9 (by decide)
      obtain ⟨wq, hwq, wql⟩ := m0 (ns.getD 3 0) 8 (by decide)
      obtain ⟨qi, hqi, qil⟩ := m0 (ns.getD 3 0 / 200) 6 (by decide)
      have g1 := Int.emod_nonneg (ns.getD 3 0 / 9) (show (17 : Int) ≠ 0 by decide)
      have g2 := Int.emod_lt_of_pos (ns.getD 3 0 / 9) (show (0 : Int) < 17 by decide)
      have nk : noKin (nones.getD (ns.getD 3 0 / 9 % 17).toNat Str.empty) := nones_no _ (by
        rw [List.getD_eq_getElem?_getD, List.getElem?_eq_getElem (show (ns.getD 3 0 / 9 % 17).toNat < nones.length by show _ < 17; (first | lia | omega))]
        exact List.getElem_mem _)
      refine b_cons (s_if (q := false) ((t_neD (n := 0) (d := .lst [.bl true, .bl false, .bl true]) (d' := .lst [.bl true, .bl false, .bl true]) (e_fn (f_refN T C) (w9, (nones.getD (ns.getD 3 0 / 9 % 17).toNat Str.empty, w, h), od) (a_cons ((e_mod (e_var 9) e_int (by decide)).cast (congrArg D.int hw9)) (a_cons (e_fn (f_law_none T) (ns.getD 3 0 / 9) (a_cons (e_fdiv (e_var 9) e_int ⟨by decide, by decide⟩) a_nil) trivial) (a_cons (e_var 1) (a_cons (e_var 2) (a_cons (e_var 10) a_nil))))) ⟨nk, w9l, fun _ => nk, w0, w8, h0, h8, od3⟩) (f_lst (a_cons e_bl (a_cons e_bl (a_cons e_bl a_nil)))).je trivial cmp_marks).cast (by rw [eqD_refl]; rfl)) (fun z => nomatch z) fun _ => b_nil ?_)
      refine b_cons (s_if (t_eqI (e_var 1) (e_var 2)) (fun _ => b_cons (s_ret e_bl rfl)) fun z => b_nil ?_)
      have hwh : w ≠ h := fun e => by have := of_decide_eq_false z; (first | lia | omega)
      refine b_cons (s_set 11 ((e_ixLM (l := quars) (f := fun k => D.str (sl (kinL k))) (i := (qi : Int)) ⟨false, true, false, false⟩ (f_lst (a_cons e_str (a_cons e_str (a_cons e_str (a_cons e_str (a_cons e_str (a_cons e_str a_nil))))))).je ((e_mod (e_fdiv (e_var 9) e_int ⟨by decide, by decide⟩) e_int (by decide)).cast (congrArg D.int hqi)) (by (first | lia | omega)) (by show (qi : Int) < 6; (first | lia | omega)))) ?_)
      have hk : ∀ k ∈ quars, k.q = true := by decide
      have hkq := hk (quars.getD (qi : Int).toNat ⟨false, true, false, false⟩) (by
        rw [List.getD_eq_getElem?_getD, List.getElem?_eq_getElem (show (qi : Int).toNat < quars.length by show _ < 6; (first | lia | omega))]
        exact List.getElem_mem _)
      refine b_cons (s_ret ((e_eqD (n := 0) (d := .lst [.bl false, .bl true, .bl true]) (d' := .lst [.bl false, .bl true, .bl true]) (e_fn (f_refQ T C) (wq, (sl (kinL (quars.getD (qi : Int).toNat ⟨false, true, false, false⟩)), w, h), od) (a_cons ((e_mod (e_var 9) e_int (by decide)).cast (congrArg D.int hwq)) (a_cons (e_var 11) (a_cons (e_var 1) (a_cons (e_var 2) (a_cons (e_var 10) a_nil))))) ⟨⟨_, rfl, hkq, hwh, by dsimp only; (first | lia | omega), by dsimp only; (first | lia | omega)⟩, by dsimp only; (first | lia | omega), fun z => by dsimp only at z; (first | lia | omega), w0, w8, h0, h8, od3⟩) (f_lst (a_cons e_bl (a_cons e_bl (a_cons e_bl a_nil)))).je trivial cmp_marks).cast (by rw [eqD_refl])) rfl)
  refine b_cons (s_if (t_eqI (e_mod (cell 1 rfl) e_int (by decide)) e_int) (fun _ => ?_) (fun _ => b_nil (key w w0 w8)))
  obtain ⟨h, hh, h0, h8⟩ := m8 (ns.getD 1 0 / 2) 8 (by decide)
  refine b_cons (s_set 2 ((e_add e_int (e_mod (e_fdiv (cell 1 rfl) e_int ⟨by decide, by decide⟩) e_int (by decide))).cast (congrArg D.int hh)) (b_nil ?_))
  exact key h h0 h8
end
end Internal.k02
namespace Internal.k02
open PySem Internal.L2 Internal
theorem lenOf0 {α : Type} {us : List α} (h : us.length = 0) : us = [] := List.eq_nil_of_length_eq_zero h
theorem lenOf1 {α : Type} {us : List α} (h : us.length = 1) : ∃ a0, us = [a0] := by
  cases us with
  | nil => exact absurd h (by simp)
  | cons a t => exact ⟨a, by rw [lenOf0 (Nat.succ.inj h)]⟩
theorem lenOf2 {α : Type} {us : List α} (h : us.length = 2) : ∃ a0 a1, us = [a0, a1] := by
  cases us with
  | nil => exact absurd h (by simp)
  | cons a t =>
    obtain ⟨a1, rfl⟩ := lenOf1 (Nat.succ.inj h)
    exact ⟨a, a1, rfl⟩
theorem lenOf3 {α : Type} {us : List α} (h : us.length = 3) : ∃ a0 a1 a2, us = [a0, a1, a2] := by
  cases us with
  | nil => exact absurd h (by simp)
  | cons a t =>
    obtain ⟨a1, a2, rfl⟩ := lenOf2 (Nat.succ.inj h)
    exact ⟨a, a1, a2, rfl⟩
theorem lenOf4 {α : Type} {us : List α} (h : us.length = 4) : ∃ a0 a1 a2 a3, us = [a0, a1, a2, a3] := by
  cases us with
  | nil => exact absurd h (by simp)
  | cons a t =>
    obtain ⟨a1, a2, a3, rfl⟩ := lenOf3 (Nat.succ.inj h)
    exact ⟨a, a1, a2, a3, rfl⟩
theorem lenOf5 {α : Type} {us : List α} (h : us.length = 5) : ∃ a0 a1 a2 a3 a4, us = [a0, a1, a2, a3, a4] := by
  cases us with
  | nil => exact absurd h (by simp)
  | cons a t =>
    obtain ⟨a1, a2, a3, a4, rfl⟩ := lenOf4 (Nat.succ.inj h)
    exact ⟨a, a1, a2, a3, a4, rfl⟩
theorem all_mk {l : PySem.W.OpenLaw} {w : World} {K : PySem.W.Frag} {h : Heap} {mg : Str → Option Value} {fa : Addr} (X : K.In h) (G : h.Ns mainGlobals mg) (hfa : mg "law" = some (.ref fa))
    {f1 f2 f3 f4 f5 f6 f7 f8 f9 f10 f11 f12 f13 f14 f15 f16 f17 f18 f19 f20 f21 f22 f23 f24 : Addr} {od1 od2 od3 od4 od5 od6 od7 od8 od9 od10 od11 od12 od13 od14 od15 od16 od17 od18 od19 od20 od21 od22 od23 od24 an1 an2 an3 an4 an5 an6 an7 an8 an9 an10 an11 an12 an13 an14 an15 an16 an17 an18 an19 an20 an21 an22 an23 an24 : Option Addr} {sl1 sl2 sl3 sl4 sl5 sl6 sl7 sl8 sl9 sl10 sl11 sl12 sl13 sl14 sl15 sl16 sl17 sl18 sl19 sl20 sl21 sl22 sl23 sl24 : Array (Option Value)} {oc1 oc2 oc3 oc4 oc5 oc6 oc7 oc8 oc9 oc10 oc11 oc12 oc13 oc14 oc15 oc16 oc17 oc18 oc19 oc20 oc21 oc22 oc23 oc24 kV1 kV2 kV3 kV4 kV5 kV6 kV7 kV8 kV9 kV10 kV11 kV12 kV13 kV14 kV15 kV16 kV17 kV18 kV19 kV20 kV21 kV22 kV23 kV24 dc1 dc2 dc3 dc4 dc5 dc6 dc7 dc8 dc9 dc10 dc11 dc12 dc13 dc14 dc15 dc16 dc17 dc18 dc19 dc20 dc21 dc22 dc23 dc24 pm1 pm2 pm3 pm4 pm5 pm6 pm7 pm8 pm9 pm10 pm11 pm12 pm13 pm14 pm15 pm16 pm17 pm18 pm19 pm20 pm21 pm22 pm23 pm24 cd1 cd2 cd3 cd4 cd5 cd6 cd7 cd8 cd9 cd10 cd11 cd12 cd13 cd14 cd15 cd16 cd17 cd18 cd19 cd20 cd21 cd22 cd23 cd24 ct1 ct2 ct3 ct4 ct5 ct6 ct7 ct8 ct9 ct10 ct11 ct12 ct13 ct14 ct15 ct16 ct17 ct18 ct19 ct20 ct21 ct22 ct23 ct24 : Value}
    (a1 : PySem.W.nsIn K mainGlobals "turnings" = some (some (.ref f1))) (l1 : K.lookup f1 = some ⟨oc1, od1, .func (PySem.W.fnOf "turnings" "turnings" (defArgs s_turnings) (defBody s_turnings) (defScope s_turnings) .none kV1 dc1 pm1 an1 cd1 ct1), sl1⟩) (c1 : PySem.W.codeIn K cd1 "turnings" = true) (k1 : PySem.W.keepIn K (.ref f1) = true)
    (a2 : PySem.W.nsIn K mainGlobals "check_kinship" = some (some (.ref f2))) (l2 : K.lookup f2 = some ⟨oc2, od2, .func (PySem.W.fnOf "check_kinship" "check_kinship" (defArgs s_check_kinship) (defBody s_check_kinship) (defScope s_check_kinship) .none kV2 dc2 pm2 an2 cd2 ct2), sl2⟩) (c2 : PySem.W.codeIn K cd2 "check_kinship" = true) (k2 : PySem.W.keepIn K (.ref f2) = true)
    (a3 : PySem.W.nsIn K mainGlobals "deeds" = some (some (.ref f3))) (l3 : K.lookup f3 = some ⟨oc3, od3, .func (PySem.W.fnOf "deeds" "deeds" (defArgs s_deeds) (defBody s_deeds) (defScope s_deeds) .none kV3 dc3 pm3 an3 cd3 ct3), sl3⟩) (c3 : PySem.W.codeIn K cd3 "deeds" = true) (k3 : PySem.W.keepIn K (.ref f3) = true)
    (a4 : PySem.W.nsIn K mainGlobals "all_slides" = some (some (.ref f4))) (l4 : K.lookup f4 = some ⟨oc4, od4, .func (PySem.W.fnOf "all_slides" "all_slides" (defArgs s_all_slides) (defBody s_all_slides) (defScope s_all_slides) .none kV4 dc4 pm4 an4 cd4 ct4), sl4⟩) (c4 : PySem.W.codeIn K cd4 "all_slides" = true) (k4 : PySem.W.keepIn K (.ref f4) = true)
    (a5 : PySem.W.nsIn K mainGlobals "how_many" = some (some (.ref f5))) (l5 : K.lookup f5 = some ⟨oc5, od5, .func (PySem.W.fnOf "how_many" "how_many" (defArgs s_how_many) (defBody s_how_many) (defScope s_how_many) .none kV5 dc5 pm5 an5 cd5 ct5), sl5⟩) (c5 : PySem.W.codeIn K cd5 "how_many" = true) (k5 : PySem.W.keepIn K (.ref f5) = true)
    (a6 : PySem.W.nsIn K mainGlobals "how_many_with" = some (some (.ref f6))) (l6 : K.lookup f6 = some ⟨oc6, od6, .func (PySem.W.fnOf "how_many_with" "how_many_with" (defArgs s_how_many_with) (defBody s_how_many_with) (defScope s_how_many_with) .none kV6 dc6 pm6 an6 cd6 ct6), sl6⟩) (c6 : PySem.W.codeIn K cd6 "how_many_with" = true) (k6 : PySem.W.keepIn K (.ref f6) = true)
    (a7 : PySem.W.nsIn K mainGlobals "kin" = some (some (.ref f7))) (l7 : K.lookup f7 = some ⟨oc7, od7, .func (PySem.W.fnOf "kin" "kin" (defArgs s_kin) (defBody s_kin) (defScope s_kin) .none kV7 dc7 pm7 an7 cd7 ct7), sl7⟩) (c7 : PySem.W.codeIn K cd7 "kin" = true) (k7 : PySem.W.keepIn K (.ref f7) = true)
    (a8 : PySem.W.nsIn K mainGlobals "least" = some (some (.ref f8))) (l8 : K.lookup f8 = some ⟨oc8, od8, .func (PySem.W.fnOf "least" "least" (defArgs s_least) (defBody s_least) (defScope s_least) .none kV8 dc8 pm8 an8 cd8 ct8), sl8⟩) (c8 : PySem.W.codeIn K cd8 "least" = true) (k8 : PySem.W.keepIn K (.ref f8) = true)
    (a9 : PySem.W.nsIn K mainGlobals "leaving" = some (some (.ref f9))) (l9 : K.lookup f9 = some ⟨oc9, od9, .func (PySem.W.fnOf "leaving" "leaving" (defArgs s_leaving) (defBody s_leaving) (defScope s_leaving) .none kV9 dc9 pm9 an9 cd9 ct9), sl9⟩) (c9 : PySem.W.codeIn K cd9 "leaving" = true) (k9 : PySem.W.keepIn K (.ref f9) = true)
    (a10 : PySem.W.nsIn K mainGlobals "alike" = some (some (.ref f10))) (l10 : K.lookup f10 = some ⟨oc10, od10, .func (PySem.W.fnOf "alike" "alike" (defArgs s_alike) (defBody s_alike) (defScope s_alike) .none kV10 dc10 pm10 an10 cd10 ct10), sl10⟩) (c10 : PySem.W.codeIn K cd10 "alike" = true) (k10 : PySem.W.keepIn K (.ref f10) = true)
    (a11 : PySem.W.nsIn K mainGlobals "deeds_for" = some (some (.ref f11))) (l11 : K.lookup f11 = some ⟨oc11, od11, .func (PySem.W.fnOf "deeds_for" "deeds_for" (defArgs s_deeds_for) (defBody s_deeds_for) (defScope s_deeds_for) .none kV11 dc11 pm11 an11 cd11 ct11), sl11⟩) (c11 : PySem.W.codeIn K cd11 "deeds_for" = true) (k11 : PySem.W.keepIn K (.ref f11) = true)
    (a12 : PySem.W.nsIn K mainGlobals "size_of" = some (some (.ref f12))) (l12 : K.lookup f12 = some ⟨oc12, od12, .func (PySem.W.fnOf "size_of" "size_of" (defArgs s_size_of) (defBody s_size_of) (defScope s_size_of) .none kV12 dc12 pm12 an12 cd12 ct12), sl12⟩) (c12 : PySem.W.codeIn K cd12 "size_of" = true) (k12 : PySem.W.keepIn K (.ref f12) = true)
    (a13 : PySem.W.nsIn K mainGlobals "all_led_to" = some (some (.ref f13))) (l13 : K.lookup f13 = some ⟨oc13, od13, .func (PySem.W.fnOf "all_led_to" "all_led_to" (defArgs s_all_led_to) (defBody s_all_led_to) (defScope s_all_led_to) .none kV13 dc13 pm13 an13 cd13 ct13), sl13⟩) (c13 : PySem.W.codeIn K cd13 "all_led_to" = true) (k13 : PySem.W.keepIn K (.ref f13) = true)
    (a14 : PySem.W.nsIn K mainGlobals "families" = some (some (.ref f14))) (l14 : K.lookup f14 = some ⟨oc14, od14, .func (PySem.W.fnOf "families" "families" (defArgs s_families) (defBody s_families) (defScope s_families) .none kV14 dc14 pm14 an14 cd14 ct14), sl14⟩) (c14 : PySem.W.codeIn K cd14 "families" = true) (k14 : PySem.W.keepIn K (.ref f14) = true)
    (a15 : PySem.W.nsIn K mainGlobals "_law_cell_at" = some (some (.ref f15))) (l15 : K.lookup f15 = some ⟨oc15, od15, .func (PySem.W.fnOf "_law_cell_at" "_law_cell_at" (defArgs s_law_cell_at) (defBody s_law_cell_at) (defScope s_law_cell_at) .none kV15 dc15 pm15 an15 cd15 ct15), sl15⟩) (c15 : PySem.W.codeIn K cd15 "_law_cell_at" = true) (k15 : PySem.W.keepIn K (.ref f15) = true)
    (a16 : PySem.W.nsIn K mainGlobals "_law_whole" = some (some (.ref f16))) (l16 : K.lookup f16 = some ⟨oc16, od16, .func (PySem.W.fnOf "_law_whole" "_law_whole" (defArgs s_law_whole) (defBody s_law_whole) (defScope s_law_whole) .none kV16 dc16 pm16 an16 cd16 ct16), sl16⟩) (c16 : PySem.W.codeIn K cd16 "_law_whole" = true) (k16 : PySem.W.keepIn K (.ref f16) = true)
    (a17 : PySem.W.nsIn K mainGlobals "_law_kinship" = some (some (.ref f17))) (l17 : K.lookup f17 = some ⟨oc17, od17, .func (PySem.W.fnOf "_law_kinship" "_law_kinship" (defArgs s_law_kinship) (defBody s_law_kinship) (defScope s_law_kinship) .none kV17 dc17 pm17 an17 cd17 ct17), sl17⟩) (c17 : PySem.W.codeIn K cd17 "_law_kinship" = true) (k17 : PySem.W.keepIn K (.ref f17) = true)
    (a18 : PySem.W.nsIn K mainGlobals "_law_turnings" = some (some (.ref f18))) (l18 : K.lookup f18 = some ⟨oc18, od18, .func (PySem.W.fnOf "_law_turnings" "_law_turnings" (defArgs s_law_turnings) (defBody s_law_turnings) (defScope s_law_turnings) .none kV18 dc18 pm18 an18 cd18 ct18), sl18⟩) (c18 : PySem.W.codeIn K cd18 "_law_turnings" = true) (k18 : PySem.W.keepIn K (.ref f18) = true)
    (a19 : PySem.W.nsIn K mainGlobals "_law_deeds" = some (some (.ref f19))) (l19 : K.lookup f19 = some ⟨oc19, od19, .func (PySem.W.fnOf "_law_deeds" "_law_deeds" (defArgs s_law_deeds) (defBody s_law_deeds) (defScope s_law_deeds) .none kV19 dc19 pm19 an19 cd19 ct19), sl19⟩) (c19 : PySem.W.codeIn K cd19 "_law_deeds" = true) (k19 : PySem.W.keepIn K (.ref f19) = true)
    (a20 : PySem.W.nsIn K mainGlobals "_law_is_deed" = some (some (.ref f20))) (l20 : K.lookup f20 = some ⟨oc20, od20, .func (PySem.W.fnOf "_law_is_deed" "_law_is_deed" (defArgs s_law_is_deed) (defBody s_law_is_deed) (defScope s_law_is_deed) .none kV20 dc20 pm20 an20 cd20 ct20), sl20⟩) (c20 : PySem.W.codeIn K cd20 "_law_is_deed" = true) (k20 : PySem.W.keepIn K (.ref f20) = true)
    (a21 : PySem.W.nsIn K mainGlobals "_law_call" = some (some (.ref f21))) (l21 : K.lookup f21 = some ⟨oc21, od21, .func (PySem.W.fnOf "_law_call" "_law_call" (defArgs s_law_call) (defBody s_law_call) (defScope s_law_call) .none kV21 dc21 pm21 an21 cd21 ct21), sl21⟩) (c21 : PySem.W.codeIn K cd21 "_law_call" = true) (k21 : PySem.W.keepIn K (.ref f21) = true)
    (a22 : PySem.W.nsIn K mainGlobals "_law_refused" = some (some (.ref f22))) (l22 : K.lookup f22 = some ⟨oc22, od22, .func (PySem.W.fnOf "_law_refused" "_law_refused" (defArgs s_law_refused) (defBody s_law_refused) (defScope s_law_refused) .none kV22 dc22 pm22 an22 cd22 ct22), sl22⟩) (c22 : PySem.W.codeIn K cd22 "_law_refused" = true) (k22 : PySem.W.keepIn K (.ref f22) = true)
    (a23 : PySem.W.nsIn K mainGlobals "_law_none" = some (some (.ref f23))) (l23 : K.lookup f23 = some ⟨oc23, od23, .func (PySem.W.fnOf "_law_none" "_law_none" (defArgs s_law_none) (defBody s_law_none) (defScope s_law_none) .none kV23 dc23 pm23 an23 cd23 ct23), sl23⟩) (c23 : PySem.W.codeIn K cd23 "_law_none" = true) (k23 : PySem.W.keepIn K (.ref f23) = true)
    (a24 : PySem.W.nsIn K mainGlobals "law" = some (some (.ref f24))) (l24 : K.lookup f24 = some ⟨oc24, od24, .func (PySem.W.fnOf "law" "law" (defArgs s_law) (defBody s_law) (defScope s_law) .none kV24 dc24 pm24 an24 cd24 ct24), sl24⟩) (c24 : PySem.W.codeIn K cd24 "law" = true) (k24 : PySem.W.keepIn K (.ref f24) = true)
    (z1 : PySem.W.nsIn K mainGlobals "ValueError" = some none)
    (z2 : PySem.W.nsIn K mainGlobals "bool" = some none)
    (z3 : PySem.W.nsIn K mainGlobals "int" = some none)
    (z4 : PySem.W.nsIn K mainGlobals "isinstance" = some none)
    (z5 : PySem.W.nsIn K mainGlobals "len" = some none)
    (z6 : PySem.W.nsIn K mainGlobals "list" = some none)
    (z7 : PySem.W.nsIn K mainGlobals "min" = some none)
    (z8 : PySem.W.nsIn K mainGlobals "range" = some none)
    (z9 : PySem.W.nsIn K mainGlobals "set" = some none)
    (z10 : PySem.W.nsIn K mainGlobals "sorted" = some none)
    (z11 : PySem.W.nsIn K mainGlobals "sum" = some none)
    (z12 : PySem.W.nsIn K mainGlobals "tuple" = some none)
    {t1 : Tok} (q1 : PySem.W.nsIn K mainGlobals "LETTERS" = some (some (.str (Str.ofString "hqms") t1)))
    {t2 : Tok} (q2 : PySem.W.nsIn K mainGlobals "QUARTERS" = some (some (.int 4 t2)))
    {t3 : Tok} (q3 : PySem.W.nsIn K mainGlobals "FIRST_MIRRORING" = some (some (.int 4 t3)))
    {t4 : Tok} (q4 : PySem.W.nsIn K mainGlobals "MOST_BOARDS" = some (some (.int 1100 t4)))
    {c_KinError c_NoKinship c_NotSquare : Addr}
    (y_m_KinError : PySem.W.nsIn K mainGlobals "KinError" = some (some (.ref c_KinError)))
    (y_m_NoKinship : PySem.W.nsIn K mainGlobals "NoKinship" = some (some (.ref c_NoKinship)))
    (y_m_NotSquare : PySem.W.nsIn K mainGlobals "NotSquare" = some (some (.ref c_NotSquare)))
    (y_x1_NoKinship : PySem.W.excIn K c_NoKinship bmV "ValueError.__new__" = true)
    (y_x2_NoKinship : PySem.W.findIn K (.ref c_NoKinship) "__class__" = some (some (.builtin "object.__class__")))
    (y_x3_NoKinship : PySem.W.findIn K (.ref c_NoKinship) "__getattribute__" = some (some (.builtin "BaseException.__getattribute__")))
    (y_x4_NoKinship : PySem.W.findIn K (.ref c_NoKinship) "__getattr__" = some none)
    (y_x1_NotSquare : PySem.W.excIn K c_NotSquare bmV "ValueError.__new__" = true)
    (y_x2_NotSquare : PySem.W.findIn K (.ref c_NotSquare) "__class__" = some (some (.builtin "object.__class__")))
    (y_x3_NotSquare : PySem.W.findIn K (.ref c_NotSquare) "__getattribute__" = some (some (.builtin "BaseException.__getattribute__")))
    (y_x4_NotSquare : PySem.W.findIn K (.ref c_NotSquare) "__getattr__" = some none)
    (y_s_NoKinship : PySem.W.subIn K (.ref c_NoKinship) (.ref c_KinError) = some true)
    (y_w_NoKinship : PySem.W.subIn K (.ref c_NoKinship) (.ref c_NoKinship) = some true)
    (y_v_NoKinship : PySem.W.kitOne K (.ref c_NoKinship) (.type "ValueError") = some true)
    (y_k_NoKinship_NoKinship : PySem.W.kitOne K (.ref c_NoKinship) (.ref c_NoKinship) = some true)
    (y_k_NoKinship_NotSquare : PySem.W.kitOne K (.ref c_NoKinship) (.ref c_NotSquare) = some false)
    (y_s_NotSquare : PySem.W.subIn K (.ref c_NotSquare) (.ref c_KinError) = some true)
    (y_w_NotSquare : PySem.W.subIn K (.ref c_NotSquare) (.ref c_NotSquare) = some true)
    (y_v_NotSquare : PySem.W.kitOne K (.ref c_NotSquare) (.type "ValueError") = some true)
    (y_k_NotSquare_NoKinship : PySem.W.kitOne K (.ref c_NotSquare) (.ref c_NoKinship) = some false)
    (y_k_NotSquare_NotSquare : PySem.W.kitOne K (.ref c_NotSquare) (.ref c_NotSquare) = some true)
    (y_e_KinError : PySem.W.excIn K c_KinError bmV "ValueError.__new__" = true)
    : ∃ fd : FuncData, (∀ (s : Shared) (v : Value), BindsTo s fd ⟨[v], []⟩ [("script", v)]) ∧ ∀ base : Heap, K.In base → base.Ns mainGlobals mg → FnOk l.prog w K mg base CX0 40 fa fd ["script"] (spLaw K) := by
  have e := hfa.symm.trans (PySem.W.mg_of X G a24)
  cases e
  have F1 := fun_mk (st := s_turnings) l1 c1 k1
  have b1 := F1.binds (ps := ["kinship"]) fun _ _ _ _ _ _ us hl => by obtain ⟨_, rfl⟩ := lenOf1 hl; rfl
  have F2 := fun_mk (st := s_check_kinship) l2 c2 k2
  have b2 := F2.binds (ps := ["kinship"]) fun _ _ _ _ _ _ us hl => by obtain ⟨_, rfl⟩ := lenOf1 hl; rfl
  have F3 := fun_mk (st := s_deeds) l3 c3 k3
  have b3 := F3.binds (ps := ["kinship", "width", "height"]) fun _ _ _ _ _ _ us hl => by obtain ⟨_, _, _, rfl⟩ := lenOf3 hl; rfl
  have F4 := fun_mk (st := s_all_slides) l4 c4 k4
  have b4 := F4.binds (ps := ["width", "height"]) fun _ _ _ _ _ _ us hl => by obtain ⟨_, _, rfl⟩ := lenOf2 hl; rfl
  have F5 := fun_mk (st := s_how_many) l5 c5 k5
  have b5 := F5.binds (ps := ["colours", "kinship", "width", "height"]) fun _ _ _ _ _ _ us hl => by obtain ⟨_, _, _, _, rfl⟩ := lenOf4 hl; rfl
  have F6 := fun_mk (st := s_how_many_with) l6 c6 k6
  have b6 := F6.binds (ps := ["numbers", "kinship", "width", "height"]) fun _ _ _ _ _ _ us hl => by obtain ⟨_, _, _, _, rfl⟩ := lenOf4 hl; rfl
  have F7 := fun_mk (st := s_kin) l7 c7 k7
  have b7 := F7.binds (ps := ["board", "kinship"]) fun _ _ _ _ _ _ us hl => by obtain ⟨_, _, rfl⟩ := lenOf2 hl; rfl
  have F8 := fun_mk (st := s_least) l8 c8 k8
  have b8 := F8.binds (ps := ["board", "kinship"]) fun _ _ _ _ _ _ us hl => by obtain ⟨_, _, rfl⟩ := lenOf2 hl; rfl
  have F9 := fun_mk (st := s_leaving) l9 c9 k9
  have b9 := F9.binds (ps := ["board", "kinship"]) fun _ _ _ _ _ _ us hl => by obtain ⟨_, _, rfl⟩ := lenOf2 hl; rfl
  have F10 := fun_mk (st := s_alike) l10 c10 k10
  have b10 := F10.binds (ps := ["one", "other", "kinship"]) fun _ _ _ _ _ _ us hl => by obtain ⟨_, _, _, rfl⟩ := lenOf3 hl; rfl
  have F11 := fun_mk (st := s_deeds_for) l11 c11 k11
  have b11 := F11.binds (ps := ["board", "kinship"]) fun _ _ _ _ _ _ us hl => by obtain ⟨_, _, rfl⟩ := lenOf2 hl; rfl
  have F12 := fun_mk (st := s_size_of) l12 c12 k12
  have b12 := F12.binds (ps := ["board"]) fun _ _ _ _ _ _ us hl => by obtain ⟨_, rfl⟩ := lenOf1 hl; rfl
  have F13 := fun_mk (st := s_all_led_to) l13 c13 k13
  have b13 := F13.binds (ps := ["board", "board_deeds"]) fun _ _ _ _ _ _ us hl => by obtain ⟨_, _, rfl⟩ := lenOf2 hl; rfl
  have F14 := fun_mk (st := s_families) l14 c14 k14
  have b14 := F14.binds (ps := ["colours", "kinship", "width", "height"]) fun _ _ _ _ _ _ us hl => by obtain ⟨_, _, _, _, rfl⟩ := lenOf4 hl; rfl
  have F15 := fun_mk (st := s_law_cell_at) l15 c15 k15
  have b15 := F15.binds (ps := ["script", "k"]) fun _ _ _ _ _ _ us hl => by obtain ⟨_, _, rfl⟩ := lenOf2 hl; rfl
  have F16 := fun_mk (st := s_law_whole) l16 c16 k16
  have b16 := F16.binds (ps := ["found"]) fun _ _ _ _ _ _ us hl => by obtain ⟨_, rfl⟩ := lenOf1 hl; rfl
  have F17 := fun_mk (st := s_law_kinship) l17 c17 k17
  have b17 := F17.binds (ps := ["cell", "width", "height"]) fun _ _ _ _ _ _ us hl => by obtain ⟨_, _, _, rfl⟩ := lenOf3 hl; rfl
  have F18 := fun_mk (st := s_law_turnings) l18 c18 k18
  have b18 := F18.binds (ps := ["kinship"]) fun _ _ _ _ _ _ us hl => by obtain ⟨_, rfl⟩ := lenOf1 hl; rfl
  have F19 := fun_mk (st := s_law_deeds) l19 c19 k19
  have b19 := F19.binds (ps := ["kinship", "width", "height"]) fun _ _ _ _ _ _ us hl => by obtain ⟨_, _, _, rfl⟩ := lenOf3 hl; rfl
  have F20 := fun_mk (st := s_law_is_deed) l20 c20 k20
  have b20 := F20.binds (ps := ["found", "due"]) fun _ _ _ _ _ _ us hl => by obtain ⟨_, _, rfl⟩ := lenOf2 hl; rfl
  have F21 := fun_mk (st := s_law_call) l21 c21 k21
  have b21 := F21.binds (ps := ["way", "kinship", "width", "height", "odd"]) fun _ _ _ _ _ _ us hl => by obtain ⟨_, _, _, _, _, rfl⟩ := lenOf5 hl; rfl
  have F22 := fun_mk (st := s_law_refused) l22 c22 k22
  have b22 := F22.binds (ps := ["way", "kinship", "width", "height", "odd"]) fun _ _ _ _ _ _ us hl => by obtain ⟨_, _, _, _, _, rfl⟩ := lenOf5 hl; rfl
  have F23 := fun_mk (st := s_law_none) l23 c23 k23
  have b23 := F23.binds (ps := ["cell"]) fun _ _ _ _ _ _ us hl => by obtain ⟨_, rfl⟩ := lenOf1 hl; rfl
  have F24 := fun_mk (st := s_law) l24 c24 k24
  have b24 := F24.binds (ps := ["script"]) fun _ _ _ _ _ _ us hl => by obtain ⟨_, rfl⟩ := lenOf1 hl; rfl
  have T : Txt K mg := ⟨⟨_, _, F1, b1, PySem.W.mg_of X G a1⟩, ⟨_, _, F2, b2, PySem.W.mg_of X G a2⟩, ⟨_, _, F3, b3, PySem.W.mg_of X G a3⟩, ⟨_, _, F4, b4, PySem.W.mg_of X G a4⟩, ⟨_, _, F5, b5, PySem.W.mg_of X G a5⟩, ⟨_, _, F6, b6, PySem.W.mg_of X G a6⟩, ⟨_, _, F7, b7, PySem.W.mg_of X G a7⟩, ⟨_, _, F8, b8, PySem.W.mg_of X G a8⟩, ⟨_, _, F9, b9, PySem.W.mg_of X G a9⟩, ⟨_, _, F10, b10, PySem.W.mg_of X G a10⟩, ⟨_, _, F11, b11, PySem.W.mg_of X G a11⟩, ⟨_, _, F12, b12, PySem.W.mg_of X G a12⟩, ⟨_, _, F13, b13, PySem.W.mg_of X G a13⟩, ⟨_, _, F14, b14, PySem.W.mg_of X G a14⟩, ⟨_, _, F15, b15, PySem.W.mg_of X G a15⟩, ⟨_, _, F16, b16, PySem.W.mg_of X G a16⟩, ⟨_, _, F17, b17, PySem.W.mg_of X G a17⟩, ⟨_, _, F18, b18, PySem.W.mg_of X G a18⟩, ⟨_, _, F19, b19, PySem.W.mg_of X G a19⟩, ⟨_, _, F20, b20, PySem.W.mg_of X G a20⟩, ⟨_, _, F21, b21, PySem.W.mg_of X G a21⟩, ⟨_, _, F22, b22, PySem.W.mg_of X G a22⟩, ⟨_, _, F23, b23, PySem.W.mg_of X G a23⟩, ⟨_, _, F24, b24, PySem.W.mg_of X G a24⟩, PySem.W.mg_none_of X G z1, PySem.W.mg_none_of X G z2, PySem.W.mg_none_of X G z3, PySem.W.mg_none_of X G z4, PySem.W.mg_none_of X G z5, PySem.W.mg_none_of X G z6, PySem.W.mg_none_of X G z7, PySem.W.mg_none_of X G z8, PySem.W.mg_none_of X G z9, PySem.W.mg_none_of X G z10, PySem.W.mg_none_of X G z11, PySem.W.mg_none_of X G z12, ⟨t1, PySem.W.mg_of X G q1⟩, ⟨t2, PySem.W.mg_of X G q2⟩, ⟨t3, PySem.W.mg_of X G q3⟩, ⟨t4, PySem.W.mg_of X G q4⟩, ⟨c_KinError, c_NoKinship, c_NotSquare, PySem.W.mg_of X G y_m_KinError, PySem.W.mg_of X G y_m_NoKinship, PySem.W.mg_of X G y_m_NotSquare, ⟨y_x1_NoKinship, y_x2_NoKinship, y_x3_NoKinship, y_x4_NoKinship⟩, y_s_NoKinship, y_w_NoKinship, y_v_NoKinship, y_k_NoKinship_NoKinship, y_k_NoKinship_NotSquare, ⟨y_x1_NotSquare, y_x2_NotSquare, y_x3_NotSquare, y_x4_NotSquare⟩, y_s_NotSquare, y_w_NotSquare, y_v_NotSquare, y_k_NotSquare_NoKinship, y_k_NotSquare_NotSquare, y_e_KinError⟩⟩
  refine ⟨PySem.W.fnOf "law" "law" (defArgs s_law) (defBody s_law) (defScope s_law) .none kV24 dc24 pm24 an24 cd24 ct24, fun s v => .of_eq rfl, fun base _ _ => ?_⟩
  exact law_ok T F24
end Internal.k02
open PySem PySem.W PyProof.Rows
set_option maxRecDepth 100000 in
set_option maxHeartbeats 0 in
theorem PySem.Challenge.cw_boardkin_k02_kinds_of_kinship_holds : PySem.Challenge.rw_boardkin_k02_kinds_of_kinship.Holds := by
  w_on; o_law; z_head; (case hw => w_witness2)
  k_fill
  refine Internal.walkX_of (fun _ => by kernel_rfl) ?_
  refine Internal.walk (l := PySem.Challenge.rw_boardkin_k02_kinds_of_kinship) rfl rfl (fun w h Y => Y) ?F
  case F =>
    intro w mg fa h KX G hmg
    refine' Internal.k02.all_mk KX G hmg ?a1 ?l1 ?c1 ?k1 ?a2 ?l2 ?c2 ?k2 ?a3 ?l3 ?c3 ?k3 ?a4 ?l4 ?c4 ?k4 ?a5 ?l5 ?c5 ?k5 ?a6 ?l6 ?c6 ?k6 ?a7 ?l7 ?c7 ?k7 ?a8 ?l8 ?c8 ?k8 ?a9 ?l9 ?c9 ?k9 ?a10 ?l10 ?c10 ?k10 ?a11 ?l11 ?c11 ?k11 ?a12 ?l12 ?c12 ?k12 ?a13 ?l13 ?c13 ?k13 ?a14 ?l14 ?c14 ?k14 ?a15 ?l15 ?c15 ?k15 ?a16 ?l16 ?c16 ?k16 ?a17 ?l17 ?c17 ?k17 ?a18 ?l18 ?c18 ?k18 ?a19 ?l19 ?c19 ?k19 ?a20 ?l20 ?c20 ?k20 ?a21 ?l21 ?c21 ?k21 ?a22 ?l22 ?c22 ?k22 ?a23 ?l23 ?c23 ?k23 ?a24 ?l24 ?c24 ?k24 ?z1 ?z2 ?z3 ?z4 ?z5 ?z6 ?z7 ?z8 ?z9 ?z10 ?z11 ?z12 ?q1 ?q2 ?q3 ?q4 ?y_m_KinError ?y_m_NoKinship ?y_m_NotSquare ?y_x1_NoKinship ?y_x2_NoKinship ?y_x3_NoKinship ?y_x4_NoKinship ?y_x1_NotSquare ?y_x2_NotSquare ?y_x3_NotSquare ?y_x4_NotSquare ?y_s_NoKinship ?y_w_NoKinship ?y_v_NoKinship ?y_k_NoKinship_NoKinship ?y_k_NoKinship_NotSquare ?y_s_NotSquare ?y_w_NotSquare ?y_v_NotSquare ?y_k_NotSquare_NoKinship ?y_k_NotSquare_NotSquare ?y_e_KinError
    (case a1 => k_is)
    (case l1 => k_is)
    (case c1 => k_is)
    (case k1 => k_is)
    (case a2 => k_is)
    (case l2 => k_is)
    (case c2 => k_is)
    (case k2 => k_is)
    (case a3 => k_is)
    (case l3 => k_is)
    (case c3 => k_is)
    (case k3 => k_is)
    (case a4 => k_is)
    (case l4 => k_is)
    (case c4 => k_is)
    (case k4 => k_is)
    (case a5 => k_is)
    (case l5 => k_is)
    (case c5 => k_is)
    (case k5 => k_is)
    (case a6 => k_is)
    (case l6 => k_is)
    (case c6 => k_is)
    (case k6 => k_is)
    (case a7 => k_is)
    (case l7 => k_is)
    (case c7 => k_is)
    (case k7 => k_is)
    (case a8 => k_is)
    (case l8 => k_is)
    (case c8 => k_is)
    (case k8 => k_is)
    (case a9 => k_is)
    (case l9 => k_is)
    (case c9 => k_is)
    (case k9 => k_is)
    (case a10 => k_is)
    (case l10 => k_is)
    (case c10 => k_is)
    (case k10 => k_is)
    (case a11 => k_is)
    (case l11 => k_is)
    (case c11 => k_is)
    (case k11 => k_is)
    (case a12 => k_is)
    (case l12 => k_is)
    (case c12 => k_is)
    (case k12 => k_is)
    (case a13 => k_is)
    (case l13 => k_is)
    (case c13 => k_is)
    (case k13 => k_is)
    (case a14 => k_is)
    (case l14 => k_is)
    (case c14 => k_is)
    (case k14 => k_is)
    (case a15 => k_is)
    (case l15 => k_is)
    (case c15 => k_is)
    (case k15 => k_is)
    (case a16 => k_is)
    (case l16 => k_is)
    (case c16 => k_is)
    (case k16 => k_is)
    (case a17 => k_is)
    (case l17 => k_is)
    (case c17 => k_is)
    (case k17 => k_is)
    (case a18 => k_is)
    (case l18 => k_is)
    (case c18 => k_is)
    (case k18 => k_is)
    (case a19 => k_is)
    (case l19 => k_is)
    (case c19 => k_is)
    (case k19 => k_is)
    (case a20 => k_is)
    (case l20 => k_is)
    (case c20 => k_is)
    (case k20 => k_is)
    (case a21 => k_is)
    (case l21 => k_is)
    (case c21 => k_is)
    (case k21 => k_is)
    (case a22 => k_is)
    (case l22 => k_is)
    (case c22 => k_is)
    (case k22 => k_is)
    (case a23 => k_is)
    (case l23 => k_is)
    (case c23 => k_is)
    (case k23 => k_is)
    (case a24 => k_is)
    (case l24 => k_is)
    (case c24 => k_is)
    (case k24 => k_is)
    (case z1 => k_is)
    (case z2 => k_is)
    (case z3 => k_is)
    (case z4 => k_is)
    (case z5 => k_is)
    (case z6 => k_is)
    (case z7 => k_is)
    (case z8 => k_is)
    (case z9 => k_is)
    (case z10 => k_is)
    (case z11 => k_is)
    (case z12 => k_is)
    (case q1 => k_is)
    (case q2 => k_is)
    (case q3 => k_is)
    (case q4 => k_is)
    (case y_m_KinError => k_is)
    (case y_m_NoKinship => k_is)
    (case y_m_NotSquare => k_is)
    (case y_x1_NoKinship => k_exc)
    (case y_x2_NoKinship => k_is)
    (case y_x3_NoKinship => k_is)
    (case y_x4_NoKinship => k_is)
    (case y_x1_NotSquare => k_exc)
    (case y_x2_NotSquare => k_is)
    (case y_x3_NotSquare => k_is)
    (case y_x4_NotSquare => k_is)
    (case y_s_NoKinship => k_is)
    (case y_w_NoKinship => k_is)
    (case y_v_NoKinship => kit_is)
    (case y_k_NoKinship_NoKinship => kit_is)
    (case y_k_NoKinship_NotSquare => kit_is)
    (case y_s_NotSquare => k_is)
    (case y_w_NotSquare => k_is)
    (case y_v_NotSquare => kit_is)
    (case y_k_NotSquare_NoKinship => kit_is)
    (case y_k_NotSquare_NotSquare => kit_is)
    (case y_e_KinError => k_exc)
end
