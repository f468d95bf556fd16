import PyProof.Rows.All
import Wide.All
import OpenK.AllK
import Wide.FinOn
import Lean
import PyProof.EqAt
import PyProof.EqKinds
import PyProof.TupleCall
import PyProof.NeKinds
import PyProof.StrWalks
import PyProof.StrCalls2
import KE.KIntText
import PyProof.StrLawsChain
import PyProof.StrLawsTight
import PyProof.RulesTry
import PyProof.ListRange
import PyProof.Rows.Range3
import PyProof.Rows.SortWalk
import PyProof.SumAny
import PyProof.Rows.SumGenD
import PyProof.AutoSeq1
import PyProof.Rows.All
import Wide.All
import OpenK.AllK
import Wide.FinOn
import PyProof.EqAt
import PyProof.EqKinds
import PyProof.TupleCall
import PyProof.DictWalks
import PyProof.Rows.TupDisplay
import PyProof.Rows.CatchOwn
import OpenK.KRaise
import PyProof.FString
import PyProof.ExcBaseAll.ValueError
import PyProof.FString4
import PyProof.ReprRoads
import PyProof.Rows.RegStrFacts
import KE.KIsAll
import PyProof.ExcAttrAll.ValueError
import PyProof.NsDelKeeps
import KE.RegKIsAll
import PyProof.SetKind
import PyProof.Rows.SetFrom
import KE.KRevIter
import PyProof.TupleKey
import PyProof.DictKinds
import OpenK.ZGo
import PySem.Challenge.RW_boardkin_k12_so_many_of_each_colour
local macro_rules | `(tactic| omega)=>`(tactic| lia)
local macro_rules | `(tactic| ac_rfl)=>`(tactic| first | (intro _; rfl) | (intro _ _; rfl))
set_option hygiene false
local macro_rules | `(tactic| ac_nf)=>`(tactic| ((try dsimp only [Internal.Stat.blk]); decide +kernel))
set_option hygiene true
set_option compiler.extract_closed false
set_option bootstrap.genMatcherCode false
noncomputable section
set_option Elab.async false
set_option linter.all false
set_option maxRecDepth 100000

namespace Internal.L2
open PySem PySem.Spec PyProof.Rows

noncomputable abbrev Key:=Sum Int Str
noncomputable def keyIs : Key → Value → Bool
 | .inl k,v=>Value.isInt k v
 | .inr x,v=>Value.isStrOf x v
noncomputable def keyH (w : World) : Key → Int
 | .inl k=>hashInt k
 | .inr x=>hashStr w x
theorem zX : ∀ {k : Key} {v : Value},keyIs k v = true → (∃ i t,k = Sum.inl i ∧ v = Value.int i t) ∨ (∃ x t,k = Sum.inr x ∧ v = Value.str x t)
 | .inl i,v,h=>by
  obtain ⟨t,e⟩:=Value.isInt_shape (k:=i) (v:=v) h
  exact .inl ⟨i,t,rfl,e⟩
 | .inr x,v,h=>by
  obtain ⟨t,e⟩:=Value.isStrOf_shape (x:=x) (v:=v) h
  exact .inr ⟨x,t,rfl,e⟩
theorem ziV (i : Int) (t : Tok) : keyIs (.inl i) (.int i t) = true:=by simp [keyIs,Value.isInt]
theorem ziW (x : Str) (t : Tok) : keyIs (.inr x) (.str x t) = true:=by simp [keyIs,Value.isStrOf]
theorem znc (a b : Int) : decide ((Sum.inl a : Key) = Sum.inl b) = (a == b):=by
 by_cases e : a = b
 ·subst e; simp
 ·have h : ¬ (Sum.inl a : Key) = Sum.inl b:=fun q=>e (Sum.inl.inj q)
  rw [decide_eq_false h]
  exact (beq_eq_false_iff_ne.mpr e).symm
theorem znd (a b : Str) : decide ((Sum.inr a : Key) = Sum.inr b) = decide (a = b):=by
 by_cases e : a = b
 ·subst e; simp
 ·have h : ¬ (Sum.inr a : Key) = Sum.inr b:=fun q=>e (Sum.inr.inj q)
  rw [decide_eq_false h,decide_eq_false e]
theorem zne (a : Int) (b : Str) : decide ((Sum.inl a : Key) = Sum.inr b) = false:=decide_eq_false (fun q=>nomatch q)
theorem znf (a : Str) (b : Int) : decide ((Sum.inr a : Key) = Sum.inl b) = false:=decide_eq_false (fun q=>nomatch q)

noncomputable def zL (prog : Program) (w : World) : PySem.KeyKind prog w Key where
 is:=keyIs
 hash:=keyH w
 inj:=fun v a b ha hb=>by
  rcases zX ha with ⟨i,t,rfl,rfl⟩ | ⟨x,t,rfl,rfl⟩
  ·rcases zX hb with ⟨j,u,rfl,e⟩ | ⟨y,u,rfl,e⟩
   ·injection e with e1 _; rw [e1]
   ·exact nomatch e
  ·rcases zX hb with ⟨j,u,rfl,e⟩ | ⟨y,u,rfl,e⟩
   ·exact nomatch e
   ·injection e with e1 _; rw [e1]
 byValue:=fun k v h=>by
  rcases zX h with ⟨i,t,rfl,rfl⟩ | ⟨x,t,rfl,rfl⟩ <;> rfl
 pyHash:=fun hv h=>by
  rcases zX hv with ⟨i,t,rfl,rfl⟩ | ⟨x,t,rfl,rfl⟩
  ·exact wpAny_pyHash_int h
  ·exact wpAny_pyHash_str h
 eqBool:=fun hu hv h=>by
  rcases zX hu with ⟨i,t,rfl,rfl⟩ | ⟨x,t,rfl,rfl⟩
  ·rcases zX hv with ⟨j,u,rfl,rfl⟩ | ⟨y,u,rfl,rfl⟩
   ·rw [znc] at h; exact wpAny_eqBool_int h
   ·rw [zne] at h; exact SeqAt.EqAt.int_str i t y u _ _ _ _ h
  ·rcases zX hv with ⟨j,u,rfl,rfl⟩ | ⟨y,u,rfl,rfl⟩
   ·rw [znf] at h; exact SeqAt.EqAt.str_int x t j u _ _ _ _ h
   ·rw [znd] at h; exact wpAny_eqBool_str h
 «strs»:=fun k x t v h=>by
  rcases zX h with ⟨i,u,rfl,e⟩ | ⟨y,u,rfl,e⟩
  ·exact nomatch e
  ·injection e with e1 _
   subst e1
   cases v <;> rfl

theorem zhl (prog : Program) (w : World) (i : Int) (t : Tok) : (zL prog w).is (.inl i) (.int i t) = true:=ziV i t
theorem zhm (prog : Program) (w : World) (x : Str) (t : Tok) : (zL prog w).is (.inr x) (.str x t) = true:=ziW x t
end Internal.L2

namespace Internal.L2
open PySem PySem.Spec PyProof.Rows

inductive V where
 | non | bl (b : Bool) | int (i : Int) | str (x : Str) | byt (b : Array UInt8) | flt (b : UInt64) | ref (a : Addr) | ty (n : String)
 deriving DecidableEq

noncomputable def RelV : V → Value → Prop
 | .non,u=>u = Value.none
 | .bl b,u=>u = Value.bool b
 | .int i,u=>∃ t,u = Value.int i t
 | .str x,u=>∃ t,u = Value.str x t
 | .byt b,u=>∃ t,u = Value.bytes b t
 | .flt b,u=>∃ t,u = Value.float b t
 | .ref a,u=>u = Value.ref a
 | .ty n,u=>u = Value.type n

noncomputable abbrev Vals : List V → List Value → Prop:=Paired RelV
theorem Vals.length {xs : List V} {us : List Value} (r : Vals xs us) : xs.length = us.length:=Paired.length r
theorem Vals.get : ∀ {xs : List V} {us : List Value} {i : Nat} {x : V},Vals xs us → xs[i]? = some x → ∃ u,us[i]? = some u ∧ RelV x u
 | _,_,_,_,.nil,e=>by simp at e
 | _,_,0,_,.cons r _,e=>by simp at e; subst e; exact ⟨_,rfl,r⟩
 | _,_,i + 1,x,.cons _ t,e=>by
  obtain ⟨u,h1,h2⟩:=Vals.get (i:=i) (x:=x) t (by simpa using e)
  exact ⟨u,by simpa using h1,h2⟩
theorem Vals.set {x : V} {u : Value} (r : RelV x u) : ∀ {xs : List V} {us : List Value} (i : Nat),Vals xs us → Vals (xs.set i x) (us.set i u)
 | _,_,_,.nil=>.nil
 | _,_,0,.cons _ t=>.cons r t
 | _,_,i + 1,.cons q t=>.cons q (Vals.set r i t)
theorem Vals.append : ∀ {xs ys : List V} {us ws : List Value},Vals xs us → Vals ys ws → Vals (xs ++ ys) (us ++ ws)
 | _,_,_,_,.nil,s=>s
 | _,_,_,_,.cons r t,s=>.cons r (Vals.append t s)
noncomputable def RelO : Option V → Option Value → Prop
 | some v,some u=>RelV v u
 | none,none=>True
 | _,_=>False
noncomputable def KV {κ : Type} : List (κ × V) → List (κ × Value) → Prop:=Paired fun (p : κ × V) (q : κ × Value)=>p.1 = q.1 ∧ RelV p.2 q.2

noncomputable def kV : Key → V
 | .inl i=>.int i
 | .inr x=>.str x

inductive HO where
 
 | lst (xs : List V)
 
 | tup (xs : List V)
 
 | dK (kvs : List (Key × V)) | dT (kvs : List (List Key × V))
 
 | set (S : Int → Bool) (n : Nat)
 | dE (es : List DictEntry)
 
 | ins (C dx : Addr) (fs : List (Str × V))
 
 | own (x : Addr)
 
 | xd (fs : List (Str × V))
 
 | met (f x : Addr)
 
 | rng (lo hi : Int)
 
 | frz (o : Obj) (u : HO)
 
 | tbl (ps : Array Value)
 
 | ext (φ : Heap → Prop)

noncomputable abbrev Hp:=Addr → Option HO
noncomputable def upd (H : Hp) (a : Addr) (o : HO) : Hp:=fun b=>if b = a then some o else H b
theorem zu {H : Hp} {a : Addr} {o : HO} : upd H a o a = some o:=by unfold upd; rw [if_pos rfl]
theorem zp {H : Hp} {a b : Addr} {o : HO} (h : b ≠ a) : upd H a o b = H b:=by unfold upd; rw [if_neg h]

theorem ne_of {H : Hp} {a b : Addr} {o u : HO} (h : H a = some o) (h' : H b = some u) (d : o ≠ u) : a ≠ b:=by
 intro e; subst e; rw [h] at h'; exact d (Option.some.inj h')
theorem zE {H : Hp} {a b : Addr} {o : HO} (h : H a = some o) (h' : H b = none) : a ≠ b:=by
 intro e; subst e; rw [h] at h'; cases h'

section
variable (P : Program) (w : World)
noncomputable def TupN (h : Heap) (a : Addr) (its : Array Value) : Prop:=IsTup h a its ∧ ∃ o,h.get? a = some o ∧ o.dict = none
noncomputable def ObjOk (H : Hp) (h : Heap) (a : Addr) : HO → Prop
 | .lst xs=>xs.length ≤ sizeLine ∧ ∃ (its : List Value) (n : Nat),Vals xs its ∧ h.get? a = some { cls:=.type "list",data:=.seq its.toArray n }
 | .tup xs=>xs.length ≤ sizeLine ∧ ∃ its : List Value,Vals xs its ∧ TupN h a its.toArray
 | .dK kvs=>kvs.length ≤ sizeLine ∧ (a == sysModules) = false ∧ ∃ vs,KV kvs vs ∧ h.DictOf (zL P w) a vs
 | .dT kvs=>kvs.length ≤ sizeLine ∧ (a == sysModules) = false ∧ ∃ xs : List (List Key × Addr × Value),
   Paired (fun (p : List Key × V) (q : List Key × Addr × Value)=>p.1 = q.1 ∧ H q.2.1 = some (.tup (p.1.map kV)) ∧ RelV p.2 q.2.2) kvs xs ∧
   ∃ o es ep,h.get? a = some o ∧ o.ExactDict ∧ o.data = .dict es ep ∧ es.toList = xs.map (entryOfKey (tupleKind (zL P w))) ∧ (xs.map (·.1)).Nodup
 | .set S n=>h.SetOf (intKind P w) a S n
 | .dE es=>(a == sysModules) = false ∧ es.length ≤ sizeLine ∧ ∃ o es' ep,h.get? a = some o ∧ o.ExactDict ∧ o.data = .dict es' ep ∧ es'.toList = es
 | .ins C dx fs=>H dx = some (.own a) ∧ fs.length ≤ 1000 ∧ dx ≠ a ∧ h.get? a = some (PySem.W.instObj C dx) ∧
   ∃ mA,h.Ns1 dx mA ∧ (∀ f,RelO (fs.lookup f) (mA f)) ∧ PySem.Within mA (fs.map (·.1))
 | .own _=>∃ o,h.get? a = some o
 | .xd fs=>∃ mA,h.Ns1 a mA ∧ ∀ f,RelO (fs.lookup f) (mA f)
 | .rng lo hi=>∃ t u v,h.get? a = some { cls:=.type "range",data:=.fields #[.int lo t,.int hi u,.int 1 v] }
 | .frz o u=>h.get? a = some o ∧ ObjOk H h a u
 | .tbl ps=>h.get? a = some { cls:=.none,data:=.fields ps }
 | .met f x=>h.get? a = some (PySem.W.methodObj (.ref f) (.ref x))
 | .ext φ=>φ h ∧ (∃ o,h.get? a = some o) ∧ ∀ h1 h2 : Heap,φ h1 → (∀ o,h1.get? a = some o → h2.get? a = some o) → φ h2

noncomputable def HOk (H : Hp) (h : Heap) : Prop:=∀ a o,H a = some o → ObjOk P w H h a o
end

section
variable {P : Program} {w : World} {H H' : Hp} {h h' : Heap} {a : Addr} {o : HO}
theorem ObjOk.lt (x : ObjOk P w H h a o) : a < h.objs.size:=by
 cases o with
 | lst xs=>obtain ⟨_,_,_,_,e⟩:=x; exact Heap.lt_size e
 | tup xs=>obtain ⟨_,_,_,p,_⟩:=x; exact p.lt
 | dK kvs=>obtain ⟨_,_,_,_,o,_,_,e,_⟩:=x; exact Heap.lt_size e
 | dT kvs=>obtain ⟨_,_,_,_,o,_,_,e,_⟩:=x; exact Heap.lt_size e
 | set S n=>obtain ⟨o,_,_,_,e,_⟩:=x; exact Heap.lt_size e
 | dE es=>obtain ⟨_,_,_,_,_,e,_⟩:=x; exact Heap.lt_size e
 | ins C dx fs=>obtain ⟨_,_,_,e,_⟩:=x; exact Heap.lt_size e
 | own y=>obtain ⟨_,e⟩:=x; exact Heap.lt_size e
 | xd fs=>obtain ⟨_,⟨_,_,_,e,_⟩,_⟩:=x; exact Heap.lt_size e
 | rng lo hi=>obtain ⟨_,_,_,e⟩:=x; exact Heap.lt_size e
 | frz ob u=>obtain ⟨e,_⟩:=x; exact Heap.lt_size e
 | tbl ps=>exact Heap.lt_size (show h.get? a = some _ from x)
 | met f y=>exact Heap.lt_size (show h.get? a = some _ from x)
 | ext φ=>obtain ⟨_,⟨_,e⟩,_⟩:=x; exact Heap.lt_size e
theorem Paired.mapP {α β : Type} {F G : α → β → Prop} : ∀ {l₁ : List α} {l₂ : List β},Paired F l₁ l₂ → (∀ a b,F a b → G a b) → Paired G l₁ l₂
 | _,_,.nil,_=>.nil
 | _,_,.cons r t,f=>.cons (f _ _ r) (Paired.mapP t f)

theorem ObjOk.stay (x : ObjOk P w H h a o) (k : ∀ b u,(b = a ∨ H b = some (.own a)) → h.get? b = some u → h'.get? b = some u)
  (ho : ∀ b,H b = some (.own a) → H' b = some (.own a)) (ht : ∀ b xs,H b = some (.tup xs) → H' b = some (.tup xs)) : ObjOk P w H' h' a o:=by
 induction o with
 | lst xs=>obtain ⟨z,its,n,r,e⟩:=x; exact ⟨z,its,n,r,k _ _ (.inl rfl) e⟩
 | tup xs=>obtain ⟨z,its,r,⟨ob,e,c⟩,ob2,e2,c2⟩:=x; exact ⟨z,its,r,⟨ob,k _ _ (.inl rfl) e,c⟩,ob2,k _ _ (.inl rfl) e2,c2⟩
 | dK kvs=>obtain ⟨z,y,vs,r,ob,es,ep,e,c⟩:=x; exact ⟨z,y,vs,r,ob,es,ep,k _ _ (.inl rfl) e,c⟩
 | dT kvs =>
  obtain ⟨z,y,xs,r,ob,es,ep,e,c⟩:=x
  exact ⟨z,y,xs,Paired.mapP r fun p q z=>⟨z.1,ht _ _ z.2.1,z.2.2⟩,ob,es,ep,k _ _ (.inl rfl) e,c⟩
 | set S n=>obtain ⟨ob,es,ep,t,e,c⟩:=x; exact ⟨ob,es,ep,t,k _ _ (.inl rfl) e,c⟩
 | dE es=>obtain ⟨y,z,ob,es',ep,e,c⟩:=x; exact ⟨y,z,ob,es',ep,k _ _ (.inl rfl) e,c⟩
 | ins C dx fs =>
  obtain ⟨d,z,ne,e,mA,⟨od,es,ep,e2,c⟩,r⟩:=x
  exact ⟨ho _ d,z,ne,k _ _ (.inl rfl) e,mA,⟨od,es,ep,k _ _ (.inr d) e2,c⟩,r⟩
 | own y=>obtain ⟨ob,e⟩:=x; exact ⟨ob,k _ _ (.inl rfl) e⟩
 | xd fs=>obtain ⟨mA,⟨od,es,ep,e,c⟩,r⟩:=x; exact ⟨mA,⟨od,es,ep,k _ _ (.inl rfl) e,c⟩,r⟩
 | rng lo hi=>obtain ⟨t,u,v,e⟩:=x; exact ⟨t,u,v,k _ _ (.inl rfl) e⟩
 | frz ob u ih=>obtain ⟨e,q⟩:=x; exact ⟨k _ _ (.inl rfl) e,ih q⟩
 | tbl ps =>
  have e : h.get? a = some { cls:=.none,data:=.fields ps }:=x
  show h'.get? a = some { cls:=.none,data:=.fields ps }
  exact k a _ (.inl rfl) e
 | met f y =>
  have e : h.get? a = some (PySem.W.methodObj (.ref f) (.ref y)):=x
  show h'.get? a = some (PySem.W.methodObj (.ref f) (.ref y))
  exact k a _ (.inl rfl) e
 | ext φ=>obtain ⟨p,⟨o,e⟩,st⟩:=x; exact ⟨st _ _ p fun o q=>k _ _ (.inl rfl) q,⟨o,k _ _ (.inl rfl) e⟩,st⟩
theorem HOk.lt (x : HOk P w H h) (e : H a = some o) : a < h.objs.size:=(x a o e).lt
theorem HOk.fresh (x : HOk P w H h) (e : h.objs.size ≤ a) : H a = none:=by
 cases q : H a with
 | none=>rfl
 | some u=>exact absurd (Nat.lt_of_lt_of_le (x.lt q) e) (Nat.lt_irrefl _)

theorem HOk.kept (x : HOk P w H h) (k : ∀ b u,h.get? b = some u → h'.get? b = some u) : HOk P w H h':=fun a o e =>
 (x a o e).stay (fun b u _ q=>k b u q) (fun _ q=>q) fun _ _ q=>q

theorem HOk.laid (x : HOk P w H h) (k : ∀ b u,h.get? b = some u → h'.get? b = some u) (hp : h.objs.size ≤ a) (new : ObjOk P w (upd H a o) h' a o) : HOk P w (upd H a o) h':=fun b u e=>by
 have hn:=x.fresh hp
 by_cases hb : b = a
 ·subst hb; rw [zu] at e; cases e; exact new
 ·rw [zp hb] at e
  exact (x b u e).stay (fun c v _ q=>k c v q) (fun c q=>by rw [zp (zE q hn)]; exact q) fun c xs q=>by rw [zp (zE q hn)]; exact q
end

noncomputable def Rd (H : Hp) (a : Addr) (u : HO) : Prop:=H a = some u ∨ ∃ o,H a = some (.frz o u)
theorem Rd.ok {P : Program} {w : World} {H : Hp} {h : Heap} {a : Addr} {u : HO} (r : Rd H a u) (x : HOk P w H h) : ObjOk P w H h a u:=by
 rcases r with r | ⟨o,r⟩
 ·exact x a u r
 ·obtain ⟨_,q⟩:=x a _ r
  exact q

noncomputable def Mut : Option HO → Prop
 | some (.lst _)=>True
 | some (.dK _)=>True
 | some (.dT _)=>True
 | some (.set _ _)=>True
 | some (.dE _)=>True
 | some (.ins _ _ _)=>True
 | some (.ext _)=>True
 | _=>False
section
variable {P : Program} {w : World} {H : Hp} {h h' : Heap} {x e : Addr} {o' : HO}

theorem HOk.write (ok : HOk P w H h) (mu : Mut (H x)) (he : e = x ∨ H e = some (.own x)) (k : ∀ b u,b ≠ e → h.get? b = some u → h'.get? b = some u) (heo : ∃ u,h'.get? e = some u)
  (new : ObjOk P w (upd H x o') h' x o') : HOk P w (upd H x o') h':=fun b u q=>by
 have nown : ∀ c y,H c = some (.own y) → c ≠ x:=fun c y r z=>by subst z; rw [r] at mu; exact mu
 have ntup : ∀ c xs,H c = some (.tup xs) → c ≠ x:=fun c xs r z=>by subst z; rw [r] at mu; exact mu
 by_cases hb : b = x
 ·subst hb; rw [zu] at q; cases q; exact new
 ·rw [zp hb] at q
  by_cases hbe : b = e
  ·have q' : H b = some (.own x):=by
    rcases he with z | z
    ·exact absurd (hbe.trans z) hb
    ·rw [hbe]; exact z
   rw [q] at q'; cases q'
   obtain ⟨v,hv⟩:=heo
   exact ⟨v,by rw [hbe]; exact hv⟩
  ·refine (ok b u q).stay (fun c v hc r=>k c v ?_ r) (fun c r=>by rw [zp (nown c b r)]; exact r) fun c xs r=>by rw [zp (ntup c xs r)]; exact r
   rcases hc with rfl | hc
   ·exact hbe
   ·rintro rfl
    rcases he with z | z
    ·exact nown c b hc z
    ·rw [hc] at z; cases z; exact hb rfl
end

structure Un (fs ex : List Addr) (H H' : Hp) (h h' : Heap) : Prop where
 keep : ∀ b o,h.get? b = some o → H b = none → b ∉ fs → b ∉ ex → h'.get? b = some o
 slot : ∀ b o,h.get? b = some o → H b = none → b ∈ fs → b ∉ ex → ∃ sl,h'.get? b = some { o with slots:=sl }
 free : ∀ b o,h.get? b = some o → H b = none → b ∉ ex → H' b = none
 there : ∀ b o,h.get? b = some o → b ∉ ex → ∃ o',h'.get? b = some o'
 tups : ∀ b xs,H b = some (.tup xs) → H' b = some (.tup xs)
 frzs : ∀ b o u,H b = some (.frz o u) → H' b = some (.frz o u)
 tbls : ∀ b ps,H b = some (.tbl ps) → ∃ more,H' b = some (.tbl (ps ++ more))
section
variable {fs fs' ex ex' : List Addr} {H H1 H2 : Hp} {h h1 h2 h' : Heap} {a x e : Addr} {o : HO}
theorem Un.any (u : Un fs ex H H1 h h1) {b : Addr} {ob : Obj} (q : h.get? b = some ob) (n : H b = none) (hx : b ∉ ex) : ∃ sl,h1.get? b = some { ob with slots:=sl }:=by
 by_cases hb : b ∈ fs
 ·exact u.slot b ob q n hb hx
 ·exact ⟨ob.slots,u.keep b ob q n hb hx⟩
theorem Un.kept (k : ∀ b u,h.get? b = some u → h'.get? b = some u) : Un fs ex H H h h' :=
 ⟨fun b ob q _ _ _=>k b ob q,fun b ob q _ _ _=>⟨ob.slots,k b ob q⟩,fun _ _ _ n _=>n,fun b ob q _=>⟨ob,k b ob q⟩,fun _ _ q=>q,fun _ _ _ q=>q,fun _ ps q=>⟨#[],by rw [q]; simp⟩⟩
theorem Un.refl : Un fs ex H H h h:=Un.kept fun _ _ q=>q
theorem Un.laid (k : ∀ b u,h.get? b = some u → h'.get? b = some u) (hp : h.objs.size ≤ a) (hn : H a = none) : Un fs ex H (upd H a o) h h' where
 keep:=fun b u q _ _ _=>k b u q
 slot:=fun b u q _ _ _=>⟨u.slots,k b u q⟩
 free:=fun b u q n _=>by rw [zp (Nat.ne_of_lt (Nat.lt_of_lt_of_le (Heap.lt_size q) hp))]; exact n
 there:=fun b u q _=>⟨u,k b u q⟩
 tups:=fun b xs q=>by rw [zp (zE q hn)]; exact q
 frzs:=fun b u xs q=>by rw [zp (zE q hn)]; exact q
 tbls:=fun b ps q=>⟨#[],by rw [zp (zE q hn),q]; simp⟩
theorem Un.write (mu : Mut (H x)) (he : e = x ∨ H e = some (.own x)) (k : ∀ b u,b ≠ e → h.get? b = some u → h'.get? b = some u) (heo : ∃ u,h'.get? e = some u) : Un fs ex H (upd H x o) h h':=by
 have hx : ∀ b,H b = none → b ≠ x:=fun b n z=>by subst z; rw [n] at mu; exact mu
 have hb : ∀ b,H b = none → b ≠ e:=fun b n z=>by
  subst z
  rcases he with r | r
  ·exact hx b n r
  ·rw [n] at r; cases r
 have hm : ∀ b u,H b = some u → ¬ Mut (some u) → b ≠ x:=fun b u q nm z=>by subst z; rw [q] at mu; exact nm mu
 refine ⟨fun b u q n _ _=>k b u (hb b n) q,fun b u q n _ _=>⟨u.slots,k b u (hb b n) q⟩,fun b u q n _=>by rw [zp (hx b n)]; exact n,fun b u q _=>?_,
  fun b xs q=>by rw [zp (hm b _ q fun z=>z)]; exact q,fun b u xs q=>by rw [zp (hm b _ q fun z=>z)]; exact q,fun b ps q=>⟨#[],by rw [zp (hm b _ q fun z=>z),q]; simp⟩⟩
 by_cases hbe : b = e
 ·subst hbe; exact heo
 ·exact ⟨u,k b u hbe q⟩
end

noncomputable def trk (h : Heap) (H : Hp) : List Addr:=(List.range h.objs.size).filter fun a=>(H a).isSome
noncomputable def hidT (h : Heap) (H : Hp) : Heap:=PySem.W.hideAll h (trk h H)
theorem ziX (h : Heap) (H : Hp) : (hidT h H).objs.size = h.objs.size:=PySem.W.hideAll_size _ _
theorem zkC {h : Heap} {H : Hp} {b : Addr} {o : Obj} (e : h.get? b = some o) (n : H b = none) : (hidT h H).get? b = some o :=
 PySem.W.hideAll_get _ e fun hm=>by
  have q : (H b).isSome = true:=(List.mem_filter.mp hm).2
  rw [n] at q; simp at q
theorem zlK {h : Heap} {H : Hp} {b : Addr} {o : Obj} (e : (hidT h H).get? b = some o) : h.get? b = some o ∧ H b = none:=by
 have e' : h.get? b = some o:=PySem.W.of_hideAll (trk h H) e
 refine ⟨e',?_⟩
 cases q : H b with
 | none=>rfl
 | some x =>
  have hm : b ∈ trk h H:=List.mem_filter.mpr ⟨List.mem_range.mpr (Heap.lt_size e'),by simp [q]⟩
  have z : (hidT h H).get? b = none:=PySem.W.hideAll_none (trk h H) hm
  rw [z] at e; cases e

noncomputable def zlL (g h : Heap) (L : Addr) : List (Addr × Obj):=(List.range h.objs.size).filterMap fun a=>if a = L ∨ (g.get? a).isSome = true then none else (h.get? a).map fun o=>(a,o)
noncomputable def rest (g h : Heap) (L d : Addr) : List (Addr × Obj):=(zlL g h L).filter fun p=>decide (p.1 ≠ d)
end Internal.L2

namespace Internal.L2
open PySem PySem.Spec PyProof.Rows

structure Mod (K : PySem.W.Frag) (mg : Str → Option Value) (base : Heap) : Prop where
 kin : K.In base
 glob : base.Ns mainGlobals mg
 blt : ∃ mb,base.Ns builtinsNs mb ∧ ∀ x : Str,x ≠ "__name__" → mb x = bootBuiltins x
 nolimit : base.NoLimit

set_option genInjectivity false in
structure Cx where
 prog : Program
 w : World
 K : PySem.W.Frag
 mg : Str → Option Value
 base : Heap
 A : Around
 N : List Str
 s₀ : Shared
 H₀ : Hp
 env : Env
 outer : List Env
 stack : List Env
 ex : List Addr
 fn : Str → Bool
 calm : Bool
 pn : List (Addr × Obj)
 xe : Value → Shared → Prop

noncomputable def frs (l : List Env) : List Addr:=l.filterMap (·.frame)
noncomputable abbrev Cx.fs (X : Cx) : List Addr:=frs X.outer

noncomputable def Vis (sc : Scope) (x : Str) : Prop:=sc.names.lookup x = some .local ∨ sc.names.lookup x = some .cell ∨ sc.names.lookup x = some .free
noncomputable def Loc (sc : Scope) (x : Str) : Prop:=sc.names.lookup x = some .local ∨ sc.names.lookup x = some .cell
noncomputable def Look (env : Env) (h : Heap) (m : Str → Option Value) (x : Str) (u : Value) : Prop :=
 (env.kindOf x = some .local ∧ m x = some u) ∨ ((env.kindOf x = some .cell ∨ env.kindOf x = some .free) ∧ ∃ c,env.cells.lookup x = some c ∧ h.IsCell c (some u))

structure Cx.Ok (X : Cx) : Prop where
 mod : Mod X.K X.mg X.base
 kind : X.env.scope.kind = .function
 glob : X.env.globals = mainGlobals
 blt : X.env.builtins = builtinsNs
 above : X.s₀.heap.objs.size ≤ X.env.locals
 inj : ∀ x y c,X.env.cells.lookup x = some c → X.env.cells.lookup y = some c → x = y
 has : ∀ x,(X.env.kindOf x = some .cell ∨ X.env.kindOf x = some .free) → ∃ c,X.env.cells.lookup x = some c
 cab : ∀ x c,X.fn x = true → X.env.cells.lookup x = some c → X.s₀.heap.objs.size ≤ c
 hd : X.calm = true → X.A.handled = none
 frames : X.A.frames = some X.stack
 stk : X.stack = X.outer ∨ (X.stack = X.env :: X.outer ∧ X.env.frame = some X.env.locals)
 exf : ∀ b ∈ X.ex,b ≠ X.env.locals ∧ ∀ x c,X.env.cells.lookup x = some c → c ≠ b
 bs : ∀ b o,X.base.get? b = some o → X.s₀.heap.get? b = some o ∧ X.H₀ b = none
 bsz : X.base.objs.size ≤ X.s₀.heap.objs.size
 noex : ∀ b o,X.base.get? b = some o → b ∉ X.ex
 exfs : ∀ b ∈ X.ex,b ∉ X.fs
 funs : X.s₀.heap.FunFrames X.base X.outer
 frf : ∀ b ∈ X.fs,X.H₀ b = none

structure Inv (X : Cx) (pins : List (Addr × Obj)) (σ : List (Option V)) (H : Hp) (s : Shared) : Prop where
 ok : X.Ok
 os : s.os = X.s₀.os
 bare : AllBare s.gens
 base : Un X.fs X.ex X.H₀ H X.s₀.heap s.heap
 loc : ∃ m,s.heap.Ns X.env.locals m ∧ ∀ (i : Nat) (x : Str) (v : V),X.N[i]? = some x → σ[i]? = some (some v) → Vis X.env.scope x → ∃ u,RelV v u ∧ Look X.env s.heap m x u
 cell : ∀ x c,X.env.cells.lookup x = some c → ∃ v,s.heap.IsCell c v
 free : H X.env.locals = none
 freeC : ∀ x c,X.env.cells.lookup x = some c → H c = none
 pin : ∀ p ∈ X.pn ++ pins,s.heap.get? p.1 = some p.2 ∧ H p.1 = none ∧ p.1 ≠ X.env.locals ∧ p.1 ∉ X.fs ∧ ∀ v,p.2.data ≠ .cell v
 hok : HOk X.prog X.w H s.heap
 len : σ.length = X.N.length

section
variable {X : Cx} {pins : List (Addr × Obj)} {σ : List (Option V)} {H H' : Hp} {s : Shared} {h' : Heap}

theorem Cx.Ok.nofr (ok : X.Ok) {b : Addr} {o : Obj} (e : X.base.get? b = some o) : b ∉ X.fs:=fun hb=>by
 have:=(ok.funs.mem hb).1
 rw [e] at this; cases this
theorem Inv.bs (I : Inv X pins σ H s) : ∀ b o,X.base.get? b = some o → s.heap.get? b = some o ∧ H b = none:=fun b o e =>
 ⟨I.base.keep b o (I.ok.bs b o e).1 (I.ok.bs b o e).2 (I.ok.nofr e) (I.ok.noex b o e),I.base.free b o (I.ok.bs b o e).1 (I.ok.bs b o e).2 (I.ok.noex b o e)⟩
theorem Inv.bk (I : Inv X pins σ H s) : ∀ b o,X.base.get? b = some o → s.heap.get? b = some o:=fun b o e=>(I.bs b o e).1
theorem Inv.mod (I : Inv X pins σ H s) : Mod X.K X.mg X.base:=I.ok.mod
theorem Inv.kIn (I : Inv X pins σ H s) : X.K.In s.heap:=I.ok.mod.kin.keeps I.bk
theorem Inv.lt (I : Inv X pins σ H s) : X.env.locals < s.heap.objs.size:=let ⟨_,hn,_⟩:=I.loc; hn.lt
theorem Inv.sz (I : Inv X pins σ H s) : X.s₀.heap.objs.size ≤ s.heap.objs.size:=Nat.le_trans I.ok.above (Nat.le_of_lt I.lt)
theorem Inv.nofs (I : Inv X pins σ H s) {a : Addr} (h : s.heap.objs.size ≤ a) : a ∉ X.fs:=fun hb=>by
 obtain ⟨_,o,ho,_⟩:=I.ok.funs.mem hb
 exact absurd (Nat.lt_of_lt_of_le (Heap.lt_size ho) (Nat.le_trans I.sz h)) (Nat.lt_irrefl _)
theorem Inv.cne (I : Inv X pins σ H s) : ∀ x c,X.env.cells.lookup x = some c → c ≠ X.env.locals:=fun x c e z=>by
 obtain ⟨v,o,ho,hd⟩:=I.cell x c e
 obtain ⟨m,⟨o',es,ep,ho',hd',_⟩,_⟩:=I.loc
 rw [z,ho'] at ho; cases ho; rw [hd'] at hd; cases hd
theorem Inv.funs (I : Inv X pins σ H s) : s.heap.FunFrames X.base X.outer:=by
 have all : ∀ (l : List Env),(∀ b ∈ frs l,b ∈ X.fs) → X.s₀.heap.FunFrames X.base l → s.heap.FunFrames X.base l:=by
  intro l
  induction l with
  | nil=>intro _ _; trivial
  | cons env r ih =>
   intro hs hl
   obtain ⟨hk,⟨L,o,hf,hn,ho,hd⟩,hr⟩:=hl
   have hL : L ∈ X.fs:=hs L (by unfold frs; rw [List.filterMap_cons,hf]; exact List.mem_cons_self)
   obtain ⟨sl,e⟩:=I.base.slot L o ho (I.ok.frf L hL) hL fun z=>I.ok.exfs L z hL
   exact ⟨hk,⟨L,_,hf,hn,e,hd⟩,ih (fun b hb=>hs b (by unfold frs; rw [List.filterMap_cons,hf]; exact List.mem_cons_of_mem _ hb)) hr⟩
 exact all X.outer (fun _ hb=>hb) I.ok.funs

theorem Inv.stack (I : Inv X pins σ H s) : s.heap.FunFrames X.base X.stack:=by
 rcases I.ok.stk with e | ⟨e,hf⟩
 ·rw [e]; exact I.funs
 ·rw [e]
  obtain ⟨m,hn,_⟩:=I.loc
  refine .cons (by rw [I.ok.kind]; decide) hf hn ?_ I.funs
  exact Heap.get?_none_of_le (Nat.le_trans I.ok.bsz I.ok.above)
theorem Inv.stkSub (I : Inv X pins σ H s) : ∀ b ∈ frs X.stack,b ∈ X.env.locals :: X.fs:=fun b hb=>by
 rcases I.ok.stk with e | ⟨e,hf⟩
 ·rw [e] at hb; exact List.mem_cons_of_mem _ hb
 ·rw [e] at hb
  unfold frs at hb
  rw [List.filterMap_cons,hf] at hb
  exact hb
theorem Inv.stkFree (I : Inv X pins σ H s) : ∀ b ∈ frs X.stack,H b = none:=fun b hb=>by
 rcases List.mem_cons.mp (I.stkSub b hb) with e | hb
 ·rw [e]; exact I.free
 ·obtain ⟨_,o,ho,_⟩:=I.ok.funs.mem hb
  exact I.base.free b o ho (I.ok.frf b hb) fun z=>I.ok.exfs b z hb

theorem Inv.step {g' : Array GenState} {t' : Nat} {d' : Drawn} {ch : List Addr} (I : Inv X pins σ H s)
  (hch : ∀ b ∈ ch,(b ∈ X.ex ∨ X.s₀.heap.objs.size ≤ b) ∧ b ≠ X.env.locals ∧ (∀ x c,X.env.cells.lookup x = some c → c ≠ b) ∧ ∀ p ∈ X.pn ++ pins,p.1 ≠ b)
  (keep : ∀ b o,b ≠ X.env.locals → b ∉ X.fs → b ∉ ch → s.heap.get? b = some o → H b = none → h'.get? b = some o)
  (slot : ∀ b o,b ≠ X.env.locals → b ∈ X.fs → b ∉ ch → s.heap.get? b = some o → H b = none → ∃ sl,h'.get? b = some { o with slots:=sl }) (free : ∀ b o,b ∉ ch → s.heap.get? b = some o → H b = none → H' b = none)
  (there : ∀ b o,b ∉ ch → s.heap.get? b = some o → ∃ o',h'.get? b = some o')
  (tups : ∀ b xs,H b = some (.tup xs) → H' b = some (.tup xs)) (frzs : ∀ b o u,H b = some (.frz o u) → H' b = some (.frz o u)) (tbls : ∀ b ps,H b = some (.tbl ps) → ∃ more,H' b = some (.tbl (ps ++ more)))
  (ns : ∀ m,s.heap.Ns X.env.locals m → h'.Ns X.env.locals m) (hok : HOk X.prog X.w H' h') (hg : AllBare g') :
  Inv X pins σ H' { s with heap:=h',gens:=g',drawn:=d',toks:=t' }:=by
 have neL : ∀ b o,X.s₀.heap.get? b = some o → b ≠ X.env.locals:=fun b o e=>Nat.ne_of_lt (Nat.lt_of_lt_of_le (Heap.lt_size e) I.ok.above)
 have neC : ∀ b o,X.s₀.heap.get? b = some o → b ∉ X.ex → b ∉ ch:=fun b o e hx hb=>by
  rcases (hch b hb).1 with z | z
  ·exact hx z
  ·exact absurd (Nat.lt_of_lt_of_le (Heap.lt_size e) z) (Nat.lt_irrefl _)
 have cellK : ∀ x c,X.env.cells.lookup x = some c → ∀ v,s.heap.IsCell c v → h'.IsCell c v:=fun x c e v hP1=>by
  obtain ⟨o,ho,hd⟩:=hP1
  have nch : c ∉ ch:=fun z=>(hch c z).2.2.1 x c e rfl
  by_cases hc : c ∈ X.fs
  ·obtain ⟨sl,q⟩:=slot c o (I.cne x c e) hc nch ho (I.freeC x c e)
   exact ⟨_,q,hd⟩
  ·exact ⟨o,keep c o (I.cne x c e) hc nch ho (I.freeC x c e),hd⟩
 refine ⟨I.ok,I.os,hg,⟨fun b o e n hb hx=>?_,fun b o e n hb hx=>?_,fun b o e n hx=>?_,fun b o e hx=>?_,fun b xs e=>tups b xs (I.base.tups b xs e),fun b o xs e=>frzs b o xs (I.base.frzs b o xs e),fun b ps e=>?_⟩,?_,fun x c e=>?_,?_,fun x c e=>?_,fun p hp=>?_,hok,I.len⟩
 ·exact keep b o (neL b o e) hb (neC b o e hx) (I.base.keep b o e n hb hx) (I.base.free b o e n hx)
 ·obtain ⟨sl,e1⟩:=I.base.slot b o e n hb hx
  obtain ⟨sl',e2⟩:=slot b _ (neL b o e) hb (neC b o e hx) e1 (I.base.free b o e n hx)
  exact ⟨sl',e2⟩
 ·obtain ⟨o',e1⟩:=I.base.there b o e hx
  exact free b o' (neC b o e hx) e1 (I.base.free b o e n hx)
 ·obtain ⟨o',e1⟩:=I.base.there b o e hx
  exact there b o' (neC b o e hx) e1
 ·obtain ⟨m1,e1⟩:=I.base.tbls b ps e
  obtain ⟨m2,e2⟩:=tbls b _ e1
  exact ⟨m1 ++ m2,by rw [e2,Array.append_assoc]⟩
 ·obtain ⟨m,hn,hl⟩:=I.loc
  refine ⟨m,ns m hn,fun i x v e1 e2 e3=>?_⟩
  obtain ⟨u,r,l⟩:=hl i x v e1 e2 e3
  refine ⟨u,r,?_⟩
  rcases l with l | ⟨k,c,e,z⟩
  ·exact .inl l
  ·exact .inr ⟨k,c,e,cellK x c e _ z⟩
 ·obtain ⟨v,z⟩:=I.cell x c e
  exact ⟨v,cellK x c e v z⟩
 ·obtain ⟨m,⟨o,_,_,ho,_⟩,_⟩:=I.loc
  exact free _ o (fun z=>(hch _ z).2.1 rfl) ho I.free
 ·obtain ⟨v,o,ho,hd⟩:=I.cell x c e
  exact free c o (fun z=>(hch c z).2.2.1 x c e rfl) ho (I.freeC x c e)
 ·obtain ⟨e,n,ne,nf,d⟩:=I.pin p hp
  have nch : p.1 ∉ ch:=fun z=>(hch p.1 z).2.2.2 p hp rfl
  exact ⟨keep p.1 p.2 ne nf nch e n,free p.1 p.2 nch e n,ne,nf,d⟩

theorem Inv.un {t' : Nat} (I : Inv X pins σ H s) (u : Un X.fs [] H H' s.heap h') (hok : HOk X.prog X.w H' h') : Inv X pins σ H' { s with heap:=h',toks:=t' }:=by
 obtain ⟨m,⟨o,es,ep,ho,r⟩,_⟩:=id I.loc
 obtain ⟨sl,hL⟩:=u.any ho I.free (by simp)
 exact I.step (g':=s.gens) (d':=s.drawn) (ch:=[]) (fun _ z=>nomatch z) (fun b o _ hb _ e n=>u.keep b o e n hb (by simp)) (fun b o _ hb _ e n=>u.slot b o e n hb (by simp)) (fun b o _ e n=>u.free b o e n (by simp)) (fun b o _ e=>u.there b o e (by simp)) u.tups u.frzs u.tbls (fun m' hm=>by
  obtain ⟨o',es',ep',ho',r'⟩:=hm
  rw [ho] at ho'; cases ho'
  exact ⟨_,es',ep',hL,r'⟩) hok I.bare

theorem Inv.call {g' : Array GenState} {t' : Nat} {d' : Drawn} {ch : List Addr} (I : Inv X pins σ H s) (u : Un (frs X.stack) ch H H' s.heap h') (hok : HOk X.prog X.w H' h') (hg : AllBare g')
  (hch : ∀ b ∈ ch,(b ∈ X.ex ∨ X.s₀.heap.objs.size ≤ b) ∧ b ≠ X.env.locals ∧ (∀ x c,X.env.cells.lookup x = some c → c ≠ b) ∧ ∀ p ∈ X.pn ++ pins,p.1 ≠ b) :
  Inv X pins σ H' { s with heap:=h',gens:=g',drawn:=d',toks:=t' }:=by
 obtain ⟨m,⟨o,es,ep,ho,r⟩,_⟩:=id I.loc
 obtain ⟨sl,hL⟩:=u.any ho I.free fun z=>(hch _ z).2.1 rfl
 exact I.step (ch:=ch) hch (fun b o hL hb hc e n=>u.keep b o e n (fun z=>(List.mem_cons.mp (I.stkSub b z)).elim hL hb) hc) (fun b o _ _ hc e n=>u.any e n hc) (fun b o hc e n=>u.free b o e n hc) (fun b o hc e=>u.there b o e hc) u.tups u.frzs u.tbls (fun m' hm=>by
  obtain ⟨o',es',ep',ho',r'⟩:=hm
  rw [ho] at ho'; cases ho'
  exact ⟨_,es',ep',hL,r'⟩) hok hg

theorem Inv.turned {t' : Nat} {it : Addr} (I : Inv X pins σ H s) (k : ∀ b o,b ≠ it → s.heap.get? b = some o → h'.get? b = some o) (hn : H it = none) (hL : it ≠ X.env.locals)
  (h1 : it ∈ X.ex ∨ X.s₀.heap.objs.size ≤ it) (h2 : ∀ x c,X.env.cells.lookup x = some c → c ≠ it) (h3 : ∀ p ∈ X.pn ++ pins,p.1 ≠ it) : Inv X pins σ H { s with heap:=h',toks:=t' }:=by
 have nit : ∀ b u,H b = some u → b ≠ it:=fun b u e z=>by rw [z,hn] at e; cases e
 refine I.step (g':=s.gens) (d':=s.drawn) (ch:=[it]) (fun b hb=>?_) (fun b o _ _ hc e _=>k b o (fun z=>hc (by simp [z])) e) (fun b o _ _ hc e _=>⟨o.slots,k b o (fun z=>hc (by simp [z])) e⟩) (fun _ _ _ _ n=>n)
  (fun b o hc e=>⟨o,k b o (fun z=>hc (by simp [z])) e⟩) (fun _ _ e=>e) (fun _ _ _ e=>e) (fun b ps e=>⟨#[],by rw [e]; simp⟩) (fun m hm=>?_) (fun b u e=>?_) I.bare
 ·have e : b = it:=by simpa using hb
  subst e
  exact ⟨h1,hL,h2,h3⟩
 ·obtain ⟨o,es,ep,ho,r⟩:=hm
  exact ⟨o,es,ep,k _ o (Ne.symm hL) ho,r⟩
 ·refine (I.hok b u e).stay (fun c v hc q=>k c v ?_ q) (fun _ q=>q) fun _ _ q=>q
  rcases hc with z | z
  ·rw [z]; exact nit b u e
  ·exact nit c _ z
theorem Inv.tok (I : Inv X pins σ H s) (t : Nat) : Inv X pins σ H { s with toks:=t }:=I.un (h':=s.heap) (t':=t) Un.refl I.hok

theorem Inv.kept {t' : Nat} (I : Inv X pins σ H s) (k : ∀ b u,s.heap.get? b = some u → h'.get? b = some u) : Inv X pins σ H { s with heap:=h',toks:=t' }:=I.un (Un.kept k) (I.hok.kept k)

theorem Inv.laid {a : Addr} {o : HO} {t' : Nat} (I : Inv X pins σ H s) (k : ∀ b u,s.heap.get? b = some u → h'.get? b = some u) (hp : s.heap.objs.size ≤ a) (new : ObjOk X.prog X.w (upd H a o) h' a o) :
  Inv X pins σ (upd H a o) { s with heap:=h',toks:=t' }:=I.un (Un.laid k hp (I.hok.fresh hp)) (I.hok.laid k hp new)

theorem Inv.write {x e : Addr} {o : HO} {t' : Nat} (I : Inv X pins σ H s) (mu : Mut (H x)) (he : e = x ∨ H e = some (.own x)) (k : ∀ b u,b ≠ e → s.heap.get? b = some u → h'.get? b = some u) (heo : ∃ u,h'.get? e = some u)
  (new : ObjOk X.prog X.w (upd H x o) h' x o) : Inv X pins σ (upd H x o) { s with heap:=h',toks:=t' }:=I.un (Un.write mu he k heo) (I.hok.write mu he k heo new)
theorem Inv.pins_of {pins' : List (Addr × Obj)} (I : Inv X pins σ H s) (h : ∀ p ∈ pins',s.heap.get? p.1 = some p.2 ∧ H p.1 = none ∧ p.1 ≠ X.env.locals ∧ p.1 ∉ X.fs ∧ ∀ v,p.2.data ≠ .cell v) : Inv X pins' σ H s :=
 ⟨I.ok,I.os,I.bare,I.base,I.loc,I.cell,I.free,I.freeC,fun p hp=>(List.mem_append.mp hp).elim (fun z=>I.pin p (List.mem_append_left _ z)) (h p),I.hok,I.len⟩

theorem zeb {N : List Str} (hN : N.Nodup) {i j : Nat} {x : Str} (a : N[i]? = some x) (b : N[j]? = some x) : i = j:=by
 obtain ⟨h1,e1⟩:=List.getElem?_eq_some_iff.mp a
 obtain ⟨h2,e2⟩:=List.getElem?_eq_some_iff.mp b
 exact (List.getElem_inj hN).mp (e1.trans e2.symm)

theorem zfw {M : Model} {A : Around} {E : Value → Shared → Prop} {i : Nat} {x : Str} {v : V} {u : Value} {Q : Unit → Shared → Prop} (I : Inv X pins σ H s) (hN : X.N.Nodup) (hi : X.N[i]? = some x) (hx : Loc X.env.scope x) (r : RelV v u)
  (h : ∀ s',Inv X pins (σ.set i (some v)) H s' → (∃ a,Heap.SameBut a s.heap s'.heap ∧ (a = X.env.locals ∨ X.env.cells.lookup x = some a)) → Q () s') (hf : X.fn x = true ∨ X.env.scope.names.lookup x = some .local:=by first | exact .inl rfl | exact .inr rfl | assumption) : wpAny M A (storeName X.env x u) Q E s:=by
 obtain ⟨m,hn,hl⟩:=id I.loc
 have hcls : (X.env.scope.kind == .class || (X.env.scope.kind == .module && X.env.locals != X.env.globals)) = false:=by rw [I.ok.kind]; rfl
 have hiσ : i < σ.length:=by rw [I.len]; exact (List.getElem?_eq_some_iff.mp hi).1
 have cne:=I.cne
 have tracked : ∀ {a : Addr} {h' : Heap},(∃ o,s.heap.get? a = some o ∧ H a = none) → Heap.SameBut a s.heap h' → HOk X.prog X.w H h':=fun {a h'} ha hs b ob e=>by
  obtain ⟨_,_,hfree⟩:=ha
  refine (I.hok b ob e).stay (fun c w' hc q=>(hs.2 c ?_).trans q) (fun _ q=>q) fun _ _ q=>q
  rintro rfl
  rcases hc with rfl | hc
  ·rw [hfree] at e; cases e
  ·rw [hfree] at hc; cases hc
 rcases hx with hk | hk
 ·refine wpAny_storeName_local hk hn (fun h' hn' hs=>?_) hcls
  obtain ⟨oL,_,_,hoL,_⟩:=id hn
  refine h _ ⟨I.ok,I.os,I.bare,⟨fun b o e n hb hx=>?_,fun b o e n hb hx=>?_,I.base.free,fun b o e hx=>?_,I.base.tups,I.base.frzs,I.base.tbls⟩,⟨_,hn',fun j y v' e1 e2 e3=>?_⟩,fun y c e=>?_,I.free,I.freeC,fun p hp=>?_,tracked ⟨oL,hoL,I.free⟩ hs,by simpa using I.len⟩ ⟨_,hs,.inl rfl⟩
  ·exact (hs.2 b (Nat.ne_of_lt (Nat.lt_of_lt_of_le (Heap.lt_size e) I.ok.above))).trans (I.base.keep b o e n hb hx)
  ·obtain ⟨sl,e1⟩:=I.base.slot b o e n hb hx
   exact ⟨sl,(hs.2 b (Nat.ne_of_lt (Nat.lt_of_lt_of_le (Heap.lt_size e) I.ok.above))).trans e1⟩
  ·obtain ⟨o',e1⟩:=I.base.there b o e hx
   exact ⟨o',(hs.2 b (Nat.ne_of_lt (Nat.lt_of_lt_of_le (Heap.lt_size e) I.ok.above))).trans e1⟩
  ·by_cases hj : j = i
   ·subst hj
    rw [hi] at e1; cases e1
    rw [List.getElem?_set_self hiσ] at e2
    cases e2
    exact ⟨u,r,.inl ⟨hk,by simp⟩⟩
   ·rw [List.getElem?_set_ne (Ne.symm hj)] at e2
    obtain ⟨u',r',q⟩:=hl j y v' e1 e2 e3
    refine ⟨u',r',?_⟩
    rcases q with ⟨k,e⟩ | ⟨k,c,e,z⟩
    ·refine .inl ⟨k,?_⟩
     have : y ≠ x:=fun e=>hj (zeb hN e1 (e ▸ hi))
     simp [this,e]
    ·exact .inr ⟨k,c,e,z.sameBut hs (cne y c e)⟩
  ·obtain ⟨w',z⟩:=I.cell y c e
   exact ⟨w',z.sameBut hs (cne y c e)⟩
  ·obtain ⟨e,n,ne,nf,d⟩:=I.pin p hp
   exact ⟨(hs.2 p.1 ne).trans e,n,ne,nf,d⟩
 ·have hfn : X.fn x = true:=by
   rcases hf with z | z
   ·exact z
   ·rw [z] at hk; cases hk
  obtain ⟨c,hc⟩:=I.ok.has x (.inl hk)
  obtain ⟨w',z⟩:=I.cell x c hc
  refine wpAny_storeName_cell I.ok.kind hk hc z (fun h' hc' hs=>?_)
  obtain ⟨oc,hoc,hocd⟩:=id z
  refine h { s with heap:=h' } ⟨I.ok,I.os,I.bare,⟨fun b o e n hb hx=>?_,fun b o e n hb hx=>?_,I.base.free,fun b o e hx=>?_,I.base.tups,I.base.frzs,I.base.tbls⟩,⟨m,hn.sameBut hs (Ne.symm (cne x c hc)),fun j y v' e1 e2 e3=>?_⟩,fun y c' e=>?_,I.free,I.freeC,fun p hp=>?_,tracked ⟨oc,hoc,I.freeC x c hc⟩ hs,by simpa using I.len⟩ ⟨c,hs,.inr hc⟩
  ·exact (hs.2 b (Nat.ne_of_lt (Nat.lt_of_lt_of_le (Heap.lt_size e) (I.ok.cab x c hfn hc)))).trans (I.base.keep b o e n hb hx)
  ·obtain ⟨sl,e1⟩:=I.base.slot b o e n hb hx
   exact ⟨sl,(hs.2 b (Nat.ne_of_lt (Nat.lt_of_lt_of_le (Heap.lt_size e) (I.ok.cab x c hfn hc)))).trans e1⟩
  ·obtain ⟨o',e1⟩:=I.base.there b o e hx
   exact ⟨o',(hs.2 b (Nat.ne_of_lt (Nat.lt_of_lt_of_le (Heap.lt_size e) (I.ok.cab x c hfn hc)))).trans e1⟩
  ·by_cases hj : j = i
   ·subst hj
    rw [hi] at e1; cases e1
    rw [List.getElem?_set_self hiσ] at e2
    cases e2
    exact ⟨u,r,.inr ⟨.inl hk,c,hc,hc'⟩⟩
   ·rw [List.getElem?_set_ne (Ne.symm hj)] at e2
    obtain ⟨u',r',q⟩:=hl j y v' e1 e2 e3
    refine ⟨u',r',?_⟩
    rcases q with q | ⟨k,c',e,z'⟩
    ·exact .inl q
    ·refine .inr ⟨k,c',e,z'.sameBut hs ?_⟩
     rintro rfl
     exact hj (zeb hN e1 (I.ok.inj _ _ _ e hc ▸ hi))
  ·by_cases hcc : c' = c
   ·subst hcc; exact ⟨_,hc'⟩
   ·obtain ⟨w2,z2⟩:=I.cell y c' e
    exact ⟨w2,z2.sameBut hs hcc⟩
  ·obtain ⟨e,n,ne,nf,d⟩:=I.pin p hp
   refine ⟨(hs.2 p.1 ?_).trans e,n,ne,nf,d⟩
   intro q
   rw [q,hoc] at e
   have q' : oc = p.2:=Option.some.inj e
   exact d w' (by rw [← q']; exact hocd)
theorem zec {M : Model} {A : Around} {E : Value → Shared → Prop} {i : Nat} {x : Str} {v : V} {u : Value} {Q : Unit → Shared → Prop} (I : Inv X pins σ H s) (hN : X.N.Nodup) (hi : X.N[i]? = some x) (hx : Loc X.env.scope x) (r : RelV v u)
  (h : ∀ s',Inv X pins (σ.set i (some v)) H s' → Q () s') (hf : X.fn x = true ∨ X.env.scope.names.lookup x = some .local:=by first | exact .inl rfl | exact .inr rfl | assumption) : wpAny M A (storeName X.env x u) Q E s :=
 zfw I hN hi hx r (fun s' I' _=>h s' I') hf

theorem Inv.call' {s' : Shared} {ch : List Addr} (I : Inv X pins σ H s) (ho : s'.os = s.os) (u : Un (frs X.stack) ch H H' s.heap s'.heap) (hok : HOk X.prog X.w H' s'.heap) (hg : AllBare s'.gens)
  (hch : ∀ b ∈ ch,(b ∈ X.ex ∨ X.s₀.heap.objs.size ≤ b) ∧ b ≠ X.env.locals ∧ (∀ x c,X.env.cells.lookup x = some c → c ≠ b) ∧ ∀ p ∈ X.pn ++ pins,p.1 ≠ b) : Inv X pins σ H' s':=by
 obtain ⟨h',g',d',t',o'⟩:=s'
 have e : o' = s.os:=ho
 subst e
 exact I.call (g':=g') (t':=t') (d':=d') u hok hg hch
end

noncomputable abbrev XK:=Value → Option Addr → Hp → Prop
noncomputable abbrev St:=List (Option V)
noncomputable abbrev VK:=V → Hp → Prop

noncomputable abbrev TE:=St → Hp → VK → Prop
noncomputable abbrev TT:=St → Hp → (Bool → Hp → Prop) → Prop
noncomputable abbrev TA:=St → Hp → (List V → Hp → Prop) → Prop

set_option genInjectivity false in
structure Ends where
 nx : St → Hp → Prop
 rt : VK
 bk : St → Hp → Prop:=fun _ _=>False
 ct : St → Hp → Prop:=fun _ _=>False
noncomputable abbrev TS:=Ends → St → Hp → Prop

noncomputable def EP (X : Cx) (pins : List (Addr × Obj)) (σ : St) (Q : VK) (u : Value) (s' : Shared) : Prop:=∃ v H',Inv X pins σ H' s' ∧ RelV v u ∧ Q v H'
noncomputable def TP (X : Cx) (pins : List (Addr × Obj)) (σ : St) (Q : Bool → Hp → Prop) (b : Bool) (s' : Shared) : Prop:=∃ H',Inv X pins σ H' s' ∧ Q b H'
noncomputable def AP (X : Cx) (pins : List (Addr × Obj)) (σ : St) (Q : List V → Hp → Prop) (us : List Value) (s' : Shared) : Prop:=∃ vs H',Inv X pins σ H' s' ∧ Vals vs us ∧ Q vs H'
noncomputable def SP (X : Cx) (pins : List (Addr × Obj)) (D : Ends) (f : Flow) (s' : Shared) : Prop :=
 match f with
 | .next=>∃ σ' H',Inv X pins σ' H' s' ∧ D.nx σ' H'
 | .brk=>∃ σ' H',Inv X pins σ' H' s' ∧ D.bk σ' H'
 | .cont=>∃ σ' H',Inv X pins σ' H' s' ∧ D.ct σ' H'
 | .ret u=>∃ v σ' H',Inv X pins σ' H' s' ∧ RelV v u ∧ D.rt v H'

noncomputable def PE (X : Cx) (e : Expr) (t : TE) : Prop :=
 ∀ (pins : List (Addr × Obj)) (s : Shared) (σ : St) (H : Hp) (Q : VK),Inv X pins σ H s → t σ H Q → wpAny (model X.prog X.w) X.A (eval e X.env) (EP X pins σ Q) X.xe s
noncomputable def PT (X : Cx) (e : Expr) (t : TT) : Prop :=
 ∀ (pins : List (Addr × Obj)) (s : Shared) (σ : St) (H : Hp) (Q : Bool → Hp → Prop),Inv X pins σ H s → t σ H Q → wpAny (model X.prog X.w) X.A (isTrue e X.env (eval e X.env)) (TP X pins σ Q) X.xe s

noncomputable def PW (X : Cx) (e : Expr) (t : TT) : Prop :=
 ∀ (whole : Sem Value) (pins : List (Addr × Obj)) (s : Shared) (σ : St) (H : Hp) (Q : Bool → Hp → Prop),Inv X pins σ H s → t σ H Q → wpAny (model X.prog X.w) X.A (isTrue e X.env whole) (TP X pins σ Q) X.xe s
theorem PW.pt {X : Cx} {e : Expr} {t : TT} (h : PW X e t) : PT X e t:=h _

noncomputable def PA (X : Cx) (es : List Expr) (t : TA) : Prop :=
 ∀ (pos : Pos) (pins : List (Addr × Obj)) (s : Shared) (σ : St) (H : Hp) (Q : List V → Hp → Prop),Inv X pins σ H s → t σ H Q → wpAny (model X.prog X.w) X.A (spliced (backTo pos (starEach es X.env))) (AP X pins σ Q) X.xe s
noncomputable def PS (X : Cx) (st : Stmt) (t : TS) : Prop :=
 ∀ (pins : List (Addr × Obj)) (s : Shared) (σ : St) (H : Hp) (D : Ends),Inv X pins σ H s → t D σ H → wpAny (model X.prog X.w) X.A (exec st X.env) (SP X pins D) X.xe s
noncomputable def PSs (X : Cx) (st : List Stmt) (t : TS) : Prop :=
 ∀ (pins : List (Addr × Obj)) (s : Shared) (σ : St) (H : Hp) (D : Ends),Inv X pins σ H s → t D σ H → wpAny (model X.prog X.w) X.A (execs st X.env) (SP X pins D) X.xe s

theorem thn {α : Type} {t : Sem α} {Q Q' : α → Shared → Prop} {M : Model} {A : Around} {E : Value → Shared → Prop} {s : Shared} (h : wpAny M A t Q E s) (hQ : ∀ a s,Q a s → Q' a s) : wpAny M A t Q' E s:=wpAny_mono h hQ fun _ _ x=>x
end Internal.L2

namespace Internal.L2
open PySem PySem.Spec PyProof.Rows
section
variable {X : Cx}

noncomputable def tVar (i : Nat) : TE:=fun σ H Q=>∃ v,σ[i]? = some (some v) ∧ Q v H
noncomputable def tC (v : V) : TE:=fun _ H Q=>Q v H
theorem zbk {i : Nat} {x : Str} {pos : Pos} (hN : X.N[i]? = some x) (hv : Vis X.env.scope x) (hd : (x == ("__debug__" : Str)) = false:=by decide) (hcd : (x == ("__classdict__" : Str)) = false:=by decide) : PE X (.Name x pos) (tVar i):=by
 intro pins s σ H Q I h
 obtain ⟨v,e,h⟩:=h
 obtain ⟨m,hn,hl⟩:=I.loc
 obtain ⟨u,r,l⟩:=hl i x v hN e hv
 have fin : EP X pins σ Q u s:=⟨v,H,I,r,h⟩
 rcases l with ⟨hk,hm⟩ | ⟨hk,c,hc,hcell⟩
 ·exact wpAny_Name (wpAny_loadName_local I.ok.kind hk hn hm fin) hd
 ·rcases hk with hk | hk
  ·exact wpAny_Name (wpAny_loadName_cell I.ok.kind hk hc hcell fin) hd
  ·exact wpAny_Name (wpAny_loadName_free I.ok.kind hk hc hcell fin hcd) hd
theorem zng {i j pos} : PE X (.Constant (.int i) j pos) (tC (.int i)):=fun _ _ _ H _ I h=>wpAny_Constant_int ⟨.int i,H,I.tok _,⟨_,rfl⟩,h⟩
theorem pe_bl {b j pos} : PE X (.Constant (.bool b) j pos) (tC (.bl b)):=fun _ _ _ H _ I h=>Constant_bool ⟨.bl b,H,I,rfl,h⟩
theorem znh {x j pos} : PE X (.Constant (.str x) j pos) (tC (.str x)):=fun _ _ _ H _ I h=>Calls.Constant_str ⟨.str x,H,I.tok _,⟨_,rfl⟩,h⟩

noncomputable def Gl (X : Cx) (x : Str) : Prop:=X.env.kindOf x = some .globalImplicit
theorem zcO {E : Value → Shared → Prop} {pins : List (Addr × Obj)} {s : Shared} {σ : St} {H : Hp} {x : Str} {u : Value} {pos : Pos} {Q : Value → Shared → Prop} (I : Inv X pins σ H s) (hg : Gl X x) (hm : X.mg x = some u) (h : Q u s)
  (hd : (x == ("__debug__" : Str)) = false:=by decide) : wpAny (model X.prog X.w) X.A (eval (.Name x pos) X.env) Q E s :=
 Calls.Name_function_global I.ok.kind hg (Calls.loadGlobal_global (by rw [I.ok.glob]; exact I.mod.glob.keeps I.bk) hm h) hd
theorem zbl {E : Value → Shared → Prop} {pins : List (Addr × Obj)} {s : Shared} {σ : St} {H : Hp} {x : Str} {u : Value} {pos : Pos} {Q : Value → Shared → Prop} (I : Inv X pins σ H s) (hg : Gl X x) (hm : X.mg x = none) (hv : bootBuiltins x = some u) (h : Q u s)
  (hn : x ≠ "__name__":=by decide) (hd : (x == ("__debug__" : Str)) = false:=by decide) : wpAny (model X.prog X.w) X.A (eval (.Name x pos) X.env) Q E s:=by
 obtain ⟨mb,h1,h2⟩:=I.mod.blt
 exact Calls.Name_function_global I.ok.kind hg (Calls.loadGlobal_builtin (by rw [I.ok.glob]; exact I.mod.glob.keeps I.bk) hm (by rw [I.ok.blt]; exact h1.keeps I.bk) ((h2 x hn).trans hv) h) hd

theorem zfa {x : Str} {v : V} {u : Value} {pos : Pos} (hg : Gl X x) (hm : X.mg x = some u) (r : RelV v u) (hd : (x == ("__debug__" : Str)) = false:=by decide) : PE X (.Name x pos) (tC v) :=
 fun _ _ _ H _ I h=>zcO I hg hm ⟨v,H,I,r,h⟩ hd
theorem zhD {x : Str} {v : V} {u : Value} {pos : Pos} (hg : Gl X x) (hm : X.mg x = none) (hv : bootBuiltins x = some u) (r : RelV v u) (hn : x ≠ "__name__":=by decide) (hd : (x == ("__debug__" : Str)) = false:=by decide) : PE X (.Name x pos) (tC v) :=
 fun _ _ _ H _ I h=>zbl I hg hm hv ⟨v,H,I,r,h⟩ hn hd

variable {a b : Expr} {ta tb : TE} {pos : Pos}

noncomputable def PC (X : Cx) (op : CmpOp) (a b : Expr) (t : TE) : Prop :=
 ∀ (pins : List (Addr × Obj)) (s : Shared) (σ : St) (H : Hp) (Q : VK),Inv X pins σ H s → t σ H Q →
  wpAny (model X.prog X.w) X.A (eval a X.env) (fun v s₁=>wpAny (model X.prog X.w) X.A (eval b X.env) (fun u s₂=>wpAny (model X.prog X.w) X.A (compareOp op v u) (EP X pins σ Q) X.xe s₂) X.xe s₁) X.xe s

noncomputable def tB (t : TE) : TT:=fun σ H Q=>t σ H fun x H1=>∃ c,x = .bl c ∧ Q c H1
theorem zni {op : CmpOp} {t : TE} (h : PC X op a b t) (h1 : behindInMarks op b = false:=by first | exact nobehind _ (by decide) (by decide) | rfl) : PT X (.Compare a [op] [b] pos) (tB t):=by
 intro pins s σ H Q I hw
 refine wpAny_isTrue_Compare1 (thn (h pins s σ H _ I hw) fun v s1 h1=>thn h1 fun u s2 h2=>thn h2 fun c s3 hP2=>?_) h1
 obtain ⟨x,H1,I1,r1,q1⟩:=hP2
 obtain ⟨d,rfl,q⟩:=q1
 cases r1
 exact wpAny_truthy_bool ⟨H1,I1,q⟩

theorem znj {e : Expr} {t : TE} (h : PE X e t) (he : ∀ whole,isTrue e X.env whole = (do let v ← whole; standAt e.pos; holding [v] (truthy v)):=by ac_rfl) : PT X e (tB t):=by
 intro pins s σ H Q I hw
 refine isTrue_plain (thn (h pins s σ H _ I hw) fun v s1 hP3=>?_) (he _)
 obtain ⟨x,H1,I1,r1,q1⟩:=hP3
 obtain ⟨d,rfl,q⟩:=q1
 cases r1
 exact wpAny_truthy_bool ⟨H1,I1,q⟩

variable {tA tB' : TT} {rest : List Expr}
noncomputable def tAnd (t u : TT) : TT:=fun σ H Q=>t σ H fun c H1=>if c = true then u σ H1 Q else Q false H1
noncomputable def tOr (t u : TT) : TT:=fun σ H Q=>t σ H fun c H1=>if c = true then Q true H1 else u σ H1 Q
noncomputable def tNot (t : TT) : TT:=fun σ H Q=>t σ H fun c H1=>Q (!c) H1
theorem zlM (ha : PT X a tA) : PW X (.BoolOp .And [a] pos) tA:=by
 intro wh pins s σ H Q I h
 refine isTrue_and (thn (ha pins s σ H Q I h) fun c s1 e=>?_)
 cases c with
 | true=>exact isTrue_and_nil e
 | false=>exact e
theorem znk (ha : PT X a tA) : PW X (.BoolOp .Or [a] pos) tA:=by
 intro wh pins s σ H Q I h
 refine isTrue_or (thn (ha pins s σ H Q I h) fun c s1 e=>?_)
 cases c with
 | false=>exact isTrue_or_nil e
 | true=>exact e
theorem ziY (ha : PT X a tA) (hb : PW X (.BoolOp .And (b :: rest) pos) tB') : PW X (.BoolOp .And (a :: b :: rest) pos) (tAnd tA tB'):=by
 intro wh pins s σ H Q I h
 refine isTrue_and (thn (ha pins s σ H _ I h) fun c s1 hP4=>?_)
 obtain ⟨H1,I1,q1⟩:=hP4
 cases c with
 | true=>exact hb wh pins s1 σ H1 Q I1 q1
 | false=>exact ⟨H1,I1,q1⟩
theorem pw_or (ha : PT X a tA) (hb : PW X (.BoolOp .Or (b :: rest) pos) tB') : PW X (.BoolOp .Or (a :: b :: rest) pos) (tOr tA tB'):=by
 intro wh pins s σ H Q I h
 refine isTrue_or (thn (ha pins s σ H _ I h) fun c s1 hP5=>?_)
 obtain ⟨H1,I1,q1⟩:=hP5
 cases c with
 | true=>exact ⟨H1,I1,q1⟩
 | false=>exact hb wh pins s1 σ H1 Q I1 q1
theorem znl (ha : PT X a tA) : PT X (.UnaryOp .Not a pos) (tNot tA):=by
 intro pins s σ H Q I h
 exact isTrue_not (ha pins s σ H (fun c H1=>Q (!c) H1) I h)

noncomputable def tAndV (ta tb : TE) : TE:=fun σ H Q=>ta σ H fun x H1=>∃ c,x = .bl c ∧ if c = true then tb σ H1 Q else Q (.bl false) H1
noncomputable def tNotV (ta : TE) : TE:=fun σ H Q=>ta σ H fun x H1=>∃ c,x = .bl c ∧ Q (.bl (!c)) H1
theorem znm {op} {t : TE} (h : PE X a t) : PE X (.BoolOp op [a] pos) t:=fun pins s σ H Q I hw=>BoolOp_one (h pins s σ H Q I hw)
theorem ziZ (ha : PE X a ta) (hb : PE X (.BoolOp .And (b :: rest) pos) tb) : PE X (.BoolOp .And (a :: b :: rest) pos) (tAndV ta tb):=by
 intro pins s σ H Q I h
 refine BoolOp_and (thn (ha pins s σ H _ I h) fun v s1 hP6=>?_)
 obtain ⟨x,H1,I1,r1,q1⟩:=hP6
 obtain ⟨c,rfl,q1⟩:=q1
 cases r1
 refine wpAny_truthy_bool ?_
 cases c with
 | true=>exact hb pins s1 σ H1 Q I1 q1
 | false=>exact ⟨.bl false,H1,I1,rfl,q1⟩
theorem znn (ha : PE X a ta) : PE X (.UnaryOp .Not a pos) (tNotV ta):=by
 intro pins s σ H Q I h
 refine UnaryOp_ (thn (ha pins s σ H _ I h) fun v s1 hP7=>?_)
 obtain ⟨x,H1,I1,r1,q1⟩:=hP7
 obtain ⟨c,rfl,q1⟩:=q1
 cases r1
 exact not_of (wpAny_truthy_bool ⟨.bl (!c),H1,I1,rfl,q1⟩)

noncomputable def tIf (t : TT) (ta tb : TE) : TE:=fun σ H Q=>t σ H fun c H1=>if c = true then ta σ H1 Q else tb σ H1 Q
theorem zgd {c : Expr} (hc : PT X c tA) (ha : PE X a ta) (hb : PE X b tb) : PE X (.IfExp c a b pos) (tIf tA ta tb):=by
 intro pins s σ H Q I h
 refine wpAny_IfExp (thn (hc pins s σ H _ I h) fun d s1 hP8=>?_)
 obtain ⟨H1,I1,q1⟩:=hP8
 cases d with
 | true=>exact ha pins s1 σ H1 Q I1 q1
 | false=>exact hb pins s1 σ H1 Q I1 q1
end
end Internal.L2

namespace Internal.L2
open PySem PySem.Spec PyProof.Rows

noncomputable def SqL (K : PySem.W.Frag) (H : Hp) (a : Addr) (xs : List V) : Prop :=
 Rd H a (.lst xs) ∨
  ∃ (o : Obj) (its : Array Value) (n : Nat),K.lookup a = some o ∧ o.cls = .type "list" ∧ o.dict = none ∧ o.data = .seq its n ∧ its.size ≤ sizeLine ∧ Vals xs its.toList
noncomputable def SqT (K : PySem.W.Frag) (H : Hp) (a : Addr) (xs : List V) : Prop :=
 Rd H a (.tup xs) ∨
  ∃ (o : Obj) (its : Array Value) (n : Nat),K.lookup a = some o ∧ o.cls = .type "tuple" ∧ o.data = .seq its n ∧ its.size ≤ sizeLine ∧ Vals xs its.toList
noncomputable def absV : Value → Option V
 | .none=>some .non
 | .bool b=>some (.bl b)
 | .int i _=>some (.int i)
 | .str x _=>some (.str x)
 | .bytes b _=>some (.byt b)
 | .float b _=>some (.flt b)
 | .ref a=>some (.ref a)
 | .type n=>some (.ty n)
 | _=>none
theorem RelV.abs {x : V} {u : Value} (r : RelV x u) : absV u = some x:=by
 cases x with
 | non=>cases r; rfl
 | bl _=>cases r; rfl
 | int _=>obtain ⟨t,rfl⟩:=r; rfl
 | str _=>obtain ⟨t,rfl⟩:=r; rfl
 | byt _=>obtain ⟨t,rfl⟩:=r; rfl
 | flt _=>obtain ⟨t,rfl⟩:=r; rfl
 | ref _=>cases r; rfl
 | ty _=>cases r; rfl
theorem RelV.inj {x y : V} {u : Value} (r : RelV x u) (q : RelV y u) : x = y:=Option.some.inj (r.abs.symm.trans q.abs)
theorem Vals.inj : ∀ {xs ys : List V} {us : List Value},Vals xs us → Vals ys us → xs = ys
 | _,_,_,.nil,.nil=>rfl
 | _,_,_,.cons r t,.cons r' t'=>by rw [r.inj r',Vals.inj t t']
section
variable {X : Cx} {pins : List (Addr × Obj)} {σ : St} {H : Hp} {s : Shared} {a : Addr} {xs ys : List V}
theorem SqL.of {K : PySem.W.Frag} (h : H a = some (.lst xs)) : SqL K H a xs:=.inl (.inl h)
theorem SqT.of {K : PySem.W.Frag} (h : H a = some (.tup xs)) : SqT K H a xs:=.inl (.inl h)
theorem Inv.list (I : Inv X pins σ H s) (h : SqL X.K H a xs) : ∃ its : List Value,Vals xs its ∧ PlainL s.heap a its.toArray ∧ xs.length ≤ sizeLine:=by
 rcases h with h | ⟨o,its,n,hk,hc,hd,hs,hz,r⟩
 ·obtain ⟨z,its,n,r,e⟩:=h.ok I.hok
  exact ⟨its,r,⟨_,n,e,rfl,rfl,rfl⟩,z⟩
 ·refine ⟨its.toList,r,⟨o,n,I.kIn a o hk,hc,hd,by simpa using hs⟩,?_⟩
  have e:=r.length
  simp only [Array.length_toList] at e
  omega
theorem Inv.tuple (I : Inv X pins σ H s) (h : SqT X.K H a xs) : ∃ its : List Value,Vals xs its ∧ IsTup s.heap a its.toArray ∧ xs.length ≤ sizeLine:=by
 rcases h with h | ⟨o,its,n,hk,hc,hs,hz,r⟩
 ·obtain ⟨z,its,r,p,_⟩:=h.ok I.hok
  exact ⟨its,r,p,z⟩
 ·refine ⟨its.toList,r,⟨o,I.kIn a o hk,hc,n,by simpa using hs⟩,?_⟩
  have e:=r.length
  simp only [Array.length_toList] at e
  omega
theorem Inv.list_inj (I : Inv X pins σ H s) (h : SqL X.K H a xs) (h' : SqL X.K H a ys) : xs = ys:=by
 obtain ⟨its,r,⟨o,n,e,_,_,d⟩,_⟩:=I.list h
 obtain ⟨its',r',⟨o',n',e',_,_,d'⟩,_⟩:=I.list h'
 rw [e] at e'; cases e'
 rw [d] at d'
 injection d' with d1 _
 have : its = its':=by simpa using congrArg Array.toList d1
 subst this
 exact r.inj r'
theorem Inv.tuple_inj (I : Inv X pins σ H s) (h : SqT X.K H a xs) (h' : SqT X.K H a ys) : xs = ys:=by
 obtain ⟨its,r,⟨o,e,_,n,d⟩,_⟩:=I.tuple h
 obtain ⟨its',r',⟨o',e',_,n',d'⟩,_⟩:=I.tuple h'
 rw [e] at e'; cases e'
 rw [d] at d'
 injection d' with d1 _
 have : its = its':=by simpa using congrArg Array.toList d1
 subst this
 exact r.inj r'
end

noncomputable abbrev Cx.wish (X : Cx) (E : Value → Shared → Prop) : Cx:={ X with xe:=E }

noncomputable abbrev Cx.nox (X : Cx) : Cx:=X.wish fun _ _=>False
theorem Cx.Ok.wish {X : Cx} (ok : X.Ok) (E : Value → Shared → Prop) : (X.wish E).Ok :=
 ⟨ok.mod,ok.kind,ok.glob,ok.blt,ok.above,ok.inj,ok.has,ok.cab,ok.hd,ok.frames,ok.stk,ok.exf,ok.bs,ok.bsz,ok.noex,ok.exfs,ok.funs,ok.frf⟩
theorem Cx.Ok.unwish {X : Cx} {E : Value → Shared → Prop} (ok : (X.wish E).Ok) : X.Ok :=
 ⟨ok.mod,ok.kind,ok.glob,ok.blt,ok.above,ok.inj,ok.has,ok.cab,ok.hd,ok.frames,ok.stk,ok.exf,ok.bs,ok.bsz,ok.noex,ok.exfs,ok.funs,ok.frf⟩
section
variable {X : Cx} {pins : List (Addr × Obj)} {σ : St} {H : Hp} {s : Shared} {E : Value → Shared → Prop}
theorem Inv.wish (I : Inv X pins σ H s) (E : Value → Shared → Prop) : Inv (X.wish E) pins σ H s:=⟨I.ok.wish E,I.os,I.bare,I.base,I.loc,I.cell,I.free,I.freeC,I.pin,I.hok,I.len⟩
theorem Inv.unwish (I : Inv (X.wish E) pins σ H s) : Inv X pins σ H s:=⟨I.ok.unwish,I.os,I.bare,I.base,I.loc,I.cell,I.free,I.freeC,I.pin,I.hok,I.len⟩
theorem SP.unwish {D : Ends} {f : Flow} {s' : Shared} (h : SP (X.wish E) pins D f s') : SP X pins D f s':=by
 cases f with
 | next=>obtain ⟨σ',H',I,q⟩:=h; exact ⟨σ',H',I.unwish,q⟩
 | brk=>obtain ⟨σ',H',I,q⟩:=h; exact ⟨σ',H',I.unwish,q⟩
 | cont=>obtain ⟨σ',H',I,q⟩:=h; exact ⟨σ',H',I.unwish,q⟩
 | ret u=>obtain ⟨v,σ',H',I,r,q⟩:=h; exact ⟨v,σ',H',I.unwish,r,q⟩
theorem PSs.nox {st : List Stmt} {t : TS} (h : PSs X.nox st t) : PSs X st t:=fun pins s σ H D I hw =>
 wpAny_mono (h pins s σ H D (I.wish _) hw) (fun _ _ q=>q.unwish) fun _ _ z=>False.elim z
end

section
variable {X : Cx} {st : Stmt} {rest : List Stmt} {t u : TS} {e : Expr} {te : TE} {pos : Pos}
noncomputable def tNext : TS:=fun D σ H=>D.nx σ H
noncomputable def tSeq (t u : TS) : TS:=fun D σ H=>t { D with nx:=u D } σ H
theorem zhE : PSs X [] tNext:=fun _ _ σ H _ I h=>wpAny_execs_nil ⟨σ,H,I,h⟩
theorem zed (h1 : PS X st t) (h2 : PSs X rest u) : PSs X (st :: rest) (tSeq t u):=by
 intro pins s σ H D I h
 refine wpAny_execs_cons (thn (h1 pins s σ H { D with nx:=u D } I h) fun f s1 q=>?_)
 cases f with
 | next =>
  obtain ⟨σ',H',I',q⟩:=q
  exact h2 pins s1 σ' H' D I' q
 | ret v=>exact q
 | brk=>exact q
 | cont=>exact q

theorem Inv.quiet {pins : List (Addr × Obj)} {σ : St} {H : Hp} {s : Shared} (I : Inv X pins σ H s) : interactive X.env = false:=by simp [interactive,I.ok.kind]

noncomputable def tDrop (te : TE) : TS:=fun D σ H=>te σ H fun _ H1=>D.nx σ H1
theorem zcP (he : PE X e te) (hs : swapsWith e none pos.line X.env = pure false:=by rfl) : PS X (.Expr e pos) (tDrop te):=by
 intro pins s σ H D I h
 exact wpAny_Expr_any (thn (he pins s σ H _ I h) fun v s1 ⟨x,H1,I1,r1,q1⟩=>⟨σ,H1,I1,q1⟩) I.quiet hs
noncomputable def tRet (te : TE) : TS:=fun D σ H=>te σ H D.rt
theorem zge (he : PE X e te) : PS X (.Return (some e) pos) (tRet te):=by
 intro pins s σ H D I h
 exact wpAny_Return_some (thn (he pins s σ H _ I h) fun v s1 ⟨x,H1,I1,r1,q1⟩=>⟨x,σ,H1,I1,r1,q1⟩)
noncomputable def tIfS (c : TT) (t u : TS) : TS:=fun D σ H=>c σ H fun b H1=>if b = true then t D σ H1 else u D σ H1
theorem ps_if {c : Expr} {a b : List Stmt} {tc : TT} (hc : PT X c tc) (ha : PSs X a t) (hb : PSs X b u) : PS X (.If c a b pos) (tIfS tc t u):=by
 intro pins s σ H D I h
 refine wpAny_If (thn (hc pins s σ H _ I h) fun d s1 hP9=>?_)
 obtain ⟨H1,I1,q1⟩:=hP9
 cases d with
 | true=>exact ha pins s1 σ H1 D I1 q1
 | false=>exact hb pins s1 σ H1 D I1 q1

noncomputable def zno : TS:=fun _ _ _=>False
theorem zfx {sts : List Stmt} : PSs X sts zno:=fun _ _ _ _ _ _ h=>h.elim
end

noncomputable abbrev TG:=V → St → Hp → (St → Hp → Prop) → Prop
noncomputable abbrev TGs:=List V → St → Hp → (St → Hp → Prop) → Prop
noncomputable def PG (X : Cx) (target : Expr) (t : TG) : Prop :=
 ∀ (pins : List (Addr × Obj)) (s : Shared) (σ : St) (H : Hp) (v : V) (u : Value) (Q : St → Hp → Prop),Inv X pins σ H s → RelV v u → t v σ H Q →
  wpAny (model X.prog X.w) X.A (assign target X.env u) (fun _ s'=>∃ σ' H',Inv X pins σ' H' s' ∧ Q σ' H') X.xe s

noncomputable def PGs (X : Cx) (ts : List Expr) (t : TGs) : Prop :=
 ∀ (pins : List (Addr × Obj)) (s : Shared) (σ : St) (H : Hp) (vs : List V) (us : List Value) (Q : St → Hp → Prop),Inv X pins σ H s → Vals vs us → t vs σ H Q →
  wpAny (model X.prog X.w) X.A (assignInOrder ((assignEach ts X.env).map (·.2)) us) (fun _ s'=>∃ σ' H',Inv X pins σ' H' s' ∧ Q σ' H') X.xe s

noncomputable abbrev TSet:=V → V → V → Hp → (Hp → Prop) → Prop
noncomputable def PSet (X : Cx) (t : TSet) : Prop :=
 ∀ (pins : List (Addr × Obj)) (s : Shared) (σ : St) (H : Hp) (o i v : V) (ov iv u : Value) (Q : Hp → Prop),Inv X pins σ H s → RelV o ov → RelV i iv → RelV v u → t o i v H Q →
  wpAny (model X.prog X.w) X.A (setItem ov iv u) (fun _ s'=>∃ H',Inv X pins σ H' s' ∧ Q H') X.xe s
section
variable {X : Cx} {pos : Pos}
noncomputable def gName (i : Nat) : TG:=fun v σ H Q=>Q (σ.set i (some v)) H
theorem zdN {i : Nat} {x : Str} (hN : X.N.Nodup) (hi : X.N[i]? = some x) (hx : Loc X.env.scope x) (hf : X.fn x = true ∨ X.env.scope.names.lookup x = some .local:=by first | exact .inl rfl | exact .inr rfl | assumption) : PG X (.Name x pos) (gName i):=by
 intro pins s σ H v u Q I r h
 exact wpAny_assign_Name (zec I hN hi hx r (fun s' I'=>⟨_,H,I',h⟩) hf)
noncomputable def gNil : TGs:=fun vs σ H Q=>vs = [] ∧ Q σ H
noncomputable def gCons (t : TG) (u : TGs) : TGs:=fun vs σ H Q=>∃ v r,vs = v :: r ∧ t v σ H fun σ' H'=>u r σ' H' Q
theorem zlN : PGs X [] gNil:=by
 intro pins s σ H vs us Q I r h
 obtain ⟨e,h⟩:=h
 subst e
 cases r
 exact assignInOrder_nil ⟨σ,H,I,h⟩
theorem zee {e : Expr} {es : List Expr} {t : TG} {u : TGs} (h1 : PG X e t) (h2 : PGs X es u)
  (hs : (assignEach (e :: es) X.env).map (·.2) = assign e X.env :: (assignEach es X.env).map (·.2):=by rfl) : PGs X (e :: es) (gCons t u):=by
 intro pins s σ H vs us Q I r h
 obtain ⟨v,vr,e1,h⟩:=h
 subst e1
 cases r with
 | cons r rr =>
  rw [hs]
  refine assignInOrder_cons (thn (h1 pins s σ H _ _ _ I r h) fun _ s1 hP10=>?_)
  obtain ⟨σ1,H1,I1,q1⟩:=hP10
  exact h2 pins s1 σ1 H1 _ _ Q I1 rr q1

noncomputable def gTup (K : PySem.W.Frag) (n : Nat) (t : TGs) : TG:=fun v σ H Q=>∃ a xs,v = .ref a ∧ SqT K H a xs ∧ xs.length = n ∧ t xs σ H Q
theorem znp {es : List Expr} {k : Nat} {t : TGs} {n : Nat} (hc : X.calm = true) (h : PGs X es t)
  (hn : (assignEach es X.env).length = n:=by rfl) (hst : (assignEach es X.env).findIdx? (·.1) = none:=by rfl) : PG X (.Tuple es k pos) (gTup X.K n t):=by
 intro pins s σ H v u Q I r hw
 obtain ⟨a,xs,e1,hq,hl,hw⟩:=hw
 subst e1
 cases r
 obtain ⟨its,rv,ht,hz⟩:=I.tuple hq
 refine assign_Tuple_tuple (I.ok.hd hc) ht (by simp [hn,← hl,rv.length]) hst fun h' hx=>?_
 have I1 : Inv X pins σ H { s with heap:=h' }:=I.kept (t':=s.toks) fun b o e=>hx b o (Nat.ne_of_lt (Heap.lt_size e)) e
 exact h pins _ σ H xs _ Q I1 (by simpa using rv) hw

noncomputable def gSub (to ti : TE) (t : TSet) : TG:=fun v σ H Q=>to σ H fun o H1=>ti σ H1 fun i H2=>t o i v H2 fun H3=>Q σ H3
theorem znq {o i : Expr} {to ti : TE} {t : TSet} (ho : PE X o to) (hi : PE X i ti) (hs : PSet X t)
  (ha : ∀ v,assign (.Subscript o i pos) X.env v = (do
   let ov ← holding [v] (eval o X.env)
   let iv ← holding [v,ov] (eval i X.env)
   standAt pos
   holding [v,ov,iv] (setItem ov iv v)
   release [v,ov,iv] []):=by ac_rfl) : PG X (.Subscript o i pos) (gSub to ti t):=by
 intro pins s σ H v u Q I r h
 rw [ha]
 refine wpAny_bind (wpAny_holding (thn (ho pins s σ H _ I h) fun ov s1 hP11=>?_))
 obtain ⟨x,H1,I1,r1,q1⟩:=hP11
 refine wpAny_bind (wpAny_holding (thn (hi pins s1 σ H1 _ I1 q1) fun iv s2 hP12=>?_))
 obtain ⟨y,H2,I2,r2,q2⟩:=hP12
 refine wpAny_bind (wpAny_standAt (wpAny_bind (wpAny_holding (thn (hs pins s2 σ H2 x y v ov iv u _ I2 r1 r2 r q2) fun _ s3 hP13=>?_))))
 obtain ⟨H3,I3,q3⟩:=hP13
 exact wpAny_release ⟨σ,H3,I3,q3⟩

noncomputable def tAsg (te : TE) (g : TG) : TS:=fun D σ H=>te σ H fun x H1=>g x σ H1 D.nx
theorem zja {tg e : Expr} {te : TE} {g : TG} (he : PE X e te) (hg : PG X tg g) (hs : swapsWithSole [tg] e pos.line X.env = pure false:=by rfl) (hw : swappedStores [tg] e X.env = pure none:=by rfl)
  (h1 : (assignEach [tg] X.env).map (·.2) = [assign tg X.env]:=by rfl) : PS X (.Assign [tg] e pos) (tAsg te g):=by
 intro pins s σ H D I h
 refine wpAny_Assign_stores (thn (he pins s σ H _ I h) fun v s1 hP14=>?_) hs hw
 obtain ⟨x,H1,I1,r1,q1⟩:=hP14
 rw [h1]
 exact thn (hg pins s1 σ H1 x v _ I1 r1 q1) fun _ s2 q=>q

theorem zdt {i : Nat} {x : Str} {e : Expr} {te : TE} {pos' : Pos} (hN : X.N.Nodup) (hi : X.N[i]? = some x) (hx : Loc X.env.scope x) (he : PE X e te) (hs : swapsWith e (some (.Name x pos')) pos.line X.env = pure false:=by rfl) (hf : X.fn x = true ∨ X.env.scope.names.lookup x = some .local:=by first | exact .inl rfl | exact .inr rfl | assumption) :
  PS X (.Assign [.Name x pos'] e pos) (tAsg te (gName i)):=by
 intro pins s σ H D I h
 refine wpAny_Assign_Name (thn (he pins s σ H _ I h) fun v s1 hP15=>?_) hs
 obtain ⟨y,H1,I1,r1,q1⟩:=hP15
 exact zec I1 hN hi hx r1 (fun s2 I2=>⟨_,H1,I2,q1⟩) hf
end

section
variable {X : Cx} {pos : Pos}

noncomputable def znr (c : TT) (tb : TS) : TS:=fun D σ H=>∃ W : Nat → St → Hp → Prop,(∃ m,W m σ H) ∧ ∀ m σ H,W m σ H →
 c σ H fun b H1=>if b = true then ∃ N : St → Hp → Prop,(∀ σ' H',N σ' H' → ∃ m',m' < m ∧ W m' σ' H') ∧ tb { D with nx:=N,ct:=N,bk:=D.nx } σ H1 else D.nx σ H1
theorem zkD {c : Expr} {body : List Stmt} {tc : TT} {tb : TS} (hp : PassesOwn (model X.prog X.w) X.A X.env X.xe) (hc : PT X c tc) (hb : PSs X body tb) : PS X (.While c body [] pos) (znr tc tb):=by
 intro pins s σ H D I h
 obtain ⟨W,⟨m0,w0⟩,turn⟩:=h
 refine wpAny_While (codeAny_whileLoop (fun n s'=>∃ σ' H',Inv X pins σ' H' s' ∧ W n σ' H') ?_ m0 ⟨σ,H,I,w0⟩)
 rintro n s1 ⟨σ1,H1,I1,w1⟩
 refine wpAny_passesOwn hp (thn (hc pins s1 σ1 H1 _ I1 (turn n σ1 H1 w1)) fun b s2 hP16=>?_)
 obtain ⟨H2,I2,q2⟩:=hP16
 cases b with
 | true =>
  obtain ⟨N,hN,q2⟩:=q2
  rw [if_pos rfl]
  refine wpAny_passesOwn hp (thn (hb pins s2 σ1 H2 _ I2 q2) fun f s3 q3=>?_)
  cases f with
  | next =>
   obtain ⟨σ3,H3,I3,n3⟩:=q3
   obtain ⟨m',hm,w3⟩:=hN σ3 H3 n3
   exact ⟨m',hm,σ3,H3,I3,w3⟩
  | cont =>
   obtain ⟨σ3,H3,I3,n3⟩:=q3
   obtain ⟨m',hm,w3⟩:=hN σ3 H3 n3
   exact ⟨m',hm,σ3,H3,I3,w3⟩
  | brk=>exact q3
  | ret v=>exact q3
 | false =>
  rw [if_neg Bool.false_ne_true]
  exact wpAny_execs_nil ⟨σ1,H2,I2,q2⟩
end

set_option genInjectivity false in
structure It where
 go : Nat → Hp → Prop
 yld : Nat → Hp → V → Hp → Prop
 stop : Nat → Hp → Prop

noncomputable def FpOk (X : Cx) (pins : List (Addr × Obj)) (H : Hp) (b : Addr) : Prop :=
 H b = none ∧ b ≠ X.env.locals ∧ b ∉ X.fs ∧ (b ∈ X.ex ∨ X.s₀.heap.objs.size ≤ b) ∧ (∀ x c,X.env.cells.lookup x = some c → c ≠ b) ∧ ∀ p ∈ X.pn ++ pins,p.1 ≠ b
theorem Inv.fpOk {X : Cx} {pins : List (Addr × Obj)} {σ : St} {H H' : Hp} {s : Shared} {b : Addr} (I : Inv X pins σ H s) (hb : s.heap.objs.size ≤ b) (hn : H' b = none) : FpOk X pins H' b:=by
 refine ⟨hn,Nat.ne_of_gt (Nat.lt_of_lt_of_le I.lt hb),I.nofs hb,.inr (Nat.le_trans I.sz hb),fun x c e z=>?_,fun p hp z=>?_⟩
 ·obtain ⟨v,q⟩:=I.cell x c e
  exact absurd (Nat.lt_of_lt_of_le q.lt (by rw [z]; exact hb)) (Nat.lt_irrefl _)
 ·exact absurd (Nat.lt_of_lt_of_le (Heap.lt_size (I.pin p hp).1) (by rw [z]; exact hb)) (Nat.lt_irrefl _)
structure Turn (P : Program) (w : World) (K : PySem.W.Frag) (tg : Expr) (J : It) (fp : List Addr) (it : Addr) (tn : Nat → Heap → Prop) : Prop where
 mem : it ∈ fp
 obj : ∀ i h,tn i h → ∀ b ∈ fp,∃ o,h.get? b = some o ∧ ∀ v,o.data ≠ .cell v
 keep : ∀ i h h',tn i h → (∀ b ∈ fp,∀ o,h.get? b = some o → h'.get? b = some o) → tn i h'
 item : ∀ (X : Cx),X.prog = P → X.w = w → X.K = K → X.calm = true → ∀ (i : Nat) (pins : List (Addr × Obj)) (s : Shared) (σ : St) (H : Hp) (E : Value → Shared → Prop),Inv X pins σ H s → (∀ b ∈ fp,FpOk X pins H b) → tn i s.heap → J.go i H →
  wpAny (model P w) X.A (pyNext (.ref it)) (fun r s1=>∃ u,r = some u ∧
   wpAny (model P w) X.A (letOwnedTupleGo tg (.ref it) u) (fun _ s2=>∃ x H',Inv X pins σ H' s2 ∧ RelV x u ∧ J.yld i H x H' ∧ tn (i + 1) s2.heap ∧ ∀ b ∈ fp,H' b = none) E s1) E s
 done : ∀ (X : Cx),X.prog = P → X.w = w → X.K = K → X.calm = true → ∀ (i : Nat) (pins : List (Addr × Obj)) (s : Shared) (σ : St) (H : Hp) (E : Value → Shared → Prop),Inv X pins σ H s → (∀ b ∈ fp,FpOk X pins H b) → tn i s.heap → J.stop i H →
  wpAny (model P w) X.A (pyNext (.ref it)) (fun r s1=>r = none ∧ Inv X pins σ H s1) E s
 self : ∀ (A : Around) (i : Nat) (s : Shared) (Q : Value → Shared → Prop) (E : Value → Shared → Prop),tn i s.heap → Q (.ref it) s → wpAny (model P w) A (pyIter (.ref it)) Q E s
noncomputable abbrev TI:=St → Hp → (It → Hp → Prop) → Prop

noncomputable def PIE (X : Cx) (pins : List (Addr × Obj)) (σ : St) (tg : Expr) (R : It → Hp → Prop) (itv : Value) (s2 : Shared) : Prop :=
 ∃ (it : Addr) (fp : List Addr) (tn : Nat → Heap → Prop) (J : It) (H' : Hp),itv = .ref it ∧ Inv X pins σ H' s2 ∧ Turn X.prog X.w X.K tg J fp it tn ∧ tn 0 s2.heap ∧ (∀ b ∈ fp,FpOk X pins H' b) ∧ R J H'
noncomputable def PI (X : Cx) (tg iter : Expr) (wi : TI) : Prop :=
 ∀ (pins : List (Addr × Obj)) (s : Shared) (σ : St) (H : Hp) (R : It → Hp → Prop),Inv X pins σ H s → wi σ H R →
  wpAny (model X.prog X.w) X.A (eval iter X.env) (fun v s1=>wpAny (model X.prog X.w) X.A (pyIter v) (PIE X pins σ tg R) X.xe s1) X.xe s

theorem go_of {M : Model} {A : Around} {E : Value → Shared → Prop} {s : Shared} {tg : Expr} {it : Addr} {u : Value} {o : Obj} {n : String} {vs : Array Value} {Q : Unit → Shared → Prop} (ho : s.heap.get? it = some o) (hc : o.cls = .type n) (hd : o.data = .fields vs)
  (hn : ["enumerate","zip","dict_itemiterator","dict_reverseitemiterator","odict_iterator","itertools.zip_longest","itertools.pairwise"].contains n = false) (hQ : Q () s) : wpAny M A (letOwnedTupleGo tg (.ref it) u) Q E s:=by
 unfold letOwnedTupleGo
 cases tg <;> first
  | exact wpAny_pure hQ
  | (cases u <;> first
    | exact wpAny_pure hQ
    | (refine wpAny_bind (wpAny_load ho ?_)
       rw [hc,hd]
       show wpAny M A (if (["enumerate","zip","dict_itemiterator","dict_reverseitemiterator","odict_iterator","itertools.zip_longest","itertools.pairwise"].contains n && vs[0]? == some (rawInt _)) = true then _ else _) Q E s
       rw [if_neg (by intro h; rw [hn,Bool.false_and] at h; cases h)]
       exact wpAny_pure hQ))

noncomputable def Itl (K : PySem.W.Frag) (a : Addr) : It :=
 ⟨fun i H=>∃ xs x,SqL K H a xs ∧ xs[i]? = some x,fun i H x H'=>H' = H ∧ ∀ xs,SqL K H a xs → xs[i]? = some x,fun i H=>∃ xs,SqL K H a xs ∧ xs.length ≤ i⟩
noncomputable def Itt (K : PySem.W.Frag) (a : Addr) : It :=
 ⟨fun i H=>∃ xs x,SqT K H a xs ∧ xs[i]? = some x,fun i H x H'=>H' = H ∧ ∀ xs,SqT K H a xs → xs[i]? = some x,fun i H=>∃ xs,SqT K H a xs ∧ xs.length ≤ i⟩

noncomputable def Itr (lo : Int) (n : Nat) : It:=⟨fun i _=>i < n,fun i H x H'=>H' = H ∧ x = .int (lo + i),fun i _=>n ≤ i⟩
theorem zjb {P : Program} {w : World} {K : PySem.W.Frag} {tg : Expr} (a it : Addr) : Turn P w K tg (Itl K a) [it] it (fun i h=>h.IsListIter it a i) where
 mem:=by simp
 obj:=fun i h st b hb=>by
  have e : b = it:=by simpa using hb
  subst e
  obtain ⟨o,e,c,d⟩:=st
  exact ⟨o,e,fun v z=>by rw [d] at z; cases z⟩
 keep:=fun i h h' st k=>st.at fun o e=>k it (by simp) o e
 item:=by
  intro X hP hw hK hc i pins s σ H E I hf st hg
  subst hP hw hK
  obtain ⟨xs,x,hq,hx⟩:=hg
  obtain ⟨its,rv,p,hz⟩:=I.list hq
  obtain ⟨u,hu,ru⟩:=rv.get hx
  obtain ⟨f0,f1,f2,f3,f4,f5⟩:=hf it (by simp)
  refine wpAny_pyNext_list_item st p.isList (x:=u) (by simpa using hu) fun h' st' sb=>?_
  have I1 : Inv X pins σ H { s with heap:=h' }:=I.turned (t':=s.toks) (fun b o hb e=>(sb.2 b hb).trans e) f0 f1 f3 f4 f5
  obtain ⟨o,e,c,d⟩:=id st'
  exact ⟨u,rfl,go_of (s:={ s with heap:=h' }) e c d (by decide) ⟨x,H,I1,ru,⟨rfl,fun ys hy=>by rw [I.list_inj hy hq]; exact hx⟩,st',fun b hb=>(hf b hb).1⟩⟩
 done:=by
  intro X hP hw hK hc i pins s σ H E I hf st hg
  subst hP hw hK
  obtain ⟨xs,hq,hx⟩:=hg
  obtain ⟨its,rv,p,hz⟩:=I.list hq
  obtain ⟨f0,f1,f2,f3,f4,f5⟩:=hf it (by simp)
  have hl:=rv.length
  exact wpAny_pyNext_list_end (I.ok.hd hc) st p.isList (by simp; omega) fun h' eb=>⟨rfl,I.turned (t':=s.toks) (fun b o hb e=>eb b o hb e) f0 f1 f3 f4 f5⟩
 self:=fun _ _ _ _ _ st h=>wpAny_pyIter_listiter st h
theorem ziw {P : Program} {w : World} {K : PySem.W.Frag} {tg : Expr} (a it : Addr) : Turn P w K tg (Itt K a) [it] it (fun i h=>h.IsTupleIter it a i) where
 mem:=by simp
 obj:=fun i h st b hb=>by
  have e : b = it:=by simpa using hb
  subst e
  obtain ⟨o,e,c,d⟩:=st
  exact ⟨o,e,fun v z=>by rw [d] at z; cases z⟩
 keep:=fun i h h' st k=>st.at fun o e=>k it (by simp) o e
 item:=by
  intro X hP hw hK hc i pins s σ H E I hf st hg
  subst hP hw hK
  obtain ⟨xs,x,hq,hx⟩:=hg
  obtain ⟨its,rv,p,hz⟩:=I.tuple hq
  obtain ⟨u,hu,ru⟩:=rv.get hx
  obtain ⟨f0,f1,f2,f3,f4,f5⟩:=hf it (by simp)
  refine wpAny_pyNext_tuple_item st (show s.heap.IsTuple a its.toArray from p) (x:=u) (by simpa using hu) fun h' st' sb=>?_
  have I1 : Inv X pins σ H { s with heap:=h' }:=I.turned (t':=s.toks) (fun b o hb e=>(sb.2 b hb).trans e) f0 f1 f3 f4 f5
  obtain ⟨o,e,c,d⟩:=id st'
  exact ⟨u,rfl,go_of (s:={ s with heap:=h' }) e c d (by decide) ⟨x,H,I1,ru,⟨rfl,fun ys hy=>by rw [I.tuple_inj hy hq]; exact hx⟩,st',fun b hb=>(hf b hb).1⟩⟩
 done:=by
  intro X hP hw hK hc i pins s σ H E I hf st hg
  subst hP hw hK
  obtain ⟨xs,hq,hx⟩:=hg
  obtain ⟨its,rv,p,hz⟩:=I.tuple hq
  obtain ⟨f0,f1,f2,f3,f4,f5⟩:=hf it (by simp)
  have hl:=rv.length
  exact wpAny_pyNext_tuple_end (I.ok.hd hc) st (show s.heap.IsTuple a its.toArray from p) (by simp; omega) fun h' eb=>⟨rfl,I.turned (t':=s.toks) (fun b o hb e=>eb b o hb e) f0 f1 f3 f4 f5⟩
 self:=fun _ _ _ _ _ st h=>wpAny_pyIter_tupleiter st h
theorem zix {P : Program} {w : World} {K : PySem.W.Frag} {tg : Expr} (it : Addr) (lo : Int) (n : Nat) : Turn P w K tg (Itr lo n) [it] it (fun i h=>IsRangeIter h it (lo + (i : Nat) * 1) ((n : Int) - (i : Nat)) 1) where
 mem:=by simp
 obj:=fun i h st b hb=>by
  have e : b = it:=by simpa using hb
  subst e
  exact ⟨_,st,fun v z=>by
   have z' : Data.fields _ = Data.cell v:=z
   cases z'⟩
 keep:=fun i h h' st k=>k it (by simp) _ st
 item:=by
  intro X hP hw hK hc i pins s σ H E I hf st hg
  subst hP hw hK
  obtain ⟨f0,f1,f2,f3,f4,f5⟩:=hf it (by simp)
  have W:=Walks.range (prog:=X.prog) (w:=X.w) (I.ok.hd hc) it lo 1 n
  refine W.item i s _ _ hg st fun v h' tk hv st' kk=>?_
  obtain ⟨t,rfl⟩:=hv
  have I1 : Inv X pins σ H { s with heap:=h',toks:=tk }:=I.turned (fun b o hb e=>kk b o (by simpa using hb) e) f0 f1 f3 f4 f5
  refine ⟨_,rfl,go_of (s:={ s with heap:=h',toks:=tk }) (n:="range_iterator") st' rfl rfl (by decide) ⟨.int (lo + i),H,I1,⟨t,?_⟩,⟨rfl,rfl⟩,st',fun b hb=>(hf b hb).1⟩⟩
  rw [Int.mul_one]
 done:=by
  intro X hP hw hK hc i pins s σ H E I hf st hg
  subst hP hw hK
  obtain ⟨f0,f1,f2,f3,f4,f5⟩:=hf it (by simp)
  exact wpAny_pyNext_range_end (I.ok.hd hc) st (by have : n ≤ i:=hg; omega) fun h' eb=>⟨rfl,I.turned (t':=s.toks) (fun b o hb e=>eb b o hb e) f0 f1 f3 f4 f5⟩
 self:=fun _ _ _ _ _ st h=>wpAny_pyIter_rangeiter st h
end Internal.L2

namespace Internal.L2
open PySem PySem.Spec PyProof.Rows
section
variable {X : Cx} {tg : Expr}
noncomputable def iList (K : PySem.W.Frag) (tl : TE) : TI:=fun σ H R=>tl σ H fun x H1=>∃ a,x = .ref a ∧ (∃ xs,SqL K H1 a xs) ∧ R (Itl K a) H1
noncomputable def iTup (K : PySem.W.Frag) (tl : TE) : TI:=fun σ H R=>tl σ H fun x H1=>∃ a,x = .ref a ∧ (∃ xs,SqT K H1 a xs) ∧ R (Itt K a) H1
theorem zlO {l : Expr} {tl : TE} (hl : PE X l tl) : PI X tg l (iList X.K tl):=by
 intro pins s σ H R I h
 refine thn (hl pins s σ H _ I h) fun v s1 hP17=>?_
 obtain ⟨x,H1,I1,r1,q1⟩:=hP17
 obtain ⟨a,e,⟨xs,hq⟩,q⟩:=q1
 subst e
 cases r1
 obtain ⟨its,rv,p,hz⟩:=I1.list hq
 refine wpAny_pyIter_list p.isList ?_
 refine ⟨s1.heap.objs.size,[s1.heap.objs.size],_,_,H1,rfl,I1.kept (t':=s1.toks) fun b o e=>Heap.get?_push_of_some _ e,zjb a _,⟨_,Heap.get?_push_size _ rfl,rfl,rfl⟩,fun b hb=>?_,q⟩
 have e : b = s1.heap.objs.size:=by simpa using hb
 subst e
 exact I1.fpOk (Nat.le_refl _) (I1.hok.fresh (Nat.le_refl _))
theorem zns {l : Expr} {tl : TE} (hl : PE X l tl) : PI X tg l (iTup X.K tl):=by
 intro pins s σ H R I h
 refine thn (hl pins s σ H _ I h) fun v s1 hP18=>?_
 obtain ⟨x,H1,I1,r1,q1⟩:=hP18
 obtain ⟨a,e,⟨xs,hq⟩,q⟩:=q1
 subst e
 cases r1
 obtain ⟨its,rv,p,hz⟩:=I1.tuple hq
 refine wpAny_pyIter_tuple (show s1.heap.IsTuple a its.toArray from p) ?_
 refine ⟨s1.heap.objs.size,[s1.heap.objs.size],_,_,H1,rfl,I1.kept (t':=s1.toks) fun b o e=>Heap.get?_push_of_some _ e,ziw a _,⟨_,Heap.get?_push_size _ rfl,rfl,rfl⟩,fun b hb=>?_,q⟩
 have e : b = s1.heap.objs.size:=by simpa using hb
 subst e
 exact I1.fpOk (Nat.le_refl _) (I1.hok.fresh (Nat.le_refl _))

theorem zkE {pins : List (Addr × Obj)} {σ : St} {H : Hp} {s : Shared} {R : It → Hp → Prop} {E : Value → Shared → Prop} {lo hi : Int} {t u v : Tok} {tk : Nat} (I : Inv X pins σ H s) (h1 : -(2 ^ 62) ≤ lo) (h2 : lo < 2 ^ 62) (h3 : -(2 ^ 62) ≤ hi) (h4 : hi < 2 ^ 62)
  (q : R (Itr lo (hi - lo).toNat) H) : wpAny (model X.prog X.w) X.A (pyIter (.ref s.heap.objs.size)) (PIE X pins σ tg R) E { s with heap:=s.heap.push { cls:=.type "range",data:=.fields #[.int lo t,.int hi u,.int 1 v] },toks:=tk }:=by
 refine wpAny_pyIter_range (IsRange.new ..) (small_one h1 h2 h3 h4) ?_
 have I1 : Inv X pins σ H { s with heap:=s.heap.push { cls:=.type "range",data:=.fields #[.int lo t,.int hi u,.int 1 v] },toks:=tk }:=I.kept fun b o e=>Heap.get?_push_of_some _ e
 refine ⟨(s.heap.push { cls:=.type "range",data:=.fields #[.int lo t,.int hi u,.int 1 v] }).objs.size,[(s.heap.push { cls:=.type "range",data:=.fields #[.int lo t,.int hi u,.int 1 v] }).objs.size],_,_,H,rfl,
  I1.kept (t':=tk) fun b o e=>Heap.get?_push_of_some _ e,zix _ lo (hi - lo).toNat,?_,fun b hb=>?_,q⟩
 ·have e1 : lo + ((0 : Nat) : Int) * 1 = lo:=by simp
  have e2 : (((hi - lo).toNat : Nat) : Int) - ((0 : Nat) : Int) = Builtin.Range.rangeSize lo hi 1:=by rw [rangeSize_one]; split <;> omega
  show IsRangeIter _ _ (lo + ((0 : Nat) : Int) * 1) ((((hi - lo).toNat : Nat) : Int) - ((0 : Nat) : Int)) 1
  rw [e1,e2]
  exact Heap.get?_push_size _ rfl
 ·have e : b = (s.heap.push { cls:=.type "range",data:=.fields #[.int lo t,.int hi u,.int 1 v] }).objs.size:=by simpa using hb
  subst e
  exact I1.fpOk (Nat.le_refl _) (I1.hok.fresh (Nat.le_refl _))
noncomputable def iRng1 (ta : TA) : TI:=fun σ H R=>ta σ H fun vs H1=>∃ j : Int,vs = [.int j] ∧ -(2 ^ 62) ≤ j ∧ j < 2 ^ 62 ∧ R (Itr 0 j.toNat) H1
theorem zjc {a : Expr} {ta : TA} {p pos : Pos} (hg : Gl X "range") (hm : X.mg "range" = none) (ha : PA X [a] ta) (hs : starEach [a] X.env = [(false,eval a X.env)]:=by rfl) : PI X tg (.Call (.Name "range" p) [a] [] pos) (iRng1 ta):=by
 intro pins s σ H R I h
 refine Call_ (zbl I hg hm boot_range (PyProof.Rows.callWith_type1 (thn (ha pos pins s σ H _ I h) fun us s1 hP19=>?_) hs rfl))
 obtain ⟨vs,H1,I1,r1,q1⟩:=hP19
 obtain ⟨j,e,q1,q2,q⟩:=q1
 subst e
 cases r1 with
 | cons r rr =>
  cases rr
  obtain ⟨t,rfl⟩:=r
  exact call_range_1 (zkE I1 (by omega) (by omega) q1 q2 (by simpa using q))

noncomputable def tFor (wi : TI) (g : TG) (tb : TS) : TS:=fun D σ H=>wi σ H fun J H1=>∃ W : Nat → Nat → St → Hp → Prop,(∃ m,W 0 m σ H1) ∧ ∀ i m σ H,W i m σ H →
 (J.stop i H ∧ D.nx σ H) ∨ (J.go i H ∧ ∃ N : St → Hp → Prop,(∀ σ' H',N σ' H' → ∃ m',m' < m ∧ W (i + 1) m' σ' H') ∧ ∀ x H',J.yld i H x H' → g x σ H' fun σ2 H2=>tb { D with nx:=N,ct:=N,bk:=D.nx } σ2 H2)

noncomputable def zdu (fp : List Addr) (h : Heap) : List (Addr × Obj):=fp.filterMap fun b=>(h.get? b).map fun o=>(b,o)
theorem zcg {fp : List Addr} {h : Heap} {b : Addr} {o : Obj} (hb : b ∈ fp) (e : h.get? b = some o) : (b,o) ∈ zdu fp h:=List.mem_filterMap.mpr ⟨b,hb,by rw [e]; rfl⟩
theorem zjd {fp : List Addr} {h : Heap} {p : Addr × Obj} (hp : p ∈ zdu fp h) : p.1 ∈ fp ∧ h.get? p.1 = some p.2:=by
 obtain ⟨b,hb,e⟩:=List.mem_filterMap.mp hp
 cases q : h.get? b with
 | none=>rw [q] at e; cases e
 | some o =>
  rw [q] at e
  have e' : (b,o) = p:=Option.some.inj e
  subst e'
  exact ⟨hb,q⟩
theorem Inv.pinned {pins : List (Addr × Obj)} {σ : St} {H : Hp} {s : Shared} {fp : List Addr} (I : Inv X pins σ H s) (hf : ∀ b ∈ fp,FpOk X pins H b) (ho : ∀ b ∈ fp,∃ o,s.heap.get? b = some o ∧ ∀ v,o.data ≠ .cell v) : Inv X (pins ++ zdu fp s.heap) σ H s :=
 I.pins_of fun p hp=>(List.mem_append.mp hp).elim (fun z=>I.pin p (List.mem_append_right _ z)) fun z=>by
  obtain ⟨hb,e⟩:=zjd z
  obtain ⟨f0,f1,f2,_⟩:=hf p.1 hb
  obtain ⟨o,e',d⟩:=ho p.1 hb
  rw [e] at e'; cases e'
  exact ⟨e,f0,f1,f2,d⟩
theorem Inv.unpinned {pins pl : List (Addr × Obj)} {σ : St} {H : Hp} {s : Shared} (I : Inv X (pins ++ pl) σ H s) : Inv X pins σ H s:=I.pins_of fun p hp=>I.pin p (List.mem_append_right _ (List.mem_append_left _ hp))
theorem zje {iter : Expr} {body : List Stmt} {wi : TI} {g : TG} {tb : TS} {pos : Pos} (hp : PassesOwn (model X.prog X.w) X.A X.env X.xe) (hc : X.calm = true) (hi : PI X tg iter wi) (hg : PG X tg g) (hb : PSs X body tb)
  (hs : ∀ x,foldedSetIterable iter X.env x = pure x:=by ac_rfl) : PS X (.For tg iter body [] pos) (tFor wi g tb):=by
 intro pins s σ H D I h
 refine wpAny_For (thn (hi pins s σ H _ I h) fun v s1 h1=>thn h1 fun itv s2 h2=>?_) hs
 obtain ⟨it,fp,tn,J,H2,e,I2,T,st2,f2,W,⟨m0,w0⟩,turn⟩:=h2
 subst e
 -- what stays true of the iterator's objects through the loop
 have stat : ∀ {H' : Hp},(∀ b ∈ fp,H' b = none) → ∀ b ∈ fp,FpOk X pins H' b:=fun hn b hb=>⟨hn b hb,(f2 b hb).2⟩
 refine codeAny_forLoop_any (fun n s'=>∃ i σ' H',Inv X pins σ' H' s' ∧ tn i s'.heap ∧ (∀ b ∈ fp,H' b = none) ∧ W i n σ' H') ?_ m0 ⟨0,σ,H2,I2,st2,fun b hb=>(f2 b hb).1,w0⟩
 rintro n s3 ⟨i,σ3,H3,I3,st3,fr3,w3⟩
 rcases turn i n σ3 H3 w3 with ⟨stop,qn⟩ | ⟨go,N,hN,step⟩
 ·refine wpAny_passesOwn hp (thn (T.done X rfl rfl rfl hc i pins s3 σ3 H3 X.xe I3 (stat fr3) st3 stop) fun r s4 hP20=>?_)
  obtain ⟨hr,I4⟩:=hP20
  subst hr
  exact wpAny_execs_nil ⟨σ3,H3,I4,qn⟩
 ·refine wpAny_passesOwn hp (thn (T.item X rfl rfl rfl hc i pins s3 σ3 H3 X.xe I3 (stat fr3) st3 go) fun r s4 hP21=>?_)
  obtain ⟨u,hr,h4⟩:=hP21
  subst hr
  refine wpAny_passesOwn hp (thn h4 fun _ s5 hP22=>?_)
  obtain ⟨x,H5,I5,r5,y5,st5,fr5⟩:=hP22
  have I5':=I5.pinned (stat fr5) (T.obj _ _ st5)
  refine wpAny_passesOwn hp (thn (hg _ s5 σ3 H5 x u _ I5' r5 (step x H5 y5)) fun _ s6 hP23=>?_)
  obtain ⟨σ6,H6,I6,q6⟩:=hP23
  refine wpAny_passesOwn hp (thn (hb _ s6 σ6 H6 _ I6 q6) fun f s7 q7=>?_)
  have again : ∀ {σ7 : St} {H7 : Hp},Inv X (pins ++ zdu fp s5.heap) σ7 H7 s7 → N σ7 H7 → ∃ m,m < n ∧ ∃ i σ' H',Inv X pins σ' H' s7 ∧ tn i s7.heap ∧ (∀ b ∈ fp,H' b = none) ∧ W i m σ' H':=fun {σ7 H7} I7 n7=>by
   obtain ⟨m',hm,w7⟩:=hN σ7 H7 n7
   refine ⟨m',hm,i + 1,σ7,H7,I7.unpinned,T.keep _ _ _ st5 fun b hb o e=>(I7.pin (b,o) (List.mem_append_right _ (List.mem_append_right _ (zcg hb e)))).1,fun b hb=>?_,w7⟩
   obtain ⟨o,e,d⟩:=T.obj _ _ st5 b hb
   exact (I7.pin (b,o) (List.mem_append_right _ (List.mem_append_right _ (zcg hb e)))).2.1
  cases f with
  | next=>obtain ⟨σ7,H7,I7,n7⟩:=q7; exact again I7 n7
  | cont=>obtain ⟨σ7,H7,I7,n7⟩:=q7; exact again I7 n7
  | brk=>obtain ⟨σ7,H7,I7,q7⟩:=q7; exact ⟨σ7,H7,I7.unpinned,q7⟩
  | ret v=>obtain ⟨x7,σ7,H7,I7,r7,q7⟩:=q7; exact ⟨x7,σ7,H7,I7.unpinned,r7,q7⟩
end

end Internal.L2

namespace Internal.L2
open PySem PySem.Spec PyProof.Rows

noncomputable abbrev R2:=V → V → Hp → VK → Prop

noncomputable def OpR (X : Cx) (f : Value → Value → Sem Value) (r : R2) : Prop :=
 ∀ (pins : List (Addr × Obj)) (s : Shared) (σ : St) (H : Hp) (x y : V) (v u : Value) (Q : VK),Inv X pins σ H s → RelV x v → RelV y u → r x y H Q →
  wpAny (model X.prog X.w) X.A (f v u) (EP X pins σ Q) X.xe s

noncomputable def UnR (X : Cx) (f : Value → Sem Value) (r : V → Hp → VK → Prop) : Prop :=
 ∀ (pins : List (Addr × Obj)) (s : Shared) (σ : St) (H : Hp) (x : V) (v : Value) (Q : VK),Inv X pins σ H s → RelV x v → r x H Q →
  wpAny (model X.prog X.w) X.A (f v) (EP X pins σ Q) X.xe s

noncomputable def CallR (X : Cx) (f : Value) (r : List V → Hp → VK → Prop) : Prop :=
 ∀ (pins : List (Addr × Obj)) (s : Shared) (σ : St) (H : Hp) (xs : List V) (us : List Value) (Q : VK),Inv X pins σ H s → Vals xs us → r xs H Q →
  wpAny (model X.prog X.w) X.A (call f us) (EP X pins σ Q) X.xe s
noncomputable def tOp (r : R2) (ta tb : TE) : TE:=fun σ H Q=>ta σ H fun x H1=>tb σ H1 fun y H2=>r x y H2 Q
noncomputable def tUn (r : V → Hp → VK → Prop) (ta : TE) : TE:=fun σ H Q=>ta σ H fun x H1=>r x H1 Q

noncomputable def rI (C : Int → Int → Prop) (g : Int → Int → V) : R2:=fun x y H Q=>∃ i j,x = .int i ∧ y = .int j ∧ C i j ∧ Q (g i j) H
noncomputable def rI0 (g : Int → Int → V) : R2:=fun x y H Q=>∃ i j,x = .int i ∧ y = .int j ∧ Q (g i j) H
noncomputable def rU (g : Int → V) : V → Hp → VK → Prop:=fun x H Q=>∃ i,x = .int i ∧ Q (g i) H

section
variable {X : Cx} {a b c : Expr} {ta tb tc : TE} {pos : Pos}

theorem binT (ha : PE X a ta) (hb : PE X b tb) {pins : List (Addr × Obj)} {s : Shared} {σ : St} {H : Hp} {R : V → V → Hp → Prop} (I : Inv X pins σ H s)
  (h : ta σ H fun x H1=>tb σ H1 fun y H2=>R x y H2) {Q : Value → Shared → Prop} {f : Value → Value → Sem Value}
  (hf : ∀ v u s2 x y H2,Inv X pins σ H2 s2 → RelV x v → RelV y u → R x y H2 → wpAny (model X.prog X.w) X.A (f v u) Q X.xe s2) :
  wpAny (model X.prog X.w) X.A (eval a X.env) (fun v s₁=>wpAny (model X.prog X.w) X.A (eval b X.env) (fun u s₂=>wpAny (model X.prog X.w) X.A (f v u) Q X.xe s₂) X.xe s₁) X.xe s:=by
 refine thn (ha pins s σ H _ I h) fun v s1 hP24=>?_
 obtain ⟨x,H1,I1,r1,q1⟩:=hP24
 refine thn (hb pins s1 σ H1 _ I1 q1) fun u s2 hP25=>?_
 obtain ⟨y,H2,I2,r2,q2⟩:=hP25
 exact hf v u s2 x y H2 I2 r1 r2 q2

theorem pe_op {op : Operator} {r : R2} (ho : OpR X (binaryOp op) r) (ha : PE X a ta) (hb : PE X b tb) : PE X (.BinOp a op b pos) (tOp r ta tb):=by
 intro pins s σ H Q I h
 exact wpAny_BinOp (binT ha hb I h fun v u s2 x y H2 I2 rx ry q=>ho pins s2 σ H2 x y v u Q I2 rx ry q)
theorem pe_un {op : UnaryOp} {r : V → Hp → VK → Prop} (ho : UnR X (unaryOp op) r) (ha : PE X a ta) : PE X (.UnaryOp op a pos) (tUn r ta):=by
 intro pins s σ H Q I h
 exact UnaryOp_ (thn (ha pins s σ H _ I h) fun v s1 ⟨x,H1,I1,r1,q1⟩=>ho pins s1 σ H1 x v Q I1 r1 q1)

theorem opI {f : Value → Value → Sem Value} {C : Int → Int → Prop} {g : Int → Int → Int}
  (rule : ∀ (i j : Int) (t u : Tok) (s : Shared) (Q : Value → Shared → Prop) (E : Value → Shared → Prop),C i j → Q (.int (g i j) s.toks) { s with toks:=s.toks + 1 } → wpAny (model X.prog X.w) X.A (f (.int i t) (.int j u)) Q E s) :
  OpR X f (rI C fun i j=>.int (g i j)):=by
 intro pins s σ H x y v u Q I rx ry h
 obtain ⟨i,j,rfl,rfl,hc,q⟩:=h
 obtain ⟨t,rfl⟩:=rx
 obtain ⟨t',rfl⟩:=ry
 exact rule i j t t' s _ _ hc ⟨.int (g i j),H,I.tok _,⟨_,rfl⟩,q⟩
theorem opI0 {f : Value → Value → Sem Value} {g : Int → Int → Int}
  (rule : ∀ (i j : Int) (t u : Tok) (s : Shared) (Q : Value → Shared → Prop) (E : Value → Shared → Prop),Q (.int (g i j) s.toks) { s with toks:=s.toks + 1 } → wpAny (model X.prog X.w) X.A (f (.int i t) (.int j u)) Q E s) :
  OpR X f (rI0 fun i j=>.int (g i j)):=by
 intro pins s σ H x y v u Q I rx ry h
 obtain ⟨i,j,rfl,rfl,q⟩:=h
 obtain ⟨t,rfl⟩:=rx
 obtain ⟨t',rfl⟩:=ry
 exact rule i j t t' s _ _ ⟨.int (g i j),H,I.tok _,⟨_,rfl⟩,q⟩
theorem opB0 {f : Value → Value → Sem Value} {g : Int → Int → Bool}
  (rule : ∀ (i j : Int) (t u : Tok) (s : Shared) (Q : Value → Shared → Prop) (E : Value → Shared → Prop),Q (.bool (g i j)) s → wpAny (model X.prog X.w) X.A (f (.int i t) (.int j u)) Q E s) :
  OpR X f (rI0 fun i j=>.bl (g i j)):=by
 intro pins s σ H x y v u Q I rx ry h
 obtain ⟨i,j,rfl,rfl,q⟩:=h
 obtain ⟨t,rfl⟩:=rx
 obtain ⟨t',rfl⟩:=ry
 exact rule i j t t' s _ _ ⟨.bl (g i j),H,I,rfl,q⟩

noncomputable def CDiv (i j : Int) : Prop:=0 < j ∧ j < 1073741824
noncomputable def CPow (i j : Int) : Prop:=0 ≤ j ∧ j ≤ 1000000 ∧ i.natAbs < 2 ^ 64
noncomputable def CMul (i j : Int) : Prop:=(-(2 ^ 64) < i ∧ i < 2 ^ 64) ∨ (-(2 ^ 64) < j ∧ j < 2 ^ 64)
theorem CMul.ok {i j : Int} (h : CMul i j) : IntMulOk i j:=by
 rcases h with ⟨h1,h2⟩ | ⟨h1,h2⟩
 ·exact .of_left (intBits_le_64 h1 h2)
 ·exact .of_right (intBits_le_64 h1 h2)
theorem znt : OpR X (binaryOp .Add) (rI0 fun i j=>.int (i + j)):=opI0 fun _ _ _ _ _ _ _ q=>add_int q
theorem znu : OpR X (binaryOp .Sub) (rI0 fun i j=>.int (i - j)):=opI0 fun _ _ _ _ _ _ _ q=>sub_int q
theorem znv : OpR X (binaryOp .Mult) (rI CMul fun i j=>.int (i * j)):=opI fun _ _ _ _ _ _ _ hc q=>mul_int q hc.ok

theorem zlP : OpR X (binaryOp .FloorDiv) (rI CDiv fun i j=>.int (i / j)):=opI fun i j _ _ _ _ _ hc q=>by
 have h1 : (0 : Int) < j:=hc.1
 have h2 : j < 1073741824:=hc.2
 exact floordiv_int (by omega) (by rw [Int.fdiv_eq_ediv_of_nonneg i (by omega)]; exact q) (.inl (PyProof.noPylong_small (by omega)))

theorem znw : OpR X (binaryOp .Mod) (rI (fun _ j=>0 < j) fun i j=>.int (i % j)):=opI fun i j _ _ _ _ _ hc q=>by
 have h1 : (0 : Int) < j:=hc
 exact mod_int' (by omega) (by rw [Int.fmod_eq_emod_of_nonneg i (by omega)]; exact q)
theorem znx : OpR X (binaryOp .Pow) (rI CPow fun i j=>.int (i ^ j.toNat)):=opI fun _ _ _ _ _ _ _ hc q=>pow_int_small hc.1 hc.2.1 hc.2.2 q
theorem unI {f : Value → Sem Value} {g : Int → Int}
  (rule : ∀ (i : Int) (t : Tok) (s : Shared) (Q : Value → Shared → Prop) (E : Value → Shared → Prop),Q (.int (g i) s.toks) { s with toks:=s.toks + 1 } → wpAny (model X.prog X.w) X.A (f (.int i t)) Q E s) :
  UnR X f (rU fun i=>.int (g i)):=by
 intro pins s σ H x v Q I rx h
 obtain ⟨i,rfl,q⟩:=h
 obtain ⟨t,rfl⟩:=rx
 exact rule i t s _ _ ⟨.int (g i),H,I.tok _,⟨_,rfl⟩,q⟩
theorem zny : UnR X (unaryOp .USub) (rU fun i=>.int (-i)):=unI fun _ _ _ _ _ q=>neg_int q

end

noncomputable def scal : V → V → Bool
 | .non,.non=>true | .non,.int _=>true | .int _,.non=>true | .non,.bl _=>true | .bl _,.non=>true | .non,.str _=>true | .str _,.non=>true
 | .int _,.int _=>true | .bl _,.bl _=>true | .str _,.str _=>true | .byt _,.byt _=>true
 | .int _,.str _=>true | .str _,.int _=>true | .bl _,.str _=>true | .str _,.bl _=>true
 | _,_=>false
noncomputable def rEq : R2:=fun x y H Q=>scal x y = true ∧ Q (.bl (decide (x = y))) H
noncomputable def rNe : R2:=fun x y H Q=>scal x y = true ∧ Q (.bl (!decide (x = y))) H

theorem zhF {i j : Int} : decide (V.int i = V.int j) = (i == j):=by
 rw [Bool.eq_iff_iff]
 simp
theorem zjf {i j : Bool} : decide (V.bl i = V.bl j) = (i == j):=by
 rw [Bool.eq_iff_iff]
 simp
theorem zhG {i j : Str} : decide (V.str i = V.str j) = (i == j):=by
 rw [Bool.eq_iff_iff]
 simp
theorem zhH {i j : Array UInt8} : decide (V.byt i = V.byt j) = (i.toList == j.toList):=by
 rw [Bool.eq_iff_iff]
 cases i
 cases j
 simp

section
variable {X : Cx} {a b c : Expr} {ta tb tc : TE} {pos : Pos}
theorem zz {pins : List (Addr × Obj)} {σ : St} {H : Hp} {s : Shared} {Q : VK} {k k' : Bool} (I : Inv X pins σ H s) (q : Q (.bl k) H) (e : k = k') : EP X pins σ Q (.bool k') s:=by
 subst e
 exact ⟨.bl k,H,I,rfl,q⟩
theorem op_eq : OpR X (compareOp .Eq) rEq:=by
 intro pins s σ H x y v u Q I rx ry h
 obtain ⟨hs,q⟩:=h
 cases x with
 | non =>
  cases rx
  cases y with
  | non=>cases ry; exact PySem.EqNone.eq_none_none (zz I q (by simp))
  | bl j=>cases ry; exact PySem.EqNone.eq_none_bool (zz I q (by simp))
  | int j=>obtain ⟨t',rfl⟩:=ry; exact PySem.EqNone.eq_none_int (zz I q (by simp))
  | str j=>obtain ⟨t',rfl⟩:=ry; exact PySem.EqNone.eq_none_str (zz I q (by simp))
  | _=>exact absurd (show false = true from hs) Bool.false_ne_true
 | bl i =>
  cases rx
  cases y with
  | non=>cases ry; exact PySem.EqNone.eq_bool_none (zz I q (by simp))
  | bl j=>cases ry; exact eq_bool (zz I q zjf)
  | str j=>obtain ⟨t',rfl⟩:=ry; exact PySem.EqMixed.eq_bool_str (zz I q (by simp))
  | _=>exact absurd (show false = true from hs) Bool.false_ne_true
 | int i =>
  obtain ⟨t,rfl⟩:=rx
  cases y with
  | non=>cases ry; exact PySem.EqNone.eq_int_none (zz I q (by simp))
  | int j=>obtain ⟨t',rfl⟩:=ry; exact eq_int (zz I q zhF)
  | str j=>obtain ⟨t',rfl⟩:=ry; exact PySem.EqMixed.eq_int_str (zz I q (by simp))
  | _=>exact absurd (show false = true from hs) Bool.false_ne_true
 | str i =>
  obtain ⟨t,rfl⟩:=rx
  cases y with
  | non=>cases ry; exact PySem.EqNone.eq_str_none (zz I q (by simp))
  | bl j=>cases ry; exact PySem.EqMixed.eq_str_bool (zz I q (by simp))
  | int j=>obtain ⟨t',rfl⟩:=ry; exact PySem.EqMixed.eq_str_int (zz I q (by simp))
  | str j=>obtain ⟨t',rfl⟩:=ry; exact eq_str (zz I q zhG)
  | _=>exact absurd (show false = true from hs) Bool.false_ne_true
 | byt i =>
  obtain ⟨t,rfl⟩:=rx
  cases y with
  | byt j=>obtain ⟨t',rfl⟩:=ry; exact PySem.W.eq_bytes (zz I q zhH)
  | _=>exact absurd (show false = true from hs) Bool.false_ne_true
 | _=>cases y <;> exact absurd (show false = true from hs) Bool.false_ne_true
theorem op_ne : OpR X (compareOp .NotEq) rNe:=by
 intro pins s σ H x y v u Q I rx ry h
 obtain ⟨hs,q⟩:=h
 cases x with
 | non =>
  cases rx
  cases y with
  | non=>cases ry; exact PySem.EqNone.ne_none_none (zz I q (by simp))
  | bl j=>cases ry; exact PySem.EqNone.ne_none_bool (zz I q (by simp))
  | int j=>obtain ⟨t',rfl⟩:=ry; exact PySem.EqNone.ne_none_int (zz I q (by simp))
  | str j=>obtain ⟨t',rfl⟩:=ry; exact PySem.EqNone.ne_none_str (zz I q (by simp))
  | _=>exact absurd (show false = true from hs) Bool.false_ne_true
 | bl i =>
  cases rx
  cases y with
  | non=>cases ry; exact PySem.EqNone.ne_bool_none (zz I q (by simp))
  | bl j=>cases ry; exact ne_bool (zz I q (congrArg not zjf))
  | str j=>obtain ⟨t',rfl⟩:=ry; exact PySem.EqMixed.ne_bool_str (zz I q (by simp))
  | _=>exact absurd (show false = true from hs) Bool.false_ne_true
 | int i =>
  obtain ⟨t,rfl⟩:=rx
  cases y with
  | non=>cases ry; exact PySem.EqNone.ne_int_none (zz I q (by simp))
  | int j=>obtain ⟨t',rfl⟩:=ry; exact ne_int (zz I q (congrArg not zhF))
  | str j=>obtain ⟨t',rfl⟩:=ry; exact PySem.EqMixed.ne_int_str (zz I q (by simp))
  | _=>exact absurd (show false = true from hs) Bool.false_ne_true
 | str i =>
  obtain ⟨t,rfl⟩:=rx
  cases y with
  | non=>cases ry; exact PySem.EqNone.ne_str_none (zz I q (by simp))
  | bl j=>cases ry; exact PySem.EqMixed.ne_str_bool (zz I q (by simp))
  | int j=>obtain ⟨t',rfl⟩:=ry; exact PySem.EqMixed.ne_str_int (zz I q (by simp))
  | str j=>obtain ⟨t',rfl⟩:=ry; exact ne_str (zz I q (congrArg not zhG))
  | _=>exact absurd (show false = true from hs) Bool.false_ne_true
 | byt i =>
  obtain ⟨t,rfl⟩:=rx
  cases y with
  | byt j=>obtain ⟨t',rfl⟩:=ry; exact PySem.W.ne_bytes (zz I q (congrArg not zhH))
  | _=>exact absurd (show false = true from hs) Bool.false_ne_true
 | _=>cases y <;> exact absurd (show false = true from hs) Bool.false_ne_true

theorem op_lt : OpR X (compareOp .Lt) (rI0 fun i j=>.bl (decide (i < j))):=opB0 fun _ _ _ _ _ _ _ q=>lt_int q
theorem op_gt : OpR X (compareOp .Gt) (rI0 fun i j=>.bl (decide (j < i))):=opB0 fun _ _ _ _ _ _ _ q=>gt_int q
theorem op_ge : OpR X (compareOp .GtE) (rI0 fun i j=>.bl (decide (j ≤ i))):=opB0 fun _ _ _ _ _ _ _ q=>ge_int q

theorem zjg : OpR X (compareOp .In) (fun x y H Q=>∃ i j,x = .str i ∧ y = .str j ∧ Q (.bl (!(Builtin.Str.occurrences j i 0 j.length 1).isEmpty)) H):=by
 intro pins s σ H x y v u Q I rx ry h
 obtain ⟨i,j,rfl,rfl,q⟩:=h
 obtain ⟨t,rfl⟩:=rx
 obtain ⟨t',rfl⟩:=ry
 exact in_str (zz I q rfl)

theorem zgf : OpR X (compareOp .NotIn) (fun x y H Q=>∃ i j,x = .str i ∧ y = .str j ∧ Q (.bl (!(!(Builtin.Str.occurrences j i 0 j.length 1).isEmpty))) H):=by
 intro pins s σ H x y v u Q I rx ry h
 obtain ⟨i,j,rfl,rfl,q⟩:=h
 obtain ⟨t,rfl⟩:=rx
 obtain ⟨t',rfl⟩:=ry
 exact notIn_str (zz I q rfl)
theorem zbK (b : Expr) {op : CmpOp} (h : op ≠ .In:=by decide) (h2 : op ≠ .NotIn:=by decide) : behindInMarks op b = false:=by
 have e1 : (op == CmpOp.In) = false:=by cases op <;> first | rfl | exact absurd rfl h
 have e2 : (op == CmpOp.NotIn) = false:=by cases op <;> first | rfl | exact absurd rfl h2
 cases b <;> simp [behindInMarks,e1,e2]

theorem zlQ {op : CmpOp} {r : R2} (ho : OpR X (compareOp op) r) (ha : PE X a ta) (hb : PE X b tb) (hm : behindInMarks op b = false) : PE X (.Compare a [op] [b] pos) (tOp r ta tb):=by
 intro pins s σ H Q I h
 exact wpAny_Compare1 (binT ha hb I h fun v u s2 x y H2 I2 rx ry q=>ho pins s2 σ H2 x y v u Q I2 rx ry q) hm

noncomputable def tTest (t : TE) : TT:=fun σ H Q=>t σ H fun x H'=>∃ k,x = .bl k ∧ Q k H'
theorem zlR {op : CmpOp} {r : R2} (ho : OpR X (compareOp op) r) (ha : PE X a ta) (hb : PE X b tb) (hm : behindInMarks op b = false) : PT X (.Compare a [op] [b] pos) (tTest (tOp r ta tb)):=by
 intro pins s σ H Q I h
 refine wpAny_isTrue_Compare1 (thn (ha pins s σ H _ I h) fun v s1 ⟨x,H1,I1,r1,q1⟩=>thn (hb pins s1 σ H1 _ I1 q1) fun u s2 ⟨y,H2,I2,r2,q2⟩ =>
  thn (ho pins s2 σ H2 x y v u _ I2 r1 r2 q2) fun c s3 ⟨z,H3,I3,r3,k,e,q3⟩=>?_) hm
 subst e
 cases r3
 exact wpAny_truthy_bool ⟨H3,I3,q3⟩

theorem zdv : (sizeLine : Nat) < 2 ^ 63:=by rw [sizeLine_eq]; decide

theorem ziy : OpR X (binaryOp .Add) (fun x y H Q=>∃ i j,x = .str i ∧ y = .str j ∧ i.length + j.length ≤ sizeLine ∧ Q (.str (i ++ j)) H):=by
 intro pins s σ H x y v u Q I rx ry h
 obtain ⟨i,j,rfl,rfl,hz,q⟩:=h
 obtain ⟨t,rfl⟩:=rx
 obtain ⟨t',rfl⟩:=ry
 exact add_str (fun t' tk=>⟨.str (i ++ j),H,I.tok _,⟨_,rfl⟩,q⟩) hz

theorem vals1 {x : V} {us : List Value} (r : Vals [x] us) : ∃ u,us = [u] ∧ RelV x u:=by
 cases r with
 | cons r1 r2=>cases r2; exact ⟨_,rfl,r1⟩
theorem vals2 {x y : V} {us : List Value} (r : Vals [x,y] us) : ∃ u w',us = [u,w'] ∧ RelV x u ∧ RelV y w':=by
 cases r with
 | cons r1 r2 =>
  cases r2 with
  | cons r3 r4=>cases r4; exact ⟨_,_,rfl,r1,r3⟩
theorem zjh (hc : X.calm = true) : CallR X (.builtin "min") (fun xs H Q=>∃ i j,xs = [.int i,.int j] ∧ Q (.int (if j < i then j else i)) H):=by
 intro pins s σ H xs us Q I r h
 obtain ⟨i,j,rfl,q⟩:=h
 obtain ⟨u,w',rfl,⟨t,rfl⟩,⟨t',rfl⟩⟩:=vals2 r
 refine min_two_ints (I.ok.hd hc) fun h' tk k=>⟨_,H,I.kept k,?_,q⟩
 by_cases hj : j < i
 ·rw [if_pos hj,if_pos hj]; exact ⟨_,rfl⟩
 ·rw [if_neg hj,if_neg hj]; exact ⟨_,rfl⟩
end
end Internal.L2

namespace Internal.L2
open PySem PySem.Spec PyProof.Rows

structure ObjM (h : Heap) (x dx C : Addr) (mA : Str → Option Value) : Prop where
 obj : h.get? x = some (PySem.W.instObj C dx)
 ns : h.Ns1 dx mA
 ne : dx ≠ x

section
variable {prog : Program} {w : World} {A : Around} {E : Value → Shared → Prop} {s : Shared} {K : PySem.W.Frag} {x dx C f : Addr} {mA : Str → Option Value} {name : Str} {v : Value}

end

theorem RelO.some_of {v : V} {o : Option Value} (r : RelO (some v) o) : ∃ u,o = some u ∧ RelV v u:=by
 cases o with
 | none=>exact (show False from r).elim
 | some u=>exact ⟨u,rfl,r⟩
section
variable {P : Program} {w : World} {H H' : Hp} {h h' : Heap} {a C dx : Addr} {fs fs' : List (Str × V)}
end

structure Cls (K : PySem.W.Frag) (C : Addr) : Prop where
 pg : PySem.W.plainGet K C Str.empty = true
 hd : PySem.W.hasDictIn K C = true
 po : PySem.W.plainOver K C = true
 sa : PySem.W.findIn K (.ref C) "__setattr__" = some (some (.builtin "object.__setattr__"))

structure Con (K : PySem.W.Frag) (C : Addr) (f : Str) (v : V) (u : Value) : Prop where
 at_ : PySem.W.findIn K (.ref C) f = some (some u)
 rel : RelV v u
 get : PySem.W.specialIn K u "__get__" = some none
 cp : PySem.W.copiedNames.contains f = false

structure Meth (K : PySem.W.Frag) (C : Addr) (m : Str) (f : Addr) : Prop where
 at_ : PySem.W.findIn K (.ref C) m = some (some (.ref f))
 fn : PySem.W.isFn K (.ref f) = true
 kp : PySem.W.keepIn K (.ref f) = true

section
variable {X : Cx} {pins : List (Addr × Obj)} {σ : St} {H : Hp} {s : Shared} {a C dx : Addr} {fs : List (Str × V)} {f : Str} {v : V} {A : Around} {E : Value → Shared → Prop}

end

section
variable {X : Cx} {o e value : Expr} {f : Str} {pos pos' tpos : Pos} {ta tv : TE}
end

section
variable {X : Cx} {pins : List (Addr × Obj)} {σ : St} {H : Hp} {s : Shared} {A : Around} {E : Value → Shared → Prop} {Q : Value → Shared → Prop} {c : Value} {b : Bool}

inductive TyOf (K : PySem.W.Frag) (H : Hp) : V → Value → Prop where
 | non : TyOf K H .non (.type "NoneType")
 | bl (x : Bool) : TyOf K H (.bl x) (.type "bool")
 | int (i : Int) : TyOf K H (.int i) (.type "int")
 | str (x : Str) : TyOf K H (.str x) (.type "str")
 | flt (x : UInt64) : TyOf K H (.flt x) (.type "float")
 | lst {a : Addr} {xs : List V} (e : H a = some (.lst xs)) : TyOf K H (.ref a) (.type "list")
 | frz {a : Addr} {o : Obj} {xs : List V} (e : H a = some (.frz o (.lst xs))) : TyOf K H (.ref a) (.type "list")
 | tup {a : Addr} {xs : List V} (e : H a = some (.tup xs)) : TyOf K H (.ref a) (.type "tuple")
 | dK {a : Addr} {kvs : List (Key × V)} (e : H a = some (.dK kvs)) : TyOf K H (.ref a) (.type "dict")
 | dT {a : Addr} {kvs : List (List Key × V)} (e : H a = some (.dT kvs)) : TyOf K H (.ref a) (.type "dict")
 | ins {a C dx : Addr} {fs : List (Str × V)} (e : H a = some (.ins C dx fs)) (cl : Cls K C) (ha : PySem.W.findIn K (.ref C) "__class__" = some (some (.builtin "object.__class__")))
   (hn : PySem.W.specialIn K (.builtin "object.__class__") "__get__" = some (some (.builtin "getset_descriptor.__get__"))) (htk : PySem.W.takesIn K (.builtin "object.__class__") = some true)
   (hm : PySem.W.mroIn K C (.type "object") = some true) : TyOf K H (.ref a) (.ref C)
end
end Internal.L2

namespace Internal.L2
open PySem PySem.Spec PyProof.Rows

structure Room (k : Nat) (A : Around) : Prop where
 hd : A.handled = none
 gd : A.guards = some []
 dp : A.depth + 3 * k + 5 < recursionLimit
 un : A.units + 16 * k + 200 < cLine
theorem Room.mono {j k : Nat} {A : Around} (r : Room k A) (h : j ≤ k) : Room j A:=⟨r.hd,r.gd,by have:=r.dp; omega,by have:=r.un; omega⟩
theorem Room.deeper {k : Nat} {A : Around} (r : Room (k + 1) A) (env : Env) : Room k (A.deeper env) :=
 ⟨r.hd,r.gd,by have:=r.dp; show A.depth + 1 + 3 * k + 5 < _; omega,by have:=r.un; show A.units + 3 + 16 * k + 200 < _; omega⟩
theorem Room.depth {k : Nat} {A : Around} (r : Room k A) : A.depth < recursionLimit:=by have:=r.dp; omega
theorem Room.units {k : Nat} {A : Around} (r : Room k A) : A.units + 64 < cLine:=by have:=r.un; omega

noncomputable def tNil : TA:=fun _ H Q=>Q [] H
noncomputable def tCons (ta : TE) (tr : TA) : TA:=fun σ H Q=>ta σ H fun x H1=>tr σ H1 fun xs H2=>Q (x :: xs) H2
section
variable {X : Cx} {e : Expr} {es : List Expr} {te : TE} {t : TA} {pos : Pos}
theorem zcr : PA X [] tNil:=fun _ _ _ _ H Q I h=>Calls.spliced_nil ⟨[],H,I,.nil,h⟩
theorem zbf (ha : PE X e te) (hr : PA X es t) (hs : starEach (e :: es) X.env = (false,eval e X.env) :: starEach es X.env:=by rfl) : PA X (e :: es) (tCons te t):=by
 intro pos pins s σ H Q I h
 rw [hs]
 show wpAny _ _ (spliced ((false,eval e X.env) :: backTo pos (starEach es X.env))) _ _ s
 refine Calls.spliced_cons (thn (ha pins s σ H _ I h) fun u s1 hP26=>?_)
 obtain ⟨x,H1,I1,r1,q1⟩:=hP26
 exact thn (hr pos pins s1 σ H1 _ I1 q1) fun us s2 ⟨xs,H2,I2,r2,q2⟩=>⟨x :: xs,H2,I2,.cons r1 r2,q2⟩

noncomputable def tTup (t : TA) : TE:=fun σ H Q=>t σ H fun xs H1=>xs.length ≤ sizeLine ∧ ∀ p,H1 p = none → Q (.ref p) (upd H1 p (.tup xs))
noncomputable def tLst (t : TA) : TE:=fun σ H Q=>t σ H fun xs H1=>xs.length ≤ sizeLine ∧ ∀ p,H1 p = none → Q (.ref p) (upd H1 p (.lst xs))
theorem znz {x1} (h : PA X es t) : PE X (.Tuple es x1 pos) (tTup t):=by
 intro pins s σ H Q I hq
 refine wpAny_Tuple_spliced (thn (h pos pins s σ H _ I hq) fun us s1 ⟨xs,H1,I1,r,z,q⟩=>⟨by rw [← r.length]; exact z,?_⟩)
 have hf : H1 s1.heap.objs.size = none:=I1.hok.fresh (Nat.le_refl _)
 refine ⟨.ref s1.heap.objs.size,upd H1 s1.heap.objs.size (.tup xs),I1.laid (t':=s1.toks) (fun b u e=>Heap.get?_push_of_some _ e) (Nat.le_refl _) ?_,rfl,q _ hf⟩
 exact ⟨z,us,r,⟨_,Heap.get?_push_size _ rfl,rfl,_,rfl⟩,_,Heap.get?_push_size _ rfl,rfl⟩
theorem zji (h : PA X es t) : PE X (.List es pos) (tLst t):=by
 intro pins s σ H Q I hq
 refine wpAny_List_spliced (thn (h pos pins s σ H _ I hq) fun us s1 ⟨xs,H1,I1,r,z,q⟩=>⟨by rw [← r.length]; exact z,?_⟩)
 have hf : H1 s1.heap.objs.size = none:=I1.hok.fresh (Nat.le_refl _)
 refine ⟨.ref s1.heap.objs.size,upd H1 s1.heap.objs.size (.lst xs),I1.laid (t':=s1.toks) (fun b u e=>Heap.get?_push_of_some _ e) (Nat.le_refl _) ?_,rfl,q _ hf⟩
 exact ⟨z,us,0,r,Heap.get?_push_size _ rfl⟩
end

noncomputable abbrev Sp:=List V → Hp → VK → XK → Prop

noncomputable abbrev CXT:=List Env → Hp → Shared → XK → Value → Shared → Prop

structure Env0 (P : Program) (w : World) (K : PySem.W.Frag) (mg : Str → Option Value) (base : Heap) (A : Around) (outer : List Env) (s : Shared) (H : Hp) : Prop where
 frames : A.frames = some outer
 mod : Mod K mg base
 bs : ∀ b o,base.get? b = some o → s.heap.get? b = some o ∧ H b = none
 bsz : base.objs.size ≤ s.heap.objs.size
 funs : s.heap.FunFrames base outer
 frf : ∀ b ∈ frs outer,H b = none
 hok : HOk P w H s.heap
 bare : AllBare s.gens

noncomputable def CE (outer : List Env) (P : Program) (w : World) (H : Hp) (s : Shared) (Q : VK) (u : Value) (s' : Shared) : Prop :=
 ∃ v H',s'.os = s.os ∧ AllBare s'.gens ∧ Un (frs outer) [] H H' s.heap s'.heap ∧ HOk P w H' s'.heap ∧ RelV v u ∧ Q v H'
noncomputable def CR (CX : CXT) (outer : List Env) (P : Program) (w : World) (H : Hp) (s : Shared) (Q : VK) (E : XK) (r : Result) (s' : Shared) : Prop :=
 match r with
 | .ok (.ret u)=>CE outer P w H s Q u s'
 | .ok _=>False
 | .error e=>CX outer H s E e s'
structure FnOk (P : Program) (w : World) (K : PySem.W.Frag) (mg : Str → Option Value) (base : Heap) (CX : CXT) (k : Nat) (f : Addr) (fd : FuncData) (ps : List Str) (sp : Sp) : Prop where
 len : ∀ vs H Q E,sp vs H Q E → vs.length = ps.length
 run : ∀ (A : Around) (outer : List Env) (s : Shared) (H : Hp) (args : Args) (us : List Value) (vs : List V) (Q : VK) (E : XK),Room k A → Env0 P w K mg base A outer s H → BindsTo s fd args (ps.zip us) → Vals vs us → sp vs H Q E →
  codeAny (model P w) A (.call (.ref f) args) (CR CX outer P w H s Q E) s
section
variable {X : Cx} {pins : List (Addr × Obj)} {σ : St} {H : Hp} {s s' : Shared}

theorem Inv.env0 (I : Inv X pins σ H s) : Env0 X.prog X.w X.K X.mg X.base X.A X.stack s H :=
 ⟨I.ok.frames,I.ok.mod,I.bs,Nat.le_trans I.ok.bsz I.sz,I.stack,I.stkFree,I.hok,I.bare⟩

theorem Inv.after {Q : VK} {u : Value} (I : Inv X pins σ H s) (h : CE X.stack X.prog X.w H s Q u s') : EP X pins σ Q u s':=by
 obtain ⟨v,H',os,bare,un,hok,r,q⟩:=h
 obtain ⟨hh,g,d,t,os'⟩:=s'
 obtain rfl : os' = s.os:=os
 exact ⟨v,H',I.call (h':=hh) (g':=g) (d':=d) (t':=t) (ch:=[]) un hok bare (fun b z=>absurd z (by simp)),r,q⟩
end

noncomputable def tCall (sp : Sp) (dvs : List V) (E : XK) (t : TA) : TE:=fun σ H Q=>t σ H fun vs H1=>sp (vs ++ dvs) H1 Q E

noncomputable def Binds (K : PySem.W.Frag) (fd : FuncData) (ps : List Str) (ds : List Value) : Prop :=
 ∀ (s : Shared) (us : List Value),K.In s.heap → (us ++ ds).length = ps.length → BindsTo s fd ⟨us,[]⟩ (ps.zip (us ++ ds))

theorem Binds.all {K : PySem.W.Frag} {fd : FuncData} {ps : List Str} (h : ∀ us : List Value,us.length = ps.length → bindArgs fd ⟨us,[]⟩ = pure (ps.zip us)) : Binds K fd ps []:=fun s us _ hl=>by
 rw [List.append_nil] at hl ⊢
 exact .of_eq (h us hl)

noncomputable def zgg (CX : CXT) (X : Cx) (E : XK) : Prop:=∀ (pins : List (Addr × Obj)) (σ : St) (H : Hp) (s : Shared) (e : Value) (s' : Shared),Inv X pins σ H s → CX X.stack H s E e s' → X.xe e s'

section
variable {X : Cx} {CX : CXT} {k : Nat} {f C : Addr} {fd : FuncData} {ps : List Str} {sp : Sp} {dvs : List V} {ds : List Value} {E : XK} {x m : Str} {p pos apos : Pos} {e o : Expr} {es : List Expr} {ta : TE} {t : TA}

theorem znA {pins : List (Addr × Obj)} {σ : St} {H : Hp} {s : Shared} {Q : VK} {us : List Value} {vs : List V} (F : FnOk X.prog X.w X.K X.mg X.base CX k f fd ps sp) (hr : Room k X.A) (hb : Binds X.K fd ps ds) (hd : Vals dvs ds) (hx : zgg CX X E)
  (I : Inv X pins σ H s) (r : Vals vs us) (h : sp (vs ++ dvs) H Q E) : wpAny (model X.prog X.w) X.A (call (.ref f) us) (EP X pins σ Q) X.xe s:=by
 have r2 : Vals (vs ++ dvs) (us ++ ds):=r.append hd
 have hl : (us ++ ds).length = ps.length:=by rw [← r2.length]; exact F.len _ _ _ _ h
 refine wpAny_call (codeAny_mono (F.run X.A X.stack s H ⟨us,[]⟩ (us ++ ds) (vs ++ dvs) Q E hr I.env0 (hb s us I.kIn hl) r2 h) fun r s' hq=>?_)
 cases r with
 | error e=>exact hx pins σ H s e s' I hq
 | ok fl =>
  cases fl with
  | ret u=>exact I.after hq
  | next=>exact False.elim hq
  | brk=>exact False.elim hq
  | cont=>exact False.elim hq

theorem zfb (F : FnOk X.prog X.w X.K X.mg X.base CX k f fd ps sp) (hr : Room k X.A) (hg : Gl X x) (hm : X.mg x = some (.ref f)) (hk : PySem.W.keepIn X.K (.ref f) = true) (hb : Binds X.K fd ps ds) (hd : Vals dvs ds) (hx : zgg CX X E)
  (ha : PA X (e :: es) t) (hdb : (x == ("__debug__" : Str)) = false:=by decide) (he : starEach (e :: es) X.env = (false,eval e X.env) :: starEach es X.env:=by rfl) (hpl : (backTo pos (starEach es X.env)).any (·.1) = false:=by rfl) :
  PE X (.Call (.Name x p) (e :: es) [] pos) (tCall sp dvs E t):=by
 intro pins s σ H Q I h
 refine wpAny_Call_Name_kw (zcO I hg hm ?_ hdb)
 refine PySem.W.callWith_K (h₀:=X.base) I.ok.mod.kin hk (thn (ha pos pins s σ H _ I h) fun us s1 ⟨vs,H1,I1,r,q⟩=>⟨I1.kIn,?_⟩) he hpl
 exact znA F hr hb hd hx I1 r q

structure Mk (K : PySem.W.Frag) (C f : Addr) : Prop where
 makes : PySem.W.makesIn K C = true
 init : PySem.W.findIn K (.ref C) "__init__" = some (some (.ref f))
 fn : PySem.W.isFn K (.ref f) = true
 kp : PySem.W.keepIn K (.ref C) = true

end

section
variable {X : Cx} {CX : CXT} {k : Nat} {f C : Addr} {fd : FuncData} {ps ks : List Str} {sp : Sp} {E : XK} {x m : Str} {p pos apos kpos : Pos} {e o : Expr} {es : List Expr} {kws : List Keyword} {te ta : TE} {t tk : TA} {nm : Option Str}

structure KBinds (K : PySem.W.Frag) (fd : FuncData) (ps ks : List Str) (g : List Value → List Value → List Value) (gV : List V → List V → List V) : Prop where
 to : ∀ (s : Shared) (us ws : List Value),K.In s.heap → (g us ws).length = ps.length → BindsTo s fd ⟨us,ks.zip ws⟩ (ps.zip (g us ws))
 rel : ∀ {vs : List V} {us : List Value} {zs : List V} {ws : List Value},Vals vs us → Vals zs ws → Vals (gV vs zs) (g us ws)
variable {g : List Value → List Value → List Value} {gV : List V → List V → List V}
end

structure FnScope (N P : List Str) (sc : Scope) : Prop where
 kind : sc.kind = .function
 co : sc.isCoroutine = false
 gen : sc.isGenerator = false
 nd : N.Nodup
 pre : N.take P.length = P
 par : ∀ x ∈ P,sc.names.lookup x = some .local ∨ sc.names.lookup x = some .cell
 nofree : ∀ y ∈ sc.names,y.2 ≠ .free

theorem zfy {kindOf : Str → Option NameKind} {x : Str} : ∀ {binds : List (Str × Value)} {m : Str → Option Value},(∀ v,(x,v) ∉ binds) → bindL kindOf binds m x = m x
 | [],_,_=>rfl
 | (n,v) :: r,m,h=>by
  unfold bindL
  rw [zfy fun w hw=>h w (List.mem_cons_of_mem _ hw)]
  split
  ·have : x ≠ n:=by rintro rfl; exact h v List.mem_cons_self
   simp [this]
  ·rfl
theorem zfz {kindOf : Str → Option NameKind} {x : Str} : ∀ {binds : List (Str × Value)} {m : Str → Option Value},(∀ v,(x,v) ∉ binds) → bindC kindOf binds m x = m x
 | [],_,_=>rfl
 | (n,v) :: r,m,h=>by
  unfold bindC
  rw [zfz fun w hw=>h w (List.mem_cons_of_mem _ hw)]
  split
  ·rfl
  ·have : x ≠ n:=by rintro rfl; exact h v List.mem_cons_self
   simp [this]
theorem zfA {kindOf : Str → Option NameKind} {x : Str} {v : Value} : ∀ {P : List Str} {vs : List Value} {i : Nat} {m : Str → Option Value},P.Nodup → P[i]? = some x → vs[i]? = some v → kindOf x = some .local →
  bindL kindOf (P.zip vs) m x = some v
 | [],_,_,_,_,h,_,_=>by simp at h
 | _ :: _,[],_,_,_,_,h,_=>by simp at h
 | p :: P,w :: vs,0,m,nd,h1,h2,hk=>by
  simp at h1 h2; subst h1; subst h2
  show bindL kindOf ((p,w) :: P.zip vs) m p = _
  unfold bindL
  rw [zfy fun v hv=>(List.nodup_cons.mp nd).1 (List.of_mem_zip hv).1,if_pos hk]
  simp
 | p :: P,w :: vs,i + 1,m,nd,h1,h2,hk=>by
  show bindL kindOf ((p,w) :: P.zip vs) m x = _
  unfold bindL
  exact zfA (i:=i) (List.nodup_cons.mp nd).2 (by simpa using h1) (by simpa using h2) hk
theorem zfB {kindOf : Str → Option NameKind} {x : Str} {v : Value} : ∀ {P : List Str} {vs : List Value} {i : Nat} {m : Str → Option Value},P.Nodup → P[i]? = some x → vs[i]? = some v → kindOf x ≠ some .local →
  bindC kindOf (P.zip vs) m x = some v
 | [],_,_,_,_,h,_,_=>by simp at h
 | _ :: _,[],_,_,_,_,h,_=>by simp at h
 | p :: P,w :: vs,0,m,nd,h1,h2,hk=>by
  simp at h1 h2; subst h1; subst h2
  show bindC kindOf ((p,w) :: P.zip vs) m p = _
  unfold bindC
  rw [zfz fun v hv=>(List.nodup_cons.mp nd).1 (List.of_mem_zip hv).1,if_neg hk]
  simp
 | p :: P,w :: vs,i + 1,m,nd,h1,h2,hk=>by
  show bindC kindOf ((p,w) :: P.zip vs) m x = _
  unfold bindC
  exact zfB (i:=i) (List.nodup_cons.mp nd).2 (by simpa using h1) (by simpa using h2) hk

noncomputable def start (N : List Str) (vs : List V) : St:=vs.map some ++ List.replicate (N.length - vs.length) none

noncomputable def cxOf (CX : CXT) (P : Program) (w : World) (K : PySem.W.Frag) (mg : Str → Option Value) (base : Heap) (N : List Str) (qual : Str) (scope : Scope) (f : Addr) (cd : Value) (A : Around) (outer : List Env) (s : Shared) (H : Hp) (E : XK) : Cx where
 prog:=P
 w:=w
 K:=K
 mg:=mg
 base:=base
 A:=A.deeper (envOfC qual scope s.heap.objs.size f cd)
 N:=N
 s₀:=s
 H₀:=H
 env:=envOfC qual scope s.heap.objs.size f cd
 outer:=outer
 stack:=envOfC qual scope s.heap.objs.size f cd :: outer
 ex:=[]
 calm:=true
 fn:=fun _=>true
 pn:=[]
 xe:=fun e s'=>wpAny (model P w) (A.deeper (envOfC qual scope s.heap.objs.size f cd)) (leaving (envOfC qual scope s.heap.objs.size f cd) e) (fun _ s''=>CX outer H s E e s'') (fun e' s''=>CX outer H s E e' s'') s'

theorem zgh {sc : Scope} {n : Nat} {x : Str} (h : sc.names.lookup x = some .cell) : ∃ c,(cellsFrom n sc.names []).lookup x = some c:=by
 have q:=PySem.W.cellsFrom_some sc.names n [] (.inl h)
 exact Option.isSome_iff_exists.mp q

theorem zjj {CX : CXT} {P : Program} {w : World} {K : PySem.W.Frag} {mg : Str → Option Value} {base : Heap} {N ps : List Str} {qual : Str} {scope : Scope} {f : Addr} {cd : Value} {A : Around} {outer : List Env} {s s1 : Shared} {H : Hp} {E : XK} {us : List Value} {vs : List V}
  (S : FnScope N ps scope) (hd : A.handled = none) (e0 : Env0 P w K mg base A outer s H) (hl : vs.length = ps.length) (r : Vals vs us)
  (x : InCallC s s.heap.objs.size (bindL (envOfC qual scope s.heap.objs.size f cd).kindOf (ps.zip us) fun _=>none) (cellsFrom (s.heap.objs.size + 1) scope.names []) (bindC (envOfC qual scope s.heap.objs.size f cd).kindOf (ps.zip us) fun _=>none) s1) :
  Inv (cxOf CX P w K mg base N qual scope f cd A outer s H E) [] (start N vs) H s1:=by
 have hpl : ps.length ≤ N.length:=by have:=congrArg List.length S.pre; rw [List.length_take] at this; omega
 obtain ⟨h1,tk,rfl,hk⟩:=x.done
 have noA : ∀ b : Addr,b ∉ (cxOf CX P w K mg base N qual scope f cd A outer s H E).ex:=fun b z=>absurd (show b ∈ ([] : List Addr) from z) (by simp)
 refine ⟨⟨e0.mod,S.kind,rfl,rfl,Nat.le_refl _,fun y z c h1 h2=>?_,fun y hy=>?_,fun y c _ h=>?_,fun _=>hd,Around.frames_deeper e0.frames,.inr ⟨rfl,rfl⟩,fun b z=>absurd z (noA b),e0.bs,e0.bsz,fun b _ _=>noA b,fun b z=>absurd z (noA b),e0.funs,e0.frf⟩,
  rfl,e0.bare,Un.kept hk,⟨_,x.toInCall.ns,fun i y v h1 h2 h3=>?_⟩,fun y c h=>⟨_,x.cell y c h⟩,e0.hok.fresh (Nat.le_refl _),fun y c h=>?_,fun p hp=>absurd (show p ∈ ([] : List (Addr × Obj)) from hp) (by simp),e0.hok.kept hk,?_⟩
 ·exact name_of_addr x.apart (PySem.mem_of_lookup h1) (PySem.mem_of_lookup h2)
 ·have hy : scope.names.lookup y = some .cell ∨ scope.names.lookup y = some .free:=hy
  rcases hy with hy | hy
  ·exact zgh hy
  ·exact absurd rfl (S.nofree _ (PySem.mem_of_lookup hy))
 ·exact Nat.le_of_lt (x.above y c (PySem.mem_of_lookup h))
 ·have hi : i < vs.length:=by
   unfold start at h2
   by_cases hi : i < vs.length
   ·exact hi
   ·rw [List.getElem?_append_right (by simpa using hi)] at h2
    rw [List.getElem?_replicate] at h2
    split at h2 <;> cases h2
  have ha : vs[i]? = some v:=by
   unfold start at h2
   rw [List.getElem?_append_left (by simpa using hi),List.getElem?_map] at h2
   cases e : vs[i]? with
   | none=>rw [e] at h2; cases h2
   | some a=>rw [e] at h2; cases h2; rfl
  obtain ⟨u,hu,rv⟩:=r.get ha
  have hp : ps[i]? = some y:=by
   rw [← S.pre,List.getElem?_take_of_lt (by omega)]; exact h1
  have ndP : ps.Nodup:=by rw [← S.pre]; exact S.nd.sublist (List.take_sublist _ _)
  refine ⟨u,rv,?_⟩
  rcases S.par y (List.mem_of_getElem? hp) with k | k
  ·exact .inl ⟨k,zfA ndP hp hu k⟩
  ·obtain ⟨c,e⟩:=zgh (n:=s.heap.objs.size + 1) k
   refine .inr ⟨.inl k,c,e,?_⟩
   have q:=x.cell y c e
   rw [zfB ndP hp hu (by show scope.names.lookup y ≠ _; rw [k]; decide)] at q
   exact q
 ·exact e0.hok.fresh (Nat.le_of_lt (x.above y c (PySem.mem_of_lookup h)))
 ·unfold start
  show _ = N.length
  rw [List.length_append,List.length_map,List.length_replicate]
  omega

theorem fn_of {CX : CXT} {P : Program} {w : World} {K : PySem.W.Frag} {mg : Str → Option Value} {base : Heap} {k : Nat} {f : Addr} {name qual : Str} {params : Arguments} {body : List Stmt} {scope : Scope} {dV kV doc pm cdv ct oc : Value} {an od : Option Addr}
  {osl : Array (Option Value)} {N ps : List Str} {sp : Sp} (lk : K.lookup f = some ⟨oc,od,.func (PySem.W.fnOf name qual params body scope dV kV doc pm an cdv ct),osl⟩) (hcd : PySem.W.codeIn K cdv qual = true) (S : FnScope N ps scope)
  (len : ∀ vs H Q E,sp vs H Q E → vs.length = ps.length)
  (hbody : ∀ (A : Around) (outer : List Env) (s : Shared) (H : Hp) (vs : List V) (Q : VK) (E : XK),Room k (A.deeper (envOfC qual scope s.heap.objs.size f cdv)) → sp vs H Q E →
   ∃ t,PSs (cxOf CX P w K mg base N qual scope f cdv A outer s H E) body t ∧ t { nx:=fun _ H'=>Q .non H',rt:=Q } (start N vs) H) :
  FnOk P w K mg base CX (k + 1) f (PySem.W.fnOf name qual params body scope dV kV doc pm an cdv ct) ps sp:=by
 refine ⟨len,fun A outer s H args us vs Q E hr e0 hb r hsp=>?_⟩
 have hl:=len _ _ _ _ hsp
 have KX : K.In s.heap:=e0.mod.kin.keeps fun b o e=>(e0.bs b o e).1
 have lim : s.heap.NoLimit:=e0.mod.nolimit.keeps fun b o e=>(e0.bs b o e).1
 have hkind : ∀ y ∈ ps.zip us,scope.names.lookup y.1 = some .local ∨ (scope.names.lookup y.1 = some .cell ∧ ((cellsFrom (s.heap.objs.size + 1) scope.names []).lookup y.1).isSome = true):=fun hP27 hy=>by
  obtain ⟨n,v⟩:=hP27
  rcases S.par n (List.of_mem_zip hy).1 with q | q
  ·exact .inl q
  ·exact .inr ⟨q,PySem.W.cellsFrom_some _ _ _ (.inl q)⟩
 refine codeAny_call_function hr.depth (KX _ _ lk) rfl S.co S.gen rfl (PySem.W.codeRec_of KX hcd) (hb _ _ _ _ ?_)
 refine wpAny_newFunctionEnv_cells S.kind hkind fun env he s1 x=>?_
 subst he
 refine ⟨lim.keeps x.toInCall.keep,codeAny_func ?_⟩
 obtain ⟨t,ht,hq⟩:=hbody A outer s H vs Q E (hr.deeper _) hsp
 have I : Inv (cxOf CX P w K mg base N qual scope f cdv A outer s H E) [] (start N vs) H s1:=zjj S hr.hd e0 hl r x
 refine wpAny_mono (ht [] s1 (start N vs) H _ I hq) (fun fl s' hs=>?_) fun e s' hs=>hs
 have fin : ∀ {σ' : St} {H' : Hp} {v : V} {u : Value},Inv (cxOf CX P w K mg base N qual scope f cdv A outer s H E) [] σ' H' s' → RelV v u → Q v H' → CE outer P w H s Q u s' :=
  fun {σ' H' v u} J rv q=>⟨v,H',J.os,J.bare,J.base,J.hok,rv,q⟩
 cases fl with
 | ret u =>
  obtain ⟨v,σ',H',J,rv,q⟩:=hs
  exact fin J rv q
 | next =>
  obtain ⟨σ',H',J,q⟩:=hs
  exact fin (v:=V.non) (u:=Value.none) J rfl q
 | brk =>
  obtain ⟨_,_,_,q⟩:=hs
  exact False.elim q
 | cont =>
  obtain ⟨_,_,_,q⟩:=hs
  exact False.elim q
end Internal.L2

namespace Internal.L2
open PySem PySem.Spec PyProof.Rows
section
variable {X : Cx} {x : Str} {p pos : Pos} {e : Expr} {es : List Expr} {t : TA} {id T : String} {r : List V → Hp → VK → Prop}

noncomputable def tCB (r : List V → Hp → VK → Prop) (t : TA) : TE:=fun σ H Q=>t σ H fun vs H1=>r vs H1 Q

theorem zcZ (hc : CallR X (.builtin id) r) (hg : Gl X x) (hm : X.mg x = none) (hv : bootBuiltins x = some (.builtin id)) (ha : PA X (e :: es) t) (hn : x ≠ "__name__":=by decide) (hdb : (x == ("__debug__" : Str)) = false:=by decide)
  (he : starEach (e :: es) X.env = (false,eval e X.env) :: starEach es X.env:=by rfl) (hpl : (backTo pos (starEach es X.env)).any (·.1) = false:=by rfl) : PE X (.Call (.Name x p) (e :: es) [] pos) (tCB r t):=by
 intro pins s σ H Q I h
 refine wpAny_Call_Name_kw (zbl I hg hm hv ?_ hn hdb)
 exact PyProof.Rows.callWith_builtin1 (thn (ha pos pins s σ H _ I h) fun us s1 ⟨vs,H1,I1,r1,q1⟩=>hc pins s1 σ H1 vs us Q I1 r1 q1) he hpl

theorem zfC (hc : CallR X (.type T) r) (hg : Gl X x) (hm : X.mg x = none) (hv : bootBuiltins x = some (.type T)) (ha : PA X (e :: es) t) (hn : x ≠ "__name__":=by decide) (hdb : (x == ("__debug__" : Str)) = false:=by decide)
  (he : starEach (e :: es) X.env = (false,eval e X.env) :: starEach es X.env:=by rfl) (hpl : (backTo pos (starEach es X.env)).any (·.1) = false:=by rfl) : PE X (.Call (.Name x p) (e :: es) [] pos) (tCB r t):=by
 intro pins s σ H Q I h
 refine wpAny_Call_Name_kw (zbl I hg hm hv ?_ hn hdb)
 exact PyProof.Rows.callWith_type1 (thn (ha pos pins s σ H _ I h) fun us s1 ⟨vs,H1,I1,r1,q1⟩=>hc pins s1 σ H1 vs us Q I1 r1 q1) he hpl
end
end Internal.L2

namespace HT
open PySem PyProof.Rows

section
open PySem.SeqAt
open PySem.AutoSeq1 (wpAny_loadPart')
open PySem.MeetsSeq PySem.MeetsSeq2 PySem.MeetsSeq3

end

section
variable {prog : Program} {w : World} {A : Around} {E : Value → Shared → Prop} {s : Shared}

theorem cat_tup {t b : Addr} {vs ws : List Value} {Q : Value → Shared → Prop} (ht : IsTup s.heap t vs.toArray) (hb : IsTup s.heap b ws.toArray) (hv : vs ≠ [])
  (h1 : ws = [] → Q (.ref t) s) (h2 : ws ≠ [] → Q (.ref s.heap.objs.size) { s with heap:=s.heap.push { cls:=.type "tuple",data:=.seq (vs ++ ws).toArray } })
  (hsz : vs.length + ws.length ≤ sizeLine) : wpAny (model prog w) A (binaryOp .Add (.ref t) (.ref b)) Q E s:=by
 obtain ⟨⟨cls,dd,data,sl⟩,ho,hc,n,hd⟩:=id ht
 obtain ⟨⟨cls2,dd2,data2,sl2⟩,ho2,hc2,n2,hd2⟩:=id hb
 simp only at hc hd hc2 hd2
 subst hc hd hc2 hd2
 have e : vs.toArray ++ ws.toArray = (vs ++ ws).toArray:=by simp
 by_cases hw : ws = []
 ·exact concat_meets ⟨_,ho,rfl⟩ ⟨_,ho2,rfl⟩ noFill_tuple_add seq_tuple_add PySem.F.slot_tuple_add PySem.F.entry_tuple_add (PySem.F.args_tuple_add_2 _ _)
   (tuple_addW1 t b vs.toArray ws.toArray n n2 dd dd2 sl sl2 (by simpa using hv) (by simp [hw])) ⟨ho,ho2,h1 hw⟩
 ·refine concat_meets ⟨_,ho,rfl⟩ ⟨_,ho2,rfl⟩ noFill_tuple_add seq_tuple_add PySem.F.slot_tuple_add PySem.F.entry_tuple_add (PySem.F.args_tuple_add_2 _ _)
   (tuple_addW2 t b vs.toArray ws.toArray n n2 dd dd2 sl sl2 (by simpa using hv) (by simpa using hw) (by rw [List.size_toArray,List.size_toArray]; exact hsz)) ⟨ho,ho2,?_⟩
  rw [e]
  exact h2 hw

end
end HT

namespace Internal.L2
open PySem PySem.Spec PyProof.Rows

noncomputable abbrev TO:=St → Hp → (Option Int → Hp → Prop) → Prop
theorem intsAre_of {ns : List Int} : ∀ {us : List Value},Vals (ns.map V.int) us → IntsAre us ns:=by
 induction ns with
 | nil=>intro us r; rw [List.map_nil] at r; cases r; exact .nil
 | cons n ns ih =>
  intro us r
  rw [List.map_cons] at r
  cases r with
  | cons r1 r2 =>
   obtain ⟨t,e⟩:=r1
   subst e
   exact .cons n t (ih r2)

section
variable {X : Cx} {e : Expr} {te : TE} {lo hi : Option Expr} {tl th : TO} {pos p2 : Pos}

noncomputable def rCatT (K : PySem.W.Frag) : R2:=fun x y H Q=>∃ a b xs ys,x = .ref a ∧ y = .ref b ∧ SqT K H a xs ∧ SqT K H b ys ∧ xs ≠ [] ∧ xs.length + ys.length ≤ sizeLine ∧
 (ys = [] → Q (.ref a) H) ∧ (ys ≠ [] → ∀ p,H p = none → Q (.ref p) (upd H p (.tup (xs ++ ys))))
theorem Vals.nil_iff {xs : List V} {us : List Value} (r : Vals xs us) : us = [] ↔ xs = []:=by
 cases r with
 | nil=>simp
 | cons _ _=>simp
theorem zlS : OpR X (binaryOp .Add) (rCatT X.K):=by
 intro pins s σ H x y v u Q I rx ry h
 obtain ⟨a,b,xs,ys,rfl,rfl,ha,hb,hx,hz,q1,q2⟩:=h
 cases rx
 cases ry
 obtain ⟨its,r1,p1,_⟩:=I.tuple ha
 obtain ⟨its2,r2,p2,_⟩:=I.tuple hb
 refine HT.cat_tup p1 p2 (fun z=>hx (r1.nil_iff.mp z)) (fun z=>⟨.ref a,H,I,rfl,q1 (r2.nil_iff.mp z)⟩) (fun z=>?_) (by rw [← r1.length,← r2.length]; exact hz)
 refine ⟨.ref s.heap.objs.size,_,I.laid (t':=s.toks) (o:=.tup (xs ++ ys)) (fun b ob q=>Heap.get?_push_of_some _ q) (Nat.le_refl _) ?_,rfl,q2 (fun w=>z (r2.nil_iff.mpr w)) _ (I.hok.fresh (Nat.le_refl _))⟩
 exact ⟨by rw [List.length_append]; exact hz,_,r1.append r2,IsTup.new _ _,_,Heap.get?_push_size _ rfl,rfl⟩
end
end Internal.L2

namespace Internal.L2
open PySem PySem.Spec PyProof.Rows

noncomputable def ixN (n : Nat) (i : Int) : Option Nat:=if 0 ≤ i then (if i < n then some i.toNat else none) else if -(n : Int) ≤ i then some (i + n).toNat else none
noncomputable def atI {α : Type} (xs : List α) (i : Int) : Option α:=(ixN xs.length i).bind fun j=>xs[j]?
theorem zhI {n : Nat} {i : Int} {j : Nat} (h : ixN n i = some j) : seqIndex? i n = some j ∧ j < n ∧ -(n : Int) ≤ i ∧ i < n:=by
 unfold ixN at h
 by_cases h0 : 0 ≤ i
 ·rw [if_pos h0] at h
  by_cases h1 : i < n
  ·rw [if_pos h1] at h
   have e : i.toNat = j:=Option.some.inj h
   exact ⟨by rw [seqIndex_of h0 h1,e],by omega,by omega,h1⟩
  ·rw [if_neg h1] at h; cases h
 ·rw [if_neg h0] at h
  by_cases h1 : -(n : Int) ≤ i
  ·rw [if_pos h1] at h
   have e : (i + n).toNat = j:=Option.some.inj h
   exact ⟨by rw [seqIndex_neg (by omega) h1,e],by omega,h1,by omega⟩
  ·rw [if_neg h1] at h; cases h
theorem atI_get {α : Type} {xs : List α} {i : Int} {v : α} (h : atI xs i = some v) : ∃ j,seqIndex? i xs.length = some j ∧ xs[j]? = some v ∧ j < xs.length ∧ -(xs.length : Int) ≤ i ∧ i < xs.length:=by
 unfold atI at h
 cases e : ixN xs.length i with
 | none=>rw [e] at h; cases h
 | some j =>
  rw [e] at h
  obtain ⟨h1,h2,h3,h4⟩:=zhI e
  exact ⟨j,h1,h,h2,h3,h4⟩

noncomputable def zcl (b : Expr) : Prop:=∀ o i,subscripted b false o i = operate [o,i] (getItem o i)

noncomputable def IxR (X : Cx) (r : R2) : Prop :=
 ∀ (value slice : Expr) (pins : List (Addr × Obj)) (s : Shared) (σ : St) (H : Hp) (x y : V) (v u : Value) (Q : VK),Inv X pins σ H s → RelV x v → RelV y u → r x y H Q →
  subscripted slice false v u = operate [v,u] (getItem v u) → wpAny (model X.prog X.w) X.A (subscriptTail value slice v u) (EP X pins σ Q) X.xe s

noncomputable def MtR (X : Cx) (id : String) (r : V → List V → Hp → VK → Prop) : Prop :=
 ∀ (pins : List (Addr × Obj)) (s : Shared) (σ : St) (H : Hp) (x : V) (xs : List V) (v : Value) (us : List Value) (Q : VK),Inv X pins σ H s → RelV x v → Vals xs us → r x xs H Q →
  wpAny (model X.prog X.w) X.A (call (.builtin id) (v :: us)) (EP X pins σ Q) X.xe s
section
variable {X : Cx} {a b : Expr} {ta tb : TE} {pos : Pos}

theorem pe_ix {r : R2} (hr : IxR X r) (ha : PE X a ta) (hb : PE X b tb) (hs : zcl b) : PE X (.Subscript a b pos) (tOp r ta tb):=by
 intro pins s σ H Q I h
 exact Subscript_ (binT ha hb I h fun v u s2 x y H2 I2 rx ry q=>hr a b pins s2 σ H2 x y v u Q I2 rx ry q (hs _ _))

noncomputable def rIxL (K : PySem.W.Frag) : R2:=fun x y H Q=>∃ p xs i v,x = .ref p ∧ y = .int i ∧ SqL K H p xs ∧ atI xs i = some v ∧ Q v H
noncomputable def rIxT (K : PySem.W.Frag) : R2:=fun x y H Q=>∃ p xs i v,x = .ref p ∧ y = .int i ∧ SqT K H p xs ∧ atI xs i = some v ∧ Q v H
noncomputable def rIxS : R2:=fun x y H Q=>∃ z i c,x = .str z ∧ y = .int i ∧ z.length ≤ sizeLine ∧ atI z.cps.toList i = some c ∧ Q (.str ⟨#[c]⟩) H
theorem zlT : IxR X (rIxL X.K):=by
 intro value slice pins s σ H x y v u Q I rx ry h hs
 obtain ⟨p,xs,i,z,rfl,rfl,hq,he,q⟩:=h
 cases rx
 obtain ⟨t,rfl⟩:=ry
 obtain ⟨its,r,pl,hz⟩:=I.list hq
 obtain ⟨j,h1,h2,h3,h4,h5⟩:=atI_get he
 obtain ⟨w,ew,rw'⟩:=r.get h2
 have hl:=r.length
 have hn:=zdv
 have fin : EP X pins σ Q w s:=⟨z,H,I,rw',q⟩
 by_cases h0 : 0 ≤ i
 ·have hj : i.toNat = j:=by
   rw [seqIndex_of h0 h5] at h1
   exact Option.some.inj h1
  exact item_listR pl.isList h0 (by omega) (by rw [hj]; simpa using ew) fin hs
 ·have hj : (i + (its.toArray.size : Int)).toNat = j:=by
   rw [seqIndex_neg (by omega) h4] at h1
   rw [List.size_toArray,← hl]
   exact Option.some.inj h1
  exact subscriptTail_builtinR (x:=w) pl.isList.typeIs slot_list_getitem.lookup
   (wpAny_getItem_list_neg (Q:=fun r s'=>r = w ∧ EP X pins σ Q r s') pl.isList (by omega) (by rw [List.size_toArray] <;> omega) (by omega) (by rw [hj]; simpa using ew) ⟨rfl,fin⟩) hs
theorem znB : IxR X (rIxT X.K):=by
 intro value slice pins s σ H x y v u Q I rx ry h hs
 obtain ⟨p,xs,i,z,rfl,rfl,hq,he,q⟩:=h
 cases rx
 obtain ⟨t,rfl⟩:=ry
 obtain ⟨its,r,pl,hz⟩:=I.tuple hq
 obtain ⟨j,h1,h2,h3,h4,h5⟩:=atI_get he
 obtain ⟨w,ew,rw'⟩:=r.get h2
 have hl:=r.length
 have hn:=zdv
 have fin : EP X pins σ Q w s:=⟨z,H,I,rw',q⟩
 exact subscriptTail_builtinR (x:=w) pl.typeIs slot_tuple_getitem.lookup
  (getItem_tuple (j:=j) (Q:=fun r s'=>r = w ∧ EP X pins σ Q r s') pl (by omega) (by omega) (by rw [List.size_toArray,← hl]; exact h1) (by simpa using ew) ⟨rfl,fin⟩) hs
theorem znC : IxR X rIxS:=by
 intro value slice pins s σ H x y v u Q I rx ry h hs
 obtain ⟨z,i,c,rfl,rfl,hz,he,q⟩:=h
 obtain ⟨t,rfl⟩:=rx
 obtain ⟨t',rfl⟩:=ry
 obtain ⟨j,h1,h2,h3,h4,h5⟩:=atI_get he
 have hl : z.cps.toList.length = z.length:=by simp [Str.length]
 rw [hl] at h1 h4 h5
 have hn:=zdv
 exact tail_any (typeIs_str s z t) slot_str_getitem.lookup (getItem_str (c:=c) (by
  have e1 : decide (i < -(2 ^ 63 : Int)) = false:=decide_eq_false (by omega)
  have e2 : decide (i ≥ 2 ^ 63) = false:=decide_eq_false (by omega)
  rw [e1,e2,Bool.or_false]) (by rw [h1]; simpa using h2) ⟨.str ⟨#[c]⟩,H,I.tok _,⟨_,rfl⟩,q⟩) hs

theorem ziz (its : List Value) (n j : Nat) (u : Value) : Obj.mapSeq (·.setIfInBounds j u) { cls:=.type "list",data:=.seq its.toArray n } = { cls:=.type "list",data:=.seq (its.set j u).toArray n }:=by
 simp [Obj.mapSeq]
theorem Inv.lst {pins : List (Addr × Obj)} {σ : St} {H : Hp} {s : Shared} {p : Addr} {xs : List V} (I : Inv X pins σ H s) (h : H p = some (.lst xs)) :
  ∃ (its : List Value) (n : Nat),Vals xs its ∧ s.heap.get? p = some { cls:=.type "list",data:=.seq its.toArray n } ∧ xs.length ≤ sizeLine:=by
 obtain ⟨z,its,n,r,e⟩:=I.hok p _ h
 exact ⟨its,n,r,e,z⟩

theorem Inv.lstUpd {pins : List (Addr × Obj)} {σ : St} {H : Hp} {s : Shared} {p : Addr} {xs ys : List V} {its its' : List Value} {n n' : Nat} {f : Obj → Obj} (I : Inv X pins σ H s) (h : H p = some (.lst xs))
  (ho : s.heap.get? p = some { cls:=.type "list",data:=.seq its.toArray n }) (hf : f { cls:=.type "list",data:=.seq its.toArray n } = { cls:=.type "list",data:=.seq its'.toArray n' }) (r : Vals ys its') (hz : ys.length ≤ sizeLine) (t : Nat) :
  Inv X pins σ (upd H p (.lst ys)) { s with heap:=s.heap.update p f,toks:=t }:=by
 have e : (s.heap.update p f).get? p = some { cls:=.type "list",data:=.seq its'.toArray n' }:=by
  rw [Heap.get?_update_self f ho (by rw [hf] <;> rfl),hf]
 refine I.write (x:=p) (e:=p) (by rw [h]; trivial) (.inl rfl) (fun b u hb q=>(Heap.get?_update_other _ _ (Ne.symm hb)).trans q) ⟨_,e⟩ ?_
 exact ⟨hz,its',n',r,e⟩
noncomputable def rSetL : V → V → V → Hp → (Hp → Prop) → Prop:=fun o i v H Q=>∃ p xs k j,o = .ref p ∧ i = .int k ∧ H p = some (.lst xs) ∧ ixN xs.length k = some j ∧ Q (upd H p (.lst (xs.set j v)))
theorem set_list : PSet X rSetL:=by
 intro pins s σ H o i v ov iv u Q I ro ri rv h
 obtain ⟨p,xs,k,j,rfl,rfl,hp,hj,q⟩:=h
 cases ro
 obtain ⟨t,rfl⟩:=ri
 obtain ⟨its,n,r,ho,hz⟩:=I.lst hp
 obtain ⟨h1,h2,h3,h4⟩:=zhI hj
 have hl:=r.length
 have hn:=zdv
 have I' : Inv X pins σ (upd H p (.lst (xs.set j v))) { s with heap:=s.heap.update p (Obj.mapSeq (·.setIfInBounds j u)) } :=
  I.lstUpd hp ho (ziz its n j u) (r.set rv j) (by rw [List.length_set]; exact hz) s.toks
 by_cases h0 : 0 ≤ k
 ·have hk : k.toNat = j:=by
   rw [seqIndex_of h0 h4] at h1
   exact Option.some.inj h1
  exact PySem.W.ki_setAt ho h0 (by omega) (by rw [List.size_toArray,← hl]; exact h4) (by rw [hk]; exact ⟨_,I',q⟩)
 ·have hk : (k + (its.toArray.size : Int)).toNat = j:=by
   rw [seqIndex_neg (by omega) h3] at h1
   rw [List.size_toArray,← hl]
   exact Option.some.inj h1
  exact PySem.W.ki_setBack ho (by omega) (by rw [List.size_toArray,← hl]; exact h3) (by omega) (by rw [hk]; exact ⟨_,I',q⟩)

noncomputable def flatV : V → Bool
 | .non=>true
 | .bl _=>true
 | .int _=>true
 | .str _=>true
 | _=>false

noncomputable def eqV : V → V → Bool
 | .non,.non=>true
 | .bl a,.bl b=>a == b
 | .bl a,.int b=>(if a then 1 else 0) == b
 | .int a,.bl b=>a == (if b then 1 else 0)
 | .int a,.int b=>a == b
 | .str a,.str b=>a == b
 | _,_=>false
theorem zjk {A : Around} {s : Shared} {y x : V} {u v : Value} (ry : RelV y u) (rx : RelV x v) (fy : flatV y = true) (fx : flatV x = true) : SeqAt.EqAt A s u v (eqV y x):=by
 cases y with
 | non =>
  cases ry
  cases x with
  | non=>cases rx; exact SeqAt.EqAt.same _
  | bl b=>cases rx; exact SeqAt.EqAt.none_bool b
  | int b=>obtain ⟨t,rfl⟩:=rx; exact SeqAt.EqAt.none_int b t
  | str b=>obtain ⟨t,rfl⟩:=rx; exact SeqAt.EqAt.none_str b t
  | _=>exact absurd (show false = true from fx) Bool.false_ne_true
 | bl a =>
  cases ry
  cases x with
  | non=>cases rx; exact SeqAt.EqAt.bool_none a
  | bl b=>cases rx; exact SeqAt.EqAt.bool_bool a b
  | int b=>obtain ⟨t,rfl⟩:=rx; exact SeqAt.EqAt.bool_int a b t
  | str b=>obtain ⟨t,rfl⟩:=rx; exact SeqAt.EqAt.bool_str a b t
  | _=>exact absurd (show false = true from fx) Bool.false_ne_true
 | int a =>
  obtain ⟨t',rfl⟩:=ry
  cases x with
  | non=>cases rx; exact SeqAt.EqAt.int_none a t'
  | bl b=>cases rx; exact SeqAt.EqAt.int_bool a t' b
  | int b=>obtain ⟨t,rfl⟩:=rx; exact SeqAt.EqAt.int_int a t' b t
  | str b=>obtain ⟨t,rfl⟩:=rx; exact SeqAt.EqAt.int_str a t' b t
  | _=>exact absurd (show false = true from fx) Bool.false_ne_true
 | str a =>
  obtain ⟨t',rfl⟩:=ry
  cases x with
  | non=>cases rx; exact SeqAt.EqAt.str_none a t'
  | bl b=>cases rx; exact SeqAt.EqAt.str_bool a t' b
  | int b=>obtain ⟨t,rfl⟩:=rx; exact SeqAt.EqAt.str_int a t' b t
  | str b=>obtain ⟨t,rfl⟩:=rx; exact SeqAt.EqAt.str_str a t' b t
  | _=>exact absurd (show false = true from fx) Bool.false_ne_true
 | _=>exact absurd (show false = true from fy) Bool.false_ne_true

theorem zgi : CallR X (.builtin "len") (fun xs H Q=>∃ p ys,xs = [.ref p] ∧ (SqL X.K H p ys ∨ SqT X.K H p ys) ∧ Q (.int ys.length) H):=by
 intro pins s σ H xs us Q I r h
 obtain ⟨p,ys,rfl,hq,q⟩:=h
 obtain ⟨u,rfl,rx⟩:=vals1 r
 cases rx
 have hn:=zdv
 rcases hq with hq | hq
 ·obtain ⟨its,r',pl,hz⟩:=I.list hq
  have hlen:=r'.length
  exact Calls.call_len_list pl.isList (by simp only [List.size_toArray] <;> omega) ⟨.int ys.length,H,I.tok _,⟨s.toks + 1,by rw [List.size_toArray,hlen]⟩,q⟩
 ·obtain ⟨its,r',pl,hz⟩:=I.tuple hq
  have hlen:=r'.length
  exact len_tuple pl (by simp only [List.size_toArray] <;> omega) ⟨.int ys.length,H,I.tok _,⟨s.toks + 1,by rw [List.size_toArray,hlen]⟩,q⟩
theorem zgj : CallR X (.type "list") (fun xs H Q=>∃ p ys,xs = [.ref p] ∧ (SqL X.K H p ys ∨ SqT X.K H p ys) ∧ ∀ l,H l = none → Q (.ref l) (upd H l (.lst ys))):=by
 intro pins s σ H xs us Q I r h
 obtain ⟨p,ys,rfl,hq,q⟩:=h
 obtain ⟨u,rfl,rx⟩:=vals1 r
 cases rx
 have fin : ∀ (its : List Value),Vals ys its → ys.length ≤ sizeLine → ∀ (h' : Heap) (c' : Nat),(∀ b o',s.heap.get? b = some o' → h'.get? b = some o') →
   h'.get? s.heap.objs.size = some { cls:=.type "list",dict:=none,data:=.seq its.toArray c',slots:=#[] } → EP X pins σ Q (.ref s.heap.objs.size) { s with heap:=h' }:=fun its r' hz h' c' kp e =>
  ⟨.ref s.heap.objs.size,_,I.laid (t':=s.toks) kp (Nat.le_refl _) (show ObjOk X.prog X.w _ h' _ (.lst ys) from ⟨hz,its,c',r',e⟩),rfl,q _ (I.hok.fresh (Nat.le_refl _))⟩
 rcases hq with hq | hq
 ·obtain ⟨its,r',pl,hz⟩:=I.list hq
  have hlen:=r'.length
  obtain ⟨o,ho,hc,n,hd⟩:=pl.isList
  exact call_list_seq p (.inl rfl) ho hc hd (fun h' c' kp e=>fin its r' hz h' c' kp e) (by simp only [List.size_toArray] <;> omega)
 ·obtain ⟨its,r',pl,hz⟩:=I.tuple hq
  have hlen:=r'.length
  obtain ⟨o,ho,hc,n,hd⟩:=pl
  exact call_list_seq p (.inr rfl) ho hc hd (fun h' c' kp e=>fin its r' hz h' c' kp e) (by simp only [List.size_toArray] <;> omega)
theorem zfS : CallR X (.type "tuple") (fun xs H Q=>∃ p ys,xs = [.ref p] ∧ ((SqL X.K H p ys ∧ ∀ l,H l = none → Q (.ref l) (upd H l (.tup ys))) ∨ (SqT X.K H p ys ∧ Q (.ref p) H))):=by
 intro pins s σ H xs us Q I r h
 obtain ⟨p,ys,rfl,h⟩:=h
 obtain ⟨u,rfl,rx⟩:=vals1 r
 cases rx
 rcases h with ⟨hq,q⟩ | ⟨hq,q⟩
 ·obtain ⟨its,r',pl,hz⟩:=I.list hq
  have hlen:=r'.length
  refine call_tuple_list pl.isList (fun h' kp=>?_) (by simp only [List.size_toArray] <;> omega)
  have I1 : Inv X pins σ H { s with heap:=h' }:=I.kept (t':=s.toks) kp
  have I2 : Inv X pins σ (upd H h'.objs.size (.tup ys)) { s with heap:=h'.push { cls:=.type "tuple",data:=.seq its.toArray } } :=
   I1.laid (t':=s.toks) (fun b o e=>Heap.get?_push_of_some _ e) (Nat.le_refl _) (show ObjOk X.prog X.w _ _ _ (.tup ys) from ⟨hz,its,r',IsTup.new _ _,_,Heap.get?_push_size _ rfl,rfl⟩)
  exact ⟨.ref h'.objs.size,_,I2,rfl,q _ (I1.hok.fresh (Nat.le_refl _))⟩
 ·obtain ⟨its,r',pl,hz⟩:=I.tuple hq
  exact call_tuple_same pl ⟨.ref p,H,I,rfl,q⟩

noncomputable def tyV (K : PySem.W.Frag) (T : String) (x : V) (H : Hp) : Prop:=match x with
 | .str _=>T = "str"
 | .int _=>T = "int"
 | .ref p=>(T = "list" ∧ ∃ xs,SqL K H p xs) ∨ (T = "tuple" ∧ ∃ o,K.lookup p = some o ∧ o.cls = .type "tuple" ∧ o.dict = none) ∨
   (T = "dict" ∧ ((∃ kvs,H p = some (.dK kvs)) ∨ ∃ kvs,H p = some (.dT kvs))) ∨ (T = "set" ∧ ∃ S n,H p = some (.set S n)) ∨ (T = "tuple" ∧ ∃ xs,H p = some (.tup xs))
 | _=>False
theorem znD {pins : List (Addr × Obj)} {σ : St} {H : Hp} {s : Shared} {T : String} {x : V} {v : Value} (I : Inv X pins σ H s) (r : RelV x v) (ty : tyV X.K T x H) :
  s.TypeIs v T ∧ ∀ a,v = .ref a → ∃ ob,s.heap.get? a = some ob ∧ ob.dict = none:=by
 cases x with
 | str z =>
  obtain ⟨t,rfl⟩:=r
  cases (show T = "str" from ty)
  exact ⟨typeIs_str s z t,fun _ e=>nomatch e⟩
 | int i =>
  obtain ⟨t,rfl⟩:=r
  cases (show T = "int" from ty)
  exact ⟨typeIs_int s i t,fun _ e=>nomatch e⟩
 | ref p =>
  cases r
  rcases ty with ⟨rfl,xs,hq⟩ | ⟨rfl,o,hk,hc,hd⟩ | ⟨rfl,hk⟩ | ⟨rfl,S,n,hk⟩ | ⟨rfl,xs,hk⟩
  ·obtain ⟨its,_,pl,_⟩:=I.list hq
   refine ⟨pl.isList.typeIs,fun a e=>?_⟩
   cases e
   obtain ⟨o,n,e,c,hd,_⟩:=pl
   exact ⟨o,e,hd⟩
  ·refine ⟨⟨o,I.kIn p o hk,hc⟩,fun a e=>?_⟩
   cases e
   exact ⟨o,I.kIn _ o hk,hd⟩
  ·have z : ∃ o,s.heap.get? p = some o ∧ o.ExactDict:=by
    rcases hk with ⟨kvs,hk⟩ | ⟨kvs,hk⟩
    ·obtain ⟨_,_,_,_,o,_,_,e,ex,_⟩:=I.hok p _ hk
     exact ⟨o,e,ex⟩
    ·obtain ⟨_,_,_,_,o,_,_,e,ex,_⟩:=I.hok p _ hk
     exact ⟨o,e,ex⟩
   obtain ⟨o,e,ex⟩:=z
   refine ⟨⟨o,e,ex.1⟩,fun a e2=>?_⟩
   cases e2
   exact ⟨o,e,ex.2.1⟩
  ·obtain ⟨o,_,_,_,e,ex,_⟩:=I.hok p _ hk
   refine ⟨⟨o,e,ex.1⟩,fun a e2=>?_⟩
   cases e2
   exact ⟨o,e,ex.2.1⟩
  ·obtain ⟨_,_,_,p,q⟩:=I.hok p _ hk
   refine ⟨p.typeIs,fun a e2=>?_⟩
   cases e2
   exact q
 | _=>exact False.elim ty
noncomputable def tBM (K : PySem.W.Frag) (T : String) (r : V → List V → Hp → VK → Prop) (to : TE) (t : TA) : TE:=fun σ H Q=>to σ H fun x H1=>tyV K T x H1 ∧ t σ H1 fun xs H2=>r x xs H2 Q
variable {o e : Expr} {es : List Expr} {to : TE} {t : TA} {name : Str} {apos cpos : Pos} {T id : String} {r : V → List V → Hp → VK → Prop}
theorem pe_bm (pa : PlainAttrs T) (slot : Slot T name id) (hty : typeOf (.builtin id) = pure (.type "method_descriptor")) (hm : MtR X id r) (ho : PE X o to) (ha : PA X (e :: es) t)
  (hbase : attributeBase o name X.env (eval o X.env) = eval o X.env:=by rfl)
  (hfew : ((backTo cpos (starEach (e :: es) X.env)).all (fun x=>!x.1) && (backToKw cpos (keywordEach [] X.env)).all (fun x=>x.1.isSome)
   && decide ((e :: es).length + ([] : List Keyword).length + (if ([] : List Keyword).isEmpty then 0 else 1) < 30)) = true:=by rfl)
  (hline : (apos.endLine == cpos.line) = true:=by rfl) (hs : starEach (e :: es) X.env = (false,eval e X.env) :: starEach es X.env:=by rfl) (hplain : (backTo cpos (starEach es X.env)).any (·.1) = false:=by rfl) :
  PE X (.Call (.Attribute o name apos) (e :: es) [] cpos) (tBM X.K T r to t):=by
 intro pins s σ H Q I h
 refine wpAny_Call_method_late hbase hfew hline rfl (thn (ho pins s σ H _ I h) fun v s1 hP28=>?_)
 obtain ⟨x,H1,I1,r1,ty,q1⟩:=hP28
 obtain ⟨h1,h2⟩:=znD I1 r1 ty
 refine ⟨T,id,pa,slot,hty,h1,h2,?_⟩
 have hA:=ha cpos pins s1 σ H1 _ I1 q1
 rw [hs] at hA ⊢
 refine Calls.callWith_builtin (by show (false || (backTo cpos (starEach es X.env)).any (·.1)) = false; rw [hplain] <;> rfl) (Calls.evalArgs_plain ?_)
 exact thn hA fun us s2 ⟨vs,H2,I2,r2,q2⟩=>hm pins s2 σ H2 x vs v us Q I2 r1 r2 q2

end
end Internal.L2

namespace Internal.L2
open PySem PySem.Spec PyProof.Rows

noncomputable def MtM (X : Cx) (id : String) (r : V → List V → Hp → VK → Prop) : Prop :=
 ∀ (pins : List (Addr × Obj)) (s : Shared) (σ : St) (H : Hp) (x : V) (xs : List V) (v : Value) (us : List Value) (Q : VK),Inv X pins σ H s → RelV x v → Vals xs us → r x xs H Q →
  wpAny (model X.prog X.w) X.A (call (.builtin id) (v :: us)) (EP X pins σ Q) X.xe s

theorem Vals.one : ∀ {x : V} {us : List Value},Vals [x] us → ∃ u,us = [u] ∧ RelV x u
 | _,_,.cons r .nil=>⟨_,rfl,r⟩
theorem Vals.reverse {xs : List V} {us : List Value} (h : Vals xs us) : Vals xs.reverse us.reverse:=by
 induction h with
 | nil=>exact .nil
 | cons r t ih=>rw [List.reverse_cons,List.reverse_cons]; exact Vals.append ih (.cons r .nil)
theorem Vals.rep {xs : List V} {us : List Value} (h : Vals xs us) : ∀ k : Nat,Vals (List.replicate k xs).flatten (List.replicate k us).flatten
 | 0=>.nil
 | k + 1=>by
  rw [List.replicate_succ,List.replicate_succ,List.flatten_cons,List.flatten_cons]
  exact Vals.append h (Vals.rep h k)
theorem foldl_rep (its : List Value) : ∀ (k : Nat) (acc : List Value),
  List.foldl (fun x1 x2=>x1 ++ x2) acc.toArray (List.replicate k its.toArray) = (acc ++ (List.replicate k its).flatten).toArray
 | 0,acc=>by simp
 | k + 1,acc=>by
  have e : acc.toArray ++ its.toArray = (acc ++ its).toArray:=by simp
  have e2 : (acc ++ its) ++ (List.replicate k its).flatten = acc ++ (List.replicate (k + 1) its).flatten:=by
   rw [List.replicate_succ,List.flatten_cons,List.append_assoc]
  rw [← e2,← foldl_rep its k (acc ++ its),← e,List.replicate_succ,List.foldl_cons]

section
variable {X : Cx} {pins : List (Addr × Obj)} {σ : St} {H : Hp} {s : Shared} {l b : Addr} {xs ys zs : List V}

theorem Inv.lset {its its' : List Value} {n : Nat} {f : Array Value → Array Value} {t' : Nat} (I : Inv X pins σ H s) (hH : H l = some (.lst xs))
  (e : s.heap.get? l = some { cls:=.type "list",data:=.seq its.toArray n }) (hf : f its.toArray = its'.toArray) (hv : Vals ys its') (hz : ys.length ≤ sizeLine) :
  Inv X pins σ (upd H l (.lst ys)) { s with heap:=s.heap.update l (Obj.mapSeq f),toks:=t' }:=by
 have q:=PySem.IsL.update e f
 rw [hf] at q
 refine I.write (x:=l) (e:=l) (by rw [hH]; exact trivial) (.inl rfl) (fun b' u hb hu=>(Heap.get?_update_other s.heap (Obj.mapSeq f) (Ne.symm hb)).trans hu) ⟨_,q⟩ ?_
 exact ⟨hz,its',_,hv,q⟩
theorem Inv.lnew {its : List Value} {t' : Nat} (I : Inv X pins σ H s) (hv : Vals ys its) (hz : ys.length ≤ sizeLine) :
  Inv X pins σ (upd H s.heap.objs.size (.lst ys)) { s with heap:=s.heap.push { cls:=.type "list",data:=.seq its.toArray },toks:=t' } :=
 I.laid (fun _ _ q=>Heap.get?_push_of_some _ q) (Nat.le_refl _) ⟨hz,its,0,hv,Heap.get?_push_size _ rfl⟩
theorem Inv.fresh (I : Inv X pins σ H s) : H s.heap.objs.size = none:=I.hok.fresh (Nat.le_refl _)
theorem Inv.lstM (I : Inv X pins σ H s) (hH : H l = some (.lst xs)) : xs.length ≤ sizeLine ∧ ∃ (its : List Value) (n : Nat),Vals xs its ∧ xs.length = its.length ∧ s.heap.get? l = some { cls:=.type "list",data:=.seq its.toArray n }:=by
 obtain ⟨z,its,n,r,e⟩:=I.hok l _ hH
 exact ⟨z,its,n,r,r.length,e⟩

theorem notLongL {n : Nat} (h : n ≤ sizeLine) : Builtin.List.listTooLong n = false:=by
 unfold Builtin.List.listTooLong
 exact decide_eq_false (by omega)
end

section
variable {X : Cx}

noncomputable def zlU : V → List V → Hp → VK → Prop:=fun x vs H Q=>∃ l xs y,x = .ref l ∧ vs = [y] ∧ H l = some (.lst xs) ∧ xs.length < sizeLine ∧ Q .non (upd H l (.lst (xs ++ [y])))
theorem zdw : MtM X "list.append" zlU:=by
 intro pins s σ H x vs v us Q I rx rv h
 obtain ⟨l,xs,y,rfl,rfl,hH,hz,q⟩:=h
 cases rx
 obtain ⟨u,rfl,ru⟩:=rv.one
 obtain ⟨z,its,n,r,hl,e⟩:=I.lstM hH
 refine call_meets F.slot_list_append ⟨_,e,rfl⟩ F.entry_list_append (F.args_list_append_2 _ _) (PySem.list_append l its.toArray n u (by rw [List.size_toArray]; omega)) ⟨e,?_⟩
 refine ⟨.non,_,I.lset (its':=its ++ [u]) hH e (by simp) (r.append (.cons ru .nil)) ?_,rfl,q⟩
 rw [List.length_append,List.length_singleton]
 omega

noncomputable def rCat : R2:=fun x y H Q=>∃ l b xs zs,x = .ref l ∧ y = .ref b ∧ H l = some (.lst xs) ∧ H b = some (.lst zs) ∧ xs.length + zs.length ≤ sizeLine ∧ ∀ p,H p = none → Q (.ref p) (upd H p (.lst (xs ++ zs)))
theorem znE : OpR X (binaryOp .Add) rCat:=by
 intro pins s σ H x y v u Q I rx ry h
 obtain ⟨l,b,xs,zs,rfl,rfl,hH,hB,hz,q⟩:=h
 cases rx
 cases ry
 obtain ⟨z,its,n,r,hl,e⟩:=I.lstM hH
 obtain ⟨z2,its2,n2,r2,hl2,e2⟩:=I.lstM hB
 refine PySem.P.add_list e e2 ?_ (by rw [List.size_toArray,List.size_toArray]; omega)
 have ea : its.toArray ++ its2.toArray = (its ++ its2).toArray:=by simp
 rw [ea]
 exact ⟨.ref _,_,I.lnew (t':=s.toks) (r.append r2) (by rw [List.length_append]; omega),rfl,q _ I.fresh⟩

noncomputable def rRep : R2:=fun x y H Q=>∃ l k xs,x = .ref l ∧ y = .int k ∧ H l = some (.lst xs) ∧ -(2 ^ 63) ≤ k ∧ k < 2 ^ 63 ∧ xs.length * k.toNat ≤ sizeLine ∧
 ∀ p,H p = none → Q (.ref p) (upd H p (.lst (List.replicate k.toNat xs).flatten))
theorem len_rep {α : Type} (xs : List α) (k : Nat) : (List.replicate k xs).flatten.length = k * xs.length:=by
 induction k with
 | zero=>simp
 | succ k ih=>rw [List.replicate_succ,List.flatten_cons,List.length_append,ih,Nat.succ_mul,Nat.add_comm]
theorem znF : OpR X (binaryOp .Mult) rRep:=by
 intro pins s σ H x y v u Q I rx ry h
 obtain ⟨l,k,xs,rfl,rfl,hH,h1,h2,hz,q⟩:=h
 cases rx
 obtain ⟨t,rfl⟩:=ry
 obtain ⟨z,its,n,r,hl,e⟩:=I.lstM hH
 have hlen : its.toArray.size * k.toNat ≤ sizeLine:=by rw [List.size_toArray,← hl]; exact hz
 have hcap : ¬ its.toArray.size * k.toNat > (2 ^ 63 - 1) / 8:=by
  have : (sizeLine : Nat) ≤ (2 ^ 63 - 1) / 8:=by decide
  omega
 have hfit : ¬ (!Builtin.List.listFitsIndex k) = true:=by
  rw [fitsIndex_both h1 h2]
  exact Bool.false_ne_true
 have hlong : ¬ Builtin.List.listTooLong (its.toArray.size * k.toNat) = true:=by
  rw [notLongL hlen]
  exact Bool.false_ne_true
 have hnew : List.foldl (fun x1 x2=>x1 ++ x2) #[] (List.replicate (if its.toArray.isEmpty = true then 0 else k.toNat) its.toArray) = (List.replicate k.toNat its).flatten.toArray:=by
  have f0 : ∀ m : Nat,List.foldl (fun x1 x2=>x1 ++ x2) #[] (List.replicate m its.toArray) = (List.replicate m its).flatten.toArray:=fun m=>by
   have:=foldl_rep its m []
   rw [List.nil_append] at this
   exact this
  rw [f0]
  cases its with
  | nil=>simp
  | cons a r'=>rw [if_neg (by simp)]
 refine wpAny_binaryOp_repeat_ref (T:="list") (U:="int") (by decide) ⟨_,e,rfl⟩ (fun s'=>typeIs_int s' k t) noFill_list_mul F.fills_int_mul F.slot_int_rmul repeat_list F.slot_int_index.lookup
  (call_meets F.slot_int_rmul (typeIs_int s k t) F.entry_int_rmul (F.args_int_rmul_2 _ _) (int___rmul___int_list k t l its.toArray n)
   ⟨e,rfl,⟨_,e,rfl⟩,call_meets F.slot_list_mul ⟨_,e,rfl⟩ F.entry_list_mul (F.args_list_mul_2 _ _) (AutoListH.list___mul___list_int_3 l its.toArray n k t hfit hcap hlong) ⟨e,?_⟩⟩)
 rw [hnew]
 exact ⟨.ref _,_,I.lnew (t':=s.toks) (r.rep k.toNat) (by rw [len_rep,Nat.mul_comm]; exact hz),rfl,q _ I.fresh⟩

end

section
variable {prog : Program} {w : World} {A : Around} {E : Value → Shared → Prop} {s : Shared}
end

section
variable {X : Cx}
end
end Internal.L2

namespace Att
open PySem PySem.W PySem.Calls PyProof.Rows

theorem zey {P : Params} {h : Heap} : ∀ (ns : List Int) (vs : List Value),WellAll P h vs (ns.map WData.int) → IntsAre vs ns:=by
 intro ns
 induction ns with
 | nil =>
  intro vs w
  rw [List.map_nil] at w
  cases w
  exact .nil
 | cons n ns ih =>
  intro vs w
  rw [List.map_cons] at w
  cases w with
  | cons a b =>
   cases a
   exact .cons _ _ (ih _ b)

theorem zjl {l : OpenLaw} {n : Nat} (hn : l.most = some n) {P : Params} {h : Heap} {args : List WData} {vals : List Value}
  (hpre : l.row.toRowW.claim.pre args = true) (hwl : WellAll P h vals args) :
  ∃ a vs ns,vals = [Value.ref a] ∧ args = [WData.list (ns.map WData.int)] ∧ h.get? a = some { cls:=.type "list",data:=.seq vs.toArray } ∧ IntsAre vs ns ∧ ns.length ≤ n:=by
 have hsh : WShape.hasAll [] args [.list .int] = true:=(pre_splitW hpre).1
 have hc : l.pre.holds [] { args:=args } = true:=(pre_splitW hpre).2
 obtain ⟨d,r,rfl,h1,h2⟩:=hasAllW_cons hsh
 obtain rfl:=hasAllW_nil h2
 obtain ⟨xs,rfl,h3⟩:=hasW_list h1
 obtain ⟨ns,rfl⟩:=items_int h3
 have hlen : ns.length ≤ n:=by
  unfold OpenLaw.pre at hc
  have h4 : (WTm.not (.lt (.lit (.int (n : Int))) (.len (.arg 0)))).holds [] { args:=[.list (ns.map .int)] } = true:=by
   have h4:=(holds_andW hc).1
   rw [hn] at h4
   exact h4
  have h5:=condW_of h4 (w_not (w_lt w_lit (w_len_list (w_arg rfl))))
  rw [List.length_map] at h5
  refine Nat.le_of_not_lt fun q=>?_
  have q' : (n : Int) < ((ns.length : Nat) : Int):=by omega
  first
   | (rw [decide_eq_true q'] at h5; exact absurd h5 (by decide))
   | (simp at h5; omega)
 cases hwl with
 | cons w1 w2 =>
  cases w2
  cases w1 with
  | list ho hall=>exact ⟨_,_,ns,rfl,rfl,ho,zey ns _ hall,hlen⟩

theorem zjm (l : OpenLaw) (args : List WData) : l.row.toRowW.claim.post args (.bool true) args = true :=
 postW_of (r:=l.row.toRowW) (X:=(true == true))
  (show WShape.has [] (.bool true) .bool = true by first | rfl | decide | simp [WShape.has,WShape.arms,WShape.armsAll])
  (show (WTm.eq .res (.lit (.bool true))).value [] { args:=args,res:=some (.bool true),after:=args } = some (.bool (true == true)) from w_eq_bool (w_res rfl) w_lit) rfl

theorem attach_call {l : OpenLaw} {n : Nat} {q : Program} {loose : List Str} {XP : (Str → Option Value) → Heap → Prop} {YP : World → Heap → Prop} {d : DefRec}
  (hn : l.most = some n) (hdf : d.params.defaults = [])
  (call : ∀ (w : World) (s₀ s₁ : Shared) (mg mb : Str → Option Value) (fa : Addr) (o : Obj) (pm cd doc : Value) (a : Addr) (vs : List Value) (ns : List Int),
   Ground q loose [] XP w s₀ mg mb s₁.heap → YP w s₁.heap →
   s₁.heap.get? fa = some o → o.data = .func (docDef d.name d.params d.body d.scope pm cd doc) → s₁.heap.CodeRec cd d.name → mg d.name = some (.ref fa) →
   s₁.heap.get? a = some { cls:=.type "list",data:=.seq vs.toArray } → IntsAre vs ns → ns.length ≤ n → s₁.gens = #[] →
   codeAny (model l.prog w) callerA (.call (.ref fa) ⟨[.ref a],[]⟩) (fun r s'=>r = .ok (.ret (.bool true)) ∧ OldK s₁.heap s'.heap ∧ s'.os = s₁.os ∧ AllBare s'.gens) s₁) :
  WalkO q loose XP YP l.row.toRowW d [] (fun f vs=>PySem.call f vs):=by
 intro w s₀ s₁ mg mb G Y fa o pm cd doc dV kV ho hd hcd hD hmg hg args vals as hpre hlay hrd hwl hlo
 obtain rfl : dV = .none:=Dflts.none hD hdf
 obtain rfl : kV = .none:=Dflts.noKw hD
 obtain ⟨a,vs,ns,rfl,rfl,hobj,hints,hlen⟩:=zjl hn hpre hwl
 refine enter_call (codeAny_mono (call w s₀ s₁ mg mb fa o pm cd doc a vs ns G Y ho (fd_plain hd) hcd hmg hobj hints hlen hg) fun r s' hq=>?_)
 obtain ⟨rfl,h2,h3,h4⟩:=hq
 exact ⟨.inl ⟨.bool true,.bool true,[],rfl,fun _=>rfl,.bool true,zjm l _,fun _=>⟨List.Pairwise.nil,fun _ hm=>(nomatch hm)⟩⟩,h2,h3,h4⟩

section
variable {prog : Program} {w : World} {A : Around} {E : Value → Shared → Prop} {s : Shared} {K : Frag}

noncomputable def ledger (h : Heap) (L d : Addr) : List (Addr × Obj):=(List.range h.objs.size).filterMap fun a=>if a = L ∨ a = d then none else (h.get? a).map fun o=>(a,o)
end
end Att

namespace Internal.L2
open PySem PySem.Spec PyProof.Rows

theorem zfD : ∀ {vs : List Value} {ns : List Int},IntsAre vs ns → Vals (ns.map V.int) vs
 | _,_,.nil=>.nil
 | _,_,.cons n t h=>.cons ⟨t,rfl⟩ (zfD h)

noncomputable def Only (H : Hp) : Prop:=∀ b,H b = none ∨ ∃ o xs,H b = some (.frz o (.lst xs))

theorem zkF {P : Program} {w : World} {K : PySem.W.Frag} {mg mb : Str → Option Value} {CX : CXT} {k : Nat} {fa a : Addr} {fd : FuncData} {x : Str} {sp : Sp} {s₁ : Shared} {vs : List Value} {ns : List Int}
  (KX : K.In s₁.heap) (hns : s₁.heap.Ns mainGlobals mg) (hb : s₁.heap.Ns builtinsNs mb) (hbb : ∀ x : Str,x ≠ "__name__" → mb x = bootBuiltins x) (hlim : s₁.heap.NoLimit) (hg : s₁.gens = #[])
  (ha : s₁.heap.get? a = some { cls:=.type "list",data:=.seq vs.toArray }) (hi : IntsAre vs ns) (hl : ns.length ≤ sizeLine) (hr : Room k callerA)
  (F : ∀ base : Heap,K.In base → base.Ns mainGlobals mg → FnOk P w K mg base CX k fa fd [x] sp) (hbind : ∀ (s : Shared) (u : Value),BindsTo s fd ⟨[u],[]⟩ [(x,u)])
  (hsp : ∀ H : Hp,Only H → SqL K H a (ns.map V.int) → sp [.ref a] H (fun v _=>v = .bl true) fun _ _ _=>False)
  (hCX : ∀ H e s',CX [] H s₁ (fun _ _ _=>False) e s' → False) :
  codeAny (model P w) callerA (.call (.ref fa) ⟨[.ref a],[]⟩) (fun r s'=>r = .ok (.ret (.bool true)) ∧ OldK s₁.heap s'.heap ∧ s'.os = s₁.os ∧ AllBare s'.gens) s₁:=by
 have rv:=zfD hi
 have lenV:=hi.length
 -- from an abstract heap in which nothing but the script may be tracked
 have core : ∀ H : Hp,Only H → SqL K H a (ns.map V.int) → HOk P w H s₁.heap → (∀ b,H b ≠ none → b = a) → (H a ≠ none → K.lookup a = none) →
   codeAny (model P w) callerA (.call (.ref fa) ⟨[.ref a],[]⟩) (fun r s'=>r = .ok (.ret (.bool true)) ∧ OldK s₁.heap s'.heap ∧ s'.os = s₁.os ∧ AllBare s'.gens) s₁:=by
  intro H hO hS hok hA hK
  have base_of : ∀ {b : Addr} {o : Obj},s₁.heap.get? b = some o → H b = none → (hidT s₁.heap H).get? b = some o:=fun e n=>zkC e n
  have noA : ∀ {b : Addr} {o : Obj} {es : Array DictEntry} {ep : Nat},s₁.heap.get? b = some o → o.data = .dict es ep → H b = none:=fun {b o es ep} e d=>by
   cases q : H b with
   | none=>rfl
   | some u =>
    have e' : b = a:=hA b (by rw [q]; simp)
    subst e'
    rw [ha] at e; cases e
    have d' : Data.seq vs.toArray _ = Data.dict es ep:=d
    cases d'
  have nsK : ∀ {b : Addr} {m : Str → Option Value},s₁.heap.Ns b m → (hidT s₁.heap H).Ns b m:=fun {b m} ⟨o,es,ep,e,d,r⟩=>⟨o,es,ep,base_of e (noA e d),d,r⟩
  have hKb : K.In (hidT s₁.heap H):=fun b o e=>base_of (KX b o e) (by
   cases q : H b with
   | none=>rfl
   | some u =>
    have e' : b = a:=hA b (by rw [q]; simp)
    subst e'
    rw [hK (by rw [q]; simp)] at e; cases e)
  have hM : Mod K mg (hidT s₁.heap H):=⟨hKb,nsK hns,⟨mb,nsK hb,hbb⟩,let ⟨mc,h1,h2⟩:=hlim; ⟨mc,nsK h1,h2⟩⟩
  have e0 : Env0 P w K mg (hidT s₁.heap H) callerA [] s₁ H:=⟨rfl,hM,fun b o e=>zlK e,Nat.le_of_eq (ziX _ _),trivial,fun b hb=>absurd (show b ∈ ([] : List Addr) from hb) (by simp),hok,.of_eq hg⟩
  refine codeAny_mono ((F _ hKb (nsK hns)).run callerA [] s₁ H ⟨[.ref a],[]⟩ [.ref a] [.ref a] _ _ hr e0 (hbind s₁ (.ref a)) (.cons rfl .nil) (hsp H hO hS)) fun r s' h=>?_
  cases r with
  | error e=>exact (hCX H e s' h).elim
  | ok fl =>
   cases fl with
   | next=>exact False.elim h
   | brk=>exact False.elim h
   | cont=>exact False.elim h
   | ret u =>
    obtain ⟨v,H',os,bare,un,hok',r',q⟩:=h
    have q' : v = .bl true:=q
    subst q'
    obtain rfl : u = Value.bool true:=r'
    refine ⟨rfl,OldK.of_keep fun b o e=>?_,os,bare⟩
    cases q : H b with
    | none=>exact un.keep b o e q (by intro z; exact absurd (show b ∈ ([] : List Addr) from z) (by simp)) (by simp)
    | some u =>
     rcases hO b with z | ⟨ob,xs,z⟩
     ·rw [q] at z; cases z
     ·have z2:=un.frzs b ob _ z
      obtain ⟨e1,_⟩:=hok b _ z
      obtain ⟨e2,_⟩:=hok' b _ z2
      rw [e] at e1; cases e1
      exact e2
 cases hk : K.lookup a with
 | some o =>
  -- the script is one of the module's own objects
  have e:=KX a o hk
  rw [ha] at e
  cases e
  refine core (fun _=>none) (fun _=>.inl rfl) (.inr ⟨_,vs.toArray,_,hk,rfl,rfl,rfl,by rw [List.size_toArray,lenV]; exact hl,by simpa using rv⟩) (fun b u z=>by have z' : (none : Option HO) = some u:=z; cases z') (fun b z=>absurd rfl z) fun z=>absurd rfl z
 | none =>
  refine core (fun b=>if b = a then some (.frz { cls:=.type "list",data:=.seq vs.toArray } (.lst (ns.map V.int))) else none) (fun b=>?_) (.inl (.inr ⟨{ cls:=.type "list",data:=.seq vs.toArray },if_pos rfl⟩)) (fun b u z=>?_) (fun b z=>?_) fun _=>hk
  ·by_cases hb : b = a
   ·exact .inr ⟨_,_,if_pos hb⟩
   ·exact .inl (if_neg hb)
  ·by_cases hb : b = a
   ·have z':=(if_pos hb).symm.trans z
    cases z'
    subst hb
    exact ⟨ha,by rw [List.length_map]; exact hl,vs,_,rv,ha⟩
   ·have z':=(if_neg hb).symm.trans z
    cases z'
  ·by_cases hb : b = a
   ·exact hb
   ·exact absurd (if_neg hb) z
end Internal.L2

namespace Internal.L2
open PySem PySem.Spec PyProof.Rows

noncomputable abbrev KOf {K : PySem.W.Frag} {h : Heap} (_ : K.In h) : PySem.W.Frag:=K

theorem walk_of {l : PySem.W.OpenLaw} {n k : Nat} {q : Program} {loose : List Str} {XP : (Str → Option Value) → Heap → Prop} {YP : World → Heap → Prop} {d : DefRec} {K : Params → PySem.W.Frag} {CX : World → CXT} {sp : World → Sp} {x : Str}
  (hn : l.most = some n) (hn2 : n ≤ sizeLine) (hdf : d.params.defaults = []) (hr : Room k callerA)
  (hY : ∀ (w : World) (h : Heap),YP w h → (K w.params).In h)
  (F : ∀ (w : World) (mg : Str → Option Value) (fa : Addr) (h : Heap),(K w.params).In h → h.Ns mainGlobals mg → mg d.name = some (.ref fa) →
   ∃ fd : FuncData,(∀ (s : Shared) (u : Value),BindsTo s fd ⟨[u],[]⟩ [(x,u)]) ∧
    ∀ base : Heap,(K w.params).In base → base.Ns mainGlobals mg → FnOk l.prog w (K w.params) mg base (CX w) k fa fd [x] (sp w))
  (hsp : ∀ (w : World) (H : Hp) (a : Addr) (ns : List Int),ns.length ≤ n → Only H → SqL (K w.params) H a (ns.map V.int) → sp w [.ref a] H (fun v _=>v = .bl true) fun _ _ _=>False)
  (hCX : ∀ (w : World) (H : Hp) (s : Shared) (e : Value) (s' : Shared),CX w [] H s (fun _ _ _=>False) e s' → False) :
  PySem.W.WalkO q loose XP YP l.row.toRowW d [] (fun f vs=>PySem.call f vs):=by
 refine Att.attach_call hn hdf fun w s₀ s₁ mg mb fa o pm cd doc a vs ns G Y ho hd hcd hmg hobj hints hlen hg=>?_
 have KX:=hY w _ Y
 obtain ⟨fd,hb,hF⟩:=F w mg fa _ KX G.T.g hmg
 exact zkF KX G.T.g G.T.b G.T.builtins G.T.nolimit hg hobj hints (Nat.le_trans hlen hn2) hr hF hb (fun H hO hS=>hsp w H a ns hlen hO hS) fun H e s'=>hCX w H s₁ e s'
end Internal.L2

namespace Internal.L2
open PySem PySem.Spec PyProof.Rows

noncomputable def zj (s : Stmt) : Arguments:=match s with
 | .FunctionDef _ a _ _ _ _ _ _ _ _=>a
 | _=>{ posonlyargs:=[],args:=[],vararg:=none,kwonlyargs:=[],kw_defaults:=[],kwarg:=none,defaults:=[] }
noncomputable def zf (s : Stmt) : List Stmt:=match s with
 | .FunctionDef _ _ b _ _ _ _ _ _ _=>b
 | _=>[]
noncomputable def zc (s : Stmt) : Scope:=match s with
 | .FunctionDef _ _ _ _ _ _ sc _ _ _=>sc
 | _=>{ kind:=.function,names:=[],isGenerator:=false,isCoroutine:=false }

noncomputable abbrev CX0 : CXT:=fun _ _ _ _ _ _=>False
noncomputable abbrev E0 : XK:=fun _ _ _=>False
theorem pass0 {X : Cx} : zgg CX0 X E0:=fun _ _ _ _ _ _ _ h=>h.elim

structure Fun (K : PySem.W.Frag) (x qual : Str) (st : Stmt) (f : Addr) (fd : FuncData) : Prop where
 ex : ∃ (oc : Value) (od : Option Addr) (kV doc pm : Value) (an : Option Addr) (cdv ct : Value) (osl : Array (Option Value)),
  fd = PySem.W.fnOf x qual (zj st) (zf st) (zc st) .none kV doc pm an cdv ct ∧ K.lookup f = some ⟨oc,od,.func fd,osl⟩ ∧ PySem.W.codeIn K cdv qual = true
 kp : PySem.W.keepIn K (.ref f) = true
section
variable {P : Program} {w : World} {K : PySem.W.Frag} {mg : Str → Option Value} {base : Heap}

theorem Fun.ok {x qual : Str} {st : Stmt} {f : Addr} {fd : FuncData} {N ps : List Str} {k : Nat} {sp : Sp} (F : Fun K x qual st f fd) (S : FnScope N ps (zc st)) (len : ∀ vs H Q E,sp vs H Q E → vs.length = ps.length)
  (hbody : ∀ (cdv : Value) (A : Around) (outer : List Env) (s : Shared) (H : Hp) (vs : List V) (Q : VK) (E : XK),Room k (A.deeper (envOfC qual (zc st) s.heap.objs.size f cdv)) → sp vs H Q E →
   ∃ t,PSs (cxOf CX0 P w K mg base N qual (zc st) f cdv A outer s H E).nox (zf st) t ∧ t { nx:=fun _ H'=>Q .non H',rt:=Q } (start N vs) H) : FnOk P w K mg base CX0 (k + 1) f fd ps sp:=by
 obtain ⟨oc,od,kV,doc,pm,an,cdv,ct,osl,rfl,lk,hcd⟩:=F.ex
 refine fn_of lk hcd S len fun A outer s H vs Q E hr hsp=>?_
 obtain ⟨t,h,q⟩:=hbody cdv A outer s H vs Q E hr hsp
 exact ⟨t,h.nox,q⟩

theorem Fun.binds {x qual : Str} {st : Stmt} {f : Addr} {fd : FuncData} {ps : List Str} (F : Fun K x qual st f fd)
  (h : ∀ (kV doc pm : Value) (an : Option Addr) (cdv ct : Value) (us : List Value),us.length = ps.length → bindArgs (PySem.W.fnOf x qual (zj st) (zf st) (zc st) .none kV doc pm an cdv ct) ⟨us,[]⟩ = pure (ps.zip us)) : Binds K fd ps []:=by
 obtain ⟨oc,od,kV,doc,pm,an,cdv,ct,osl,rfl,lk,hcd⟩:=F.ex
 exact .all (h kV doc pm an cdv ct)
theorem zx {x qual : Str} {st : Stmt} {f : Addr} {oc : Value} {od an : Option Addr} {osl : Array (Option Value)} {kV doc pm cdv ct : Value} (l : K.lookup f = some ⟨oc,od,.func (PySem.W.fnOf x qual (zj st) (zf st) (zc st) .none kV doc pm an cdv ct),osl⟩)
  (c : PySem.W.codeIn K cdv qual = true) (k : PySem.W.keepIn K (.ref f) = true) : Fun K x qual st f (PySem.W.fnOf x qual (zj st) (zf st) (zc st) .none kV doc pm an cdv ct):=⟨⟨oc,od,kV,doc,pm,an,cdv,ct,osl,rfl,l,c⟩,k⟩
end

section
variable {X : Cx}
end

theorem iteF {A B : Prop} (h : B) : if false = true then A else B:=by
 rw [if_neg Bool.false_ne_true]
 exact h
theorem iteT {A B : Prop} (h : A) : if true = true then A else B:=by
 rw [if_pos rfl]
 exact h

noncomputable def Same (H H' : Hp) : Prop:=∀ b o,H b = some o → H' b = some o
theorem Same.refl (H : Hp) : Same H H:=fun _ _ h=>h
theorem Same.trans {H H1 H2 : Hp} (a : Same H H1) (b : Same H1 H2) : Same H H2:=fun c o h=>b c o (a c o h)
theorem Same.free {H H' : Hp} (e : Same H H') {l : Addr} (h : H' l = Option.none) : H l = Option.none:=by
 cases q : H l with
 | none=>rfl
 | some o =>
  rw [e l o q] at h
  cases h
theorem Same.seq {K : PySem.W.Frag} {H H' : Hp} {a : Addr} {xs : List V} (e : Same H H') (h : SqL K H a xs) : SqL K H' a xs:=by
 rcases h with (h | ⟨o,h⟩) | h
 ·exact .inl (.inl (e _ _ h))
 ·exact .inl (.inr ⟨o,e _ _ h⟩)
 ·exact .inr h

end Internal.L2
section
set_option Elab.async false
set_option linter.all false
set_option maxRecDepth 100000
set_option maxHeartbeats 4000000

namespace Internal
open PySem PySem.Spec PyProof.Rows Internal.L2

noncomputable def clOf (cells : List (Str × Addr)) : List (Str × NameKind) → List (Str × Addr) → List (Str × Addr)
 | [],acc=>acc
 | (n,k) :: r,acc=>if k == .free then clOf cells r ((n,(cells.lookup n).getD 0) :: acc) else clOf cells r acc

theorem zcc {env : Env} (f : Str × NameKind → List (Str × Addr) → Sem (ForInStep (List (Str × Addr))))
  (hf : ∀ n k cs,f (n,k) cs = if k == .free then (cellOf env n >>= fun a=>pure (.yield ((n,a) :: cs))) else pure (.yield cs)) :
  ∀ (names : List (Str × NameKind)) (acc : List (Str × Addr)),(∀ n,(n,NameKind.free) ∈ names → ∃ c,env.cells.lookup n = some c) → forIn names acc f = pure (clOf env.cells names acc)
 | [],acc,_=>by rw [List.forIn_nil]; rfl
 | (n,k) :: r,acc,h=>by
  have hr : ∀ m,(m,NameKind.free) ∈ r → ∃ c,env.cells.lookup m = some c:=fun m hm=>h m (List.mem_cons_of_mem _ hm)
  rw [List.forIn_cons,hf]
  unfold clOf
  by_cases hk : (k == NameKind.free) = true
  ·rw [if_pos hk,if_pos hk]
   have hk' : k = .free:=by simpa using hk
   subst hk'
   obtain ⟨c,hc⟩:=h n List.mem_cons_self
   have e : cellOf env n = pure c:=by unfold cellOf; rw [hc]
   rw [e,hc]
   simp only [pure_bind,Option.getD_some]
   exact zcc f hf r _ hr
  ·rw [if_neg hk,if_neg hk]
   simp only [pure_bind]
   exact zcc f hf r _ hr

theorem zdm {scope : Scope} {env : Env} (h : ∀ n,(n,NameKind.free) ∈ scope.names → ∃ c,env.cells.lookup n = some c) : closureFor scope env = pure (clOf env.cells scope.names []):=by
 simp only [closureFor]
 rw [zcc (env:=env) _ (fun n k cs=>by cases hk : k == NameKind.free <;> simp [hk]) scope.names [] h]
 rfl

theorem zbu (cells : List (Str × Addr)) (y : Str) : ∀ (names : List (Str × NameKind)) (acc : List (Str × Addr)),
  ((y,NameKind.free) ∈ names → (clOf cells names acc).lookup y = some ((cells.lookup y).getD 0)) ∧ ((y,NameKind.free) ∉ names → (clOf cells names acc).lookup y = acc.lookup y)
 | [],acc=>⟨fun h=>(nomatch h),fun _=>rfl⟩
 | (n,k) :: r,acc=>by
  unfold clOf
  by_cases hk : (k == NameKind.free) = true
  ·rw [if_pos hk]
   have hk' : k = .free:=by simpa using hk
   subst hk'
   have ih:=zbu cells y r ((n,(cells.lookup n).getD 0) :: acc)
   by_cases hm : (y,NameKind.free) ∈ r
   ·exact ⟨fun _=>ih.1 hm,fun h=>absurd (List.mem_cons_of_mem _ hm) h⟩
   ·refine ⟨fun h=>?_,fun h=>?_⟩
    ·rcases List.mem_cons.mp h with e | e
     ·cases e
      rw [ih.2 hm,List.lookup_cons]
      simp
     ·exact absurd e hm
    ·rw [ih.2 hm,List.lookup_cons]
     have hn : (y == n) = false:=by
      cases hb : y == n with
      | false=>rfl
      | true=>exact absurd (by rw [beq_iff_eq.mp hb]; exact List.mem_cons_self) h
     rw [hn]
  ·rw [if_neg hk]
   have ih:=zbu cells y r acc
   refine ⟨fun h=>ih.1 ?_,fun h=>ih.2 fun z=>h (List.mem_cons_of_mem _ z)⟩
   rcases List.mem_cons.mp h with e | e
   ·cases e; exact absurd rfl hk
   ·exact e

theorem zbg : ∀ (names : List (Str × NameKind)) (n : Nat) (acc : List (Str × Addr)),cellsFrom n names acc = cellsFrom n names [] ++ acc
 | [],_,acc=>rfl
 | (x,k) :: r,n,acc=>by
  unfold cellsFrom
  by_cases hk : (k == NameKind.cell) = true
  ·rw [if_pos hk,if_pos hk,zbg r (n + 1) ((x,n) :: acc),zbg r (n + 1) [(x,n)],List.append_assoc]
   rfl
  ·rw [if_neg hk,if_neg hk]
   exact zbg r n acc
theorem zch {α : Type} (y : Str) : ∀ (a b : List (Str × α)),(a ++ b).lookup y = (a.lookup y).or (b.lookup y)
 | [],b=>by simp
 | (k,v) :: r,b=>by
  rw [List.cons_append,List.lookup_cons,List.lookup_cons]
  cases hb : y == k with
  | true=>rfl
  | false=>exact zch y r b
theorem zcQ (scope : Scope) (env : Env) (y : Str) : (relabel scope env).names.lookup y =
  (scope.names.lookup y).map fun k=>if (k == .free && env.scope.kind == .function && env.kindOf y == some .cell) = true then NameKind.cell else k:=by
 show (scope.names.map fun (n,k)=>if (k == .free && env.scope.kind == .function && env.kindOf n == some .cell) then (n,NameKind.cell) else (n,k)).lookup y = _
 induction scope.names with
 | nil=>rfl
 | cons p r ih =>
  obtain ⟨n,k⟩:=p
  rw [List.map_cons,List.lookup_cons]
  by_cases hc : (k == .free && env.scope.kind == .function && env.kindOf n == some .cell) = true
  ·simp only [hc,if_true,List.lookup_cons]
   cases hb : y == n with
   | true =>
    have e:=beq_iff_eq.mp hb
    subst e
    exact (congrArg some (if_pos hc)).symm
   | false=>exact ih
  ·simp only [hc,if_false,List.lookup_cons,Bool.false_eq_true]
   cases hb : y == n with
   | true =>
    have e:=beq_iff_eq.mp hb
    subst e
    exact (congrArg some (if_neg hc)).symm
   | false=>exact ih

noncomputable def hidN (x : Str) : Str:=⟨#[0] ++ x.cps⟩
noncomputable def blkN (N : List Str) (x : Str) : List Str:=(N.map fun y=>if y == x then hidN x else y) ++ [x]
noncomputable def zjn (scope : Scope) (C : Addr) (env : Env) : Env :=
 { scope:=relabel scope env,locals:=C,globals:=env.globals,cells:=cellsFrom (C + 1) scope.names (clOf env.cells scope.names []),qual:=env.qual,func:=none,code:=env.code,frame:=env.frame,builtins:=env.builtins }
noncomputable def blk (X : Cx) (x : Str) (scope : Scope) (C : Addr) (s₀ : Shared) (H₀ : Hp) (ex : List Addr) : Cx :=
 { X with N:=blkN X.N x,env:=zjn scope C X.env,s₀:=s₀,H₀:=H₀,outer:=X.stack,ex:=ex,fn:=fun y=>y == x,pn:=[],xe:=fun _ _=>False }

noncomputable def zcs (N : List Str) (sc : Scope) (x : Str) (scope : Scope) : Bool :=
 (scope.kind == .function) && (scope.names.lookup x == some .local || scope.names.lookup x == some .cell) &&
 scope.names.all (fun y=>(y.2 != .local || scope.names.lookup y.1 == some .local) && (y.2 != .cell || scope.names.lookup y.1 == some .cell) && (y.2 != .free || ((sc.names.lookup y.1 == some .cell || sc.names.lookup y.1 == some .free) && scope.names.lookup y.1 == some .free))) &&
 N.all (fun y=>y == x || (scope.names.lookup y != some .local && scope.names.lookup y != some .cell)) &&
 (scope.names.lookup (hidN x) == none) && decide (blkN N x).Nodup && (scope.names.lookup x != some .free)

theorem zef {M : Model} {A : Around} {E : Value → Shared → Prop} {s : Shared} {scope : Scope} {env : Env} {cl : List (Str × Addr)} {Q : Env → Shared → Prop}
  (hQ : ∀ h',h'.Ns s.heap.objs.size (fun _=>none) → (∀ b o,s.heap.get? b = some o → h'.get? b = some o) → (∀ n c,(n,c) ∈ cellsFrom (s.heap.objs.size + 1) scope.names [] → h'.IsCell c none ∧ s.heap.objs.size + 1 ≤ c) →
   ((cellsFrom (s.heap.objs.size + 1) scope.names []).Pairwise fun x y=>x.2 ≠ y.2) →
   Q { scope:=scope,locals:=s.heap.objs.size,globals:=env.globals,cells:=cellsFrom (s.heap.objs.size + 1) scope.names cl,qual:=env.qual,func:=none,code:=env.code,frame:=env.frame,builtins:=env.builtins } { s with heap:=h' }) :
  wpAny M A (newFunctionEnv scope env.globals cl [] env.qual none .none (some env)) Q E s:=by
 simp only [newFunctionEnv,Option.isSome_some,if_true]
 refine wpAny_bind (wpAny_alloc ?_)
 refine wpAny_bind (wpAny_layCells _ (fun name kind cells=>by cases hkc : kind == NameKind.cell <;> simp [hkc]) _ _ _ _ ?_)
 have ok:=cellsFrom_ok scope.names (s.heap.push { cls:=.type "dict",data:=.dict #[] }) (s.heap.objs.size + 1) [] ⟨fun _ _ hm=>(nomatch hm),List.Pairwise.nil⟩ (by rw [Heap.size_push]; exact Nat.le_refl _)
 rw [Heap.size_push] at ok
 rw [show ({ s with heap:=s.heap.push { cls:=.type "dict",data:=.dict #[] } } : Shared).heap.objs.size = s.heap.objs.size + 1 from Heap.size_push ..]
 refine wpAny_bind (wpAny_pure (wpAny_pure ?_))
 exact hQ _ ((Heap.Ns.new s.heap (.type "dict")).keeps (pushCells_keeps _ _)) (fun b o e=>pushCells_keeps _ _ b o (Heap.get?_push_of_some _ e)) (fun n c hm=>ok.empty n c hm) ok.apart

structure CompFacts (N : List Str) (sc : Scope) (x : Str) (scope : Scope) : Prop where
 kind : scope.kind = .function
 tgt : scope.names.lookup x = some .local ∨ scope.names.lookup x = some .cell
 locs : ∀ y ∈ scope.names,y.2 = .local → scope.names.lookup y.1 = some .local
 cels : ∀ y ∈ scope.names,y.2 = .cell → scope.names.lookup y.1 = some .cell
 fres : ∀ y ∈ scope.names,y.2 = .free → (sc.names.lookup y.1 = some .cell ∨ sc.names.lookup y.1 = some .free) ∧ scope.names.lookup y.1 = some .free
 oth : ∀ y ∈ N,y ≠ x → scope.names.lookup y ≠ some .local ∧ scope.names.lookup y ≠ some .cell
 emp : scope.names.lookup (hidN x) = none
 nd : (blkN N x).Nodup
theorem zdx {N : List Str} {sc : Scope} {x : Str} {scope : Scope} (h : zcs N sc x scope = true) : CompFacts N sc x scope:=by
 unfold zcs at h
 simp only [Bool.and_eq_true,Bool.or_eq_true,List.all_eq_true,beq_iff_eq,bne_iff_ne,decide_eq_true_eq,ne_eq] at h
 obtain ⟨⟨⟨⟨⟨⟨h1,h2⟩,h3⟩,h4⟩,h5⟩,h6⟩,h7⟩:=h
 refine ⟨h1,h2,fun y hy e=>?_,fun y hy e=>?_,fun y hy e=>?_,fun y hy e=>?_,h5,h6⟩
 ·rcases (h3 y hy).1.1 with z | z
  ·exact absurd e z
  ·exact z
 ·rcases (h3 y hy).1.2 with z | z
  ·exact absurd e z
  ·exact z
 ·rcases (h3 y hy).2 with z | z
  ·exact absurd e z
  ·exact z
 ·rcases h4 y hy with z | z
  ·exact absurd z e
  ·exact z

theorem zcd {y : Str} {c : Addr} : ∀ (names : List (Str × NameKind)) (n : Nat) (acc : List (Str × Addr)),(y,c) ∈ cellsFrom n names acc → (y,NameKind.cell) ∈ names ∨ (y,c) ∈ acc
 | [],_,_,h=>.inr h
 | (x,k) :: r,n,acc,h=>by
  unfold cellsFrom at h
  by_cases hk : (k == NameKind.cell) = true
  ·rw [if_pos hk] at h
   have hk' : k = .cell:=by simpa using hk
   subst hk'
   rcases zcd r _ _ h with z | z
   ·exact .inl (List.mem_cons_of_mem _ z)
   ·rcases List.mem_cons.mp z with e | e
    ·cases e; exact .inl List.mem_cons_self
    ·exact .inr e
  ·rw [if_neg hk] at h
   rcases zcd r _ _ h with z | z
   ·exact .inl (List.mem_cons_of_mem _ z)
   ·exact .inr z

theorem zbQ {names : List (Str × NameKind)} {cells : List (Str × Addr)} {n : Nat} {y : Str} {c : Addr} (hf : ∀ z,(z,NameKind.free) ∈ names → ∃ c,cells.lookup z = some c)
  (h : (cellsFrom n names (clOf cells names [])).lookup y = some c) : (y,c) ∈ cellsFrom n names [] ∨ ((y,NameKind.free) ∈ names ∧ cells.lookup y = some c):=by
 rw [zbg,zch] at h
 cases e : (cellsFrom n names []).lookup y with
 | some c' =>
  rw [e] at h
  have h' : some c' = some c:=h
  cases h'
  exact .inl (mem_of_lookup e)
 | none =>
  rw [e,Option.none_or] at h
  by_cases hm : (y,NameKind.free) ∈ names
  ·rw [(zbu cells y names []).1 hm] at h
   obtain ⟨c',hc⟩:=hf y hm
   rw [hc] at h
   have h' : some c' = some c:=h
   cases h'
   exact .inr ⟨hm,hc⟩
  ·rw [(zbu cells y names []).2 hm] at h
   cases h
theorem zfT {names : List (Str × NameKind)} {cells : List (Str × Addr)} {n : Nat} {y : Str} {c : Addr} (hm : (y,NameKind.free) ∈ names) (hn : (y,NameKind.cell) ∉ names) (hc : cells.lookup y = some c) :
  (cellsFrom n names (clOf cells names [])).lookup y = some c:=by
 rw [zbg,zch]
 cases e : (cellsFrom n names []).lookup y with
 | some c' =>
  rcases zcd _ _ _ (mem_of_lookup e) with z | z
  ·exact absurd z hn
  ·cases z
 | none =>
  rw [Option.none_or,(zbu cells y names []).1 hm,hc]
  rfl

section
variable {X : Cx} {pins : List (Addr × Obj)} {σ : Internal.L2.St} {H : Hp} {s : Shared} {x : Str} {scope : Scope}

theorem zbo {scope : Scope} {env : Env} {y : Str} {k : NameKind} (h : (relabel scope env).names.lookup y = some k) : scope.names.lookup y = some k ∨ (k = .cell ∧ scope.names.lookup y = some .free):=by
 rw [zcQ] at h
 cases e : scope.names.lookup y with
 | none=>rw [e] at h; cases h
 | some k' =>
  rw [e] at h
  simp only [Option.map_some,Option.some.injEq] at h
  split at h
  ·rename_i hc
   simp only [Bool.and_eq_true,beq_iff_eq] at hc
   rw [hc.1.1]
   exact .inr ⟨h.symm,rfl⟩
  ·exact .inl (by rw [h])

theorem has_free (I : Inv X pins σ H s) (F : CompFacts X.N X.env.scope x scope) : ∀ z,(z,NameKind.free) ∈ scope.names → ∃ c,X.env.cells.lookup z = some c:=fun z hz=>I.ok.has z (F.fres _ hz rfl).1

theorem znG {fp : List Addr} (I : Inv X pins σ H s) (F : CompFacts X.N X.env.scope x scope) (hf : ∀ b ∈ fp,FpOk X pins H b ∧ b < s.heap.objs.size)
  (hap : (cellsFrom (s.heap.objs.size + 1) scope.names []).Pairwise fun x y=>x.2 ≠ y.2) (hce : ∀ n c,(n,c) ∈ cellsFrom (s.heap.objs.size + 1) scope.names [] → s.heap.objs.size + 1 ≤ c) : (blk X x scope s.heap.objs.size s H fp).Ok where
 mod:=I.ok.mod
 kind:=F.kind
 glob:=I.ok.glob
 blt:=I.ok.blt
 above:=Nat.le_refl _
 inj:=fun y z c e1 e2=>by
  have hf:=has_free I F
  rcases zbQ hf e1 with m1 | ⟨m1,k1⟩ <;> rcases zbQ hf e2 with m2 | ⟨m2,k2⟩
  ·exact name_of_addr hap m1 m2
  ·obtain ⟨v,q⟩:=I.cell _ _ k2
   exact absurd (Nat.lt_of_lt_of_le q.lt (Nat.le_of_succ_le (hce _ _ m1))) (Nat.lt_irrefl _)
  ·obtain ⟨v,q⟩:=I.cell _ _ k1
   exact absurd (Nat.lt_of_lt_of_le q.lt (Nat.le_of_succ_le (hce _ _ m2))) (Nat.lt_irrefl _)
  ·exact I.ok.inj _ _ _ k1 k2
 has:=fun y hy=>by
  have hf:=has_free I F
  have key : ((cellsFrom (s.heap.objs.size + 1) scope.names (clOf X.env.cells scope.names [])).lookup y).isSome = true:=by
   have c1 : scope.names.lookup y = some .cell → ((cellsFrom (s.heap.objs.size + 1) scope.names (clOf X.env.cells scope.names [])).lookup y).isSome = true:=fun q=>PySem.W.cellsFrom_some _ _ _ (.inl q)
   have c2 : scope.names.lookup y = some .free → ((cellsFrom (s.heap.objs.size + 1) scope.names (clOf X.env.cells scope.names [])).lookup y).isSome = true:=fun q=>by
    have hm:=mem_of_lookup q
    rw [zbg,zch,(zbu X.env.cells y scope.names []).1 hm]
    cases (cellsFrom (s.heap.objs.size + 1) scope.names []).lookup y <;> rfl
   rcases hy with hy | hy
   ·rcases zbo hy with z | ⟨_,z⟩
    ·exact c1 z
    ·exact c2 z
   ·rcases zbo hy with z | ⟨z,_⟩
    ·exact c2 z
    ·cases z
  exact Option.isSome_iff_exists.mp key
 cab:=fun y c hy e=>by
  have hy' : y = x:=by simpa [blk] using hy
  subst hy'
  rcases zbQ (has_free I F) e with m | ⟨m,_⟩
  ·exact Nat.le_of_succ_le (hce _ _ m)
  ·have:=(F.fres _ m rfl).2
   rcases F.tgt with z | z <;> · rw [z] at this; cases this
 hd:=I.ok.hd
 frames:=I.ok.frames
 stk:=.inl rfl
 exf:=fun b hb=>by
  refine ⟨Nat.ne_of_lt (hf b hb).2,fun y c e=>?_⟩
  rcases zbQ (has_free I F) e with m | ⟨_,k⟩
  ·exact Nat.ne_of_gt (Nat.lt_of_lt_of_le (hf b hb).2 (Nat.le_of_succ_le (hce _ _ m)))
  ·exact (hf b hb).1.2.2.2.2.1 y c k
 bs:=I.bs
 bsz:=Nat.le_trans I.ok.bsz I.sz
 noex:=fun b o e hb=>by
  rcases (hf b hb).1.2.2.2.1 with z | z
  ·exact I.ok.noex b o e z
  ·exact absurd (Nat.lt_of_lt_of_le (Heap.lt_size e) (Nat.le_trans I.ok.bsz z)) (Nat.lt_irrefl _)
 exfs:=fun b hb z=>by
  rcases List.mem_cons.mp (I.stkSub b z) with e | e
  ·exact (hf b hb).1.2.1 e
  ·exact (hf b hb).1.2.2.1 e
 funs:=I.stack
 frf:=I.stkFree

theorem zlV {fp : List Addr} {h' : Heap} (I : Inv X pins σ H s) (F : CompFacts X.N X.env.scope x scope) (hf : ∀ b ∈ fp,FpOk X pins H b ∧ b < s.heap.objs.size)
  (hns : h'.Ns s.heap.objs.size (fun _=>none)) (hk : ∀ b o,s.heap.get? b = some o → h'.get? b = some o)
  (hce : ∀ n c,(n,c) ∈ cellsFrom (s.heap.objs.size + 1) scope.names [] → h'.IsCell c none ∧ s.heap.objs.size + 1 ≤ c)
  (hap : (cellsFrom (s.heap.objs.size + 1) scope.names []).Pairwise fun x y=>x.2 ≠ y.2) : Inv (blk X x scope s.heap.objs.size s H fp) [] (σ ++ [none]) H { s with heap:=h' } where
 ok:=znG I F hf hap fun n c m=>(hce n c m).2
 os:=rfl
 bare:=I.bare
 base:=Un.kept hk
 loc:=by
  refine ⟨fun _=>none,hns,fun i y v e1 e2 e3=>?_⟩
  have hi : i < σ.length:=by
   have h1:=(List.getElem?_eq_some_iff.mp e2).1
   rw [List.length_append,List.length_singleton] at h1
   by_cases hlt : i < σ.length
   ·exact hlt
   ·have hi' : i = σ.length:=by omega
    rw [hi',List.getElem?_append_right (Nat.le_refl _),Nat.sub_self] at e2
    cases e2
  rw [List.getElem?_append_left hi] at e2
  have hi2 : i < X.N.length:=by rw [← I.len]; exact hi
  have e1' : (X.N.map fun y=>if y == x then hidN x else y)[i]? = some y:=by
   have : (blkN X.N x)[i]? = some y:=e1
   unfold blkN at this
   rwa [List.getElem?_append_left (by rw [List.length_map]; exact hi2)] at this
  rw [List.getElem?_map] at e1'
  cases q : X.N[i]? with
  | none=>rw [q] at e1'; cases e1'
  | some y0 =>
   rw [q] at e1'
   have e1'' : (if (y0 == x) = true then hidN x else y0) = y:=Option.some.inj e1'
   by_cases hx : (y0 == x) = true
   ·rw [if_pos hx] at e1''
    subst e1''
    exfalso
    have no : ∀ k,(relabel scope X.env).names.lookup (hidN x) = some k → False:=fun k z=>by
     rcases zbo z with z | ⟨_,z⟩ <;> · rw [F.emp] at z; cases z
    rcases e3 with z | z | z <;> exact no _ z
   ·rw [if_neg hx] at e1''
    subst e1''
    have hxn : y0 ≠ x:=fun z=>hx (by rw [z]; simp)
    obtain ⟨n1,n2⟩:=F.oth y0 (List.mem_of_getElem? q) hxn
    have hfr : scope.names.lookup y0 = some .free:=by
     rcases e3 with z | z | z
     ·rcases zbo z with z | ⟨z,_⟩
      ·exact absurd z n1
      ·cases z
     ·rcases zbo z with z | ⟨_,z⟩
      ·exact absurd z n2
      ·exact z
     ·rcases zbo z with z | ⟨z,_⟩
      ·exact z
      ·cases z
    have hm:=mem_of_lookup hfr
    have hnc : (y0,NameKind.cell) ∉ scope.names:=fun z=>n2 (F.cels _ z rfl)
    have ko:=(F.fres _ hm rfl).1
    obtain ⟨m,hn,hl⟩:=I.loc
    obtain ⟨u,ru,lk⟩:=hl i y0 v q e2 (ko.elim (fun z=>.inr (.inl z)) fun z=>.inr (.inr z))
    refine ⟨u,ru,.inr ?_⟩
    rcases lk with ⟨z,_⟩ | ⟨_,c,hc,ic⟩
    ·have z' : X.env.scope.names.lookup y0 = some .local:=z
     rcases ko with k | k <;> · rw [z'] at k; cases k
    ·refine ⟨?_,c,zfT hm hnc hc,ic.keeps hk⟩
     rcases e3 with z | z
     ·rcases zbo z with z | ⟨z,_⟩
      ·exact absurd z n1
      ·cases z
     ·exact z
 cell:=fun y c e=>by
  rcases zbQ (has_free I F) e with m | ⟨_,k⟩
  ·exact ⟨_,(hce _ _ m).1⟩
  ·obtain ⟨v,q⟩:=I.cell y c k
   exact ⟨v,q.keeps hk⟩
 free:=I.hok.fresh (Nat.le_refl _)
 freeC:=fun y c e=>by
  rcases zbQ (has_free I F) e with m | ⟨_,k⟩
  ·exact I.hok.fresh (Nat.le_of_succ_le (hce _ _ m).2)
  ·exact I.freeC y c k
 pin:=fun p hp=>by simp [blk] at hp
 hok:=I.hok.kept hk
 len:=by
  show (σ ++ [none]).length = (blkN X.N x).length
  unfold blkN
  rw [List.length_append,List.length_append,List.length_map,I.len]
  rfl

theorem zkG {fp : List Addr} {C : Addr} {H' : Hp} {s' : Shared} {h' : Heap} {σ' : Internal.L2.St} {pins' : List (Addr × Obj)} (I : Inv X pins σ H s) (hf : ∀ b ∈ fp,FpOk X pins H b ∧ b < s.heap.objs.size) (J : Inv (blk X x scope C s H fp) pins' σ' H' s') (hC : s.heap.objs.size ≤ C)
  (hs : Heap.SameBut C s'.heap h') : Inv X pins σ H' { s' with heap:=h' }:=by
 have nC : ∀ b o,s.heap.get? b = some o → b ≠ C:=fun b o e=>Nat.ne_of_lt (Nat.lt_of_lt_of_le (Heap.lt_size e) hC)
 have u:=J.base
 refine I.call' (s':={ s' with heap:=h' }) (ch:=fp) J.os ⟨?_,?_,u.free,?_,u.tups,u.frzs,u.tbls⟩ (fun b o e=>?_) J.bare ?_
 ·intro b o e n hb hx
  exact (hs.2 b (nC b o e)).trans (u.keep b o e n hb hx)
 ·intro b o e n hb hx
  obtain ⟨sl,q⟩:=u.slot b o e n hb hx
  exact ⟨sl,(hs.2 b (nC b o e)).trans q⟩
 ·intro b o e hx
  obtain ⟨o',q⟩:=u.there b o e hx
  exact ⟨o',(hs.2 b (nC b o e)).trans q⟩
 ·have hCn : H' C = none:=J.free
  refine (J.hok b o e).stay (fun c w' hc q=>(hs.2 c ?_).trans q) (fun _ q=>q) fun _ _ q=>q
  intro z
  rcases hc with y | y
  ·rw [← y,z,hCn] at e; cases e
  ·rw [z,hCn] at y; cases y
 ·intro b hb
  obtain ⟨_,f1,f2,f3,f4,f5⟩:=(hf b hb).1
  exact ⟨f3,f1,f4,f5⟩
end

theorem zdp {prog : Program} {w : World} {A : Around} {R : Result → Shared → Prop} {s : Shared} {elt target iter : Expr} {ifs : List Expr} {scope : Scope} {pos : Pos} {it acc : Value} {env : Env} (I : Nat → Shared → Prop)
  (turn : ∀ n s,I n s → wpAny (model prog w) A (pyNext it) (fun r s₁=>match r with
   | none=>R (.ok .next) s₁
   | some v=>wpAny (model prog w) A (letOwnedTupleGo target it v) (fun _ s₀=>wpAny (model prog w) A (assign target env v) (fun _ s₂ =>
     wpAny (model prog w) A (forIn ifs true fun c r=>if r = true then do let ok ← isTrue c env (eval c env); pure (ForInStep.yield ok) else pure (ForInStep.yield r)) (fun ok s₃ =>
      if ok = true then wpAny (model prog w) A (eval elt env) (fun x s₄ =>
       wpAny (model prog w) A (call (.builtin "list.append") [acc,x]) (fun _ s₅=>∃ m,m < n ∧ I m s₅) (fun _ _=>False) s₄) (fun _ _=>False) s₃
      else ∃ m,m < n ∧ I m s₃) (fun _ _=>False) s₂) (fun _ _=>False) s₀) (fun _ _=>False) s₁) (fun _ _=>False) s)
  (n : Nat) (h : I n s) :
  codeAny (model prog w) A (.compLoop (.ListComp elt [⟨target,iter,ifs,0⟩] scope pos) 0 it acc env) R s:=by
 refine codeAny_loop rfl I (fun n s hI=>?_) n h
 show wpAny _ A ((compTurn (.ListComp elt [⟨target,iter,ifs,0⟩] scope pos) 0 it acc env).onRaise (fun x=>do noteFrame x env; theTreesLotGoes x)) _ _ s
 refine wpAny_noted ?_
 rw [compTurn_list]
 refine wpAny_bind (wpAny_standAt (wpAny_bind (wpAny_mono (turn n s hI) (fun r s₁ h₁=>?_) fun _ _ h'=>h'.elim)))
 cases r with
 | none=>exact wpAny_pure h₁
 | some v =>
  refine wpAny_bind (wpAny_mono h₁ (fun _ s₀ h₀=>?_) fun _ _ h'=>h'.elim)
  refine wpAny_bind (wpAny_mono h₀ (fun _ s₂ h₂=>wpAny_bind (wpAny_mono h₂ (fun ok s₃ h₃=>?_) fun _ _ h'=>h'.elim)) fun _ _ h'=>h'.elim)
  cases ok with
  | false=>exact wpAny_pure ⟨rfl,h₃⟩
  | true =>
   exact wpAny_bind (wpAny_bind (wpAny_mono h₃ (fun x s₄ h₄=>wpAny_bind (wpAny_mono h₄ (fun _ s₅ h₅=>wpAny_pure (wpAny_pure ⟨rfl,h₅⟩)) fun _ _ h'=>h'.elim)) fun _ _ h'=>h'.elim))

section
variable {X : Cx}

noncomputable def PIfs (X : Cx) (ifs : List Expr) (t : TT) : Prop :=
 ∀ (pins : List (Addr × Obj)) (s : Shared) (σ : Internal.L2.St) (H : Hp) (Q : Bool → Hp → Prop),Inv X pins σ H s → t σ H Q →
  wpAny (model X.prog X.w) X.A (forIn ifs true fun c r=>if r = true then do let ok ← isTrue c X.env (eval c X.env); pure (ForInStep.yield ok) else pure (ForInStep.yield r)) (TP X pins σ Q) X.xe s
noncomputable def tNoIf : TT:=fun _ H Q=>Q true H
theorem zkH : PIfs X [] tNoIf:=fun pins s σ H Q I h=>by rw [List.forIn_nil]; exact wpAny_pure ⟨H,I,h⟩
theorem zkI {c : Expr} {t : TT} (hc : PT X c t) : PIfs X [c] t:=fun pins s σ H Q I h=>by
 rw [List.forIn_cons]
 simp only [if_true]
 refine wpAny_bind (wpAny_bind (thn (hc pins s σ H Q I h) fun b s1 q=>wpAny_pure ?_))
 show wpAny _ _ (forIn [] b _) _ _ _
 rw [List.forIn_nil]
 exact wpAny_pure q

noncomputable def tComp (wi : TI) (tt : TT) (te : TE) : TE:=fun σ H Q=>wi σ H fun J H1=>∀ l,H1 l = none → ∃ W : Nat → Nat → List V → Hp → Prop,(∃ m,W 0 m [] (upd H1 l (.lst []))) ∧
 ∀ i m ys H,W i m ys H → H l = some (.lst ys) ∧ ((J.stop i H ∧ Q (.ref l) H) ∨ (J.go i H ∧ ys.length < sizeLine ∧ ∀ x H',J.yld i H x H' → tt (σ ++ [some x]) H' fun b H2 =>
  if b = true then te (σ ++ [some x]) H2 fun y H3=>H3 l = some (.lst ys) ∧ ∃ m',m' < m ∧ W (i + 1) m' (ys ++ [y]) (upd H3 l (.lst (ys ++ [y]))) else ∃ m',m' < m ∧ W (i + 1) m' ys H2))

theorem zgk {elt iter : Expr} {x : Str} {px pos : Pos} {ifs : List Expr} {scope : Scope} {tt : TT} {te : TE} {pins : List (Addr × Obj)} {σ : Internal.L2.St} {H2 : Hp} {s2 : Shared} {it : Addr} {fp : List Addr} {tn : Nat → Heap → Prop} {J : It} {Q : VK} {E : Value → Shared → Prop} {RR : Value → Addr → Result → Shared → Prop}
  (hc : X.calm = true) (F : CompFacts X.N X.env.scope x scope) (ht : ∀ C s₀ H₀ ex,PIfs (blk X x scope C s₀ H₀ ex) ifs tt) (he : ∀ C s₀ H₀ ex,PE (blk X x scope C s₀ H₀ ex) elt te)
  (I2 : Inv X pins σ H2 s2) (T : Turn X.prog X.w X.K (.Name x px) J fp it tn) (st2 : tn 0 s2.heap) (f2 : ∀ b ∈ fp,FpOk X pins H2 b)
  (h : ∀ l,H2 l = none → ∃ W : Nat → Nat → List V → Hp → Prop,(∃ m,W 0 m [] (upd H2 l (.lst []))) ∧
   ∀ i m ys H,W i m ys H → H l = some (.lst ys) ∧ ((J.stop i H ∧ Q (.ref l) H) ∨ (J.go i H ∧ ys.length < sizeLine ∧ ∀ x H',J.yld i H x H' → tt (σ ++ [some x]) H' fun b H2 =>
    if b = true then te (σ ++ [some x]) H2 fun y H3=>H3 l = some (.lst ys) ∧ ∃ m',m' < m ∧ W (i + 1) m' (ys ++ [y]) (upd H3 l (.lst (ys ++ [y]))) else ∃ m',m' < m ∧ W (i + 1) m' ys H2)))
  (fin : ∀ (l C : Addr) (H' : Hp) (s' : Shared),Q (.ref l) H' → (∃ m,s'.heap.Ns C m) → FpOk X pins H' C → (∀ h',Heap.SameBut C s'.heap h' → Inv X pins σ H' { s' with heap:=h' }) → RR (.ref l) C (.ok .next) s') :
  wpAny (model X.prog X.w) X.A (newList []) (fun acc s₃=>wpAny (model X.prog X.w) X.A (newFunctionEnv scope X.env.globals (clOf X.env.cells scope.names []) [] X.env.qual none .none (some X.env)) (fun cenv s₄ =>
   codeAny (model X.prog X.w) X.A (.compStart (.ListComp elt [⟨.Name x px,iter,ifs,0⟩] scope pos) 0 (.ref it) acc { cenv with scope:=relabel scope X.env }) (RR acc cenv.locals) s₄) E s₃) E s2:=by
 obtain ⟨W,⟨m0,w0⟩,turn⟩:=h s2.heap.objs.size (I2.hok.fresh (Nat.le_refl _))
 refine wpAny_newObj_type ?_
 have I3 : Inv X pins σ (upd H2 s2.heap.objs.size (.lst [])) { s2 with heap:=s2.heap.push { cls:=.type "list",data:=.seq ([] : List Value).toArray } }:=I2.lnew (t':=s2.toks) (its:=[]) .nil (Nat.zero_le _)
 generalize hl : s2.heap.objs.size = l at *
 generalize hH3 : upd H2 l (.lst []) = H3 at *
 generalize hs3 : ({ s2 with heap:=s2.heap.push { cls:=.type "list",data:=.seq ([] : List Value).toArray } } : Shared) = s3 at I3
 have hk3 : ∀ b o,s2.heap.get? b = some o → s3.heap.get? b = some o:=fun b o e=>by rw [← hs3]; exact Heap.get?_push_of_some _ e
 have lt2 : ∀ b ∈ fp,b < s2.heap.objs.size:=fun b hb=>by obtain ⟨o,e,_⟩:=T.obj _ _ st2 b hb; exact Heap.lt_size e
 have lt3 : s2.heap.objs.size ≤ s3.heap.objs.size:=by rw [← hs3]; show _ ≤ (s2.heap.push _).objs.size; rw [Heap.size_push]; omega
 have hn3 : ∀ b ∈ fp,H3 b = none:=fun b hb=>by
  rw [← hH3,zp (by rw [← hl]; exact Nat.ne_of_lt (lt2 b hb))]
  exact (f2 b hb).1
 have f3 : ∀ b ∈ fp,FpOk X pins H3 b ∧ b < s3.heap.objs.size:=fun b hb=>⟨⟨hn3 b hb,(f2 b hb).2⟩,Nat.lt_of_lt_of_le (lt2 b hb) lt3⟩
 have st3 : tn 0 s3.heap:=T.keep _ _ _ st2 fun b _ o e=>hk3 b o e
 show wpAny _ _ (newFunctionEnv scope X.env.globals (clOf X.env.cells scope.names []) [] X.env.qual none .none (some X.env)) _ _ _
 refine zef fun h4 hns hk4 hce hap=>?_
 have IB:=zlV I3 F f3 hns hk4 hce hap
 have statB : ∀ {H' : Hp},(∀ b ∈ fp,H' b = none) → ∀ b ∈ fp,FpOk (blk X x scope s3.heap.objs.size s3 H3 fp) [] H' b:=fun hn b hb =>
  ⟨hn b hb,(IB.ok.exf b hb).1,IB.ok.exfs b hb,.inl hb,(IB.ok.exf b hb).2,fun p hp=>by simp [blk] at hp⟩
 have hlenσ : σ.length = X.N.length:=I3.len
 have hxi : (blk X x scope s3.heap.objs.size s3 H3 fp).N[σ.length]? = some x:=by
  show (blkN X.N x)[σ.length]? = some x
  unfold blkN
  rw [List.getElem?_append_right (by rw [List.length_map,hlenσ]; exact Nat.le_refl _),List.length_map,hlenσ,Nat.sub_self]
  rfl
 have hxl : Loc (blk X x scope s3.heap.objs.size s3 H3 fp).env.scope x:=by
  show (relabel scope X.env).names.lookup x = some .local ∨ (relabel scope X.env).names.lookup x = some .cell
  rw [zcQ]
  rcases F.tgt with z | z
  ·rw [z]; exact .inl rfl
  ·rw [z]; exact .inr rfl
 have hpg : PG (blk X x scope s3.heap.objs.size s3 H3 fp) (.Name x px) (gName σ.length):=zdN F.nd hxi hxl (.inl (by simp [blk]))
 have loop : codeAny (model X.prog X.w) X.A (.compLoop (.ListComp elt [⟨.Name x px,iter,ifs,0⟩] scope pos) 0 (.ref it) (.ref l) (zjn scope s3.heap.objs.size X.env)) (RR (.ref l) s3.heap.objs.size) { s3 with heap:=h4 }:=by
  refine zdp (fun n s'=>∃ i o H' ys,Inv (blk X x scope s3.heap.objs.size s3 H3 fp) [] (σ ++ [o]) H' s' ∧ tn i s'.heap ∧ (∀ b ∈ fp,H' b = none) ∧ W i n ys H') ?_ m0
   ⟨0,none,H3,[],IB,T.keep _ _ _ st3 fun b _ o e=>hk4 b o e,hn3,w0⟩
  rintro n s5 ⟨i,o,H5,ys,I5,st5,fr5,w5⟩
  obtain ⟨hl5,⟨stop,q5⟩ | ⟨go,hlen,step⟩⟩:=turn i n ys H5 w5
  ·refine wpAny_mono (T.done (blk X x scope s3.heap.objs.size s3 H3 fp) rfl rfl rfl hc i [] s5 (σ ++ [o]) H5 (fun _ _=>False) I5 (statB fr5) st5 stop) (fun r s6 hP29=>?_) fun _ _ z=>z
   obtain ⟨hr,I6⟩:=hP29
   subst hr
   obtain ⟨m,hm,_⟩:=I6.loc
   exact fin l _ H5 s6 q5 ⟨m,hm⟩ (I3.fpOk (Nat.le_refl _) I6.free) fun h' hs=>zkG I3 f3 I6 (Nat.le_refl _) hs
  ·refine wpAny_mono (T.item (blk X x scope s3.heap.objs.size s3 H3 fp) rfl rfl rfl hc i [] s5 (σ ++ [o]) H5 (fun _ _=>False) I5 (statB fr5) st5 go) (fun r s6 hP30=>?_) fun _ _ z=>z
   obtain ⟨u,hr,h6⟩:=hP30
   subst hr
   refine wpAny_mono h6 (fun _ s7 hP31=>?_) fun _ _ z=>z
   obtain ⟨xv,H7,I7,r7,y7,st7,fr7⟩:=hP31
   have I7':=I7.pinned (statB fr7) (T.obj _ _ st7)
   have keepT : ∀ {σ' : Internal.L2.St} {H' : Hp} {s' : Shared},Inv (blk X x scope s3.heap.objs.size s3 H3 fp) ([] ++ zdu fp s7.heap) σ' H' s' → tn (i + 1) s'.heap ∧ ∀ b ∈ fp,H' b = none:=fun {σ' H' s'} I'=>by
    refine ⟨T.keep _ _ _ st7 fun b hb o e=>(I'.pin (b,o) (List.mem_append_right _ (List.mem_append_right _ (zcg hb e)))).1,fun b hb=>?_⟩
    obtain ⟨ob,e,d⟩:=T.obj _ _ st7 b hb
    exact (I'.pin (b,ob) (List.mem_append_right _ (List.mem_append_right _ (zcg hb e)))).2.1
   refine thn (hpg _ s7 (σ ++ [o]) H7 xv u (fun σ' H'=>σ' = σ ++ [some xv] ∧ H' = H7) I7' r7
    ⟨by rw [List.set_append_right _ _ (Nat.le_refl _),Nat.sub_self]; rfl,rfl⟩) fun _ s8 ⟨σ8,H8,I8,e8,e8'⟩=>?_
   subst e8 e8'
   refine thn (ht _ _ _ _ _ s8 _ _ _ I8 (step xv _ y7)) fun b s9 hP32=>?_
   obtain ⟨H9,I9,q9⟩:=hP32
   cases b with
   | false =>
    obtain ⟨m',hm,w9⟩:=q9
    exact ⟨m',hm,i + 1,some xv,H9,ys,I9.unpinned,(keepT I9).1,(keepT I9).2,w9⟩
   | true =>
    refine thn (he _ _ _ _ _ s9 _ H9 _ I9 q9) fun yv s10 hP33=>?_
    obtain ⟨y,H10,I10,r10,hl10,m',hm,w10⟩:=hP33
    refine thn (zdw _ s10 _ H10 (.ref l) [y] (.ref l) [yv] (fun _ H'=>H' = upd H10 l (.lst (ys ++ [y]))) I10 rfl (.cons r10 .nil) ⟨l,ys,y,rfl,rfl,hl10,hlen,rfl⟩) fun _ s11 hP34=>?_
    obtain ⟨_,H11,I11,_,e11⟩:=hP34
    subst e11
    exact ⟨m',hm,i + 1,some xv,_,ys ++ [y],I11.unpinned,(keepT I11).1,(keepT I11).2,w10⟩
 exact codeAny_compStart_list loop (T.self _ 0 _ _ _ (T.keep _ _ _ st3 fun b _ o e=>hk4 b o e) loop)

theorem zlW {elt iter : Expr} {x : Str} {px pos : Pos} {ifs : List Expr} {scope sc : Scope} {N : List Str} {wi : TI} {tt : TT} {te : TE}
  (hc : X.calm = true) (hi : PI X (.Name x px) iter wi) (hN : X.N = N) (hsc : X.env.scope = sc) (ok : zcs N sc x scope = true)
  (ht : ∀ C s₀ H₀ ex,PIfs (blk X x scope C s₀ H₀ ex) ifs tt) (he : ∀ C s₀ H₀ ex,PE (blk X x scope C s₀ H₀ ex) elt te)
  (hs : ∀ v,foldedSetIterable iter X.env v = pure v:=by ac_rfl) :
  PE X (.ListComp elt [⟨.Name x px,iter,ifs,0⟩] scope pos) (tComp wi tt te):=by
 intro pins s σ H Q I h
 subst hN hsc
 have F:=zdx ok
 rw [eval_ListComp]
 refine wpAny_comprehension_free (use:=none) rfl hs (zdm (has_free I F)) F.kind F.locs (thn (hi pins s σ H _ I h) fun xv s1 h1=>thn h1 fun itv s2 h2=>?_)
 obtain ⟨it,fp,tn,J,H2,e,I2,T,st2,f2,hW⟩:=h2
 subst e
 refine zgk (Q:=Q) (RR:=fun acc C=>compPost (model X.prog X.w) X.A X.xe none (EP X pins σ Q) acc C) hc F ht he I2 T st2 f2 hW fun l C H' s' q hm _ hI=>?_
 obtain ⟨m,hm⟩:=hm
 exact ⟨m,hm,fun h' hs'=>⟨.ref l,H',hI h' hs',rfl,q⟩⟩

theorem zlX {elt iter : Expr} {x y : Str} {px py pos spos : Pos} {ifs : List Expr} {scope sc : Scope} {N : List Str} {wi : TI} {tt : TT} {te : TE} {i : Nat}
  (hc : X.calm = true) (hi : PI X (.Name x px) iter wi) (hN : X.N = N) (hsc : X.env.scope = sc) (ok : zcs N sc x scope = true)
  (ht : ∀ C s₀ H₀ ex,PIfs (blk X x scope C s₀ H₀ ex) ifs tt) (he : ∀ C s₀ H₀ ex,PE (blk X x scope C s₀ H₀ ex) elt te)
  (hnd : X.N.Nodup) (hyi : X.N[i]? = some y) (hyl : X.env.scope.names.lookup y = some .local)
  (hsw : swapsWith (.ListComp elt [⟨.Name x px,iter,ifs,0⟩] scope pos) (some (.Name y py)) spos.line X.env = pure true)
  (hs : ∀ v,foldedSetIterable iter X.env v = pure v:=by ac_rfl) :
  PS X (.Assign [.Name y py] (.ListComp elt [⟨.Name x px,iter,ifs,0⟩] scope pos) spos) (tAsg (tComp wi tt te) (gName i)):=by
 intro pins s σ H D I h
 subst hN hsc
 have F:=zdx ok
 rw [exec_Assign_Name_used _ _ _ _ hsw]
 refine wpAny_bind (wpAny_standAt (wpAny_bind ?_))
 show wpAny _ _ (do let _ ← comprehension (.ListComp elt [⟨.Name x px,iter,ifs,0⟩] scope pos) scope X.env _ (newList []) false (eval iter X.env) (some (assign (.Name y py) X.env))) _ _ s
 refine wpAny_bind (wpAny_mono (wpAny_comprehension_free (use:=some (assign (.Name y py) X.env)) (Q:=fun _ s'=>SP X pins D .next s') rfl hs (zdm (has_free I F)) F.kind F.locs
  (thn (hi pins s σ H _ I h) fun xv s1 h1=>thn h1 fun itv s2 h2=>?_)) (fun _ s' hq=>wpAny_pure (wpAny_pure hq)) fun _ _ e=>e)
 obtain ⟨it,fp,tn,J,H2,e,I2,T,st2,f2,hW⟩:=h2
 subst e
 refine zgk (Q:=fun x H1=>gName i x σ H1 D.nx) (RR:=fun acc C=>compPost (model X.prog X.w) X.A X.xe (some (assign (.Name y py) X.env)) (fun _ s'=>SP X pins D .next s') acc C) hc F ht he I2 T st2 f2 hW fun l C H' s' q hm hF hI=>?_
 obtain ⟨m,hm⟩:=hm
 show wpAny _ _ (assign (.Name y py) X.env (.ref l)) _ _ s'
 have I' : Inv X pins σ H' s':=hI s'.heap (.refl ..)
 refine wpAny_assign_Name (zfw I' hnd hyi (.inl hyl) (show RelV (.ref l) (.ref l) from rfl) (fun s'' I'' hch=>?_) (.inr hyl))
 obtain ⟨a,hsa,ha⟩:=hch
 have hCa : C ≠ a:=by
  rcases ha with z | z
  ·rw [z]; exact hF.2.1
  ·exact (hF.2.2.2.2.1 y a z).symm
 refine ⟨m,hm.sameBut hsa hCa,fun h' hs'=>⟨σ.set i (some (.ref l)),H',?_,q⟩⟩
 exact I''.turned (t':=s''.toks) (fun b o hb e=>(hs'.2 b hb).trans e) hF.1 hF.2.1 hF.2.2.2.1 hF.2.2.2.2.1 hF.2.2.2.2.2
end
end Internal

end
section
set_option Elab.async false
set_option linter.all false
set_option maxRecDepth 100000
set_option maxHeartbeats 4000000

namespace Internal
open PySem PySem.Spec PyProof.Rows Internal.L2

noncomputable instance {sc : Scope} {x : Str} : Decidable (Internal.L2.Vis sc x):=inferInstanceAs (Decidable (_ ∨ _ ∨ _))
noncomputable instance {sc : Scope} {x : Str} : Decidable (Internal.L2.Loc sc x):=inferInstanceAs (Decidable (_ ∨ _))
inductive D where
 | non | bl (b : Bool) | int (i : Int) | str (x : Str) | tup (ds : List D) | lst (ds : List D)
 
 | dcI (kvs : List (List Int × Int))

noncomputable abbrev dcV (kvs : List (List Int × Int)) : List (List Key × V):=kvs.map fun kv=>(kv.1.map Sum.inl,V.int kv.2)

noncomputable def NT (o : HO) : Prop:=∀ xs,o ≠ .tup xs
noncomputable abbrev HN:={ o : HO // NT o }
theorem zez {xs : List V} : NT (.lst xs):=fun _ z=>by cases z
theorem nt_dE {xs : List DictEntry} : NT (.dE xs):=fun _ z=>by cases z
theorem nt_dT {xs : List (List Key × V)} : NT (.dT xs):=fun _ z=>by cases z

noncomputable def zdy (H : Hp) (o : Obj) (kvs : List (List Int × Int)) : Prop:=∃ (es : Array DictEntry) (ep : Nat),o.data = .dict es ep ∧ es.size = kvs.length ∧ ∀ (i : Nat) (k : List Int) (v : Int),kvs[i]? = some (k,v) → ∃ (e : DictEntry) (b : Addr),es[i]? = some e ∧ e.key = .ref b ∧ H b = some (.tup (k.map V.int))
mutual
noncomputable def Rep (K : PySem.W.Frag) (H : Hp) : D → V → Prop
 | .non,v=>v = .non
 | .bl b,v=>v = .bl b
 | .int i,v=>v = .int i
 | .str x,v=>v = .str x
 | .tup ds,v=>∃ a vs,v = .ref a ∧ H a = some (.tup vs) ∧ Reps K H ds vs
 | .lst ds,v=>∃ a vs,v = .ref a ∧ SqL K H a vs ∧ Reps K H ds vs
 | .dcI kvs,v=>∃ a o,v = .ref a ∧ H a = some (.frz o (.dT (dcV kvs))) ∧ zdy H o kvs
noncomputable def Reps (K : PySem.W.Frag) (H : Hp) : List D → List V → Prop
 | [],vs=>vs = []
 | d :: ds,vs=>∃ v r,vs = v :: r ∧ Rep K H d v ∧ Reps K H ds r
end

section
variable {K : PySem.W.Frag} {H H' : Hp}
theorem zbV {a : Addr} {xs : List V} (e : Same H H') (h : H a = some (.tup xs)) : SqT K H' a xs:=SqT.of (e _ _ h)
theorem zgl {a : Addr} {xs : List V} (e : Same H H') (h : SqT K H a xs) : SqT K H' a xs:=by
 rcases h with (h | ⟨o,h⟩) | h
 ·exact .inl (.inl (e _ _ h))
 ·exact .inl (.inr ⟨o,e _ _ h⟩)
 ·exact .inr h
theorem zdy.mono (e : Same H H') {o : Obj} {kvs : List (List Int × Int)} : zdy H o kvs → zdy H' o kvs:=fun ⟨es,ep,h1,h2,h3⟩=>⟨es,ep,h1,h2,fun i k v h=>let ⟨en,b,a1,a2,a3⟩:=h3 i k v h; ⟨en,b,a1,a2,e _ _ a3⟩⟩
mutual
theorem Rep.mono (e : Same H H') : ∀ (d : D) {v : V},Rep K H d v → Rep K H' d v
 | .non,_,h=>h
 | .bl _,_,h=>h
 | .int _,_,h=>h
 | .str _,_,h=>h
 | .tup ds,_,⟨a,vs,e1,e2,r⟩=>⟨a,vs,e1,e _ _ e2,Reps.mono e ds r⟩
 | .lst ds,_,⟨a,vs,e1,e2,r⟩=>⟨a,vs,e1,Same.seq e e2,Reps.mono e ds r⟩
 | .dcI _,_,⟨a,o,e1,e2,k⟩=>⟨a,o,e1,e _ _ e2,k.mono e⟩
theorem Reps.mono (e : Same H H') : ∀ (ds : List D) {vs : List V},Reps K H ds vs → Reps K H' ds vs
 | [],_,h=>h
 | d :: ds,_,⟨v,r,e1,h1,h2⟩=>⟨v,r,e1,Rep.mono e d h1,Reps.mono e ds h2⟩
end
theorem Reps.len : ∀ {ds : List D} {vs : List V},Reps K H ds vs → vs.length = ds.length
 | [],_,h=>by cases (show _ = [] from h); rfl
 | d :: ds,_,⟨v,r,e1,_,h2⟩=>by subst e1; exact congrArg (· + 1) (Reps.len h2)
theorem Reps.get : ∀ {ds : List D} {vs : List V} {i : Nat} {d : D},Reps K H ds vs → ds[i]? = some d → ∃ v,vs[i]? = some v ∧ Rep K H d v
 | [],_,_,_,_,e=>by simp at e
 | d :: ds,_,0,d',⟨v,r,e1,h1,_⟩,e=>by
  subst e1
  have e' : d = d':=by simpa using e
  subst e'
  exact ⟨v,rfl,h1⟩
 | d :: ds,_,i + 1,d',⟨v,r,e1,_,h2⟩,e=>by
  subst e1
  exact Reps.get h2 (i:=i) (by simpa using e)
theorem Reps.app : ∀ {ds es : List D} {vs ws : List V},Reps K H ds vs → Reps K H es ws → Reps K H (ds ++ es) (vs ++ ws)
 | [],_,_,_,h,h'=>by cases (show _ = [] from h); exact h'
 | d :: ds,es,_,ws,⟨v,r,e1,h1,h2⟩,h'=>by subst e1; exact ⟨v,r ++ ws,rfl,h1,Reps.app h2 h'⟩
theorem Reps.one {d : D} {v : V} (h : Rep K H d v) : Reps K H [d] [v]:=⟨v,[],rfl,h,rfl⟩
theorem Reps.rev : ∀ {ds : List D} {vs : List V},Reps K H ds vs → Reps K H ds.reverse vs.reverse
 | [],_,h=>by cases (show _ = [] from h); exact rfl
 | d :: ds,_,⟨v,r,e1,h1,h2⟩=>by
  subst e1
  rw [List.reverse_cons,List.reverse_cons]
  exact (Reps.rev h2).app (.one h1)
theorem Reps.set : ∀ {ds : List D} {vs : List V} (n : Nat) {d : D} {v : V},Reps K H ds vs → Rep K H d v → Reps K H (ds.set n d) (vs.set n v)
 | [],_,_,_,_,h,_=>by cases (show _ = [] from h); exact rfl
 | d :: ds,_,0,d',v',⟨v,r,e1,h1,h2⟩,h=>by subst e1; exact ⟨v',r,rfl,h,h2⟩
 | d :: ds,_,n + 1,d',v',⟨v,r,e1,h1,h2⟩,h=>by subst e1; exact ⟨v,r.set n v',rfl,h1,Reps.set n h2 h⟩
theorem Reps.ints : ∀ (ns : List Int),Reps K H (ns.map D.int) (ns.map V.int)
 | []=>rfl
 | n :: ns=>⟨.int n,ns.map V.int,rfl,rfl,Reps.ints ns⟩
theorem Reps.at {ds : List D} {vs : List V} {i : Int} {d : D} (h : Reps K H ds vs) (e : atI ds i = some d) : ∃ v,atI vs i = some v ∧ Rep K H d v:=by
 unfold atI at e ⊢
 rw [h.len]
 cases q : ixN ds.length i with
 | none=>rw [q] at e; cases e
 | some j =>
  rw [q] at e
  exact h.get e
end

noncomputable def hidB (χ : Addr → Bool) (H : Hp) : Hp:=fun b=>if χ b = true then none else H b
theorem zr {χ : Addr → Bool} {H : Hp} {b : Addr} {o : HO} (h : hidB χ H b = some o) : χ b = false ∧ H b = some o:=by
 unfold hidB at h
 by_cases c : χ b = true
 ·rw [if_pos c] at h; cases h
 ·rw [if_neg c] at h; exact ⟨by simpa using c,h⟩
theorem zy {χ : Addr → Bool} {H : Hp} {b : Addr} {o : HO} (c : χ b = false) (h : H b = some o) : hidB χ H b = some o:=by
 unfold hidB
 rw [if_neg (by rw [c]; exact Bool.false_ne_true)]
 exact h
theorem zm {χ : Addr → Bool} {H : Hp} : Same (hidB χ H) H:=fun _ _ h=>(zr h).2
theorem zA {χ : Addr → Bool} {H H' : Hp} (e : Same H H') : Same (hidB χ H) (hidB χ H'):=fun b o h=>zy (zr h).1 (e b o (zr h).2)
theorem zH {H : Hp} {p : Addr} (h : H p = none) (o : HO) : Same H (upd H p o):=fun b u q=>by rw [zp (zE q h)]; exact q

inductive Ct where
 | lst (ds : List D) | dct (kvs : List (List Int × D))
 
 | bdc (ks : List (List (List Int)))
inductive Sl where
 | no | val (d : D) | ll (a : Bool) (c : Ct)

noncomputable abbrev Sl.li (a : Bool) (ds : List D) : Sl:=.ll a (.lst ds)

noncomputable abbrev Sl.own (ds : List D) : Sl:=.ll false (.lst ds)

noncomputable abbrev Sl.arg (ds : List D) : Sl:=.ll true (.lst ds)

noncomputable abbrev Sl.bds (ks : List (List (List Int))) : Sl:=.ll false (.bdc ks)
noncomputable abbrev Sl.dic (kvs : List (List Int × D)) : Sl:=.ll false (.dct kvs)
noncomputable def DReps (K : PySem.W.Frag) (H : Hp) : List (List Int × D) → List (List Key × V) → Prop
 | [],ho=>ho = []
 | (k,d) :: r,ho=>∃ v r',ho = (k.map Sum.inl,v) :: r' ∧ Rep K H d v ∧ DReps K H r r'
theorem DReps.mono {K : PySem.W.Frag} {H H' : Hp} (e : Same H H') : ∀ (kvs : List (List Int × D)) {ho : List (List Key × V)},DReps K H kvs ho → DReps K H' kvs ho
 | [],_,h=>h
 | (_,d) :: r,_,⟨v,r',e1,h1,h2⟩=>⟨v,r',e1,h1.mono e d,DReps.mono e r h2⟩

noncomputable def bHash (k : List (List Int)) : Int:=reduceHash (Builtin.Tuple.tupleHashOf (k.map fun r=>reduceHash (Builtin.Tuple.tupleHashOf (r.map hashInt))))
noncomputable def BReps (K : PySem.W.Frag) (H : Hp) : List (List (List Int)) → List DictEntry → Prop
 | [],es=>es = []
 | k :: r,es=>∃ b v r',es = ⟨bHash k,.ref b,v⟩ :: r' ∧ Rep K H (.tup (k.map fun x=>.tup (x.map D.int))) (.ref b) ∧ BReps K H r r'
theorem BReps.mono {K : PySem.W.Frag} {H H' : Hp} (e : Same H H') : ∀ (ks : List (List (List Int))) {es : List DictEntry},BReps K H ks es → BReps K H' ks es
 | [],_,h=>h
 | _ :: r,_,⟨b,v,r',e1,h1,h2⟩=>⟨b,v,r',e1,h1.mono e _,BReps.mono e r h2⟩
noncomputable def CRep (K : PySem.W.Frag) (H : Hp) : Ct → HO → Prop
 | .lst ds,ho=>∃ vs,ho = .lst vs ∧ Reps K H ds vs
 | .dct kvs,ho=>∃ kv,ho = .dT kv ∧ DReps K H kvs kv
 | .bdc ks,ho=>∃ es,ho = .dE es ∧ BReps K H ks es ∧ ks.Nodup
theorem CRep.nt {K : PySem.W.Frag} {H : Hp} : ∀ {c : Ct} {ho : HO},CRep K H c ho → NT ho
 | .lst _,_,⟨_,e,_⟩=>by subst e; exact zez
 | .dct _,_,⟨_,e,_⟩=>by subst e; exact nt_dT
 | .bdc _,_,⟨_,e,_⟩=>by subst e; exact nt_dE
theorem CRep.mono {K : PySem.W.Frag} {H H' : Hp} (e : Same H H') : ∀ (c : Ct) {ho : HO},CRep K H c ho → CRep K H' c ho
 | .lst ds,_,⟨vs,e1,h⟩=>⟨vs,e1,Reps.mono e ds h⟩
 | .dct kvs,_,⟨kv,e1,h⟩=>⟨kv,e1,DReps.mono e kvs h⟩
 | .bdc ks,_,⟨es,e1,h,nd⟩=>⟨es,e1,BReps.mono e ks h,nd⟩

structure RE (K : PySem.W.Frag) (χ : Addr → Bool) (H : Hp) (σ : Internal.L2.St) (Γ : List Sl) : Prop where
 live : ∀ p,χ p = true → ∃ o : HN,H p = some o.1
 len : σ.length = Γ.length
 val : ∀ (i : Nat) (d : D),Γ[i]? = some (.val d) → ∃ v,σ[i]? = some (some v) ∧ Rep K (hidB χ H) d v
 own : ∀ (i : Nat) (a : Bool) (c : Ct),Γ[i]? = some (.ll a c) → ∃ p ho,σ[i]? = some (some (.ref p)) ∧ χ p = true ∧ H p = some ho ∧ CRep K (hidB χ H) c ho
 inj : ∀ (i j : Nat) (a a' : Bool) (ds es : Ct) (p : Addr),Γ[i]? = some (.ll a ds) → Γ[j]? = some (.ll a' es) → σ[i]? = some (some (.ref p)) → σ[j]? = some (some (.ref p)) → i = j
theorem RE.mono {K : PySem.W.Frag} {χ : Addr → Bool} {H H' : Hp} {σ : Internal.L2.St} {Γ : List Sl} (r : RE K χ H σ Γ) (e : Same H H') : RE K χ H' σ Γ :=
 ⟨fun p h=>let ⟨o,q⟩:=r.live p h; ⟨o,e _ _ q⟩,r.len,fun i d h=>let ⟨v,q,p⟩:=r.val i d h; ⟨v,q,p.mono (zA e) d⟩,fun i a ds h=>let ⟨p,vs,h1,h2,h3,h4⟩:=r.own i a ds h; ⟨p,vs,h1,h2,e _ _ h3,CRep.mono (zA e) ds h4⟩,r.inj⟩
theorem RE.ownL {K : PySem.W.Frag} {χ : Addr → Bool} {H : Hp} {σ : Internal.L2.St} {Γ : List Sl} (r : RE K χ H σ Γ) (i : Nat) (a : Bool) (ds : List D) (h : Γ[i]? = some (.li a ds)) : ∃ p vs,σ[i]? = some (some (.ref p)) ∧ χ p = true ∧ H p = some (.lst vs) ∧ Reps K (hidB χ H) ds vs:=by
 obtain ⟨p,ho,h1,h2,h3,vs,rfl,h4⟩:=r.own i a _ h
 exact ⟨p,vs,h1,h2,h3,h4⟩
theorem RE.fresh {K : PySem.W.Frag} {χ : Addr → Bool} {H : Hp} {σ : Internal.L2.St} {Γ : List Sl} (r : RE K χ H σ Γ) {p : Addr} (h : H p = none) : χ p = false:=by
 cases c : χ p with
 | false=>rfl
 | true=>obtain ⟨o,q⟩:=r.live p c; rw [h] at q; cases q

set_option genInjectivity false in
structure Stat where
 P : Program
 w : World
 K : PySem.W.Frag
 mg : Str → Option Value
 base : Heap
 k : Nat
 N : List Str
 sc : Scope
 top : Bool
structure Stat.Of (S : Stat) (X : Cx) : Prop where
 prog : X.prog = S.P
 w : X.w = S.w
 K : X.K = S.K
 mg : X.mg = S.mg
 base : X.base = S.base
 N : X.N = S.N
 sc : X.env.scope = S.sc
 room : Room S.k X.A
 calm : X.calm = true
 own : PassesOwn (model X.prog X.w) X.A X.env X.xe
 fn : S.top = true → ∀ x,X.fn x = true
 stk : S.top = true → X.stack = X.env :: X.outer ∧ X.env.frame = some X.env.locals

noncomputable def relS (scope sc : Scope) : Scope:={ scope with names:=scope.names.map fun (n,k)=>if (k == .free && sc.kind == .function && sc.names.lookup n == some .cell) then (n,.cell) else (n,k) }
noncomputable def Stat.blk (S : Stat) (x : Str) (scope : Scope) : Stat:={ S with N:=blkN S.N x,sc:=relS scope S.sc,top:=false }
theorem Stat.Of.blk {S : Stat} {X : Cx} (h : S.Of X) (x : Str) (scope : Scope) (C : Addr) (s₀ : Shared) (H₀ : Hp) (ex : List Addr) : (S.blk x scope).Of (Internal.blk X x scope C s₀ H₀ ex) where
 prog:=h.prog
 w:=h.w
 K:=h.K
 mg:=h.mg
 base:=h.base
 N:=by show blkN X.N x = blkN S.N x; rw [h.N]
 sc:=by show relabel scope X.env = relS scope S.sc; rw [← h.sc]; rfl
 room:=h.room
 calm:=h.calm
 own:=PassesOwn.never
 fn:=fun z=>(nomatch z)
 stk:=fun z=>(nomatch z)

noncomputable def dE (K : PySem.W.Frag) (Γ : List Sl) (d : D) : TE:=fun σ H Q=>∃ χ,RE K χ H σ Γ ∧ ∀ v H',Same H H' → Rep K (hidB χ H') d v → Q v H'
noncomputable def dT (K : PySem.W.Frag) (Γ : List Sl) (b : Bool) : TT:=fun σ H Q=>∃ χ,RE K χ H σ Γ ∧ ∀ H',Same H H' → Q b H'
noncomputable def dA (K : PySem.W.Frag) (Γ : List Sl) (ds : List D) : TA:=fun σ H Q=>∃ χ,RE K χ H σ Γ ∧ ∀ vs H',Same H H' → Reps K (hidB χ H') ds vs → Q vs H'

noncomputable def dF (K : PySem.W.Frag) (Γ : List Sl) (ds : List D) : TE:=fun σ H Q=>∃ χ,RE K χ H σ Γ ∧ ∀ l vs H',H l = none → Same H H' → H' l = some (.lst vs) → Reps K (hidB (fun b=>χ b || b == l) H') ds vs → Q (.ref l) H'

structure JE (S : Stat) (Γ : List Sl) (e : Expr) (d : D) : Prop where
 run : ∀ X,S.Of X → PE X e (dE S.K Γ d)
noncomputable instance {S : Stat} {Γ : List Sl} {e : Expr} {d : D} : CoeFun (JE S Γ e d) fun _=>∀ X,S.Of X → PE X e (dE S.K Γ d):=⟨fun h=>h.run⟩
structure JT (S : Stat) (Γ : List Sl) (e : Expr) (b : Bool) : Prop where
 run : ∀ X,S.Of X → PT X e (dT S.K Γ b)
noncomputable instance {S : Stat} {Γ : List Sl} {e : Expr} {b : Bool} : CoeFun (JT S Γ e b) fun _=>∀ X,S.Of X → PT X e (dT S.K Γ b):=⟨fun h=>h.run⟩
structure JA (S : Stat) (Γ : List Sl) (es : List Expr) (ds : List D) : Prop where
 run : ∀ X,S.Of X → PA X es (dA S.K Γ ds)
noncomputable instance {S : Stat} {Γ : List Sl} {es : List Expr} {ds : List D} : CoeFun (JA S Γ es ds) fun _=>∀ X,S.Of X → PA X es (dA S.K Γ ds):=⟨fun h=>h.run⟩
structure JF (S : Stat) (Γ : List Sl) (e : Expr) (ds : List D) : Prop where
 run : ∀ X,S.Of X → PE X e (dF S.K Γ ds)
noncomputable instance {S : Stat} {Γ : List Sl} {e : Expr} {ds : List D} : CoeFun (JF S Γ e ds) fun _=>∀ X,S.Of X → PE X e (dF S.K Γ ds):=⟨fun h=>h.run⟩

theorem zq {X : Cx} {e : Expr} {t t' : TE} (h : PE X e t) (f : ∀ σ H Q,t' σ H Q → t σ H Q) : PE X e t':=fun pins s σ H Q I q=>h pins s σ H Q I (f σ H Q q)
theorem zeA {X : Cx} {e : Expr} {t t' : TT} (h : PT X e t) (f : ∀ σ H Q,t' σ H Q → t σ H Q) : PT X e t':=fun pins s σ H Q I q=>h pins s σ H Q I (f σ H Q q)
theorem zeB {X : Cx} {e : List Expr} {t t' : TA} (h : PA X e t) (f : ∀ σ H Q,t' σ H Q → t σ H Q) : PA X e t':=fun pos pins s σ H Q I q=>h pos pins s σ H Q I (f σ H Q q)
theorem zN {X : Cx} {e : Stmt} {t t' : TS} (h : PS X e t) (f : ∀ E σ H,t' E σ H → t E σ H) : PS X e t':=fun pins s σ H Q I q=>h pins s σ H Q I (f Q σ H q)
theorem pe_no {X : Cx} {e : Expr} : PE X e (fun _ _ _=>False):=fun _ _ _ _ _ _ q=>q.elim

theorem zct {K : PySem.W.Frag} {χ : Addr → Bool} {H : Hp} {p : Addr} {ds : List D} {vs : List V} (hp : H p = none) (c : χ p = false) (r : Reps K (hidB χ H) ds vs) : Rep K (hidB χ (upd H p (.tup vs))) (.tup ds) (.ref p) :=
 ⟨p,vs,rfl,zy c zu,Reps.mono (zA (zH hp _)) ds r⟩
section
variable {S : Stat} {Γ : List Sl} {pos : Pos} {a b c e : Expr} {es : List Expr}

theorem JE.cast {d d' : D} (h : JE S Γ e d) (q : d = d') : JE S Γ e d':=q ▸ h
theorem JT.cast {d d' : Bool} (h : JT S Γ e d) (q : d = d') : JT S Γ e d':=q ▸ h

theorem e_var (i : Nat) {x : Str} {d : D} (hd : Γ[i]? = some (.val d):=by rfl) (hN : S.N[i]? = some x:=by ac_nf) (hv : Vis S.sc x:=by ac_nf)
  (h1 : (x == ("__debug__" : Str)) = false:=by ac_nf) (h2 : (x == ("__classdict__" : Str)) = false:=by ac_nf) : JE S Γ (.Name x pos) d:=.mk fun X o =>
 zq (zbk (i:=i) (by rw [o.N]; exact hN) (by rw [o.sc]; exact hv) h1 h2) fun σ H Q ⟨χ,r,q⟩=>let ⟨v,e,p⟩:=r.val i d hd; ⟨v,e,q v H (Same.refl H) p⟩
theorem e_c {v : V} {d : D} (h : ∀ X : Cx,S.Of X → PE X e (tC v)) (r : ∀ H,Rep S.K H d v) : JE S Γ e d:=.mk fun X o=>zq (h X o) fun σ H Q ⟨χ,_,q⟩=>q v H (Same.refl H) (r _)
theorem e_int {i : Int} {j : Nat} : JE S Γ (.Constant (.int i) j pos) (.int i):=e_c (fun _ _=>zng) fun _=>rfl
theorem e_bl {i : Bool} {j : Nat} : JE S Γ (.Constant (.bool i) j pos) (.bl i):=e_c (fun _ _=>pe_bl) fun _=>rfl
theorem e_str {i : Str} {j : Nat} : JE S Γ (.Constant (.str i) j pos) (.str i):=e_c (fun _ _=>znh) fun _=>rfl
theorem gl_of {X : Cx} (o : S.Of X) {x : Str} (hg : S.sc.names.lookup x = some .globalImplicit) : Gl X x:=by
 show X.env.scope.names.lookup x = _
 rw [o.sc]; exact hg

theorem zcm {x : Str} {i : Int} {t : Tok} (hm : S.mg x = some (.int i t)) (hg : S.sc.names.lookup x = some .globalImplicit:=by ac_nf) (hd : (x == ("__debug__" : Str)) = false:=by ac_nf) : JE S Γ (.Name x pos) (.int i) :=
 e_c (v:=.int i) (fun X o=>zfa (gl_of o hg) (by rw [o.mg]; exact hm) ⟨t,rfl⟩ hd) fun _=>rfl
theorem zhJ {x y : Str} {t : Tok} (hm : S.mg x = some (.str y t)) (hg : S.sc.names.lookup x = some .globalImplicit:=by ac_nf) (hd : (x == ("__debug__" : Str)) = false:=by ac_nf) : JE S Γ (.Name x pos) (.str y) :=
 e_c (v:=.str y) (fun X o=>zfa (gl_of o hg) (by rw [o.mg]; exact hm) ⟨t,rfl⟩ hd) fun _=>rfl

theorem zcn {K : PySem.W.Frag} {r : R2} {da db d : D} (h : ∀ (χ : Addr → Bool) (H : Hp) (x y : V) (Q : VK),(∀ p,H p = none → χ p = false) → Rep K (hidB χ H) da x → Rep K (hidB χ H) db y → (∀ v H',Same H H' → Rep K (hidB χ H') d v → Q v H') → r x y H Q) :
  ∀ σ H Q,dE K Γ d σ H Q → tOp r (dE K Γ da) (dE K Γ db) σ H Q :=
 fun σ H Q ⟨χ,R,q⟩=>⟨χ,R,fun x H1 e1 rx=>⟨χ,R.mono e1,fun y H2 e2 ry=>h χ H2 x y Q (fun p hp=>(R.mono (e1.trans e2)).fresh hp) (rx.mono (zA e2)) ry fun v H' e3 rv=>q v H' (e1.trans (e2.trans e3)) rv⟩⟩
theorem e_op {op : Operator} {r : R2} {da db d : D} (ho : ∀ X : Cx,S.Of X → OpR X (binaryOp op) r) (ha : JE S Γ a da) (hb : JE S Γ b db)
  (h : ∀ (χ : Addr → Bool) (H : Hp) (x y : V) (Q : VK),(∀ p,H p = none → χ p = false) → Rep S.K (hidB χ H) da x → Rep S.K (hidB χ H) db y → (∀ v H',Same H H' → Rep S.K (hidB χ H') d v → Q v H') → r x y H Q) : JE S Γ (.BinOp a op b pos) d :=
 .mk fun X o=>zq (pe_op (ho X o) (ha X o) (hb X o)) (zcn h)
theorem e_add {i j : Int} (ha : JE S Γ a (.int i)) (hb : JE S Γ b (.int j)) : JE S Γ (.BinOp a .Add b pos) (.int (i + j)):=e_op (fun _ _=>znt) ha hb fun _ H _ _ _ _ rx ry q=>⟨i,j,rx,ry,q _ H (Same.refl H) rfl⟩
theorem e_sub {i j : Int} (ha : JE S Γ a (.int i)) (hb : JE S Γ b (.int j)) : JE S Γ (.BinOp a .Sub b pos) (.int (i - j)):=e_op (fun _ _=>znu) ha hb fun _ H _ _ _ _ rx ry q=>⟨i,j,rx,ry,q _ H (Same.refl H) rfl⟩
theorem e_mul {i j : Int} (ha : JE S Γ a (.int i)) (hb : JE S Γ b (.int j)) (h : CMul i j) : JE S Γ (.BinOp a .Mult b pos) (.int (i * j)):=e_op (fun _ _=>znv) ha hb fun _ H _ _ _ _ rx ry q=>⟨i,j,rx,ry,h,q _ H (Same.refl H) rfl⟩
theorem zbB {i j : Int} (ha : JE S Γ a (.int i)) (hb : JE S Γ b (.int j)) (h : CDiv i j) : JE S Γ (.BinOp a .FloorDiv b pos) (.int (i / j)):=e_op (fun _ _=>zlP) ha hb fun _ H _ _ _ _ rx ry q=>⟨i,j,rx,ry,h,q _ H (Same.refl H) rfl⟩
theorem e_mod {i j : Int} (ha : JE S Γ a (.int i)) (hb : JE S Γ b (.int j)) (h : 0 < j) : JE S Γ (.BinOp a .Mod b pos) (.int (i % j)):=e_op (fun _ _=>znw) ha hb fun _ H _ _ _ _ rx ry q=>⟨i,j,rx,ry,h,q _ H (Same.refl H) rfl⟩
theorem e_neg {i : Int} (ha : JE S Γ a (.int i)) : JE S Γ (.UnaryOp .USub a pos) (.int (-i)):=.mk fun X o =>
 zq (pe_un zny (ha X o)) fun σ H Q ⟨χ,R,q⟩=>⟨χ,R,fun x H1 e1 rx=>⟨i,rx,q _ H1 e1 rfl⟩⟩

theorem e_cmp {op : CmpOp} {r : R2} {da db d : D} (ho : ∀ X : Cx,S.Of X → OpR X (compareOp op) r) (ha : JE S Γ a da) (hb : JE S Γ b db) (hm : behindInMarks op b = false)
  (h : ∀ (χ : Addr → Bool) (H : Hp) (x y : V) (Q : VK),(∀ p,H p = none → χ p = false) → Rep S.K (hidB χ H) da x → Rep S.K (hidB χ H) db y → (∀ v H',Same H H' → Rep S.K (hidB χ H') d v → Q v H') → r x y H Q) : JE S Γ (.Compare a [op] [b] pos) d :=
 .mk fun X o=>zq (zlQ (ho X o) (ha X o) (hb X o) hm) (zcn h)
theorem e_eqI {i j : Int} (ha : JE S Γ a (.int i)) (hb : JE S Γ b (.int j)) : JE S Γ (.Compare a [.Eq] [b] pos) (.bl (decide (i = j))):=e_cmp (fun _ _=>op_eq) ha hb (zbK _) fun _ H x y _ _ rx ry q=>by
 cases (show x = _ from rx); cases (show y = _ from ry)
 refine ⟨rfl,?_⟩
 have e : decide (V.int i = V.int j) = decide (i = j):=by simp
 rw [e]; exact q _ H (Same.refl H) rfl

theorem t_val {p : Bool} (h : JE S Γ e (.bl p)) (he : ∀ (env : Env) (whole : Sem Value),isTrue e env whole = (do let v ← whole; standAt e.pos; holding [v] (truthy v)):=by ac_rfl) : JT S Γ e p:=.mk fun X o =>
 zeA (znj (h X o) (he X.env)) fun σ H Q ⟨χ,R,q⟩=>⟨χ,R,fun x H1 e1 rx=>⟨p,rx,q H1 e1⟩⟩
theorem t_cmp {op : CmpOp} {r : R2} {da db : D} {p : Bool} (ho : ∀ X : Cx,S.Of X → OpR X (compareOp op) r) (ha : JE S Γ a da) (hb : JE S Γ b db) (hm : behindInMarks op b = false)
  (h : ∀ (χ : Addr → Bool) (H : Hp) (x y : V) (Q : VK),(∀ q,H q = none → χ q = false) → Rep S.K (hidB χ H) da x → Rep S.K (hidB χ H) db y → (∀ v H',Same H H' → Rep S.K (hidB χ H') (.bl p) v → Q v H') → r x y H Q) : JT S Γ (.Compare a [op] [b] pos) p :=
 .mk fun X o=>zeA (zlR (ho X o) (ha X o) (hb X o) hm) fun σ H Q ⟨χ,R,q⟩=>zcn h σ H _ ⟨χ,R,fun v H' e rv=>⟨p,rv,q H' e⟩⟩
theorem t_lt {i j : Int} (ha : JE S Γ a (.int i)) (hb : JE S Γ b (.int j)) : JT S Γ (.Compare a [.Lt] [b] pos) (decide (i < j)):=t_cmp (fun _ _=>op_lt) ha hb (zbK _) fun _ H _ _ _ _ rx ry q=>⟨i,j,rx,ry,q _ H (Same.refl H) rfl⟩
theorem t_gt {i j : Int} (ha : JE S Γ a (.int i)) (hb : JE S Γ b (.int j)) : JT S Γ (.Compare a [.Gt] [b] pos) (decide (j < i)):=t_cmp (fun _ _=>op_gt) ha hb (zbK _) fun _ H _ _ _ _ rx ry q=>⟨i,j,rx,ry,q _ H (Same.refl H) rfl⟩
theorem t_ge {i j : Int} (ha : JE S Γ a (.int i)) (hb : JE S Γ b (.int j)) : JT S Γ (.Compare a [.GtE] [b] pos) (decide (j ≤ i)):=t_cmp (fun _ _=>op_ge) ha hb (zbK _) fun _ H _ _ _ _ rx ry q=>⟨i,j,rx,ry,q _ H (Same.refl H) rfl⟩
theorem t_eqI {i j : Int} (ha : JE S Γ a (.int i)) (hb : JE S Γ b (.int j)) : JT S Γ (.Compare a [.Eq] [b] pos) (decide (i = j)):=t_cmp (fun _ _=>op_eq) ha hb (zbK _) fun _ H x y _ _ rx ry q=>by
 cases (show x = _ from rx); cases (show y = _ from ry)
 refine ⟨rfl,?_⟩
 have e : decide (V.int i = V.int j) = decide (i = j):=by simp
 rw [e]; exact q _ H (Same.refl H) rfl
theorem t_neI {i j : Int} (ha : JE S Γ a (.int i)) (hb : JE S Γ b (.int j)) : JT S Γ (.Compare a [.NotEq] [b] pos) (!decide (i = j)):=t_cmp (fun _ _=>op_ne) ha hb (zbK _) fun _ H x y _ _ rx ry q=>by
 cases (show x = _ from rx); cases (show y = _ from ry)
 refine ⟨rfl,?_⟩
 have e : decide (V.int i = V.int j) = decide (i = j):=by simp
 rw [e]; exact q _ H (Same.refl H) rfl
theorem t_not {p : Bool} (h : JT S Γ a p) : JT S Γ (.UnaryOp .Not a pos) (!p):=.mk fun X o=>zeA (znl (h X o)) fun σ H Q ⟨χ,R,q⟩=>⟨χ,R,q⟩
structure JW (S : Stat) (Γ : List Sl) (e : Expr) (b : Bool) : Prop where
 run : ∀ X,S.Of X → PW X e (dT S.K Γ b)
noncomputable instance {S : Stat} {Γ : List Sl} {e : Expr} {b : Bool} : CoeFun (JW S Γ e b) fun _=>∀ X,S.Of X → PW X e (dT S.K Γ b):=⟨fun h=>h.run⟩
theorem zeC {X : Cx} {e : Expr} {t t' : TT} (h : PW X e t) (f : ∀ σ H Q,t' σ H Q → t σ H Q) : PW X e t':=fun whole pins s σ H Q I q=>h whole pins s σ H Q I (f σ H Q q)
theorem pw_no {X : Cx} {e : Expr} : PW X e (fun _ _ _=>False):=fun _ _ _ _ _ _ _ q=>q.elim
theorem zeD {p : Bool} (h : JT S Γ a p) : JW S Γ (.BoolOp .And [a] pos) p:=.mk fun X o=>zlM (h X o)
theorem w_or1 {p : Bool} (h : JT S Γ a p) : JW S Γ (.BoolOp .Or [a] pos) p:=.mk fun X o=>znk (h X o)
theorem w_and {p p' : Bool} (h : JT S Γ a p) (h' : p = true → JW S Γ (.BoolOp .And (b :: es) pos) p') : JW S Γ (.BoolOp .And (a :: b :: es) pos) (p && p'):=.mk fun X o=>by
 cases p with
 | false=>exact zeC (ziY (h X o) pw_no) fun σ H Q ⟨χ,R,q⟩=>⟨χ,R,fun H1 e1=>iteF (q H1 e1)⟩
 | true=>exact zeC (ziY (h X o) (h' rfl X o)) fun σ H Q ⟨χ,R,q⟩=>⟨χ,R,fun H1 e1=>iteT ⟨χ,R.mono e1,fun H2 e2=>q H2 (e1.trans e2)⟩⟩
theorem w_or {p p' : Bool} (h : JT S Γ a p) (h' : p = false → JW S Γ (.BoolOp .Or (b :: es) pos) p') : JW S Γ (.BoolOp .Or (a :: b :: es) pos) (p || p'):=.mk fun X o=>by
 cases p with
 | true=>exact zeC (pw_or (h X o) pw_no) fun σ H Q ⟨χ,R,q⟩=>⟨χ,R,fun H1 e1=>iteT (q H1 e1)⟩
 | false=>exact zeC (pw_or (h X o) (h' rfl X o)) fun σ H Q ⟨χ,R,q⟩=>⟨χ,R,fun H1 e1=>iteF ⟨χ,R.mono e1,fun H2 e2=>q H2 (e1.trans e2)⟩⟩
theorem JW.t {p : Bool} (h : JW S Γ e p) : JT S Γ e p:=.mk fun X o=>(h X o).pt

theorem e_one {op : BoolOp} {d : D} (h : JE S Γ a d) : JE S Γ (.BoolOp op [a] pos) d:=.mk fun X o=>znm (h X o)
theorem e_and {p p' : Bool} (h : JE S Γ a (.bl p)) (h' : p = true → JE S Γ (.BoolOp .And (b :: es) pos) (.bl p')) : JE S Γ (.BoolOp .And (a :: b :: es) pos) (.bl (p && p')):=.mk fun X o=>by
 cases p with
 | false=>exact zq (ziZ (h X o) pe_no) fun σ H Q ⟨χ,R,q⟩=>⟨χ,R,fun x H1 e1 rx=>⟨false,rx,iteF (q _ H1 e1 rfl)⟩⟩
 | true=>exact zq (ziZ (h X o) (h' rfl X o)) fun σ H Q ⟨χ,R,q⟩=>⟨χ,R,fun x H1 e1 rx=>⟨true,rx,iteT ⟨χ,R.mono e1,fun v H2 e2 rv=>q v H2 (e1.trans e2) rv⟩⟩⟩
theorem e_not {p : Bool} (h : JE S Γ a (.bl p)) : JE S Γ (.UnaryOp .Not a pos) (.bl (!p)):=.mk fun X o =>
 zq (znn (h X o)) fun σ H Q ⟨χ,R,q⟩=>⟨χ,R,fun x H1 e1 rx=>⟨p,rx,q _ H1 e1 rfl⟩⟩
theorem e_if {p : Bool} {d : D} (h : JT S Γ c p) (ha : p = true → JE S Γ a d) (hb : p = false → JE S Γ b d) : JE S Γ (.IfExp c a b pos) d:=.mk fun X o=>by
 cases p with
 | true=>exact zq (zgd (h X o) (ha rfl X o) pe_no) fun σ H Q ⟨χ,R,q⟩=>⟨χ,R,fun H1 e1=>iteT ⟨χ,R.mono e1,fun v H2 e2 rv=>q v H2 (e1.trans e2) rv⟩⟩
 | false=>exact zq (zgd (h X o) pe_no (hb rfl X o)) fun σ H Q ⟨χ,R,q⟩=>⟨χ,R,fun H1 e1=>iteF ⟨χ,R.mono e1,fun v H2 e2 rv=>q v H2 (e1.trans e2) rv⟩⟩

theorem e_ixT {ds : List D} {i : Int} {d : D} (ha : JE S Γ a (.tup ds)) (hb : JE S Γ b (.int i)) (h : atI ds i = some d) (hs : zcl b:=by ac_rfl) : JE S Γ (.Subscript a b pos) d:=.mk fun X o =>
 zq (pe_ix znB (ha X o) (hb X o) hs) (zcn fun χ H x y Q _ hP35 ry q=>by
  obtain ⟨p,vs,ex,sq,rs⟩:=hP35
  obtain ⟨v,ev,rv⟩:=rs.at h
  refine ⟨p,vs,i,v,ex,ry,?_,ev,q v H (Same.refl H) rv⟩
  rw [o.K]; exact zbV zm sq)
theorem e_ixL {ds : List D} {i : Int} {d : D} (ha : JE S Γ a (.lst ds)) (hb : JE S Γ b (.int i)) (h : atI ds i = some d) (hs : zcl b:=by ac_rfl) : JE S Γ (.Subscript a b pos) d:=.mk fun X o =>
 zq (pe_ix zlT (ha X o) (hb X o) hs) (zcn fun χ H x y Q _ hP36 ry q=>by
  obtain ⟨p,vs,ex,sq,rs⟩:=hP36
  obtain ⟨v,ev,rv⟩:=rs.at h
  refine ⟨p,vs,i,v,ex,ry,?_,ev,q v H (Same.refl H) rv⟩
  rw [o.K]; exact Same.seq zm sq)

theorem a_nil : JA S Γ [] []:=.mk fun X o=>zeB zcr fun σ H Q ⟨χ,R,q⟩=>q [] H (Same.refl H) rfl
theorem zb {d : D} {ds : List D} (h : JE S Γ e d) (h' : JA S Γ es ds) (hs : ∀ env,starEach (e :: es) env = (false,eval e env) :: starEach es env:=by ac_rfl) : JA S Γ (e :: es) (d :: ds):=.mk fun X o =>
 zeB (zbf (h X o) (h' X o) (hs X.env)) fun σ H Q ⟨χ,R,q⟩=>⟨χ,R,fun v H1 e1 rv=>⟨χ,R.mono e1,fun vs H2 e2 rvs=>q (v :: vs) H2 (e1.trans e2) ⟨v,vs,rfl,rv.mono (zA e2) d,rvs⟩⟩⟩
theorem e_tup {ds : List D} {k : Nat} (h : JA S Γ es ds) (hl : ds.length ≤ sizeLine:=by exact Nat.le_of_ble_eq_true rfl) : JE S Γ (.Tuple es k pos) (.tup ds):=.mk fun X o =>
 zq (znz (h X o)) fun σ H Q ⟨χ,R,q⟩=>⟨χ,R,fun vs H1 e1 rvs=>⟨by rw [rvs.len]; exact hl,fun p hp=>q (.ref p) _ (e1.trans (zH hp _)) (zct hp ((R.mono e1).fresh hp) rvs)⟩⟩
theorem f_lst {ds : List D} (h : JA S Γ es ds) (hl : ds.length ≤ sizeLine:=by exact Nat.le_of_ble_eq_true rfl) : JF S Γ (.List es pos) ds:=.mk fun X o =>
 zq (zji (h X o)) fun σ H Q ⟨χ,R,q⟩=>⟨χ,R,fun vs H1 e1 rvs=>⟨by rw [rvs.len]; exact hl,fun p hp=>by
  have hp0 : H p = none:=e1.free hp
  refine q p vs _ hp0 (e1.trans (zH hp _)) zu (Reps.mono (fun b u hb=>?_) ds rvs)
  obtain ⟨c1,c2⟩:=zr hb
  have hne : b ≠ p:=zE c2 hp
  exact zy (by rw [c1,Bool.false_or]; simpa using hne) (by rw [zp hne]; exact c2)⟩⟩
theorem JF.je {ds : List D} (h : JF S Γ e ds) : JE S Γ e (.lst ds):=.mk fun X o =>
 zq (h X o) fun σ H Q ⟨χ,R,q⟩=>⟨χ,R,fun l vs H' hl e hv rs=>q (.ref l) H' e ⟨l,vs,rfl,SqL.of (zy (R.fresh hl) hv),Reps.mono (fun b u hb=>by
  obtain ⟨c1,c2⟩:=zr hb
  exact zy (by cases c : χ b with | false=>rfl | true=>rw [c] at c1; cases c1) c2) ds rs⟩⟩
end
end Internal

end
section
set_option Elab.async false
set_option linter.all false
set_option maxRecDepth 100000
set_option maxHeartbeats 4000000
namespace Internal
open PySem PySem.Spec PyProof.Rows Internal.L2

section
variable {S : Stat} {Γ : List Sl} {pos p : Pos} {a b c e : Expr} {es : List Expr} {x : Str}
theorem zfc {id : String} {r : List V → Hp → VK → Prop} {ds : List D} {d : D} (hc : ∀ X : Cx,S.Of X → CallR X (.builtin id) r) (ha : JA S Γ (e :: es) ds)
  (h : ∀ (χ : Addr → Bool) (H : Hp) (vs : List V) (Q : VK),(∀ p,H p = none → χ p = false) → Reps S.K (hidB χ H) ds vs → (∀ v H',Same H H' → Rep S.K (hidB χ H') d v → Q v H') → r vs H Q)
  (hm : S.mg x = none) (hv : bootBuiltins x = some (.builtin id)) (hg : S.sc.names.lookup x = some .globalImplicit:=by ac_nf) (hn : x ≠ "__name__":=by ac_nf) (hdb : (x == ("__debug__" : Str)) = false:=by ac_nf)
  (he : ∀ env,starEach (e :: es) env = (false,eval e env) :: starEach es env:=by ac_rfl) (hpl : ∀ env,(backTo pos (starEach es env)).any (·.1) = false:=by ac_rfl) : JE S Γ (.Call (.Name x p) (e :: es) [] pos) d:=.mk fun X o =>
 zq (zcZ (hc X o) (gl_of o hg) (by rw [o.mg]; exact hm) hv (ha X o) hn hdb (he X.env) (hpl X.env)) fun σ H Q ⟨χ,R,q⟩=>⟨χ,R,fun vs H1 e1 rvs=>h χ H1 vs Q (fun p hp=>(R.mono e1).fresh hp) rvs fun v H' e2 rv=>q v H' (e1.trans e2) rv⟩
theorem zkJ {T : String} {r : List V → Hp → VK → Prop} {ds : List D} {d : D} (hc : ∀ X : Cx,S.Of X → CallR X (.type T) r) (ha : JA S Γ (e :: es) ds)
  (h : ∀ (χ : Addr → Bool) (H : Hp) (vs : List V) (Q : VK),(∀ p,H p = none → χ p = false) → Reps S.K (hidB χ H) ds vs → (∀ v H',Same H H' → Rep S.K (hidB χ H') d v → Q v H') → r vs H Q)
  (hm : S.mg x = none) (hv : bootBuiltins x = some (.type T)) (hg : S.sc.names.lookup x = some .globalImplicit:=by ac_nf) (hn : x ≠ "__name__":=by ac_nf) (hdb : (x == ("__debug__" : Str)) = false:=by ac_nf)
  (he : ∀ env,starEach (e :: es) env = (false,eval e env) :: starEach es env:=by ac_rfl) (hpl : ∀ env,(backTo pos (starEach es env)).any (·.1) = false:=by ac_rfl) : JE S Γ (.Call (.Name x p) (e :: es) [] pos) d:=.mk fun X o =>
 zq (zfC (hc X o) (gl_of o hg) (by rw [o.mg]; exact hm) hv (ha X o) hn hdb (he X.env) (hpl X.env)) fun σ H Q ⟨χ,R,q⟩=>⟨χ,R,fun vs H1 e1 rvs=>h χ H1 vs Q (fun p hp=>(R.mono e1).fresh hp) rvs fun v H' e2 rv=>q v H' (e1.trans e2) rv⟩

theorem reps1 {K : PySem.W.Frag} {H : Hp} {d : D} {vs : List V} (h : Reps K H [d] vs) : ∃ v,vs = [v] ∧ Rep K H d v:=by
 obtain ⟨v,r,e,h1,h2⟩:=h
 cases (show r = [] from h2)
 exact ⟨v,e,h1⟩
theorem c_len (X : Cx) (o : S.Of X) : CallR X (.builtin "len") (fun xs H Q=>∃ p ys,xs = [.ref p] ∧ (SqL S.K H p ys ∨ SqT S.K H p ys) ∧ Q (.int ys.length) H):=by
 have h:=zgi (X:=X)
 rw [o.K] at h
 exact h
theorem znH {ds : List D} (h : JE S Γ a (.tup ds)) (hm : S.mg "len" = none) (hg : S.sc.names.lookup ("len" : Str) = some .globalImplicit:=by ac_nf) (hs : ∀ env,starEach [a] env = [(false,eval a env)]:=by ac_rfl) : JE S Γ (.Call (.Name "len" p) [a] [] pos) (.int ds.length) :=
 zfc c_len (zb h a_nil hs) (fun χ H vs Q _ rs q=>by
  obtain ⟨v,rfl,ad,ws,rfl,sq,rw'⟩:=reps1 rs
  refine ⟨ad,ws,rfl,.inr (zbV zm sq),?_⟩
  rw [rw'.len]; exact q _ H (Same.refl H) rfl) hm PySem.boot_len hg (he:=hs)
theorem znI {ds : List D} (h : JE S Γ a (.lst ds)) (hm : S.mg "len" = none) (hg : S.sc.names.lookup ("len" : Str) = some .globalImplicit:=by ac_nf) (hs : ∀ env,starEach [a] env = [(false,eval a env)]:=by ac_rfl) : JE S Γ (.Call (.Name "len" p) [a] [] pos) (.int ds.length) :=
 zfc c_len (zb h a_nil hs) (fun χ H vs Q _ rs q=>by
  obtain ⟨v,rfl,ad,ws,rfl,sq,rw'⟩:=reps1 rs
  refine ⟨ad,ws,rfl,.inl (Same.seq zm sq),?_⟩
  rw [rw'.len]; exact q _ H (Same.refl H) rfl) hm PySem.boot_len hg (he:=hs)
theorem zlY (X : Cx) (o : S.Of X) : CallR X (.type "tuple") (fun xs H Q=>∃ p ys,xs = [.ref p] ∧ ((SqL S.K H p ys ∧ ∀ l,H l = none → Q (.ref l) (upd H l (.tup ys))) ∨ (SqT S.K H p ys ∧ Q (.ref p) H))):=by
 have h:=zfS (X:=X)
 rw [o.K] at h
 exact h

theorem zbe {ds : List D} (h : JE S Γ a (.lst ds)) (hm : S.mg "tuple" = none) (hg : S.sc.names.lookup ("tuple" : Str) = some .globalImplicit:=by ac_nf) (hs : ∀ env,starEach [a] env = [(false,eval a env)]:=by ac_rfl) : JE S Γ (.Call (.Name "tuple" p) [a] [] pos) (.tup ds) :=
 zkJ zlY (zb h a_nil hs) (fun χ H vs Q fr rs q=>by
  obtain ⟨v,rfl,ad,ws,rfl,sq,rw'⟩:=reps1 rs
  exact ⟨ad,ws,rfl,.inl ⟨Same.seq zm sq,fun l hl=>q _ _ (zH hl _) (zct hl (fr l hl) rw')⟩⟩) hm boot_tuple hg (he:=hs)

theorem f_list {ds : List D} (h : JE S Γ a (.tup ds) ∨ JE S Γ a (.lst ds)) (hm : S.mg "list" = none) (hg : S.sc.names.lookup ("list" : Str) = some .globalImplicit:=by ac_nf) (hs : ∀ env,starEach [a] env = [(false,eval a env)]:=by ac_rfl) : JF S Γ (.Call (.Name "list" p) [a] [] pos) ds:=.mk fun X o=>by
 have key : ∀ {d : D} (h : JE S Γ a d),(∀ H v,Rep S.K H d v → ∃ q ws,v = .ref q ∧ (SqL S.K H q ws ∨ SqT S.K H q ws) ∧ Reps S.K H ds ws) → PE X (.Call (.Name "list" p) [a] [] pos) (dF S.K Γ ds):=fun {d} h hd =>
  zq (zfC zgj (gl_of o hg) (by rw [o.mg]; exact hm) boot_list ((zb h a_nil hs) X o) (by decide +kernel) (by decide +kernel) (hs X.env)) fun σ H Q ⟨χ,R,q⟩=>⟨χ,R,fun vs H1 e1 rs=>by
   obtain ⟨v,rfl,rv⟩:=reps1 rs
   obtain ⟨ad,ws,rfl,sq,rw'⟩:=hd _ _ rv
   refine ⟨ad,ws,rfl,?_,fun l hl=>?_⟩
   ·rw [o.K]; exact sq.elim (fun z=>.inl (Same.seq zm z)) fun z=>.inr (zgl zm z)
   ·refine q l ws _ (e1.free hl) (e1.trans (zH hl _)) zu (Reps.mono (fun b u hb=>?_) ds rw')
    obtain ⟨c1,c2⟩:=zr hb
    have hne : b ≠ l:=zE c2 hl
    exact zy (by rw [c1,Bool.false_or]; simpa using hne) (by rw [zp hne]; exact c2)⟩
 rcases h with h | h
 ·exact key h fun H v ⟨ad,ws,e,sq,rs⟩=>⟨ad,ws,e,.inr (SqT.of sq),rs⟩
 ·exact key h fun H v ⟨ad,ws,e,sq,rs⟩=>⟨ad,ws,e,.inl sq,rs⟩

noncomputable def tyD : D → String
 | .non=>"NoneType"
 | .bl _=>"bool"
 | .int _=>"int"
 | .str _=>"str"
 | .tup _=>"tuple"
 | .lst _=>"list"
 | .dcI _=>"dict"
theorem zkK {X : Cx} {pins : List (Addr × Obj)} {σ : Internal.L2.St} {H : Hp} {s : Shared} {A : Around} {E : Value → Shared → Prop} {Q : Value → Shared → Prop} {T : String} {k : Bool} {d : D} {v : V} {u : Value} (I : Inv X pins σ H s) (r : Rep X.K H d v) (ru : RelV v u)
  (e : PySem.W.kitOne X.K (.type (tyD d)) (.type T) = some k) (h : ∀ tk,Q (.bool k) { s with toks:=tk }) : wpAny (model X.prog X.w) A (call (.builtin "isinstance") [u,.type T]) Q E s:=by
 cases d with
 | non=>cases (show v = _ from r); cases (show u = Value.none from ru); exact PySem.W.kia_one PySem.W.kitx_none I.kIn True.intro e (fun z=>nomatch z) h
 | bl y=>cases (show v = _ from r); cases (show u = Value.bool y from ru); exact PySem.W.kia_one PySem.W.kitx_bool I.kIn True.intro e (fun z=>nomatch z) h
 | int i=>cases (show v = _ from r); obtain ⟨t,q⟩:=(show ∃ t,u = Value.int i t from ru); cases q; exact PySem.W.kia_one PySem.W.kitx_int I.kIn True.intro e (fun z=>nomatch z) h
 | str y=>cases (show v = _ from r); obtain ⟨t,q⟩:=(show ∃ t,u = Value.str y t from ru); cases q; exact PySem.W.kia_one PySem.W.kitx_str I.kIn True.intro e (fun z=>nomatch z) h
 | tup ds =>
  obtain ⟨a,vs,rfl,sq,_⟩:=r
  cases (show u = Value.ref a from ru)
  obtain ⟨its,_,⟨o,h1,h2,_⟩,_⟩:=I.tuple (SqT.of sq)
  exact PySem.W.kia_one PySem.W.kitx_tuple I.kIn ⟨o,h1,h2⟩ e (fun z=>nomatch z) h
 | lst ds =>
  obtain ⟨a,vs,rfl,sq,_⟩:=r
  cases (show u = Value.ref a from ru)
  obtain ⟨its,_,pl,_⟩:=I.list sq
  obtain ⟨o,h1,h2,_⟩:=pl.isList
  exact PySem.W.kia_one PySem.W.kitx_list I.kIn ⟨o,h1,h2⟩ e (fun z=>nomatch z) h
 | dcI kvs =>
  obtain ⟨a,_,rfl,ha,_⟩:=r
  cases (show u = Value.ref a from ru)
  obtain ⟨_,_,_,_,_,o,_,_,h1,h2,_⟩:=I.hok a _ ha
  exact PySem.W.kia_one PySem.W.kitx_dict I.kIn ⟨o,h1,h2.1⟩ e (fun z=>nomatch z) h

theorem e_isi {T : String} {y : Str} {p' : Pos} {k : Bool} {d : D} (h : JE S Γ a d) (hk : PySem.W.kitOne S.K (.type (tyD d)) (.type T) = some k) (hm : S.mg "isinstance" = none) (hy : S.mg y = none) (hT : bootBuiltins y = some (.type T))
  (hg : S.sc.names.lookup ("isinstance" : Str) = some .globalImplicit:=by ac_nf) (hgy : S.sc.names.lookup y = some .globalImplicit:=by ac_nf) (hny : y ≠ "__name__":=by ac_nf) (hdy : (y == ("__debug__" : Str)) = false:=by ac_nf)
  (hs : ∀ env,starEach [a,.Name y p'] env = (false,eval a env) :: starEach [.Name y p'] env:=by ac_rfl) : JE S Γ (.Call (.Name "isinstance" p) [a,.Name y p'] [] pos) (.bl k):=.mk fun X o=>by
 have hc : CallR X (.builtin "isinstance") (fun xs H Q=>∃ v d,xs = [v,.ty T] ∧ Rep X.K H d v ∧ PySem.W.kitOne X.K (.type (tyD d)) (.type T) = some k ∧ Q (.bl k) H):=by
  intro pins s σ H xs us Q I r hq
  obtain ⟨v,d,rfl,rv,ek,q⟩:=hq
  obtain ⟨u,w',rfl,ru,rw'⟩:=vals2 r
  cases (show w' = Value.type T from rw')
  exact zkK I rv ru ek fun tk=>⟨.bl k,H,I.tok tk,rfl,q⟩
 have hA : PA X [a,.Name y p'] (tCons (dE S.K Γ d) (tCons (tC (.ty T)) tNil)):=zbf (h X o) (zbf (zhD (gl_of o hgy) (by rw [o.mg]; exact hy) hT rfl hny hdy) zcr) (hs X.env)
 refine zq (zcZ hc (gl_of o hg) (by rw [o.mg]; exact hm) boot_isinstance hA (by decide +kernel) (by decide +kernel) (hs X.env)) fun σ H Q ⟨χ,R,q⟩=>⟨χ,R,fun v H1 e1 rv=>?_⟩
 exact ⟨v,d,rfl,by rw [o.K]; exact rv.mono zm d,by rw [o.K]; exact hk,q _ H1 e1 rfl⟩
end

mutual
noncomputable def eqD : D → D → Bool
 | .non,.non=>true
 | .bl a,.bl b=>a == b
 | .bl a,.int b=>(if a then 1 else 0) == b
 | .int a,.bl b=>a == (if b then 1 else 0)
 | .int a,.int b=>a == b
 | .str a,.str b=>a == b
 | .tup a,.tup b=>eqDs a b
 | .lst a,.lst b=>eqDs a b
 | .dcI a,.dcI b=>decide (a = b)
 | _,_=>false
noncomputable def eqDs : List D → List D → Bool
 | [],[]=>true
 | a :: as,b :: bs=>eqD a b && eqDs as bs
 | _,_=>false
end
noncomputable def flatD : D → Bool
 | .tup _=>false
 | .lst _=>false
 | .dcI _=>false
 | _=>true

noncomputable def CmpOk : Nat → D → D → Prop
 | 0,a,b=>flatD a = true ∧ flatD b = true
 | n + 1,a,b=>(flatD a = true ∧ flatD b = true) ∨ (∃ as bs,a = .tup as ∧ b = .tup bs ∧ ∀ (j : Nat) x y,as[j]? = some x → bs[j]? = some y → CmpOk n x y) ∨ (∃ as bs,a = .lst as ∧ b = .lst bs ∧ ∀ (j : Nat) x y,as[j]? = some x → bs[j]? = some y → CmpOk n x y)
mutual
theorem zeg : ∀ d : D,eqD d d = true
 | .non=>rfl
 | .bl b=>beq_self_eq_true b
 | .int i=>beq_self_eq_true i
 | .str x=>beq_self_eq_true x
 | .tup ds=>zdz ds
 | .lst ds=>zdz ds
 | .dcI _=>decide_eq_true rfl
theorem zdz : ∀ ds : List D,eqDs ds ds = true
 | []=>rfl
 | d :: ds=>by simp only [eqDs,zeg d,zdz ds,Bool.and_self]
end
noncomputable def eAt (as bs : List D) (j : Nat) : Bool:=match as[j]?,bs[j]? with
 | some a,some b=>eqD a b
 | _,_=>true
theorem zbL : ∀ as bs : List D,eqDs as bs = ((List.range (min as.length bs.length)).all (eAt as bs) && as.length == bs.length)
 | [],[]=>rfl
 | [],_ :: _=>by simp [eqDs]
 | _ :: _,[]=>by simp [eqDs]
 | a :: as,b :: bs=>by
  have ih:=zbL as bs
  have e0 : eAt (a :: as) (b :: bs) 0 = eqD a b:=rfl
  have e1 : ∀ j,eAt (a :: as) (b :: bs) (j + 1) = eAt as bs j:=fun j=>by simp [eAt]
  rw [eqDs,ih,List.length_cons,List.length_cons,Nat.succ_min_succ,List.range_succ_eq_map,List.all_cons,e0,List.all_map]
  have e2 : (eAt (a :: as) (b :: bs) ∘ Nat.succ) = eAt as bs:=funext e1
  rw [e2,Bool.and_assoc]
  have e3 : (as.length + 1 == bs.length + 1) = (as.length == bs.length):=by
   rw [Bool.eq_iff_iff,beq_iff_eq,beq_iff_eq]; omega
  rw [e3]

section
variable {X : Cx} {pins : List (Addr × Obj)} {σ : Internal.L2.St} {H : Hp} {s : Shared}
theorem zlZ {a b : List (List Int × Int)} (h : dcV a = dcV b) : a = b:=by
 refine (List.map_inj_right fun x y e=>?_).mp h
 obtain ⟨x1,x2⟩:=x
 obtain ⟨y1,y2⟩:=y
 have e1:=congrArg Prod.fst e
 have e2:=congrArg Prod.snd e
 dsimp only at e1 e2
 rw [(List.map_inj_right fun _ _ e=>Sum.inl.inj e).mp e1,V.int.inj e2]
mutual
theorem zfd (I : Inv X pins σ H s) : ∀ (d : D) {d' : D} {v : V},Rep X.K H d v → Rep X.K H d' v → d = d'
 | .non,d',v,h,h'=>by
  cases (show v = _ from h)
  cases d' with
  | non=>rfl
  | bl _=>cases (show V.non = V.bl _ from h')
  | int _=>cases (show V.non = V.int _ from h')
  | str _=>cases (show V.non = V.str _ from h')
  | tup _=>obtain ⟨_,_,e,_⟩:=h'; cases e
  | lst _=>obtain ⟨_,_,e,_⟩:=h'; cases e
  | dcI _=>obtain ⟨_,_,e,_⟩:=h'; cases e
 | .bl b,d',v,h,h'=>by
  cases (show v = _ from h)
  cases d' with
  | non=>cases (show V.bl b = V.non from h')
  | bl _=>cases (show V.bl b = V.bl _ from h'); rfl
  | int _=>cases (show V.bl b = V.int _ from h')
  | str _=>cases (show V.bl b = V.str _ from h')
  | tup _=>obtain ⟨_,_,e,_⟩:=h'; cases e
  | lst _=>obtain ⟨_,_,e,_⟩:=h'; cases e
  | dcI _=>obtain ⟨_,_,e,_⟩:=h'; cases e
 | .int b,d',v,h,h'=>by
  cases (show v = _ from h)
  cases d' with
  | non=>cases (show V.int b = V.non from h')
  | bl _=>cases (show V.int b = V.bl _ from h')
  | int _=>cases (show V.int b = V.int _ from h'); rfl
  | str _=>cases (show V.int b = V.str _ from h')
  | tup _=>obtain ⟨_,_,e,_⟩:=h'; cases e
  | lst _=>obtain ⟨_,_,e,_⟩:=h'; cases e
  | dcI _=>obtain ⟨_,_,e,_⟩:=h'; cases e
 | .str b,d',v,h,h'=>by
  cases (show v = _ from h)
  cases d' with
  | non=>cases (show V.str b = V.non from h')
  | bl _=>cases (show V.str b = V.bl _ from h')
  | int _=>cases (show V.str b = V.int _ from h')
  | str _=>cases (show V.str b = V.str _ from h'); rfl
  | tup _=>obtain ⟨_,_,e,_⟩:=h'; cases e
  | lst _=>obtain ⟨_,_,e,_⟩:=h'; cases e
  | dcI _=>obtain ⟨_,_,e,_⟩:=h'; cases e
 | .tup ds,d',v,h,h'=>by
  obtain ⟨a,vs,rfl,sq,rs⟩:=h
  cases d' with
  | non=>cases (show V.ref a = V.non from h')
  | bl _=>cases (show V.ref a = V.bl _ from h')
  | int _=>cases (show V.ref a = V.int _ from h')
  | str _=>cases (show V.ref a = V.str _ from h')
  | tup ds' =>
   obtain ⟨a',vs',e,sq',rs'⟩:=h'
   cases e
   rw [I.tuple_inj (SqT.of sq) (SqT.of sq')] at rs
   rw [zeh I ds rs rs']
  | lst ds' =>
   obtain ⟨a',vs',e,sq',rs'⟩:=h'
   cases e
   obtain ⟨_,_,⟨o,h1,h2,_⟩,_⟩:=I.tuple (SqT.of sq)
   obtain ⟨_,_,pl,_⟩:=I.list sq'
   obtain ⟨o',h1',h2',_⟩:=pl.isList
   rw [h1] at h1'; cases h1'
   rw [h2] at h2'
   exact absurd h2' (by decide)
  | dcI _ =>
   obtain ⟨a',o2,e,sq',_⟩:=h'
   cases e
   rw [sq] at sq'; cases sq'
 | .lst ds,d',v,h,h'=>by
  obtain ⟨a,vs,rfl,sq,rs⟩:=h
  cases d' with
  | non=>cases (show V.ref a = V.non from h')
  | bl _=>cases (show V.ref a = V.bl _ from h')
  | int _=>cases (show V.ref a = V.int _ from h')
  | str _=>cases (show V.ref a = V.str _ from h')
  | lst ds' =>
   obtain ⟨a',vs',e,sq',rs'⟩:=h'
   cases e
   rw [I.list_inj sq sq'] at rs
   rw [zeh I ds rs rs']
  | tup ds' =>
   obtain ⟨a',vs',e,sq',rs'⟩:=h'
   cases e
   obtain ⟨_,_,⟨o,h1,h2,_⟩,_⟩:=I.tuple (SqT.of sq')
   obtain ⟨_,_,pl,_⟩:=I.list sq
   obtain ⟨o',h1',h2',_⟩:=pl.isList
   rw [h1] at h1'; cases h1'
   rw [h2] at h2'
   exact absurd h2' (by decide)
  | dcI _ =>
   obtain ⟨a',o2,e,sq',_⟩:=h'
   cases e
   obtain ⟨_,_,_,_,_,o,_,_,h1,h2,_⟩:=I.hok a _ sq'
   obtain ⟨_,_,pl,_⟩:=I.list sq
   obtain ⟨o',h1',h2',_⟩:=pl.isList
   rw [h1] at h1'; cases h1'
   rw [h2.1] at h2'
   exact absurd h2' (by decide)
 | .dcI kvs,d',v,h,h'=>by
  obtain ⟨a,o1,rfl,ha,_⟩:=h
  cases d' with
  | non=>cases (show V.ref a = V.non from h')
  | bl _=>cases (show V.ref a = V.bl _ from h')
  | int _=>cases (show V.ref a = V.int _ from h')
  | str _=>cases (show V.ref a = V.str _ from h')
  | tup ds' =>
   obtain ⟨a',vs',e,sq',rs'⟩:=h'
   cases e
   rw [ha] at sq'; cases sq'
  | lst ds' =>
   obtain ⟨a',vs',e,sq',rs'⟩:=h'
   cases e
   obtain ⟨_,_,_,_,_,o,_,_,h1,h2,_⟩:=I.hok a _ ha
   obtain ⟨_,_,pl,_⟩:=I.list sq'
   obtain ⟨o',h1',h2',_⟩:=pl.isList
   rw [h1] at h1'; cases h1'
   rw [h2.1] at h2'
   exact absurd h2' (by decide)
  | dcI kvs' =>
   obtain ⟨a',o2,e,sq',_⟩:=h'
   cases e
   rw [ha] at sq'
   rw [zlZ (HO.dT.inj (HO.frz.inj (Option.some.inj sq')).2)]
theorem zeh (I : Inv X pins σ H s) : ∀ (ds : List D) {ds' : List D} {vs : List V},Reps X.K H ds vs → Reps X.K H ds' vs → ds = ds'
 | [],ds',vs,h,h'=>by
  cases (show vs = [] from h)
  cases ds' with
  | nil=>rfl
  | cons d' ds'=>obtain ⟨_,_,e,_⟩:=h'; cases e
 | d :: ds,ds',vs,h,h'=>by
  obtain ⟨v,r,rfl,h1,h2⟩:=h
  cases ds' with
  | nil=>cases (show v :: r = [] from h')
  | cons d' ds' =>
   obtain ⟨v',r',e,h1',h2'⟩:=h'
   cases e
   rw [zfd I d h1 h1',zeh I ds h2 h2']
end

theorem zda {K : PySem.W.Frag} {d : D} {v : V} (h : Rep K H d v) (f : flatD d = true) : flatV v = true:=by
 cases d with
 | non=>cases (show v = _ from h); rfl
 | bl _=>cases (show v = _ from h); rfl
 | int _=>cases (show v = _ from h); rfl
 | str _=>cases (show v = _ from h); rfl
 | tup _=>cases f
 | lst _=>cases f
 | dcI _=>cases f
theorem zhK {K : PySem.W.Frag} {d d' : D} {v v' : V} (h : Rep K H d v) (h' : Rep K H d' v') (f : flatD d = true) (f' : flatD d' = true) : eqV v v' = eqD d d':=by
 cases d with
 | tup _=>cases f
 | lst _=>cases f
 | dcI _=>cases f
 | _ =>
  cases (show v = _ from h)
  cases d' with
  | tup _=>cases f'
  | lst _=>cases f'
  | dcI _=>cases f'
  | _=>cases (show v' = _ from h'); rfl

theorem items_eq {A : Around} (I : Inv X pins σ H s) {as bs : List D} {vs ws : List V} {us zs : List Value} (ra : Reps X.K H as vs) (rb : Reps X.K H bs ws) (ru : Vals vs us) (rz : Vals ws zs)
  (he : ∀ (j : Nat) x y v w u z,as[j]? = some x → bs[j]? = some y → Rep X.K H x v → Rep X.K H y w → RelV v u → RelV w z → SeqAt.EqAt A s u z (eqD x y)) :
  ∀ j (h1 : j < us.toArray.size) (h2 : j < zs.toArray.size),SeqAt.EqAt A s us.toArray[j] zs.toArray[j] (eAt as bs j):=fun j h1 h2=>by
 have l1:=ra.len; have l2:=rb.len; have l3:=ru.length; have l4:=rz.length
 rw [List.size_toArray] at h1 h2
 have ha : j < as.length:=by omega
 have hb : j < bs.length:=by omega
 have ea : as[j]? = some as[j]:=List.getElem?_eq_getElem ha
 have eb : bs[j]? = some bs[j]:=List.getElem?_eq_getElem hb
 obtain ⟨v,ev,rv⟩:=ra.get ea
 obtain ⟨w,ew,rw'⟩:=rb.get eb
 obtain ⟨u,eu,ru'⟩:=ru.get ev
 obtain ⟨z,ez,rz'⟩:=rz.get ew
 have q1 : us.toArray[j] = u:=by
  have : us[j]? = some us[j]:=List.getElem?_eq_getElem h1
  rw [this] at eu
  simpa using Option.some.inj eu
 have q2 : zs.toArray[j] = z:=by
  have : zs[j]? = some zs[j]:=List.getElem?_eq_getElem h2
  rw [this] at ez
  simpa using Option.some.inj ez
 rw [q1,q2]
 have e : eAt as bs j = eqD as[j] bs[j]:=by unfold eAt; rw [ea,eb]
 rw [e]
 exact he j _ _ v w u z ea eb rv rw' ru' rz'

theorem in1_units {A : Around} : A.in1.units = A.units + 1:=rfl

theorem zeE (I : Inv X pins σ H s) : ∀ (n : Nat) (A : Around) (d d' : D) (v v' : V) (u u' : Value),CmpOk n d d' → A.units + n < cLine → Rep X.K H d v → Rep X.K H d' v' → RelV v u → RelV v' u' → SeqAt.EqAt A s u u' (eqD d d')
 | 0,A,d,d',v,v',u,u',ok,hu,r,r',ru,ru'=>by
  rw [← zhK r r' ok.1 ok.2]
  exact zjk ru ru' (zda r ok.1) (zda r' ok.2)
 | n + 1,A,d,d',v,v',u,u',ok,hu,r,r',ru,ru'=>by
  rcases ok with ok | ⟨as,bs,rfl,rfl,ok⟩ | ⟨as,bs,rfl,rfl,ok⟩
  ·rw [← zhK r r' ok.1 ok.2]
   exact zjk ru ru' (zda r ok.1) (zda r' ok.2)
  ·by_cases hvv : v = v'
   ·subst hvv
    have e:=zfd I _ r r'
    rw [← e,zeg]
    obtain ⟨a,vs,rfl,_⟩:=r
    cases ru; cases ru'
    exact SeqAt.EqAt.same _
   ·obtain ⟨a,vs,rfl,sq,rs⟩:=r
    obtain ⟨a',vs',rfl,sq',rs'⟩:=r'
    cases ru; cases ru'
    obtain ⟨its,ri,pl,_⟩:=I.tuple (SqT.of sq)
    obtain ⟨its',ri',pl',_⟩:=I.tuple (SqT.of sq')
    have hne : a ≠ a':=fun z=>hvv (by rw [z])
    have q:=SeqAt.RcAt.tuples (A:=A) (s:=s) pl pl' (by omega) (items_eq I rs rs' ri ri' fun j x y v w u z hx hy rx ry rxu ryz=>zeE I n A.in1 x y v w u z (ok j x y hx hy) (by rw [in1_units]; omega) rx ry rxu ryz)
    have l1:=rs.len; have l2:=rs'.len; have l3:=ri.length; have l4:=ri'.length
    have e : eqD (.tup as) (.tup bs) = ((List.range (min its.toArray.size its'.toArray.size)).all (eAt as bs) && its.toArray.size == its'.toArray.size):=by
     rw [List.size_toArray,List.size_toArray,← l3,← l4,l1,l2]
     exact zbL as bs
    rw [e]
    exact SeqAt.EqAt.of_refs hne q
  ·by_cases hvv : v = v'
   ·subst hvv
    have e:=zfd I _ r r'
    rw [← e,zeg]
    obtain ⟨a,vs,rfl,_⟩:=r
    cases ru; cases ru'
    exact SeqAt.EqAt.same _
   ·obtain ⟨a,vs,rfl,sq,rs⟩:=r
    obtain ⟨a',vs',rfl,sq',rs'⟩:=r'
    cases ru; cases ru'
    obtain ⟨its,ri,pl,_⟩:=I.list sq
    obtain ⟨its',ri',pl',_⟩:=I.list sq'
    have hne : a ≠ a':=fun z=>hvv (by rw [z])
    have l1:=rs.len; have l2:=rs'.len; have l3:=ri.length; have l4:=ri'.length
    have key:=zbL as bs
    by_cases hsz : its.toArray.size = its'.toArray.size
    ·have q:=SeqAt.RcAt.lists (A:=A) (s:=s) pl.isList pl'.isList hsz (by omega) (items_eq I rs rs' ri ri' fun j x y v w u z hx hy rx ry rxu ryz=>zeE I n A.in1 x y v w u z (ok j x y hx hy) (by rw [in1_units]; omega) rx ry rxu ryz)
     have e : eqD (.lst as) (.lst bs) = (List.range its.toArray.size).all (eAt as bs):=by
      rw [List.size_toArray,List.size_toArray] at hsz
      have : as.length = bs.length:=by omega
      show eqDs as bs = _
      rw [key,this,Nat.min_self,List.size_toArray,beq_self_eq_true,Bool.and_true,← l3,l1,this]
     rw [e]
     exact SeqAt.EqAt.of_refs hne q
    ·have q:=SeqAt.RcAt.lists_lengths (A:=A) (s:=s) pl.isList pl'.isList (by simpa using hsz) (by omega)
     have e : eqD (.lst as) (.lst bs) = false:=by
      rw [List.size_toArray,List.size_toArray] at hsz
      have : (as.length == bs.length) = false:=by
       rw [beq_eq_false_iff_ne]; omega
      show eqDs as bs = _
      rw [key,this,Bool.and_false]
     rw [e]
     exact SeqAt.EqAt.of_refs hne q

noncomputable def SeqD : D → D → Prop
 | .tup _,.tup _=>True
 | .lst _,.lst _=>True
 | _,_=>False
theorem znJ {n : Nat} {A : Around} {d d' : D} {v v' : V} {u u' : Value} (I : Inv X pins σ H s) (sd : SeqD d d') (ok : CmpOk (n + 1) d d') (hu : A.units + n + 1 < cLine) (r : Rep X.K H d v) (r' : Rep X.K H d' v') (ru : RelV v u) (ru' : RelV v' u') :
  SeqAt.RcAt A s u u' (eqD d d') ∧ SeqAt.RcNeAt A s u u' (!eqD d d'):=by
 rcases ok with ok | ⟨as,bs,rfl,rfl,ok⟩ | ⟨as,bs,rfl,rfl,ok⟩
 ·cases d with
  | tup _=>cases ok.1
  | lst _=>cases ok.1
  | dcI _=>cases ok.1
  | _=>cases sd
 ·obtain ⟨a,vs,rfl,sq,rs⟩:=r
  obtain ⟨a',vs',rfl,sq',rs'⟩:=r'
  cases ru; cases ru'
  obtain ⟨its,ri,pl,_⟩:=I.tuple (SqT.of sq)
  obtain ⟨its',ri',pl',_⟩:=I.tuple (SqT.of sq')
  have it:=items_eq (A:=A.in1) I rs rs' ri ri' fun j x y v w u z hx hy rx ry rxu ryz=>zeE I n A.in1 x y v w u z (ok j x y hx hy) (by rw [in1_units]; omega) rx ry rxu ryz
  have l1:=rs.len; have l2:=rs'.len; have l3:=ri.length; have l4:=ri'.length
  have e : eqD (.tup as) (.tup bs) = ((List.range (min its.toArray.size its'.toArray.size)).all (eAt as bs) && its.toArray.size == its'.toArray.size):=by
   rw [List.size_toArray,List.size_toArray,← l3,← l4,l1,l2]
   exact zbL as bs
  rw [e]
  exact ⟨SeqAt.RcAt.tuples pl pl' (by omega) it,SeqAt.RcNeAt.tuples pl pl' (by omega) it⟩
 ·obtain ⟨a,vs,rfl,sq,rs⟩:=r
  obtain ⟨a',vs',rfl,sq',rs'⟩:=r'
  cases ru; cases ru'
  obtain ⟨its,ri,pl,_⟩:=I.list sq
  obtain ⟨its',ri',pl',_⟩:=I.list sq'
  have it:=items_eq (A:=A.in1) I rs rs' ri ri' fun j x y v w u z hx hy rx ry rxu ryz=>zeE I n A.in1 x y v w u z (ok j x y hx hy) (by rw [in1_units]; omega) rx ry rxu ryz
  have l1:=rs.len; have l2:=rs'.len; have l3:=ri.length; have l4:=ri'.length
  have key:=zbL as bs
  by_cases hsz : its.toArray.size = its'.toArray.size
  ·have e : eqD (.lst as) (.lst bs) = (List.range its.toArray.size).all (eAt as bs):=by
    have hsz':=hsz
    rw [List.size_toArray,List.size_toArray] at hsz'
    have : as.length = bs.length:=by omega
    show eqDs as bs = _
    rw [key,this,Nat.min_self,List.size_toArray,beq_self_eq_true,Bool.and_true,← l3,l1,this]
   rw [e]
   exact ⟨SeqAt.RcAt.lists pl.isList pl'.isList hsz (by omega) it,SeqAt.RcNeAt.lists pl.isList pl'.isList hsz (by omega) it⟩
  ·have e : eqD (.lst as) (.lst bs) = false:=by
    have hsz':=hsz
    rw [List.size_toArray,List.size_toArray] at hsz'
    have : (as.length == bs.length) = false:=by
     rw [beq_eq_false_iff_ne]; omega
    show eqDs as bs = _
    rw [key,this,Bool.and_false]
   rw [e]
   exact ⟨SeqAt.RcAt.lists_lengths pl.isList pl'.isList (by simpa using hsz) (by omega),SeqAt.RcNeAt.lists_lengths pl.isList pl'.isList (by simpa using hsz) (by omega)⟩
end
section
variable {S : Stat} {Γ : List Sl} {pos p : Pos} {a b : Expr}
noncomputable def rEqD (K : PySem.W.Frag) (n : Nat) (neg : Bool) (d d' : D) : R2:=fun x y H Q=>Rep K H d x ∧ Rep K H d' y ∧ SeqD d d' ∧ CmpOk (n + 1) d d' ∧ Q (.bl (if neg then !eqD d d' else eqD d d')) H
theorem zjo {n : Nat} {d d' : D} (hn : n ≤ 60) (X : Cx) (o : S.Of X) : OpR X (compareOp .Eq) (rEqD S.K n false d d'):=by
 intro pins s σ H x y v u Q I rx ry h
 obtain ⟨h1,h2,sd,ok,q⟩:=h
 rw [← o.K] at h1 h2
 have hu:=o.room.units
 exact (znJ I sd ok (by omega) h1 h2 rx ry).1 _ _ _ _ ⟨.bl (eqD d d'),H,I,rfl,q⟩
theorem e_eqD {n : Nat} {d d' : D} (ha : JE S Γ a d) (hb : JE S Γ b d') (sd : SeqD d d') (ok : CmpOk (n + 1) d d') (hn : n ≤ 60:=by decide) : JE S Γ (.Compare a [.Eq] [b] pos) (.bl (eqD d d')) :=
 e_cmp (zjo hn) ha hb (zbK _) fun χ H x y Q _ rx ry q=>⟨rx.mono zm d,ry.mono zm d',sd,ok,q _ H (Same.refl H) rfl⟩
theorem t_eqD {n : Nat} {d d' : D} (ha : JE S Γ a d) (hb : JE S Γ b d') (sd : SeqD d d') (ok : CmpOk (n + 1) d d') (hn : n ≤ 60:=by decide) : JT S Γ (.Compare a [.Eq] [b] pos) (eqD d d') :=
 t_cmp (zjo hn) ha hb (zbK _) fun χ H x y Q _ rx ry q=>⟨rx.mono zm d,ry.mono zm d',sd,ok,q _ H (Same.refl H) rfl⟩
end
end Internal

end
section
set_option Elab.async false
set_option linter.all false
set_option maxRecDepth 100000
set_option maxHeartbeats 4000000
namespace Internal
open PySem PySem.Spec PyProof.Rows Internal.L2

noncomputable def ItD (K : PySem.W.Frag) (χ : Addr → Bool) (H : Hp) (J : It) (ds : List D) : Prop:=∀ (χ2 : Addr → Bool) (H2 : Hp),Same (hidB χ H) (hidB χ2 H2) →
 (∀ (i : Nat) d,ds[i]? = some d → J.go i H2 ∧ ∀ x H3,J.yld i H2 x H3 → H3 = H2 ∧ Rep K (hidB χ2 H2) d x) ∧ J.stop ds.length H2
noncomputable def JI (S : Stat) (Γ : List Sl) (tg iter : Expr) (ds : List D) : Prop:=∃ wi : TI,(∀ X : Cx,S.Of X → PI X tg iter wi) ∧
 ∀ σ H R χ,RE S.K χ H σ Γ → (∀ J H',Same H H' → ItD S.K χ H' J ds → R J H') → wi σ H R
section
variable {S : Stat} {Γ : List Sl} {pos p : Pos} {a b e tg : Expr}
theorem zma {K : PySem.W.Frag} {χ : Addr → Bool} {H : Hp} {a : Addr} {vs : List V} {ds : List D} (sq : hidB χ H a = some (.tup vs)) (rs : Reps K (hidB χ H) ds vs) : ItD K χ H (Itt K a) ds:=fun χ2 H2 e=>by
 have sq2 : SqT K H2 a vs:=zbV zm (e _ _ sq)
 refine ⟨fun i d hd=>?_,vs,sq2,by rw [rs.len]; exact Nat.le_refl _⟩
 obtain ⟨v,ev,rv⟩:=rs.get hd
 refine ⟨⟨vs,v,sq2,ev⟩,fun x H3 ⟨e3,y⟩=>⟨e3,?_⟩⟩
 have:=y vs sq2
 rw [ev] at this
 cases this
 exact rv.mono e d
theorem zmb {K : PySem.W.Frag} {χ : Addr → Bool} {H : Hp} {a : Addr} {vs : List V} {ds : List D} (sq : SqL K (hidB χ H) a vs) (rs : Reps K (hidB χ H) ds vs) : ItD K χ H (Itl K a) ds:=fun χ2 H2 e=>by
 have sq2 : SqL K H2 a vs:=Same.seq zm (Same.seq e sq)
 refine ⟨fun i d hd=>?_,vs,sq2,by rw [rs.len]; exact Nat.le_refl _⟩
 obtain ⟨v,ev,rv⟩:=rs.get hd
 refine ⟨⟨vs,v,sq2,ev⟩,fun x H3 ⟨e3,y⟩=>⟨e3,?_⟩⟩
 have:=y vs sq2
 rw [ev] at this
 cases this
 exact rv.mono e d
theorem i_tup {ds : List D} (h : JE S Γ e (.tup ds)) : JI S Γ tg e ds:=⟨iTup S.K (dE S.K Γ (.tup ds)),fun X o=>by
  have q:=zns (tg:=tg) (h X o)
  rw [o.K] at q; exact q,fun σ H R χ r q=>⟨χ,r,fun v H' e ⟨ad,vs,ev,sq,rs⟩=>⟨ad,ev,⟨vs,zbV zm sq⟩,q _ H' e (zma sq rs)⟩⟩⟩
theorem i_lst {ds : List D} (h : JE S Γ e (.lst ds)) : JI S Γ tg e ds:=⟨iList S.K (dE S.K Γ (.lst ds)),fun X o=>by
  have q:=zlO (tg:=tg) (h X o)
  rw [o.K] at q; exact q,fun σ H R χ r q=>⟨χ,r,fun v H' e ⟨ad,vs,ev,sq,rs⟩=>⟨ad,ev,⟨vs,Same.seq zm sq⟩,q _ H' e (zmb sq rs)⟩⟩⟩
noncomputable abbrev zcu (lo : Int) (n : Nat) : List D:=(List.range n).map fun i : Nat=>D.int (lo + (i : Int))
theorem zfU (lo : Int) (n : Nat) : (zcu lo n).length = n:=by unfold zcu; rw [List.length_map,List.length_range]
theorem zmc {K : PySem.W.Frag} {χ : Addr → Bool} {H : Hp} (lo : Int) (n : Nat) : ItD K χ H (Itr lo n) (zcu lo n):=fun χ2 H2 e=>by
 refine ⟨fun i d hd=>?_,by rw [zfU]; exact Nat.le_refl _⟩
 unfold zcu at hd
 rw [List.getElem?_map] at hd
 cases q : (List.range n)[i]? with
 | none=>rw [q] at hd; cases hd
 | some j =>
  rw [q] at hd
  obtain ⟨hi,hj⟩:=List.getElem?_eq_some_iff.mp q
  rw [List.getElem_range] at hj
  subst hj
  have hd' : D.int (lo + (i : Int)) = d:=Option.some.inj hd
  subst hd'
  rw [List.length_range] at hi
  exact ⟨hi,fun x H3 ⟨e3,y⟩=>⟨e3,y⟩⟩
theorem znK {n : Int} (h : JE S Γ a (.int n)) (hm : S.mg "range" = none) (hn : -(2 ^ 62) ≤ n ∧ n < 2 ^ 62) (hg : S.sc.names.lookup ("range" : Str) = some .globalImplicit:=by ac_nf) (hs : ∀ env,starEach [a] env = [(false,eval a env)]:=by ac_rfl) : JI S Γ tg (.Call (.Name "range" p) [a] [] pos) (zcu 0 n.toNat) :=
 ⟨iRng1 (dA S.K Γ [.int n]),fun X o=>zjc (gl_of o hg) (by rw [o.mg]; exact hm) ((zb h a_nil hs) X o) (hs X.env),fun σ H R χ r q=>⟨χ,r,fun vs H' e rs=>by
  obtain ⟨v,rfl,rv⟩:=reps1 rs
  cases (show v = _ from rv)
  exact ⟨n,rfl,hn.1,hn.2,q _ H' e (zmc 0 n.toNat)⟩⟩⟩

structure JIfs (S : Stat) (Γ : List Sl) (ifs : List Expr) (b : Bool) : Prop where
 run : ∀ X,S.Of X → PIfs X ifs (dT S.K Γ b)
noncomputable instance {S : Stat} {Γ : List Sl} {ifs : List Expr} {b : Bool} : CoeFun (JIfs S Γ ifs b) fun _=>∀ X,S.Of X → PIfs X ifs (dT S.K Γ b):=⟨fun h=>h.run⟩
theorem zhL : JIfs S Γ [] true:=.mk fun X o pins s σ H Q I ⟨χ,R,q⟩=>zkH pins s σ H Q I (q H (Same.refl H))
theorem zhM {b : Bool} (h : JT S Γ e b) : JIfs S Γ [e] b:=.mk fun X o=>zkI (h X o)

theorem zgm {Γ : List Sl} {d : D} {j : Nat} {a : Bool} {es : Ct} (h : (Γ ++ [.val d])[j]? = some (.ll a es)) : j < Γ.length:=by
 by_cases hj : j < Γ.length
 ·exact hj
 ·have hj':=(List.getElem?_eq_some_iff.mp h).1
  rw [List.length_append,List.length_singleton] at hj'
  have hje : j = Γ.length:=by omega
  subst hje
  rw [List.getElem?_append_right (Nat.le_refl _),Nat.sub_self] at h
  cases h
theorem zgn {β : Type} {K : PySem.W.Frag} {us : List β} {g F : β → D} {pr : β → Bool} {wi : TI} (hl : us.length ≤ sizeLine) (hw : ∀ σ H R χ,RE K χ H σ Γ → (∀ J H',Same H H' → ItD K χ H' J (us.map g) → R J H') → wi σ H R) (σ : Internal.L2.St) (H : Hp) (Q : VK)
  (h : dF K Γ ((us.filter pr).map F) σ H Q) : tComp wi (fun σ' H Q=>∃ u,u ∈ us ∧ dT K (Γ ++ [.val (g u)]) (pr u) σ' H Q) (fun σ' H Q=>∃ u,u ∈ us ∧ pr u = true ∧ dE K (Γ ++ [.val (g u)]) (F u) σ' H Q) σ H Q:=by
 obtain ⟨χ,R,q⟩:=h
 refine hw σ H _ χ R fun J H1 e1 itd l hl1=>?_
 have hl0 : H l = none:=e1.free hl1
 have R1:=R.mono e1
 have up : ∀ {H2 : Hp},Same H1 H2 → Same (hidB χ H1) (hidB (fun b=>χ b || b == l) H2):=fun {H2} e2 b o hb=>by
  obtain ⟨c1,c2⟩:=zr hb
  have hne : b ≠ l:=zE c2 hl1
  exact zy (by rw [c1,Bool.false_or]; simpa using hne) (e2 b o c2)
 refine ⟨fun i m ys H2=>m = us.length - i ∧ i ≤ us.length ∧ H2 l = some (.lst ys) ∧ Same H1 H2 ∧ Reps K (hidB (fun b=>χ b || b == l) H2) (((us.take i).filter pr).map F) ys,
  ⟨us.length,by simp,Nat.zero_le _,zu,zH hl1 _,rfl⟩,?_⟩
 rintro i m ys H2 ⟨rfl,hi,hl2,e2,rs⟩
 refine ⟨hl2,?_⟩
 obtain ⟨it1,it2⟩:=itd (fun b=>χ b || b == l) H2 (up e2)
 by_cases hlt : i < us.length
 ·have hu : us[i]? = some us[i]:=List.getElem?_eq_getElem hlt
  generalize us[i] = u at hu
  have hd : (us.map g)[i]? = some (g u):=by rw [List.getElem?_map,hu]; rfl
  obtain ⟨go,yl⟩:=it1 i (g u) hd
  have hmem : u ∈ us:=List.mem_of_getElem? hu
  have htake : us.take (i + 1) = us.take i ++ [u]:=by
   rw [List.take_add_one,hu]; rfl
  refine .inr ⟨go,?_,fun x H3 y=>?_⟩
  ·have:=rs.len
   rw [List.length_map] at this
   have h1:=List.length_filter_le pr (us.take i)
   rw [List.length_take] at h1
   omega
  ·obtain ⟨e3,rx⟩:=yl x H3 y
   subst e3
   have R2 : RE K (fun b=>χ b || b == l) H3 (σ ++ [some x]) (Γ ++ [.val (g u)]):=by
    refine ⟨fun b hb=>?_,by rw [List.length_append,List.length_append,R.len]; rfl,fun j d' hj=>?_,fun j a es hj=>?_,fun j j' a a' es es' p h1 h2 h3 h4=>?_⟩
    ·cases c : χ b with
     | true=>obtain ⟨o,ho⟩:=R1.live b c; exact ⟨o,e2 _ _ ho⟩
     | false =>
      rw [c,Bool.false_or] at hb
      have : b = l:=by simpa using hb
      subst this
      exact ⟨⟨_,zez⟩,hl2⟩
    ·by_cases hjl : j < Γ.length
     ·rw [List.getElem?_append_left hjl] at hj
      obtain ⟨v,ev,rv⟩:=R1.val j d' hj
      exact ⟨v,by rw [List.getElem?_append_left (by rw [R.len]; exact hjl)]; exact ev,rv.mono (up e2) d'⟩
     ·have hj':=(List.getElem?_eq_some_iff.mp hj).1
      rw [List.length_append,List.length_singleton] at hj'
      have hje : j = Γ.length:=by omega
      subst hje
      rw [List.getElem?_append_right (Nat.le_refl _),Nat.sub_self] at hj
      have hj2 : Sl.val (g u) = Sl.val d':=Option.some.inj hj
      injection hj2 with hj3
      subst hj3
      refine ⟨x,?_,rx⟩
      rw [← R.len,List.getElem?_append_right (Nat.le_refl _),Nat.sub_self]
      rfl
    ·have hjl:=zgm hj
     rw [List.getElem?_append_left hjl] at hj
     obtain ⟨p,vs,a1,a2,a3,a4⟩:=R1.own j a es hj
     exact ⟨p,vs,by rw [List.getElem?_append_left (by rw [R.len]; exact hjl)]; exact a1,by rw [a2]; rfl,e2 _ _ a3,CRep.mono (up e2) es a4⟩
    ·have l1:=zgm h1
     have l2:=zgm h2
     rw [List.getElem?_append_left l1] at h1
     rw [List.getElem?_append_left l2] at h2
     rw [List.getElem?_append_left (by rw [R.len]; exact l1)] at h3
     rw [List.getElem?_append_left (by rw [R.len]; exact l2)] at h4
     exact R1.inj j j' a a' es es' p h1 h2 h3 h4
   refine ⟨u,hmem,_,R2,fun H4 e4=>?_⟩
   have hl4:=e4 _ _ hl2
   have e24 : Same H1 H4:=e2.trans e4
   have rs4:=Reps.mono (zA (χ:=fun b=>χ b || b == l) e4) _ rs
   cases hp : pr u with
   | false =>
    refine iteF ⟨us.length - (i + 1),by omega,rfl,hlt,hl4,e24,?_⟩
    rw [htake,List.filter_append,List.filter_cons_of_neg (by rw [hp]; exact Bool.false_ne_true),List.filter_nil,List.append_nil]
    exact rs4
   | true =>
    refine iteT ⟨u,hmem,hp,_,R2.mono e4,fun y H5 e5 ry=>⟨e5 _ _ hl4,us.length - (i + 1),by omega,rfl,hlt,zu,fun b o hb=>?_,?_⟩⟩
    ·rw [zp (zE hb hl1)]
     exact e5 _ _ (e24 _ _ hb)
    ·rw [htake,List.filter_append,List.filter_cons_of_pos hp,List.filter_nil,List.map_append]
     have hh : Same (hidB (fun b=>χ b || b == l) H5) (hidB (fun b=>χ b || b == l) (upd H5 l (.lst (ys ++ [y])))):=fun b o hb=>by
      obtain ⟨c1,c2⟩:=zr hb
      have hne : b ≠ l:=fun z=>by subst z; simp at c1
      exact zy c1 (by rw [zp hne]; exact c2)
     exact Reps.mono hh _ ((Reps.mono (zA e5) _ rs4).app (.one ry))
 ·have hie : i = us.length:=by omega
  subst hie
  rw [List.take_length] at rs
  rw [List.length_map] at it2
  exact .inl ⟨it2,q l ys H2 hl0 (e1.trans e2) hl2 rs⟩

section
variable {elt iter : Expr} {x : Str} {px : Pos} {ifs : List Expr} {scope : Scope} {β : Type} {us : List β} {g : β → D}
theorem zgo (F : β → D) (pr : β → Bool) (hi : JI S Γ (.Name x px) iter (us.map g)) (hl : us.length ≤ sizeLine) (ht : ∀ u,u ∈ us → JIfs (S.blk x scope) (Γ ++ [.val (g u)]) ifs (pr u)) (he : ∀ u,u ∈ us → pr u = true → JE (S.blk x scope) (Γ ++ [.val (g u)]) elt (F u))
  (ok : zcs S.N S.sc x scope = true:=by ac_nf) (hs : ∀ env v,foldedSetIterable iter env v = pure v:=by ac_rfl) : JF S Γ (.ListComp elt [⟨.Name x px,iter,ifs,0⟩] scope pos) ((us.filter pr).map F):=.mk fun X o=>by
 obtain ⟨wi,hw1,hw2⟩:=hi
 refine zq (zlW (tt:=fun σ' H Q=>∃ u,u ∈ us ∧ dT S.K (Γ ++ [Sl.val (g u)]) (pr u) σ' H Q) (te:=fun σ' H Q=>∃ u,u ∈ us ∧ pr u = true ∧ dE S.K (Γ ++ [Sl.val (g u)]) (F u) σ' H Q) o.calm (hw1 X o) o.N o.sc ok
  (fun C s₀ H₀ ex pins s σ H Q I ⟨u,hd,q⟩=>ht u hd _ (o.blk x scope C s₀ H₀ ex) pins s σ H Q I q) (fun C s₀ H₀ ex pins s σ H Q I ⟨u,hd,hp,q⟩=>he u hd hp _ (o.blk x scope C s₀ H₀ ex) pins s σ H Q I q) (hs X.env)) fun σ H Q h=>zgn hl hw2 σ H Q h

theorem f_map (F : β → D) (hi : JI S Γ (.Name x px) iter (us.map g)) (hl : us.length ≤ sizeLine) (he : ∀ u,u ∈ us → JE (S.blk x scope) (Γ ++ [.val (g u)]) elt (F u))
  (ok : zcs S.N S.sc x scope = true:=by ac_nf) (hs : ∀ env v,foldedSetIterable iter env v = pure v:=by ac_rfl) : JF S Γ (.ListComp elt [⟨.Name x px,iter,[],0⟩] scope pos) (us.map F):=by
 have h:=zgo (S:=S) (Γ:=Γ) (pos:=pos) (scope:=scope) F (fun _=>true) (elt:=elt) hi hl (fun d _=>zhL) (fun d hd _=>he d hd) ok hs
 have e : us.filter (fun _=>true) = us:=List.filter_eq_self.mpr fun _ _=>rfl
 rw [e] at h
 exact h
end
end
end Internal

end
section
set_option Elab.async false
set_option linter.all false
set_option maxRecDepth 100000
set_option maxHeartbeats 4000000
namespace Internal
open PySem PySem.Spec PyProof.Rows Internal.L2

noncomputable def both (φ : Addr → Bool) (ω : Addr → Option (Bool × Nat)) : Addr → Bool:=fun b=>φ b || (ω b).isSome
structure RS (K : PySem.W.Frag) (φ : Addr → Bool) (ω : Addr → Option (Bool × Nat)) (H : Hp) (σ : Internal.L2.St) (Γ : List Sl) : Prop where
 live : ∀ p,both φ ω p = true → ∃ o : HN,H p = some o.1
 len : σ.length = Γ.length
 val : ∀ (i : Nat) (d : D),Γ[i]? = some (.val d) → ∃ v,σ[i]? = some (some v) ∧ Rep K (hidB (both φ ω) H) d v
 own : ∀ (i : Nat) (a : Bool) (c : Ct),Γ[i]? = some (.ll a c) → ∃ p ho,σ[i]? = some (some (.ref p)) ∧ ω p = some (a,i) ∧ φ p = false ∧ H p = some ho ∧ CRep K (hidB (both φ ω) H) c ho
 argu : ∀ b b' i,ω b = some (true,i) → ω b' = some (true,i) → b = b'
structure Kp (φ : Addr → Bool) (ω : Addr → Option (Bool × Nat)) (H : Hp) (ω' : Addr → Option (Bool × Nat)) (H' : Hp) : Prop where
 same : Same (hidB (both φ ω) H) (hidB (both φ ω') H')
 frn : ∀ b o,φ b = true → H b = some o → H' b = some o
 dom : ∀ b o,H b = some o → ∃ o',H' b = some o'
 new : ∀ b i,ω' b = some i → (∃ j,ω b = some j) ∨ H b = none
 arg : ∀ b i,ω b = some (true,i) → ω' b = some (true,i)
section
variable {K : PySem.W.Frag} {φ : Addr → Bool} {ω ω' ω2 : Addr → Option (Bool × Nat)} {H H' H2 : Hp} {σ : Internal.L2.St} {Γ : List Sl}
theorem RS.re (r : RS K φ ω H σ Γ) : RE K (both φ ω) H σ Γ:=⟨r.live,r.len,r.val,fun i a ds h=>let ⟨p,vs,h1,h2,_,h4,h5⟩:=r.own i a ds h; ⟨p,vs,h1,by unfold both; rw [h2]; simp,h4,h5⟩,fun i j a a' ds es p h1 h2 h3 h4=>by
 obtain ⟨q,_,a1,a2,_⟩:=r.own i a ds h1
 obtain ⟨q',_,b1,b2,_⟩:=r.own j a' es h2
 rw [h3] at a1; cases a1
 rw [h4] at b1; cases b1
 rw [a2] at b2
 exact congrArg Prod.snd (Option.some.inj b2)⟩
theorem RS.mono (r : RS K φ ω H σ Γ) (e : Same H H') : RS K φ ω H' σ Γ :=
 ⟨fun p h=>let ⟨o,q⟩:=r.live p h; ⟨o,e _ _ q⟩,r.len,fun i d h=>let ⟨v,q,p⟩:=r.val i d h; ⟨v,q,p.mono (zA e) d⟩,
  fun i a ds h=>let ⟨p,vs,h1,h2,h3,h4,h5⟩:=r.own i a ds h; ⟨p,vs,h1,h2,h3,e _ _ h4,CRep.mono (zA e) ds h5⟩,r.argu⟩
theorem Kp.refl : Kp φ ω H ω H:=⟨Same.refl _,fun _ _ _ h=>h,fun _ o h=>⟨o,h⟩,fun _ i h=>.inl ⟨i,h⟩,fun _ _ h=>h⟩
theorem Kp.of (e : Same H H') : Kp φ ω H ω H':=⟨zA e,fun b o _ h=>e b o h,fun b o h=>⟨o,e b o h⟩,fun _ i h=>.inl ⟨i,h⟩,fun _ _ h=>h⟩
theorem Kp.none (k : Kp φ ω H ω' H') {b : Addr} (h : H' b = none) : H b = none:=by
 cases c : H b with
 | none=>rfl
 | some o=>obtain ⟨o',q⟩:=k.dom b o c; rw [h] at q; cases q
theorem Kp.trans (a : Kp φ ω H ω' H') (b : Kp φ ω' H' ω2 H2) : Kp φ ω H ω2 H2:=⟨a.same.trans b.same,fun c o hc h=>b.frn c o hc (a.frn c o hc h),fun c o h=>let ⟨o1,h1⟩:=a.dom c o h; b.dom c o1 h1,fun c i h=>by
 rcases b.new c i h with ⟨j,h1⟩ | h1
 ·exact a.new c j h1
 ·exact .inr (a.none h1),fun c i h=>b.arg c i (a.arg c i h)⟩
theorem RS.set (r : RS K φ ω H σ Γ) {i : Nat} {d : D} {v : V} (hv : Rep K (hidB (both φ ω) H) d v) : RS K φ ω H (σ.set i (some v)) (Γ.set i (.val d)):=by
 refine ⟨r.live,by rw [List.length_set,List.length_set]; exact r.len,fun j d' h=>?_,fun j a ds h=>?_,r.argu⟩
 ·by_cases hj : i = j
  ·subst hj
   have hlt : i < Γ.length:=by
    have:=(List.getElem?_eq_some_iff.mp h).1
    rwa [List.length_set] at this
   rw [List.getElem?_set_self hlt] at h
   have h' : Sl.val d = Sl.val d':=Option.some.inj h
   cases h'
   exact ⟨v,by rw [List.getElem?_set_self (by rw [r.len]; exact hlt)],hv⟩
  ·rw [List.getElem?_set_ne hj] at h
   obtain ⟨v',e,q⟩:=r.val j d' h
   exact ⟨v',by rw [List.getElem?_set_ne hj]; exact e,q⟩
 ·by_cases hj : i = j
  ·subst hj
   have hlt : i < Γ.length:=by
    have:=(List.getElem?_eq_some_iff.mp h).1
    rwa [List.length_set] at this
   rw [List.getElem?_set_self hlt] at h
   have h' : Sl.val d = Sl.ll a ds:=Option.some.inj h
   cases h'
  ·rw [List.getElem?_set_ne hj] at h
   obtain ⟨p,vs,e,q⟩:=r.own j a ds h
   exact ⟨p,vs,by rw [List.getElem?_set_ne hj]; exact e,q⟩

theorem RS.takeC (r : RS K φ ω H σ Γ) {i : Nat} {l : Addr} {vs : HO} {ds : Ct} (hi : i < Γ.length) (hl : H l = none) (e : Same H H') (hv : H' l = some vs) (hr : CRep K (hidB (fun b=>both φ ω b || b == l) H') ds vs) :
  RS K φ (fun b=>if b = l then some (false,i) else ω b) H' (σ.set i (some (.ref l))) (Γ.set i (.ll false ds)) ∧ Kp φ ω H (fun b=>if b = l then some (false,i) else ω b) H':=by
 have fl : both φ ω l = false:=r.re.fresh hl
 have φl : φ l = false:=by
  unfold both at fl
  cases c : φ l with
  | false=>rfl
  | true=>rw [c] at fl; cases fl
 have eb : both φ (fun b=>if b = l then some (false,i) else ω b) = fun b=>both φ ω b || b == l:=by
  funext b
  unfold both
  by_cases hb : b = l
  ·subst hb; simp
  ·have : (b == l) = false:=by simpa using hb
   dsimp only
   rw [if_neg hb,this,Bool.or_false]
 have up : Same (hidB (both φ ω) H) (hidB (fun b=>both φ ω b || b == l) H'):=fun b o hb=>by
  obtain ⟨c1,c2⟩:=zr hb
  have hne : b ≠ l:=zE c2 hl
  exact zy (by rw [c1,Bool.false_or]; simpa using hne) (e b o c2)
 refine ⟨⟨fun p hp=>?_,by rw [List.length_set,List.length_set]; exact r.len,fun j d h=>?_,fun j a es h=>?_,fun b b' k h1 h2=>?_⟩,⟨by rw [eb]; exact up,fun b o _ h=>e b o h,fun b o h=>⟨o,e b o h⟩,fun b j h=>by
  by_cases hb : b = l
  ·subst hb; exact .inr hl
  ·rw [if_neg hb] at h; exact .inl ⟨j,h⟩,fun b j h=>by
  have hb : b ≠ l:=fun z=>by
   subst z
   unfold both at fl
   rw [h] at fl
   simp at fl
  rw [if_neg hb]; exact h⟩⟩
 ·rw [eb] at hp
  by_cases hpl : p = l
  ·subst hpl; exact ⟨⟨_,hr.nt⟩,hv⟩
  ·have : (p == l) = false:=by simpa using hpl
   dsimp only at hp
   rw [this,Bool.or_false] at hp
   obtain ⟨o,ho⟩:=r.live p hp
   exact ⟨o,e _ _ ho⟩
 ·by_cases hj : i = j
  ·subst hj
   rw [List.getElem?_set_self hi] at h
   have h' : Sl.ll false ds = Sl.val d:=Option.some.inj h
   cases h'
  ·rw [List.getElem?_set_ne hj] at h
   obtain ⟨v,ev,rv⟩:=r.val j d h
   refine ⟨v,by rw [List.getElem?_set_ne hj]; exact ev,?_⟩
   rw [eb]; exact rv.mono up d
 ·by_cases hj : i = j
  ·subst hj
   rw [List.getElem?_set_self hi] at h
   have h' : Sl.ll false ds = Sl.ll a es:=Option.some.inj h
   cases h'
   refine ⟨l,vs,by rw [List.getElem?_set_self (by rw [r.len]; exact hi)],by simp,φl,hv,?_⟩
   rw [eb]; exact hr
  ·rw [List.getElem?_set_ne hj] at h
   obtain ⟨p,ws,h1,h2,h3,h4,h5⟩:=r.own j a es h
   have hpl : p ≠ l:=zE h4 hl
   refine ⟨p,ws,by rw [List.getElem?_set_ne hj]; exact h1,by rw [if_neg hpl]; exact h2,h3,e _ _ h4,?_⟩
   rw [eb]; exact CRep.mono up es h5
 ·have g : ∀ c,(if c = l then some (false,i) else ω c) = some (true,k) → ω c = some (true,k):=fun c h=>by
   by_cases hc : c = l
   ·rw [if_pos hc] at h; cases h
   ·rw [if_neg hc] at h; exact h
  exact r.argu b b' k (g b h1) (g b' h2)

theorem RS.putC (r : RS K φ ω H σ Γ) {i : Nat} {l : Addr} {vs' : HO} {ds' ds : Ct} {a : Bool} (hi : Γ[i]? = some (.ll a ds)) (hl : ω l = some (a,i)) (hσ : σ[i]? = some (some (.ref l))) (hr : CRep K (hidB (both φ ω) H) ds' vs') (φl : φ l = false) :
  RS K φ ω (upd H l vs') σ (Γ.set i (.ll a ds')) ∧ Kp φ ω H ω (upd H l vs'):=by
 have hb : both φ ω l = true:=by unfold both; rw [hl]; simp
 have up : Same (hidB (both φ ω) H) (hidB (both φ ω) (upd H l vs')):=fun b o h=>by
  obtain ⟨c1,c2⟩:=zr h
  have hne : b ≠ l:=fun z=>by subst z; rw [hb] at c1; cases c1
  exact zy c1 (by rw [zp hne]; exact c2)
 have hlt:=(List.getElem?_eq_some_iff.mp hi).1
 refine ⟨⟨fun p hp=>?_,by rw [List.length_set]; exact r.len,fun j d h=>?_,fun j a' es h=>?_,r.argu⟩,⟨up,fun b o hφ h=>?_,fun b o h=>by
  by_cases hbl : b = l
  ·subst hbl; exact ⟨_,zu⟩
  ·exact ⟨o,by rw [zp hbl]; exact h⟩,fun _ j h=>.inl ⟨j,h⟩,fun _ _ h=>h⟩⟩
 ·by_cases hpl : p = l
  ·subst hpl; exact ⟨⟨_,hr.nt⟩,zu⟩
  ·obtain ⟨o,ho⟩:=r.live p hp
   exact ⟨o,by rw [zp hpl]; exact ho⟩
 ·by_cases hj : i = j
  ·subst hj
   rw [List.getElem?_set_self hlt] at h
   have h' : Sl.ll a ds' = Sl.val d:=Option.some.inj h
   cases h'
  ·rw [List.getElem?_set_ne hj] at h
   obtain ⟨v,ev,rv⟩:=r.val j d h
   exact ⟨v,ev,rv.mono up d⟩
 ·by_cases hj : i = j
  ·subst hj
   rw [List.getElem?_set_self hlt] at h
   have h' : Sl.ll a ds' = Sl.ll a' es:=Option.some.inj h
   cases h'
   exact ⟨l,vs',hσ,hl,φl,zu,CRep.mono up _ hr⟩
  ·rw [List.getElem?_set_ne hj] at h
   obtain ⟨p,ws,h1,h2,h3,h4,h5⟩:=r.own j a' es h
   have hpl : p ≠ l:=fun z=>by subst z; rw [hl] at h2; exact hj (congrArg Prod.snd (Option.some.inj h2))
   exact ⟨p,ws,h1,h2,h3,by rw [zp hpl]; exact h4,CRep.mono up es h5⟩
 ·have hne : b ≠ l:=fun z=>by subst z; rw [φl] at hφ; cases hφ
  rw [zp hne]; exact h
theorem RS.ownL (r : RS K φ ω H σ Γ) (i : Nat) (a : Bool) (ds : List D) (h : Γ[i]? = some (.li a ds)) : ∃ p vs,σ[i]? = some (some (.ref p)) ∧ ω p = some (a,i) ∧ φ p = false ∧ H p = some (.lst vs) ∧ Reps K (hidB (both φ ω) H) ds vs:=by
 obtain ⟨p,ho,h1,h2,h3,h4,vs,rfl,h5⟩:=r.own i a _ h
 exact ⟨p,vs,h1,h2,h3,h4,h5⟩
theorem RS.take (r : RS K φ ω H σ Γ) {i : Nat} {l : Addr} {vs : List V} {ds : List D} (hi : i < Γ.length) (hl : H l = none) (e : Same H H') (hv : H' l = some (.lst vs)) (hr : Reps K (hidB (fun b=>both φ ω b || b == l) H') ds vs) :
  RS K φ (fun b=>if b = l then some (false,i) else ω b) H' (σ.set i (some (.ref l))) (Γ.set i (.own ds)) ∧ Kp φ ω H (fun b=>if b = l then some (false,i) else ω b) H':=r.takeC hi hl e hv ⟨vs,rfl,hr⟩
theorem RS.put (r : RS K φ ω H σ Γ) {i : Nat} {l : Addr} {vs' : List V} {ds' ds : List D} {a : Bool} (hi : Γ[i]? = some (.li a ds)) (hl : ω l = some (a,i)) (hσ : σ[i]? = some (some (.ref l))) (hr : Reps K (hidB (both φ ω) H) ds' vs') (φl : φ l = false) :
  RS K φ ω (upd H l (.lst vs')) σ (Γ.set i (.li a ds')) ∧ Kp φ ω H ω (upd H l (.lst vs')):=r.putC hi hl hσ ⟨vs',rfl,hr⟩ φl

theorem RS.frzC (r : RS K φ ω H σ Γ) {i : Nat} {c : Ct} {dd : D} (hi : Γ[i]? = some (.ll false c)) (hd : ∀ (H : Hp) (l : Addr) (ho : HO),H l = some ho → CRep K H c ho → Rep K H dd (.ref l)) : ∃ ω',RS K φ ω' H σ (Γ.set i (.val dd)) ∧ Kp φ ω H ω' H:=by
 obtain ⟨l,ho,hσ,hl,φl,hv,hr⟩:=r.own i false _ hi
 have hlt:=(List.getElem?_eq_some_iff.mp hi).1
 have le : ∀ b,both φ (fun b=>if b = l then none else ω b) b = true → both φ ω b = true:=fun b h=>by
  unfold both at h ⊢
  dsimp only at h
  by_cases hb : b = l
  ·subst hb; rw [hl]; simp
  ·rw [if_neg hb] at h; exact h
 have up : Same (hidB (both φ ω) H) (hidB (both φ (fun b=>if b = l then none else ω b)) H):=fun b o h=>by
  obtain ⟨c1,c2⟩:=zr h
  refine zy ?_ c2
  cases c : both φ (fun b=>if b = l then none else ω b) b with
  | false=>rfl
  | true=>rw [le b c] at c1; cases c1
 refine ⟨fun b=>if b = l then none else ω b,⟨fun p hp=>r.live p (le p hp),by rw [List.length_set]; exact r.len,fun j d h=>?_,fun j a es h=>?_,fun b b' k h1 h2=>?_⟩,⟨up,fun _ _ _ h=>h,fun _ o h=>⟨o,h⟩,fun b j h=>by
  by_cases hb : b = l
  ·rw [if_pos hb] at h; cases h
  ·rw [if_neg hb] at h; exact .inl ⟨j,h⟩,fun b j h=>by
  have hb : b ≠ l:=fun z=>by subst z; rw [hl] at h; cases h
  rw [if_neg hb]; exact h⟩⟩
 ·by_cases hj : i = j
  ·subst hj
   rw [List.getElem?_set_self hlt] at h
   have h' : Sl.val dd = Sl.val d:=Option.some.inj h
   cases h'
   refine ⟨.ref l,hσ,hd _ l ho (zy ?_ hv) (CRep.mono up _ hr)⟩
   unfold both
   dsimp only
   rw [φl,if_pos rfl]; rfl
  ·rw [List.getElem?_set_ne hj] at h
   obtain ⟨v,ev,rv⟩:=r.val j d h
   exact ⟨v,ev,rv.mono up d⟩
 ·by_cases hj : i = j
  ·subst hj
   rw [List.getElem?_set_self hlt] at h
   have h' : Sl.val dd = Sl.ll a es:=Option.some.inj h
   cases h'
  ·rw [List.getElem?_set_ne hj] at h
   obtain ⟨p,ws,h1,h2,h3,h4,h5⟩:=r.own j a es h
   have hpl : p ≠ l:=fun z=>by subst z; rw [hl] at h2; exact hj (congrArg Prod.snd (Option.some.inj h2))
   exact ⟨p,ws,h1,by rw [if_neg hpl]; exact h2,h3,h4,CRep.mono up es h5⟩
 ·have g : ∀ c,(if c = l then none else ω c) = some (true,k) → ω c = some (true,k):=fun c h=>by
   by_cases hc : c = l
   ·rw [if_pos hc] at h; cases h
   ·rw [if_neg hc] at h; exact h
  exact r.argu b b' k (g b h1) (g b' h2)
theorem RS.frz (r : RS K φ ω H σ Γ) {i : Nat} {ds : List D} (hi : Γ[i]? = some (.own ds)) : ∃ ω',RS K φ ω' H σ (Γ.set i (.val (.lst ds))) ∧ Kp φ ω H ω' H :=
 r.frzC hi fun _ l _ e ⟨vs,e2,h⟩=>⟨l,vs,rfl,SqL.of (by rw [e,e2]),h⟩
end

theorem sw_cell {S : Stat} {X : Cx} {elt : Expr} {gs : List Comprehension} {scope : Scope} {pos py : Pos} {y : Str} {ln : Nat} (o : S.Of X) (h : S.sc.names.lookup y = some .cell) : swapsWith (.ListComp elt gs scope pos) (some (.Name y py)) ln X.env = pure false:=by
 have e : X.env.kindOf y = some .cell:=by unfold Env.kindOf; rw [o.sc]; exact h
 show (pure (X.env.blockKind == .function && X.env.kindOf y == some .local && _ && _) : Sem Bool) = pure false
 rw [e]
 have : (some NameKind.cell == some NameKind.local) = false:=by decide
 rw [this,Bool.and_false,Bool.false_and,Bool.false_and]
theorem sw_loc {S : Stat} {X : Cx} {elt : Expr} {gs : List Comprehension} {scope : Scope} {pos py : Pos} {y : Str} {ln : Nat} (o : S.Of X)
  (h : ((if S.sc.kind.isAnnotationScope then ScopeKind.function else S.sc.kind) == .function && S.sc.names.lookup y == some .local && py.line == pos.line && !(scope.names.any fun (n,k)=>n == y && (k == .local || k == .cell))) = true) : swapsWith (.ListComp elt gs scope pos) (some (.Name y py)) ln X.env = pure true:=by
 rw [← o.sc] at h
 show (pure _ : Sem Bool) = pure true
 exact congrArg pure h

set_option genInjectivity false in
structure DEnds where
 nx : List Sl → Prop
 rt : D → List Sl → Prop
 bk : List Sl → Prop:=fun _=>False
 ct : List Sl → Prop:=fun _=>False
 rf : List D → List Sl → Prop:=fun _ _=>False

structure Cn (K : PySem.W.Frag) (φ : Addr → Bool) (ω : Addr → Option (Bool × Nat)) (H : Hp) (E : DEnds) (Z : Ends) : Prop where
 n : ∀ ω' σ' H' Γ',E.nx Γ' → RS K φ ω' H' σ' Γ' → Kp φ ω H ω' H' → Z.nx σ' H'
 rt : ∀ ω' σ' v H' d Γ',E.rt d Γ' → RS K φ ω' H' σ' Γ' → Kp φ ω H ω' H' → Rep K (hidB (both φ ω') H') d v → Z.rt v H'
 bk : ∀ ω' σ' H' Γ',E.bk Γ' → RS K φ ω' H' σ' Γ' → Kp φ ω H ω' H' → Z.bk σ' H'
 ct : ∀ ω' σ' H' Γ',E.ct Γ' → RS K φ ω' H' σ' Γ' → Kp φ ω H ω' H' → Z.ct σ' H'
 rf : ∀ ω' σ' l vs H' ds Γ',E.rf ds Γ' → RS K φ ω' H' σ' Γ' → Kp φ ω H ω' H' → ((∃ j,ω l = some j) ∨ H l = none) → H' l = some (.lst vs) → Reps K (hidB (fun b=>both φ ω' b || b == l) H') ds vs → Z.rt (.ref l) H'
theorem Cn.step {K : PySem.W.Frag} {φ : Addr → Bool} {ω ω1 : Addr → Option (Bool × Nat)} {H H1 : Hp} {E : DEnds} {Z : Ends} (c : Cn K φ ω H E Z) (k : Kp φ ω H ω1 H1) : Cn K φ ω1 H1 E Z where
 n:=fun ω' σ' H' Γ' h r k2=>c.n ω' σ' H' Γ' h r (k.trans k2)
 rt:=fun ω' σ' v H' d Γ' h r k2=>c.rt ω' σ' v H' d Γ' h r (k.trans k2)
 bk:=fun ω' σ' H' Γ' h r k2=>c.bk ω' σ' H' Γ' h r (k.trans k2)
 ct:=fun ω' σ' H' Γ' h r k2=>c.ct ω' σ' H' Γ' h r (k.trans k2)
 rf:=fun ω' σ' l vs H' ds Γ' h r k2 hl=>c.rf ω' σ' l vs H' ds Γ' h r (k.trans k2) (by
  rcases hl with ⟨j,hl⟩ | hl
  ·exact k.new l j hl
  ·exact .inr (k.none hl))
noncomputable def dS (K : PySem.W.Frag) (Γ : List Sl) (E : DEnds) : TS:=fun Z σ H=>∃ φ ω,RS K φ ω H σ Γ ∧ Cn K φ ω H E Z
structure JS (S : Stat) (Γ : List Sl) (st : Stmt) (E : DEnds) : Prop where
 run : ∀ X,S.Of X → PS X st (dS S.K Γ E)
noncomputable instance {S : Stat} {Γ : List Sl} {st : Stmt} {E : DEnds} : CoeFun (JS S Γ st E) fun _=>∀ X,S.Of X → PS X st (dS S.K Γ E):=⟨fun h=>h.run⟩
structure JB (S : Stat) (Γ : List Sl) (st : List Stmt) (E : DEnds) : Prop where
 run : ∀ X,S.Of X → PSs X st (dS S.K Γ E)
noncomputable instance {S : Stat} {Γ : List Sl} {st : List Stmt} {E : DEnds} : CoeFun (JB S Γ st E) fun _=>∀ X,S.Of X → PSs X st (dS S.K Γ E):=⟨fun h=>h.run⟩

section
variable {S : Stat} {Γ : List Sl} {E : DEnds} {pos pos' p : Pos} {st : Stmt} {rest : List Stmt} {e a b c : Expr} {x : Str}
theorem b_nil (h : E.nx Γ) : JB S Γ [] E:=.mk fun X o pins s σ H Z I ⟨φ,ω,r,c⟩=>zhE pins s σ H Z I (c.n ω σ H Γ h r Kp.refl)
theorem za (h : JS S Γ st { E with nx:=fun Γ'=>JB S Γ' rest E }) : JB S Γ (st :: rest) E:=.mk fun X o=>by
 have h2 : PSs X rest (fun Z σ H=>∃ Γ',JB S Γ' rest E ∧ dS S.K Γ' E Z σ H):=fun pins s σ H Z I ⟨Γ',hb,q⟩=>hb X o pins s σ H Z I q
 refine fun pins s σ H Z I ⟨φ,ω,r,c⟩=>zed (h X o) h2 pins s σ H Z I ?_
 exact ⟨φ,ω,r,{ n:=fun ω' σ' H' Γ' hb r' k=>⟨Γ',hb,φ,ω',r',c.step k⟩,rt:=c.rt,bk:=c.bk,ct:=c.ct,rf:=c.rf }⟩

theorem b_frz (i : Nat) {ds : List D} (hi : Γ[i]? = some (.own ds)) (h : JB S (Γ.set i (.val (.lst ds))) rest E) : JB S Γ rest E:=.mk fun X o pins s σ H Z I hP37=>by
 obtain ⟨φ,ω,r,c⟩:=hP37
 obtain ⟨ω',r',k⟩:=r.frz hi
 exact h X o pins s σ H Z I ⟨φ,ω',r',c.step k⟩

theorem s_ret {d : D} (he : JE S Γ e d) (h : E.rt d Γ) : JS S Γ (.Return (some e) pos) E:=.mk fun X o =>
 zN (zge (he X o)) fun Z σ H ⟨φ,ω,r,c⟩=>⟨both φ ω,r.re,fun v H' e' rv=>c.rt ω σ v H' d Γ h (r.mono e') (Kp.of e') rv⟩

theorem zeF {ds : List D} (he : JF S Γ e ds) (h : E.rf ds Γ) : JS S Γ (.Return (some e) pos) E:=.mk fun X o =>
 zN (zge (he X o)) fun Z σ H ⟨φ,ω,r,c⟩=>⟨both φ ω,r.re,fun l vs H' hl e' hv rv=>c.rf ω σ l vs H' ds Γ h (r.mono e') (Kp.of e') (.inr hl) hv rv⟩

theorem zeG (i : Nat) {ds : List D} {x : Str} (hi : Γ[i]? = some (.own ds)) (h : E.rf ds Γ) (hN : S.N[i]? = some x:=by ac_nf) (hv : Vis S.sc x:=by ac_nf)
  (h1 : (x == ("__debug__" : Str)) = false:=by ac_nf) (h2 : (x == ("__classdict__" : Str)) = false:=by ac_nf) : JS S Γ (.Return (some (.Name x p)) pos) E:=.mk fun X o =>
 zN (zge (zbk (i:=i) (by rw [o.N]; exact hN) (by rw [o.sc]; exact hv) h1 h2)) fun Z σ H hP38=>by
  obtain ⟨φ,ω,r,c⟩:=hP38
  obtain ⟨l,vs,hσ,hω,φl,hH,hr⟩:=r.ownL i false ds hi
  refine ⟨.ref l,hσ,c.rf ω σ l vs H ds Γ h r Kp.refl (.inl ⟨_,hω⟩) hH (Reps.mono (fun b ob hb=>?_) _ hr)⟩
  obtain ⟨c1,c2⟩:=zr hb
  refine zy ?_ c2
  have hne : b ≠ l:=fun z=>by subst z; unfold both at c1; rw [hω] at c1; simp at c1
  rw [c1,Bool.false_or]; simpa using hne
theorem zjp {d : D} (he : JE S Γ e d) (h : E.nx Γ) (hs : ∀ X : Cx,swapsWith e none pos.line X.env = pure false:=by ac_rfl) : JS S Γ (.Expr e pos) E:=.mk fun X o =>
 zN (zcP (he X o) (hs X)) fun Z σ H ⟨φ,ω,r,c⟩=>⟨both φ ω,r.re,fun v H' e' rv=>c.n ω σ H' Γ h (r.mono e') (Kp.of e')⟩
theorem s_if {q : Bool} {sa sb : List Stmt} (hc : JT S Γ c q) (ha : q = true → JB S Γ sa E) (hb : q = false → JB S Γ sb E) : JS S Γ (.If c sa sb pos) E:=.mk fun X o=>by
 cases q with
 | true=>exact zN (ps_if (hc X o) (ha rfl X o) zfx) fun Z σ H ⟨φ,ω,r,c⟩=>⟨both φ ω,r.re,fun H1 e=>iteT ⟨φ,ω,r.mono e,c.step (Kp.of e)⟩⟩
 | false=>exact zN (ps_if (hc X o) zfx (hb rfl X o)) fun Z σ H ⟨φ,ω,r,c⟩=>⟨both φ ω,r.re,fun H1 e=>iteF ⟨φ,ω,r.mono e,c.step (Kp.of e)⟩⟩

theorem s_set (i : Nat) {d : D} (he : JE S Γ e d) (h : E.nx (Γ.set i (.val d))) (hN : S.N.Nodup:=by ac_nf) (hi : S.N[i]? = some x:=by ac_nf) (hx : Loc S.sc x:=by ac_nf)
  (hs : ∀ X : Cx,S.Of X → swapsWith e (some (.Name x pos')) pos.line X.env = pure false:=by ac_rfl) (htop : S.top = true:=by rfl) : JS S Γ (.Assign [.Name x pos'] e pos) E:=.mk fun X o =>
 zN (zdt (i:=i) (by rw [o.N]; exact hN) (by rw [o.N]; exact hi) (by rw [o.sc]; exact hx) (he X o) (hs X o) (.inl (o.fn htop x))) fun Z σ H ⟨φ,ω,r,c⟩ =>
  ⟨both φ ω,r.re,fun v H' e' rv=>c.n ω _ H' _ h ((r.mono e').set rv) (Kp.of e')⟩

theorem s_own (i : Nat) {ds : List D} (he : JF S Γ e ds) (h : E.nx (Γ.set i (.own ds))) (hiΓ : i < Γ.length:=by exact Nat.le_of_ble_eq_true rfl) (hN : S.N.Nodup:=by ac_nf) (hi : S.N[i]? = some x:=by ac_nf) (hx : Loc S.sc x:=by ac_nf)
  (hs : ∀ X : Cx,S.Of X → swapsWith e (some (.Name x pos')) pos.line X.env = pure false:=by first | (intro _ _; rfl) | (intro _ o; exact Internal.sw_cell o (by ac_nf))) (htop : S.top = true:=by rfl) : JS S Γ (.Assign [.Name x pos'] e pos) E:=.mk fun X o =>
 zN (zdt (i:=i) (by rw [o.N]; exact hN) (by rw [o.N]; exact hi) (by rw [o.sc]; exact hx) (he X o) (hs X o) (.inl (o.fn htop x))) fun Z σ H ⟨φ,ω,r,c⟩ =>
  ⟨both φ ω,r.re,fun l vs H' hl e' hv hr=>let ⟨r',k⟩:=r.take hiΓ hl e' hv hr; c.n _ _ H' _ h r' k⟩

theorem s_app (i : Nat) {ds : List D} {d : D} {al : Bool} {apos cpos : Pos} (hΓ : Γ[i]? = some (.li al ds)) (he : JE S Γ e d) (hl : ds.length < sizeLine) (h : E.nx (Γ.set i (.li al (ds ++ [d])))) (hi : S.N[i]? = some x:=by ac_nf) (hv : Vis S.sc x:=by ac_nf)
  (h1 : (x == ("__debug__" : Str)) = false:=by ac_nf) (h2 : (x == ("__classdict__" : Str)) = false:=by ac_nf)
  (hbase : ∀ env,attributeBase (.Name x p) "append" env (eval (.Name x p) env) = eval (.Name x p) env:=by ac_rfl)
  (hfew : ∀ env,((backTo cpos (starEach [e] env)).all (fun x=>!x.1) && (backToKw cpos (keywordEach [] env)).all (fun x=>x.1.isSome)
   && decide ([e].length + ([] : List Keyword).length + (if ([] : List Keyword).isEmpty then 0 else 1) < 30)) = true:=by ac_rfl)
  (hline : (apos.endLine == cpos.line) = true:=by rfl) (hs : ∀ env,starEach [e] env = [(false,eval e env)]:=by ac_rfl) (hsw : ∀ X : Cx,swapsWith (.Call (.Attribute (.Name x p) "append" apos) [e] [] cpos) none pos.line X.env = pure false:=by ac_rfl) :
  JS S Γ (.Expr (.Call (.Attribute (.Name x p) "append" apos) [e] [] cpos) pos) E:=.mk fun X o=>by
 have hA:=(zb he a_nil hs) X o
 refine zN (zcP (pe_bm PySem.F.plainAttrs_list PySem.F.slot_list_append PySem.F.type_list_append zdw (zbk (i:=i) (by rw [o.N]; exact hi) (by rw [o.sc]; exact hv) h1 h2) hA (hbase X.env) (hfew X.env) hline (hs X.env)) (hsw X)) fun Z σ H hP39=>?_
 obtain ⟨φ,ω,r,c⟩:=hP39
 obtain ⟨l,vs,hσ,hω,φl,hH,hr⟩:=r.ownL i al ds hΓ
 refine ⟨.ref l,hσ,.inl ⟨rfl,vs,SqL.of hH⟩,both φ ω,r.re,fun ws H1 e1 rws=>?_⟩
 obtain ⟨v,rfl,rv⟩:=reps1 rws
 refine ⟨l,vs,v,rfl,rfl,e1 _ _ hH,by rw [hr.len]; exact hl,?_⟩
 obtain ⟨r',k⟩:=(r.mono e1).put (ds':=ds ++ [d]) (vs':=vs ++ [v]) hΓ hω hσ ((Reps.mono (zA e1) _ hr).app (.one rv)) φl
 exact c.n ω σ _ _ h r' ((Kp.of e1).trans k)

theorem s_for (i : Nat) {iter : Expr} {body : List Stmt} {β : Type} {us : List β} {g : β → D} {px : Pos} (hi : JI S Γ (.Name x px) iter (us.map g)) (Iv : Nat → List Sl → Prop) (h0 : Iv 0 Γ)
  (hb : ∀ (k : Nat) u Γ',us[k]? = some u → Iv k Γ' → JB S (Γ'.set i (.val (g u))) body { nx:=Iv (k + 1),rt:=E.rt,bk:=E.nx,ct:=Iv (k + 1),rf:=E.rf }) (hd : ∀ Γ',Iv us.length Γ' → E.nx Γ')
  (hN : S.N.Nodup:=by ac_nf) (hxi : S.N[i]? = some x:=by ac_nf) (hx : Loc S.sc x:=by ac_nf) (hs : ∀ env v,foldedSetIterable iter env v = pure v:=by ac_rfl)
  (htop : S.top = true:=by rfl) : JS S Γ (.For (.Name x px) iter body [] pos) E:=.mk fun X o=>by
 obtain ⟨wi,hw1,hw2⟩:=hi
 have hB : PSs X body (fun Z σ H=>∃ k u Γ',us[k]? = some u ∧ Iv k Γ' ∧ dS S.K (Γ'.set i (.val (g u))) { nx:=Iv (k + 1),rt:=E.rt,bk:=E.nx,ct:=Iv (k + 1),rf:=E.rf } Z σ H):=fun pins s σ H Z I ⟨k,u,Γ',h1,h2,q⟩=>hb k u Γ' h1 h2 X o pins s σ H Z I q
 refine zN (zje o.own o.calm (hw1 X o) (zdN (i:=i) (by rw [o.N]; exact hN) (by rw [o.N]; exact hxi) (by rw [o.sc]; exact hx) (.inl (o.fn htop x))) hB (hs X.env)) fun Z σ H hP40=>?_
 obtain ⟨φ,ω,r,c⟩:=hP40
 refine hw2 σ H _ (both φ ω) r.re fun J H1 e1 itd=>?_
 refine ⟨fun k m σ' H'=>m = us.length - k ∧ k ≤ us.length ∧ ∃ ω' Γ',Iv k Γ' ∧ RS S.K φ ω' H' σ' Γ' ∧ Kp φ ω H ω' H' ∧ Same (hidB (both φ ω) H1) (hidB (both φ ω') H'),⟨us.length,by simp,Nat.zero_le _,ω,Γ,h0,r.mono e1,Kp.of e1,Same.refl _⟩,?_⟩
 rintro k m σ' H' ⟨rfl,hk,ω',Γ',iv,r',kp,sm⟩
 obtain ⟨it1,it2⟩:=itd (both φ ω') H' sm
 by_cases hlt : k < us.length
 ·have huk : us[k]? = some us[k]:=List.getElem?_eq_getElem hlt
  generalize us[k] = u at huk
  have hdk : (us.map g)[k]? = some (g u):=by rw [List.getElem?_map,huk]; rfl
  obtain ⟨go,yl⟩:=it1 k (g u) hdk
  refine .inr ⟨go,fun σ2 H2=>k + 1 ≤ us.length ∧ ∃ ω2 Γ2,Iv (k + 1) Γ2 ∧ RS S.K φ ω2 H2 σ2 Γ2 ∧ Kp φ ω H ω2 H2 ∧ Same (hidB (both φ ω) H1) (hidB (both φ ω2) H2),fun σ2 H2 q=>⟨us.length - (k + 1),by omega,rfl,q⟩,fun y H3 hy=>?_⟩
  obtain ⟨e3,ry⟩:=yl y H3 hy
  subst e3
  have c':=c.step kp
  exact ⟨k,u,Γ',huk,iv,φ,ω',r'.set ry,{ n:=fun ω2 σ2 H2 Γ2 h2 r2 k2=>⟨hlt,ω2,Γ2,h2,r2,kp.trans k2,sm.trans k2.same⟩,rt:=c'.rt,bk:=c'.n,ct:=fun ω2 σ2 H2 Γ2 h2 r2 k2=>⟨hlt,ω2,Γ2,h2,r2,kp.trans k2,sm.trans k2.same⟩,rf:=c'.rf }⟩
 ·have hke : k = us.length:=by omega
  subst hke
  rw [List.length_map] at it2
  exact .inl ⟨it2,c.n ω' σ' H' Γ' (hd Γ' iv) r' kp⟩

theorem zmd {tst : Expr} {body : List Stmt} (Iv : Nat → List Sl → Prop) {m0 : Nat} (h0 : Iv m0 Γ) (hb : ∀ m Γ',Iv m Γ' → ∃ q : Bool,JT S Γ' tst q ∧ (q = true → JB S Γ' body { nx:=fun Γ2=>∃ m',m' < m ∧ Iv m' Γ2,rt:=E.rt,bk:=E.nx,ct:=fun Γ2=>∃ m',m' < m ∧ Iv m' Γ2,rf:=E.rf }) ∧ (q = false → E.nx Γ')) :
  JS S Γ (.While tst body [] pos) E:=.mk fun X o=>by
 have hT : PT X tst (fun σ H Q=>∃ m Γ' q,Iv m Γ' ∧ JT S Γ' tst q ∧ dT S.K Γ' q σ H Q):=fun pins s σ H Q I ⟨m,Γ',q,_,hj,h⟩=>hj X o pins s σ H Q I h
 have hB : PSs X body (fun Z σ H=>∃ m Γ',JB S Γ' body { nx:=fun Γ2=>∃ m',m' < m ∧ Iv m' Γ2,rt:=E.rt,bk:=E.nx,ct:=fun Γ2=>∃ m',m' < m ∧ Iv m' Γ2,rf:=E.rf } ∧ dS S.K Γ' { nx:=fun Γ2=>∃ m',m' < m ∧ Iv m' Γ2,rt:=E.rt,bk:=E.nx,ct:=fun Γ2=>∃ m',m' < m ∧ Iv m' Γ2,rf:=E.rf } Z σ H):=fun pins s σ H Z I ⟨m,Γ',hj,q⟩=>hj X o pins s σ H Z I q
 refine zN (zkD o.own hT hB) fun Z σ H hP41=>?_
 obtain ⟨φ,ω,r,c⟩:=hP41
 refine ⟨fun m σ' H'=>∃ ω' Γ',Iv m Γ' ∧ RS S.K φ ω' H' σ' Γ' ∧ Kp φ ω H ω' H',⟨m0,ω,Γ,h0,r,Kp.refl⟩,?_⟩
 rintro m σ' H' ⟨ω',Γ',iv,r',kp⟩
 obtain ⟨q,hj,h1,h2⟩:=hb m Γ' iv
 refine ⟨m,Γ',q,iv,hj,both φ ω',r'.re,fun H1 e1=>?_⟩
 have c':=c.step (kp.trans (Kp.of e1))
 cases q with
 | true =>
  refine iteT ⟨fun σ2 H2=>∃ m',m' < m ∧ ∃ ω2 Γ2,Iv m' Γ2 ∧ RS S.K φ ω2 H2 σ2 Γ2 ∧ Kp φ ω H ω2 H2,fun σ2 H2 ⟨m',hm,w⟩=>⟨m',hm,w⟩,m,Γ',h1 rfl,φ,ω',r'.mono e1,?_⟩
  have kk:=kp.trans (Kp.of e1)
  exact { n:=fun ω2 σ2 H2 Γ2 ⟨m',hm,w⟩ r2 k2=>⟨m',hm,ω2,Γ2,w,r2,kk.trans k2⟩,rt:=c'.rt,bk:=c'.n,ct:=fun ω2 σ2 H2 Γ2 ⟨m',hm,w⟩ r2 k2=>⟨m',hm,ω2,Γ2,w,r2,kk.trans k2⟩,rf:=c'.rf }
 | false=>exact iteF (c'.n ω' σ' H1 Γ' (h2 rfl) (r'.mono e1) Kp.refl)

theorem zjq (i : Nat) {elt iter : Expr} {y : Str} {py px : Pos} {spos : Pos} {ifs : List Expr} {scope : Scope} {β : Type} {us : List β} {g : β → D} (F : β → D) (pr : β → Bool) (hi : JI S Γ (.Name x px) iter (us.map g)) (hl : us.length ≤ sizeLine) (ht : ∀ u,u ∈ us → JIfs (S.blk x scope) (Γ ++ [.val (g u)]) ifs (pr u)) (he : ∀ u,u ∈ us → pr u = true → JE (S.blk x scope) (Γ ++ [.val (g u)]) elt (F u))
  (h : E.nx (Γ.set i (.own ((us.filter pr).map F)))) (hiΓ : i < Γ.length:=by exact Nat.le_of_ble_eq_true rfl) (ok : zcs S.N S.sc x scope = true:=by ac_nf) (hN : S.N.Nodup:=by ac_nf) (hyi : S.N[i]? = some y:=by ac_nf) (hyl : S.sc.names.lookup y = some .local:=by ac_nf)
  (hsw : ∀ X : Cx,S.Of X → swapsWith (.ListComp elt [⟨.Name x px,iter,ifs,0⟩] scope pos) (some (.Name y py)) spos.line X.env = pure true:=by intro _ o; exact Internal.sw_loc o (by ac_nf)) (hs : ∀ env v,foldedSetIterable iter env v = pure v:=by ac_rfl) :
  JS S Γ (.Assign [.Name y py] (.ListComp elt [⟨.Name x px,iter,ifs,0⟩] scope pos) spos) E:=.mk fun X o=>by
 obtain ⟨wi,hw1,hw2⟩:=hi
 refine zN (zlX (i:=i) (tt:=fun σ' H Q=>∃ u,u ∈ us ∧ dT S.K (Γ ++ [Sl.val (g u)]) (pr u) σ' H Q) (te:=fun σ' H Q=>∃ u,u ∈ us ∧ pr u = true ∧ dE S.K (Γ ++ [Sl.val (g u)]) (F u) σ' H Q) o.calm (hw1 X o) o.N o.sc ok
  (fun C s₀ H₀ ex pins s σ H Q I ⟨u,hd,q⟩=>ht u hd _ (o.blk x scope C s₀ H₀ ex) pins s σ H Q I q) (fun C s₀ H₀ ex pins s σ H Q I ⟨u,hd,hp,q⟩=>he u hd hp _ (o.blk x scope C s₀ H₀ ex) pins s σ H Q I q) (by rw [o.N]; exact hN) (by rw [o.N]; exact hyi) (by rw [o.sc]; exact hyl) (hsw X o) (hs X.env)) fun Z σ H ⟨φ,ω,r,c⟩=>?_
 exact zgn hl hw2 σ H _ ⟨both φ ω,r.re,fun l vs H' hl' e' hv hr=>let ⟨r',k⟩:=r.take hiΓ hl' e' hv hr; c.n _ _ H' _ h r' k⟩
end

noncomputable def spF {α : Type} (enc : α → List D) (dom : α → Prop) (res : α → D) (K : PySem.W.Frag) : Sp:=fun vs H Q _=>∃ (χ : Addr → Bool) (u : α),(∀ p,χ p = true → ∃ o : HN,H p = some o.1) ∧ Reps K (hidB χ H) (enc u) vs ∧ dom u ∧ ∀ v H',Same H H' → Rep K (hidB χ H') (res u) v → Q v H'
noncomputable def startΓ (N : List Str) (ds : List D) : List Sl:=ds.map Sl.val ++ List.replicate (N.length - ds.length) Sl.no
theorem zcR {φ : Addr → Bool} {ω' : Addr → Option (Bool × Nat)} {H H' : Hp} (k : Kp φ (fun _=>none) H ω' H') : Same H H':=fun b o h=>by
 cases c : φ b with
 | true=>exact k.frn b o c h
 | false=>exact zm b o (k.same b o (zy (by unfold both; rw [c]; rfl) h))
theorem zei {K : PySem.W.Frag} {N : List Str} {χ : Addr → Bool} {H : Hp} {ds : List D} {vs : List V} (hl : ∀ p,χ p = true → ∃ o : HN,H p = some o.1) (r : Reps K (hidB χ H) ds vs) : RS K χ (fun _=>none) H (Internal.L2.start N vs) (startΓ N ds):=by
 have eb : both χ (fun _=>none) = χ:=by funext b; unfold both; simp
 refine ⟨by rw [eb]; exact hl,?_,fun i d h=>?_,fun i a es h=>?_,fun _ _ _ h=>nomatch h⟩
 ·unfold Internal.L2.start startΓ
  rw [List.length_append,List.length_append,List.length_map,List.length_map,List.length_replicate,List.length_replicate,r.len]
 ·unfold startΓ at h
  unfold Internal.L2.start
  by_cases hi : i < ds.length
  ·rw [List.getElem?_append_left (by rw [List.length_map]; exact hi),List.getElem?_map] at h
   cases q : ds[i]? with
   | none=>rw [q] at h; cases h
   | some d' =>
    rw [q] at h
    have h' : Sl.val d' = Sl.val d:=Option.some.inj h
    cases h'
    obtain ⟨v,ev,rv⟩:=r.get q
    refine ⟨v,?_,by rw [eb]; exact rv⟩
    rw [List.getElem?_append_left (by rw [List.length_map,r.len]; exact hi),List.getElem?_map,ev]
    rfl
  ·rw [List.getElem?_append_right (by rw [List.length_map]; omega),List.getElem?_replicate] at h
   split at h <;> cases h
 ·unfold startΓ at h
  by_cases hi : i < ds.length
  ·rw [List.getElem?_append_left (by rw [List.length_map]; exact hi),List.getElem?_map] at h
   cases q : ds[i]? with
   | none=>rw [q] at h; cases h
   | some d'=>rw [q] at h; cases h
  ·rw [List.getElem?_append_right (by rw [List.length_map]; omega),List.getElem?_replicate] at h
   split at h <;> cases h
section
variable {P : Program} {w : World} {K : PySem.W.Frag} {mg : Str → Option Value} {base : Heap} {α : Type} {enc : α → List D} {dom : α → Prop} {res : α → D}

theorem fn_D {x qual : Str} {st : Stmt} {f : Addr} {fd : FuncData} {N ps : List Str} {k : Nat} (F : Fun K x qual st f fd) (Sc : FnScope N ps (zc st)) (hlen : ∀ u,dom u → (enc u).length = ps.length)
  (hb : ∀ u,dom u → JB ⟨P,w,K,mg,base,k,N,zc st,true⟩ (startΓ N (enc u)) (zf st) { nx:=fun _=>res u = .non,rt:=fun d _=>d = res u }) : FnOk P w K mg base CX0 (k + 1) f fd ps (spF enc dom res K):=by
 refine F.ok Sc (fun vs H Q E h=>?_) (fun cdv A outer s H vs Q E hr h=>?_)
 ·obtain ⟨χ,u,_,r,hd,_⟩:=h
  rw [r.len,hlen u hd]
 ·obtain ⟨χ,u,hl,r,hd,q⟩:=h
  refine ⟨_,hb u hd _ ⟨rfl,rfl,rfl,rfl,rfl,rfl,rfl,hr,rfl,PassesOwn.never,fun _ _=>rfl,fun _=>⟨rfl,rfl⟩⟩,χ,fun _=>none,zei hl r,?_,?_,?_,?_,?_⟩
  ·intro ω' σ' H' Γ' hn _ k
   refine q .non H' (zcR k) ?_
   rw [show res u = .non from hn]; exact rfl
  ·intro ω' σ' v H' d Γ' hd' _ k rv
   cases (show d = res u from hd')
   refine q v H' (zcR k) (rv.mono (fun b o h=>?_) _)
   obtain ⟨c1,c2⟩:=zr h
   refine zy ?_ c2
   cases c : χ b with
   | false=>rfl
   | true=>unfold both at c1; rw [c] at c1; cases c1
  ·intro _ _ _ _ h; exact h.elim
  ·intro _ _ _ _ h; exact h.elim
  ·intro _ _ _ _ _ _ _ h; exact h.elim

theorem znL {S : Stat} {Γ : List Sl} {f : Addr} {fd : FuncData} {ps : List Str} {x : Str} {p pos : Pos} {e : Expr} {es : List Expr} {j : Nat} (u : α) (F : FnOk S.P S.w S.K S.mg S.base CX0 j f fd ps (spF enc dom res S.K)) (hj : j ≤ S.k) (hm : S.mg x = some (.ref f)) (hk : PySem.W.keepIn S.K (.ref f) = true) (hb : Binds S.K fd ps [])
  (ha : JA S Γ (e :: es) (enc u)) (hd : dom u) (hg : S.sc.names.lookup x = some .globalImplicit:=by ac_nf) (hdb : (x == ("__debug__" : Str)) = false:=by ac_nf)
  (he : ∀ env,starEach (e :: es) env = (false,eval e env) :: starEach es env:=by ac_rfl) (hpl : ∀ env,(backTo pos (starEach es env)).any (·.1) = false:=by ac_rfl) : JE S Γ (.Call (.Name x p) (e :: es) [] pos) (res u):=.mk fun X o=>by
 have F' : FnOk X.prog X.w X.K X.mg X.base CX0 j f fd ps (spF enc dom res S.K):=by rw [o.prog,o.w,o.K,o.mg,o.base]; exact F
 refine zq (zfb F' (o.room.mono hj) (gl_of o hg) (by rw [o.mg]; exact hm) (by rw [o.K]; exact hk) (by rw [o.K]; exact hb) .nil pass0 (ha X o) hdb (he X.env) (hpl X.env)) fun σ H Q ⟨χ,R,q⟩=>⟨χ,R,fun vs H1 e1 rvs=>?_⟩
 show spF enc dom res S.K (vs ++ []) H1 Q E0
 rw [List.append_nil]
 exact ⟨χ,u,(R.mono e1).live,rvs,hd,fun v H' e2 rv=>q v H' (e1.trans e2) rv⟩

noncomputable def Def (K : PySem.W.Frag) (mg : Str → Option Value) (x : Str) (st : Stmt) (ps : List Str) : Prop:=∃ f fd,Fun K x x st f fd ∧ Binds K fd ps [] ∧ mg x = some (.ref f)
noncomputable def FnAt (P : Program) (w : World) (K : PySem.W.Frag) (mg : Str → Option Value) (base : Heap) (k : Nat) (x : Str) (ps : List Str) (sp : Sp) : Prop:=∃ f fd,mg x = some (.ref f) ∧ PySem.W.keepIn K (.ref f) = true ∧ Binds K fd ps [] ∧ FnOk P w K mg base CX0 k f fd ps sp
theorem fn_at {x : Str} {st : Stmt} {N ps : List Str} {k : Nat} (F : Def K mg x st ps) (Sc : FnScope N ps (zc st)) (hlen : ∀ u,dom u → (enc u).length = ps.length)
  (hb : ∀ u,dom u → JB ⟨P,w,K,mg,base,k,N,zc st,true⟩ (startΓ N (enc u)) (zf st) { nx:=fun _=>res u = .non,rt:=fun d _=>d = res u }) : FnAt P w K mg base (k + 1) x ps (spF enc dom res K):=by
 obtain ⟨f,fd,F,b,m⟩:=F
 exact ⟨f,fd,m,F.kp,b,fn_D F Sc hlen hb⟩
theorem e_fn {S : Stat} {Γ : List Sl} {ps : List Str} {x : Str} {p pos : Pos} {e : Expr} {es : List Expr} {j : Nat} (F : FnAt S.P S.w S.K S.mg S.base j x ps (spF enc dom res S.K)) (u : α) (ha : JA S Γ (e :: es) (enc u)) (hd : dom u) (hj : j ≤ S.k:=by exact Nat.le_of_ble_eq_true rfl)
  (hg : S.sc.names.lookup x = some .globalImplicit:=by ac_nf) (hdb : (x == ("__debug__" : Str)) = false:=by ac_nf)
  (he : ∀ env,starEach (e :: es) env = (false,eval e env) :: starEach es env:=by ac_rfl) (hpl : ∀ env,(backTo pos (starEach es env)).any (·.1) = false:=by ac_rfl) : JE S Γ (.Call (.Name x p) (e :: es) [] pos) (res u):=by
 obtain ⟨f,fd,m,kp,b,F⟩:=F
 exact znL u F hj m kp b ha hd hg hdb he hpl

noncomputable def spLaw (K : PySem.W.Frag) : Sp:=spF (fun ns : List Int=>[D.lst (ns.map D.int)]) (fun ns=>ns.length ≤ 63) (fun _=>.bl true) K
theorem zkL {H : Hp} : hidB (fun _=>false) H = H:=by funext b; unfold hidB; rw [if_neg Bool.false_ne_true]
theorem walk {l : PySem.W.OpenLaw} {q : Program} {loose : List Str} {XP : (Str → Option Value) → Heap → Prop} {YP : World → Heap → Prop} {d : DefRec} {K : Params → PySem.W.Frag} (hn : l.most = some 63) (hdf : d.params.defaults = [])
  (hY : ∀ (w : World) (h : Heap),YP w h → (K w.params).In h)
  (F : ∀ (w : World) (mg : Str → Option Value) (fa : Addr) (h : Heap),(K w.params).In h → h.Ns mainGlobals mg → mg d.name = some (.ref fa) →
   ∃ fd : FuncData,(∀ (s : Shared) (u : Value),BindsTo s fd ⟨[u],[]⟩ [("script",u)]) ∧ ∀ base : Heap,(K w.params).In base → base.Ns mainGlobals mg → FnOk l.prog w (K w.params) mg base CX0 40 fa fd ["script"] (spLaw (K w.params))) :
  PySem.W.WalkO q loose XP YP l.row.toRowW d [] (fun f vs=>PySem.call f vs) :=
 Internal.L2.walk_of (n:=63) (k:=40) (x:="script") (CX:=fun _=>CX0) (sp:=fun w=>spLaw (K w.params)) hn (by decide) hdf ⟨rfl,rfl,by decide,by decide⟩ hY F (fun w H a ns hl _ hS=>⟨fun _=>false,ns,fun p hp=>(nomatch hp),⟨.ref a,[],rfl,⟨a,ns.map V.int,rfl,by rw [zkL]; exact hS,Reps.ints ns⟩,rfl⟩,hl,fun v H' _ rv=>rv⟩) fun _ _ _ _ _ z=>z
end
end Internal

end
section
set_option Elab.async false
set_option linter.all false
set_option maxRecDepth 100000
set_option maxHeartbeats 400000

namespace DRv
open PySem PySem.Spec PyProof.Rows
open Sem (wp)
open AutoSeq1 (wpAny_loadPart')
theorem s_next : Slot "reversed" "__next__" "reversed.__next__" :=
 .of (owner:="reversed") (n:="__next__") (by rw [typeLookup_type,builtinLookup_eq_fast]; kernel_rfl) (by decide +kernel) (by decide +kernel) (by decide +kernel) (by first | exact .inl (by decide +kernel) | exact .inr (by decide +kernel)) (by rw [isSubtype_type]; kernel_rfl)
theorem n_next : entryFor table "reversed.__next__" = some Builtin.«reversed.__next__»:=entryFor_of_tree (by kernel_rfl)
theorem owner : Manifest.owners.lookup (String.ofList ['d','e','s','r','e','v','e','r'].reverse) = some Manifest.sig_reversed:=by kernel_rfl
theorem a_next (a : Value) : argsOk "reversed.__next__" ⟨[a],[]⟩:=by
 unfold argsOk; rw [signature?_of (id:="reversed.__next__") (n:=['_','_','t','x','e','n','_','_']) (o:=['d','e','s','r','e','v','e','r']) (by kernel_rfl) owner]; kernel_rfl
theorem zjr : Slot "reversed" "__iter__" "reversed.__iter__" :=
 .of (owner:="reversed") (n:="__iter__") (by rw [typeLookup_type,builtinLookup_eq_fast]; kernel_rfl) (by decide +kernel) (by decide +kernel) (by decide +kernel) (by first | exact .inl (by decide +kernel) | exact .inr (by decide +kernel)) (by rw [isSubtype_type]; kernel_rfl)
theorem znM (a : Value) : argsOk "reversed.__iter__" ⟨[a],[]⟩:=by
 unfold argsOk; rw [signature?_of (id:="reversed.__iter__") (n:=['_','_','r','e','t','i','_','_']) (o:=['d','e','s','r','e','v','e','r']) (by kernel_rfl) owner]; kernel_rfl
theorem n_iter : entryFor table "reversed.__iter__" = some Builtin.«dict_keyiterator.__iter__» :=
 entryFor_alias (id':="dict_keyiterator.__iter__") (by kernel_rfl) (by first | rfl | decide +kernel | (unfold String.splitOn; simp +decide [String.splitOnAux])) (by decide +kernel) (by kernel_rfl)
theorem zgp : Slot "reversed" "__length_hint__" "reversed.__length_hint__" :=
 .of (owner:="reversed") (n:="__length_hint__") (by rw [typeLookup_type,builtinLookup_eq_fast]; kernel_rfl) (by decide +kernel) (by decide +kernel) (by decide +kernel) (by first | exact .inl (by decide +kernel) | exact .inr (by decide +kernel)) (by rw [isSubtype_type]; kernel_rfl)
theorem znN : entryFor table "reversed.__length_hint__" = some Builtin.«reversed.__length_hint__»:=entryFor_of_tree (by kernel_rfl)
theorem znO (a : Value) : argsOk "reversed.__length_hint__" ⟨[a],[]⟩:=by
 unfold argsOk; rw [signature?_of (id:="reversed.__length_hint__") (n:="__length_hint__".toList.reverse) (o:=['d','e','s','r','e','v','e','r']) (by kernel_rfl) owner]; kernel_rfl
theorem zgq : typeLookup (.type "tuple") "__reversed__" = pure none:=by rw [typeLookup_type,builtinLookup_eq_fast]; kernel_rfl
theorem ziA : typeLookup (.type "reversed") "__len__" = pure none:=by rw [typeLookup_type,builtinLookup_eq_fast]; kernel_rfl
theorem zfE : typeLookup (.type "tuple") "__getitem__" = pure (some (.builtin "tuple.__getitem__")):=slot_tuple_getitem.lookup
theorem zjs : Slot "reversed" "__init__" "object.__init__" :=
 .of (owner:="object") (n:="__init__") (by rw [typeLookup_type,builtinLookup_eq_fast]; kernel_rfl) (by decide +kernel) (by decide +kernel) (by decide +kernel) (by first | exact .inl (by decide +kernel) | exact .inr (by decide +kernel)) (by rw [isSubtype_type]; kernel_rfl)
theorem called : TypeCalled "reversed" "reversed.__new__" "object.__init__" :=
 ⟨by decide +kernel,by decide +kernel,⟨_,_,F.mro_reversed⟩,F.made_reversed,by decide +kernel,by rw [isSubtype_type]; kernel_rfl,zjs⟩

noncomputable def rvObj (t : Addr) (i : Int) : Obj:={ cls:=.type "reversed",data:=.fields #[.ref t,rawInt i] }
noncomputable def IsRv (h : Heap) (a t : Addr) (i : Int) : Prop:=∃ o,h.get? a = some o ∧ o.cls = .type "reversed" ∧ o.data = .fields #[.ref t,rawInt i]

theorem zjt (t : Addr) (items : Array Value) (hz : items.size ≤ sizeLine) : Meets (Builtin.«reversed.__new__» ⟨[.type "reversed",.ref t],[]⟩)
  (fun A R s=>s.heap.IsTuple t items ∧ ∀ tk,R (.ok (.ret (.ref s.heap.objs.size))) { s with heap:=s.heap.push (rvObj t ((items.size : Int) - 1)),toks:=tk }) :=
 .of_wp fun prog w A R s h=>by
  obtain ⟨ht,h⟩:=h
  unfold Builtin.«reversed.__new__»
  refine wpAny_bind (wpAny_of_eq (newClass_reversed _) ?_)
  try dsimp only
  refine wpAny_bind (wpAny_of_eq (a:=()) (by first | rfl | kernel_rfl) ?_)
  refine wpAny_bind (wpAny_of_eq (a:=()) (by first | rfl | kernel_rfl) ?_)
  try dsimp only
  refine wpAny_bind (wpAny_specialOf ht.typeIs zgq ?_)
  try dsimp only
  refine wpAny_bind ?_
  refine wpAny_bind (m:=isInstance (.ref t) (.type "dict")) (wpAny_isInstance (b:=false) ht.typeIs (by rw [isSubtype_type]; kernel_rfl) ?_)
  try dsimp only
  refine wpAny_bind (m:=specialOf (.ref t) "__getitem__") (wpAny_specialOf ht.typeIs zfE ?_)
  try dsimp only
  refine wpAny_of_eq (a:=true) (by first | rfl | kernel_rfl) ?_
  try dsimp only
  rw [if_neg (by decide)]
  refine wpAny_bind (len_tuple (items:=items) ht (by have:=sizeLine_eq; omega) ?_)
  refine wpAny_bind (m:=asInt? _) (wpAny_pure ?_)
  dsimp only
  show wpAny _ _ (newObj (.type "reversed") (.fields [Value.ref t,rawInt ((items.size : Int) - 1)].toArray) >>= _) _ _ _
  refine wpAny_bind (wpAny_newObj_type ?_)
  exact wpAny_pure ⟨_,rfl,h _⟩

section
variable {prog : Program} {w : World} {A : Around} {E : Value → Shared → Prop} {s : Shared}
theorem zkM {t : Addr} {items : Array Value} {Q : Value → Shared → Prop} (hz : items.size ≤ sizeLine) (ht : s.heap.IsTuple t items)
  (h : ∀ tk,Q (.ref s.heap.objs.size) { s with heap:=s.heap.push (rvObj t ((items.size : Int) - 1)),toks:=tk }) : wpAny (model prog w) A (call (.type "reversed") [.ref t]) Q E s :=
 callType_new called (by decide) (F.typeCall_reversed_1 _) (F.newCall_reversed_1 _) (fun obj=>F.args_object_init_2 obj _) F.entry_reversed_new
  (zjt t items hz) ⟨ht,fun tk=>⟨⟨_,Heap.get?_push_size _ rfl,rfl⟩,h tk⟩⟩

theorem IsRv.typeIs {a t : Addr} {i : Int} (x : IsRv s.heap a t i) : s.TypeIs (.ref a) "reversed":=let ⟨o,ho,hc,_⟩:=x; ⟨o,ho,hc⟩
theorem IsRv.at {h h' : Heap} {a t : Addr} {i : Int} (x : IsRv h a t i) (e : ∀ o,h.get? a = some o → h'.get? a = some o) : IsRv h' a t i:=let ⟨o,ho,r⟩:=x; ⟨o,e _ ho,r⟩

end
end DRv

end
section
set_option Elab.async false
set_option linter.all false
set_option maxRecDepth 100000
set_option maxHeartbeats 1000000
namespace DRv
open PySem PySem.Spec PyProof.Rows
open Sem (wp)
open AutoSeq1 (wpAny_loadPart')
section
variable {prog : Program} {w : World} {A : Around} {E : Value → Shared → Prop} {s : Shared}
theorem next_item {it t : Addr} {i : Nat} {items : Array Value} {x : Value} {Q : Option Value → Shared → Prop} (hz : items.size ≤ sizeLine) (hit : IsRv s.heap it t (i : Int)) (ht : s.heap.IsTuple t items) (hx : items[i]? = some x) (hne : t ≠ it)
  (hQ : ∀ h' tk,s.toks ≤ tk → IsRv h' it t ((i : Int) - 1) → Heap.SameBut it s.heap h' → Q (some x) { s with heap:=h',toks:=tk }) : wpAny (model prog w) A (pyNext (.ref it)) Q E s:=by
 obtain ⟨o,ho,hc,hd⟩:=id hit
 have hi : i < items.size:=(Array.getElem?_eq_some_iff.mp hx).1
 have hs:=sizeLine_eq
 unfold pyNext
 refine wpAny_bind (wpAny_attempt (wpAny_callSpecial?_slot (name:=Str.ofString "__next__") hit.typeIs s_next
  (wpAny_call_entry s_next hit.typeIs n_next ?_ (a_next _))))
 unfold Builtin.«reversed.__next__»
 refine wpAny_bind (wpAny_of_eq (a:=(Value.ref it,[])) rfl ?_)
 try dsimp only
 refine wpAny_bind (wpAny_field ho hd (x:=.ref t) rfl ?_)
 refine wpAny_bind (wpAny_field ho hd (x:=rawInt (i : Int)) rfl ?_)
 show wpAny _ _ (if (i : Int) < 0 then _ else _) _ _ s
 rw [if_neg (by omega)]
 refine wpAny_bind (wpAny_specialOf ht.typeIs zfE ?_)
 show wpAny _ _ (if (some (Value.builtin "tuple.__getitem__")).isNone = true then _ else _) _ _ s
 rw [if_neg (by decide)]
 refine wpAny_bind (wpAny_mkInt ?_)
 refine wpAny_bind (wpAny_attempt (getItem_tuple (k:=(i : Int)) (j:=i) (s:={ s with toks:=s.toks + 1 }) ht (by omega) (by omega) ?_ hx ?_))
 ·rw [seqIndex_of (by omega) (by omega),Int.toNat_natCast]
 dsimp only
 refine wpAny_bind (wpAny_field (s:={ s with toks:=s.toks + 1 }) ho hd (x:=rawInt (i : Int)) rfl ?_)
 show wpAny _ _ (setField (.ref it) 1 (rawInt ((i : Int) - 1)) >>= fun _=>ret x) _ _ _
 refine wpAny_bind (wpAny_setField (s:={ s with toks:=s.toks + 1 }) ho hd (by simp) ?_)
 refine wpAny_pure ⟨x,rfl,wpAny_pure (hQ _ _ (Nat.le_succ _) ?_ (Heap.SameBut.update ..))⟩
 exact ⟨_,Heap.get?_update_self _ ho (Obj.isFreed_of_fields (Obj.data_mapFields hd _)),(Obj.cls_mapFields ..).trans hc,by
  rw [Obj.data_mapFields hd]; simp⟩

theorem next_end {it t : Addr} {Q : Option Value → Shared → Prop} (hh : A.handled = none) (hit : IsRv s.heap it t (-1))
  (hQ : ∀ h',Heap.ExtBut it s.heap h' → (∃ o,h'.get? it = some o) → Q none { s with heap:=h' }) : wpAny (model prog w) A (pyNext (.ref it)) Q E s:=by
 obtain ⟨o,ho,hc,hd⟩:=id hit
 unfold pyNext
 refine wpAny_bind (wpAny_attempt (wpAny_callSpecial?_slot (name:=Str.ofString "__next__") hit.typeIs s_next
  (wpAny_call_entry s_next hit.typeIs n_next ?_ (a_next _))))
 unfold Builtin.«reversed.__next__»
 refine wpAny_bind (wpAny_of_eq (a:=(Value.ref it,[])) rfl ?_)
 try dsimp only
 refine wpAny_bind (wpAny_field ho hd (x:=.ref t) rfl ?_)
 refine wpAny_bind (wpAny_field ho hd (x:=rawInt (-1)) rfl ?_)
 show wpAny _ _ (if (-1 : Int) < 0 then _ else _) _ _ s
 rw [if_pos (by decide)]
 refine wpAny_bind (wpAny_rule ?_)
 refine wpAny_bind ?_
 refine wpAny_bind (m:=setField (.ref it) 1 (rawInt (-1))) (wpAny_setField ho hd (by simp) ?_)
 have ho1:=Heap.get?_update_self (Obj.mapFields (·.setIfInBounds 1 (rawInt (-1)))) ho (Obj.isFreed_of_fields (Obj.data_mapFields hd _))
 have hd1:=Obj.data_mapFields hd (·.setIfInBounds 1 (rawInt (-1)))
 refine wpAny_setField (s:={ s with heap:=_ }) ho1 hd1 (by simp) ?_
 have ho2:=Heap.get?_update_self (Obj.mapFields (·.setIfInBounds 0 .none)) ho1 (Obj.isFreed_of_fields (Obj.data_mapFields hd1 _))
 have ext : Heap.ExtBut it s.heap ((s.heap.update it (Obj.mapFields fun x=>x.setIfInBounds 1 (rawInt (-1)))).update it (Obj.mapFields fun x=>x.setIfInBounds 0 Value.none)):=fun b ob hb e =>
  (Heap.get?_update_other _ _ (Ne.symm hb)).trans ((Heap.get?_update_other _ _ (Ne.symm hb)).trans e)
 dsimp only
 generalize (s.heap.update it (Obj.mapFields fun x=>x.setIfInBounds 1 (rawInt (-1)))).update it (Obj.mapFields fun x=>x.setIfInBounds 0 Value.none) = h2 at ext ho2 ⊢
 refine wpAny_bind ?_
 show wpAny _ _ (newExc (.type "StopIteration") [] >>= fun x=>raiseNew x) _ _ _
 refine wpAny_bind ?_
 simp only [newExc,newTuple]
 refine wpAny_bind (wpAny_newObj_type ?_ (by size_fits))
 refine wpAny_bind (m:=firstArgMember _ _) (wpAny_of_eq (a:=Value.none) (by first | rfl | (simp only [firstArgMember]; rfl)) ?_)
 refine wpAny_newObj_type ?_ (by size_fits)
 simp only [raiseNew]
 refine wpAny_bind (wpAny_handled ?_)
 first | rw [show A.in1.handled = none from hh] | rw [hh]
 refine wpAny_bind (wpAny_pure (wpAny_throw ?_))
 refine wpAny_bind (wpAny_isInstance (T:="StopIteration") (b:=true) ⟨_,Heap.get?_push_size _ rfl,rfl⟩ isSubtype_stop ?_)
 exact wpAny_pure (hQ _ ((ext.push _).push _) ⟨_,Heap.get?_push_of_some _ (Heap.get?_push_of_some _ ho2)⟩)

theorem iter_self {it t : Addr} {i : Int} {Q : Value → Shared → Prop} (hit : IsRv s.heap it t i) (h : Q (.ref it) s) : wpAny (model prog w) A (pyIter (.ref it)) Q E s:=by
 refine wpAny_pyIter_slot hit.typeIs zjr (wpAny_call_entry zjr hit.typeIs n_iter ?_ (znM _))
 show wpAny _ _ (ret (.ref it)) _ _ s
 exact wpAny_pure ⟨_,rfl,"reversed",_,hit.typeIs,s_next.lookup,h⟩

theorem hint {it t : Addr} {i : Int} {items : Array Value} {Q : Value → Shared → Prop} (hz : items.size ≤ sizeLine) (hit : IsRv s.heap it t ((items.size : Int) - 1)) (ht : s.heap.IsTuple t items)
  (h : ∀ u tk,s.toks ≤ tk → Q (.int (items.size : Int) u) { s with toks:=tk }) : wpAny (model prog w) A (call (.builtin "reversed.__length_hint__") [.ref it]) Q E s:=by
 obtain ⟨o,ho,hc,hd⟩:=id hit
 have hs:=sizeLine_eq
 refine wpAny_call_entry zgp hit.typeIs znN ?_ (znO _)
 unfold Builtin.«reversed.__length_hint__»
 refine wpAny_bind (wpAny_of_eq (a:=Value.ref it) (by first | rfl | kernel_rfl) ?_)
 refine wpAny_bind (wpAny_field ho hd (x:=.ref t) rfl ?_)
 rw [if_neg (show ¬ ((Value.ref t == Value.none) = true) from Bool.false_ne_true)]
 refine wpAny_bind (len_tuple (items:=items) ht (by omega) ?_)
 refine wpAny_bind (m:=asInt? _) (wpAny_pure ?_)
 dsimp only
 refine wpAny_bind (wpAny_field (s:={ s with toks:=s.toks + 1 + 1 }) ho hd (x:=rawInt ((items.size : Int) - 1)) rfl ?_)
 show wpAny _ _ (if (items.size : Int) < (items.size : Int) - 1 + 1 then _ else retInt ((items.size : Int) - 1 + 1)) _ _ _
 rw [if_neg (by omega),show (items.size : Int) - 1 + 1 = (items.size : Int) by omega]
 show wpAny _ _ (mkInt (items.size : Int) >>= fun v=>ret v) _ _ _
 refine wpAny_bind (wpAny_mkInt ?_)
 exact wpAny_pure ⟨_,rfl,h _ _ (by show s.toks ≤ s.toks + 1 + 1 + 1; omega)⟩
end

theorem walks {prog : Program} {w : World} {A : Around} (hh : A.handled = none) (I t : Addr) (hne : t ≠ I) (items : Array Value) (hz : items.size ≤ sizeLine) :
  Walks prog w A I [I,t] [I] items.size (fun i v=>items[items.size - 1 - i]? = some v) (fun i h=>i ≤ items.size ∧ IsRv h I t ((items.size : Int) - 1 - (i : Int)) ∧ h.IsTuple t items) where
 sub:=fun b hb=>by simp at hb; simp [hb]
 frame:=fun _ _ _ x hk=>⟨x.1,x.2.1.at fun o e=>hk I (by simp) o e,let ⟨o,ho,r⟩:=x.2.2; ⟨o,hk t (by simp) o ho,r⟩⟩
 item:=fun i s Q E hi x hQ=>by
  have e : (items.size : Int) - 1 - (i : Int) = ((items.size - 1 - i : Nat) : Int):=by omega
  have hit:=x.2.1
  rw [e] at hit
  have hx : items[items.size - 1 - i]? = some (items[items.size - 1 - i]'(by omega)):=Array.getElem?_eq_getElem (by omega)
  refine next_item hz hit x.2.2 hx hne fun h' tk _ hit' hs'=>?_
  have e2 : ((items.size - 1 - i : Nat) : Int) - 1 = (items.size : Int) - 1 - ((i + 1 : Nat) : Int):=by omega
  rw [e2] at hit'
  exact hQ _ h' tk hx ⟨hi,hit',let ⟨o,ho,r⟩:=x.2.2; ⟨o,(hs'.2 t hne).trans ho,r⟩⟩ fun b o hb eo=>hs'.extBut b o (fun h=>hb (by simp [h])) eo
 done:=fun s Q E x hQ=>by
  have e : (items.size : Int) - 1 - (items.size : Int) = -1:=by omega
  have hit:=x.2.1
  rw [e] at hit
  exact next_end hh hit fun h' he' _=>hQ h' s.toks fun b o hb eo=>he' b o (fun h=>hb (by simp [h])) eo
 self:=fun _ _ _ _ x hQ=>iter_self x.2.1 hQ

theorem zju : typeLookup (.type "reversed") "__length_hint__" = pure (some (.builtin "reversed.__length_hint__")):=zgp.lookup
section
variable {prog : Program} {w : World} {A : Around} {E : Value → Shared → Prop} {s : Shared}
theorem zhn {I t : Addr} {items : Array Value} {Q : List Value → Shared → Prop} (hh : A.handled = none) (hne : t ≠ I) (hz : items.size ≤ sizeLine) (h0 : 0 < items.size) (hit : IsRv s.heap I t ((items.size : Int) - 1)) (ht : s.heap.IsTuple t items)
  (hQ : ∀ s' acc,Moved [I] (fun a b=>b = a) s s' → ItemsOf (fun i v=>items[items.size - 1 - i]? = some v) acc items.size → Q acc.toList s') : wpAny (model prog w) A (collect (.ref I)) Q E s:=by
 have W:=(walks (prog:=prog) (w:=w) (A:=A.in1) hh I t hne items hz).toS
 have hst : (0 : Nat) ≤ items.size ∧ IsRv s.heap I t ((items.size : Int) - 1 - ((0 : Nat) : Int)) ∧ s.heap.IsTuple t items:=⟨Nat.zero_le _,by rw [show (items.size : Int) - 1 - ((0 : Nat) : Int) = (items.size : Int) - 1 by omega]; exact hit,ht⟩
 have hIlt : I < s.heap.objs.size:=let ⟨_,ho,_⟩:=hit; Heap.lt_size ho
 have htlt : t < s.heap.objs.size:=let ⟨_,ho,_⟩:=ht; Heap.lt_size ho
 have hSf : s.heap.objs.size ∉ [I,t]:=fun hm=>by
  rcases List.mem_cons.mp hm with e | e
  ·exact absurd (e ▸ hIlt) (Nat.lt_irrefl _)
  ·exact absurd ((List.mem_singleton.mp e) ▸ htlt) (Nat.lt_irrefl _)
 have hSI : s.heap.objs.size ≠ I:=fun e=>hSf (by rw [e]; exact List.mem_cons_self)
 unfold collect
 refine wpAny_bind (wpAny_runValue (codeAny_builtin F.entry_proto_collect ?_))
 rw [Around.under_plainId F.plain_proto_collect _]
 show wpAny _ A.in1 (newList [] >>= fun l=>again (.builtin "list.__iadd__" ⟨[l,.ref I],[]⟩)) _ _ s
 refine wpAny_bind (wpAny_newObj_type ?_)
 refine wpAny_pure ⟨plainId_quiet F.plain_list_iadd _,codeAny_builtin F.entry_list_iadd ?_⟩
 rw [Around.under_plainId F.plain_list_iadd _]
 have hk1 : ∀ b o,s.heap.get? b = some o → (s.heap.push { cls:=.type "list",data:=.seq ([] : List Value).toArray }).get? b = some o:=fun b o e=>Heap.get?_push_of_some _ e
 have hS₁ : (s.heap.push { cls:=.type "list",data:=.seq ([] : List Value).toArray }).get? s.heap.objs.size = some { cls:=.type "list",data:=.seq ([] : List Value).toArray }:=Heap.get?_push_size _ rfl
 have hit1 : IsRv (s.heap.push { cls:=.type "list",data:=.seq ([] : List Value).toArray }) I t ((items.size : Int) - 1):=hit.at fun o e=>hk1 _ o e
 have ht1 : (s.heap.push { cls:=.type "list",data:=.seq ([] : List Value).toArray }).IsTuple t items:=let ⟨o,ho,r⟩:=ht; ⟨o,hk1 _ o ho,r⟩
 show wpAny _ A.in1 (Builtin.List.listExtendWith (.ref s.heap.objs.size) (.ref I) (.ref s.heap.objs.size)) _ _ _
 unfold Builtin.List.listExtendWith
 have hT1 : Shared.TypeIs { s with heap:=s.heap.push { cls:=.type "list",data:=.seq ([] : List Value).toArray } } (.ref I) "reversed":=IsRv.typeIs (s:={ s with heap:=_ }) hit1
 refine wpAny_bind (wpAny_typeOf hT1 ?_)
 have h1 : Builtin.List.listSameRef (.ref s.heap.objs.size) (.ref I) = false:=by simp [Builtin.List.listSameRef,hSI]
 have h2 : (Value.type "reversed" == Value.type "list") = false:=by decide
 have h3 : (Value.type "reversed" == Value.type "tuple") = false:=by decide
 simp only [h1,h2,h3,Bool.or_false,Bool.false_eq_true,if_false]
 refine wpAny_bind (iter_self (s:={ s with heap:=_ }) hit1 ?_)
 refine wpAny_bind (wpAny_holding ?_)
 unfold Builtin.List.listLengthHint
 refine wpAny_bind (wpAny_specialOf hT1 ziA ?_)
 show wpAny _ A.in1 (specialOf (Value.ref I) (Str.ofString "__length_hint__") >>= _) _ _ _
 refine wpAny_bind (wpAny_specialOf hT1 zju ?_)
 (generalize hid : ("reversed.__length_hint__" : String) = id0; (fail_if_success (clear hid id0)); wp_delta; rw [show splitId id0 = some ("reversed","__length_hint__") from by subst hid; decide +kernel]; subst hid)
 refine wpAny_bind (wpAny_isInstance (b:=true) hT1 (by rw [isSubtype_type]; kernel_rfl) ?_)
 rw [if_neg (by decide)]
 dsimp only
 rw [if_neg (by decide +kernel)]
 refine wpAny_bind (wpAny_rule ?_)
 refine wpAny_bind (wpAny_of_eq (zgp.bind _) ?_)
 dsimp only
 refine wpAny_bind (wpAny_attempt (hint (s:={ s with heap:=_ }) (i:=0) hz hit1 ht1 fun u tk htk=>?_))
 dsimp only
 have ea : asInt? (.int (items.size : Int) u) = pure (some (items.size : Int)):=rfl
 rw [ea,pure_bind]
 dsimp only
 have hs:=sizeLine_eq
 rw [if_neg (show ¬ ((!Builtin.List.listFitsIndex (items.size : Int)) = true) by
  have : Builtin.List.listFitsIndex (items.size : Int) = true:=by
   unfold Builtin.List.listFitsIndex
   simp only [Bool.and_eq_true,decide_eq_true_eq]
   omega
  rw [this]; decide)]
 rw [if_neg (show ¬ ((items.size : Int) < 0) by omega)]
 rw [if_neg (show ¬ (Builtin.List.listTooLong (items.size : Int).toNat = true) by
  rw [Int.toNat_natCast,Internal.L2.notLongL hz]; exact Bool.false_ne_true)]
 refine wpAny_pure ?_
 try dsimp only
 rw [if_pos (show ((items.size : Int) != 0 || _) = true by
  have : ((items.size : Int) != 0) = true:=by rw [bne_iff_ne]; omega
  rw [this,Bool.true_or])]
 refine wpAny_bind (wpAny_rule ?_)
 refine wpAny_bind ?_
 show wpAny _ A.in1 (updateSeq s.heap.objs.size (·.push .none) >>= fun _=>updateSeq s.heap.objs.size (·.pop)) _ _ _
 refine wpAny_bind (wpAny_updateSeq hS₁ rfl ?_)
 have hS₂:=Heap.get?_update_self (Obj.mapSeq (·.push Value.none)) hS₁ rfl
 refine wpAny_updateSeq hS₂ rfl ?_
 have hS₃:=Heap.get?_update_self (Obj.mapSeq (·.pop)) hS₂ rfl
 have oth : ∀ b o,b ≠ s.heap.objs.size → s.heap.get? b = some o →
   (((s.heap.push { cls:=.type "list",data:=.seq ([] : List Value).toArray }).update s.heap.objs.size (Obj.mapSeq (·.push Value.none))).update s.heap.objs.size (Obj.mapSeq (·.pop))).get? b = some o :=
  fun b o hb e=>(Heap.get?_update_other _ _ (Ne.symm hb)).trans ((Heap.get?_update_other _ _ (Ne.symm hb)).trans (hk1 b o e))
 have nlt : ∀ b o,s.heap.get? b = some o → b ≠ s.heap.objs.size:=fun b o e=>Nat.ne_of_lt (Heap.lt_size e)
 refine wpAny_pure ⟨plainId_quiet F.plain_extend_loop _,codeAny_extend_loopS W hz _ hSf _ items.size 0 _ _ _ rfl (Nat.zero_le _)
  ⟨Nat.zero_le _,hst.2.1.at fun o e=>oth _ o (nlt _ o e) e,let ⟨o,ho,r⟩:=ht; ⟨o,oth _ o (nlt _ o ho) ho,r⟩⟩ hS₃ (ItemsOf.nil _) fun s' acc' c' hm hS' hacc=>?_⟩
 show wpAny _ A (load s.heap.objs.size >>= _) _ _ s'
 refine wpAny_bind (wpAny_load hS' ?_)
 refine wpAny_pure (hQ s' acc' ⟨fun b o hb e=>?_,hm.gens,hm.drawn,hm.os,Nat.le_trans htk hm.toks⟩ hacc)
 refine hm.heap b o (fun hb'=>?_) (oth b o (nlt b o e) e)
 rcases List.mem_cons.mp hb' with z | z
 ·exact nlt b o e z
 ·exact hb z

theorem meets_tuple (I t : Addr) (items : Array Value) (hne : t ≠ I) (hz : items.size ≤ sizeLine) (h0 : 0 < items.size) : Meets (Builtin.«tuple.__new__» ⟨[.type "tuple",.ref I],[]⟩)
  (fun A R s=>A.handled = none ∧ IsRv s.heap I t ((items.size : Int) - 1) ∧ s.heap.IsTuple t items ∧ ∀ (s' : Shared) (acc : Array Value),Moved [I] (fun a b=>b = a) s s' → ItemsOf (fun i v=>items[items.size - 1 - i]? = some v) acc items.size →
   R (.ok (.ret (.ref s'.heap.objs.size))) { s' with heap:=s'.heap.push { cls:=.type "tuple",data:=.seq acc } }) :=
 .of_wp fun prog w A R s h=>by
  obtain ⟨hh,hit,ht,h⟩:=h
  have hsub:=sub_tuple_self
  have hinit:=init_tuple_lookup
  have hmh:=madeHere_tuple
  have hT : s.TypeIs (.ref I) "reversed":=hit.typeIs
  obtain ⟨o,ho,hc,hd⟩:=id hit
  have hh1 : A.in1.handled = none:=hh
  wp_walk using wpAny_loadPart' ho,wpAny_typeOf hT,zhn hh1 hne hz h0 hit ht
  intro s' acc hm hacc
  show wpAny _ _ (Builtin.Tuple.tupleExact acc.toList.toArray >>= fun v=>ret v) _ _ _
  unfold Builtin.Tuple.tupleExact
  refine wpAny_bind (wpAny_newObj_type ?_ (show acc.toList.toArray.size ≤ sizeLine by simp only [Array.toArray_toList]; rw [hacc.1]; exact hz))
  refine wpAny_pure ⟨_,rfl,?_⟩
  have e : acc.toList.toArray = acc:=by simp
  rw [e]
  exact h s' acc hm hacc

theorem zfe {I t : Addr} {items : Array Value} {Q : Value → Shared → Prop} (hh : A.handled = none) (hne : t ≠ I) (hz : items.size ≤ sizeLine) (h0 : 0 < items.size) (hit : IsRv s.heap I t ((items.size : Int) - 1)) (ht : s.heap.IsTuple t items)
  (h : ∀ (h' : Heap) (tk : Nat) (acc : Array Value),(∀ b o,b ≠ I → s.heap.get? b = some o → h'.get? b = some o) → ItemsOf (fun i v=>items[items.size - 1 - i]? = some v) acc items.size →
   Q (.ref h'.objs.size) { s with heap:=h'.push { cls:=.type "tuple",data:=.seq acc },toks:=tk }) : wpAny (model prog w) A (call (.type "tuple") [.ref I]) Q E s:=by
 refine callType_new F.called_tuple (by decide) (F.typeCall_tuple_1 _) (F.newCall_tuple_1 _) (fun obj=>F.args_object_init_2 obj _) F.entry_tuple_new
  (meets_tuple I t items hne hz h0) ⟨hh,hit,ht,fun s' acc hm hacc=>⟨⟨_,Heap.get?_push_size _ rfl,rfl⟩,?_⟩⟩
 obtain ⟨h',g',d',tk',os'⟩:=s'
 have e1 : g' = s.gens:=hm.gens
 have e2 : d' = s.drawn:=hm.drawn
 have e3 : os' = s.os:=hm.os
 subst e1 e2 e3
 exact h h' tk' acc (fun b o hb e=>hm.heap b o (by simpa using hb) e) hacc
end

open Internal.L2
section
variable {X : Cx}
theorem zme {items : Array Value} {acc : Array Value} (h : ItemsOf (fun i v=>items[items.size - 1 - i]? = some v) acc items.size) : acc.toList = items.toList.reverse:=by
 apply List.ext_getElem
 ·simp [h.1]
 ·intro j h1 h2
  have hj : j < items.size:=by
   rw [Array.length_toList,h.1] at h1; exact h1
  have hj' : j < acc.size:=by rw [h.1]; exact hj
  have : items[items.size - 1 - j]? = some acc[j]:=h.2 j acc[j] (by simp [hj'])
  rw [Array.getElem?_eq_getElem (by omega)] at this
  rw [List.getElem_reverse]
  simp only [Array.getElem_toList,Array.length_toList]
  exact (Option.some.inj this).symm
variable {e : Expr} {te : TE} {pins : List (Addr × Obj)} {σ : Internal.L2.St} {H : Hp} {s : Shared} {tg : Expr} {p p' pos pos' : Pos}
theorem zhN (he : PE X e te) (hg : Gl X "reversed") (hm : X.mg "reversed" = none) (R : Addr → List V → Hp → Prop) (I : Inv X pins σ H s) (h : te σ H (fun x H1=>∃ a ys,x = .ref a ∧ SqT X.K H1 a ys ∧ R a ys H1))
  (hs : starEach [e] X.env = [(false,eval e X.env)]) : wpAny (model X.prog X.w) X.A (eval (.Call (.Name "reversed" p) [e] [] pos) X.env)
   (fun u s1=>∃ q H1 a ys,u = .ref q ∧ Inv X pins σ H1 s1 ∧ FpOk X pins H1 q ∧ IsRv s1.heap q a ((ys.length : Int) - 1) ∧ SqT X.K H1 a ys ∧ R a ys H1) X.xe s:=by
 refine wpAny_Call_Name_kw (zbl I hg hm boot_reversed ?_)
 refine PyProof.Rows.callWith_type1 (thn ((zbf he zcr hs) pos pins s σ H (fun vs H1=>match vs with | [x]=>∃ a ys,x = .ref a ∧ SqT X.K H1 a ys ∧ R a ys H1 | _=>False) I h) fun us s1 hP42=>?_) hs rfl
 obtain ⟨vs,H1,I1,r1,q1⟩:=hP42
 ·match vs,r1,q1 with
  | [x],r1,q1 =>
  obtain ⟨a,ys,rfl,hq,hR⟩:=q1
  obtain ⟨u,rfl,ru⟩:=vals1 r1
  cases ru
  obtain ⟨its,r',pl,hz⟩:=I1.tuple hq
  have hlen:=r'.length
  refine zkM (items:=its.toArray) (by rw [List.size_toArray,← hlen]; exact hz) pl fun tk=>?_
  have hn : H1 s1.heap.objs.size = none:=I1.hok.fresh (Nat.le_refl _)
  refine ⟨s1.heap.objs.size,H1,a,ys,rfl,I1.kept (t':=tk) fun b o e=>Heap.get?_push_of_some _ e,I1.fpOk (Nat.le_refl _) hn,⟨_,Heap.get?_push_size _ rfl,rfl,?_⟩,hq,hR⟩
  rw [List.size_toArray,← hlen]
  rfl

noncomputable def tTR (K : PySem.W.Frag) (te : TE) : TE:=fun σ H Q=>te σ H fun x H1=>∃ a ys,x = .ref a ∧ SqT K H1 a ys ∧ ys ≠ [] ∧ ∀ l,H1 l = none → Q (.ref l) (upd H1 l (.tup ys.reverse))
theorem zjv (hc : X.calm = true) (he : PE X e te) (hg : Gl X "reversed") (hm : X.mg "reversed" = none) (hgt : Gl X "tuple") (hmt : X.mg "tuple" = none) (hs : starEach [e] X.env = [(false,eval e X.env)]) :
  PE X (.Call (.Name "tuple" p') [.Call (.Name "reversed" p) [e] [] pos] [] pos') (tTR X.K te):=by
 intro pins s σ H Q I h
 refine wpAny_Call_Name_kw (zbl I hgt hmt boot_tuple ?_)
 refine PyProof.Rows.callWith_type1 ?_ rfl rfl
 show wpAny _ _ (spliced ((false,eval (.Call (.Name "reversed" p) [e] [] pos) X.env) :: [])) _ _ s
 refine Calls.spliced_cons (thn (zhN he hg hm (fun a ys H1=>ys ≠ [] ∧ ∀ l,H1 l = none → Q (.ref l) (upd H1 l (.tup ys.reverse))) I h hs) fun u s1 ⟨q,H1,a,ys,eu,I1,f1,hit,hq,hne,hR⟩=>Calls.spliced_nil ?_)
 subst eu
 obtain ⟨its,r',pl,hz⟩:=I1.tuple hq
 have hlen:=r'.length
 have hit' : IsRv s1.heap q a ((its.toArray.size : Int) - 1):=by rw [List.size_toArray,← hlen]; exact hit
 have hap : a ≠ q:=fun z=>by
  subst z
  obtain ⟨o,h1,h2,_⟩:=pl
  obtain ⟨o',h1',h2',_⟩:=hit
  rw [h1] at h1'; cases h1'
  rw [h2] at h2'
  exact absurd h2' (by decide)
 refine zfe (I1.ok.hd hc) hap (by rw [List.size_toArray,← hlen]; exact hz) (by rw [List.size_toArray,← hlen]; exact List.length_pos_iff.mpr hne) hit' pl fun h' tk acc kp hacc=>?_
 obtain ⟨f0,fl,ff,fx,fc,fp⟩:=f1
 have I2 : Inv X pins σ H1 { s1 with heap:=h',toks:=tk }:=I1.turned (t':=tk) kp f0 fl fx fc fp
 have I3 : Inv X pins σ (upd H1 h'.objs.size (.tup ys.reverse)) { s1 with heap:=h'.push { cls:=.type "tuple",data:=.seq acc },toks:=tk } :=
  I2.laid (t':=tk) (fun b o e=>Heap.get?_push_of_some _ e) (Nat.le_refl _) (show ObjOk X.prog X.w _ _ _ (.tup ys.reverse) from ⟨by rw [List.length_reverse]; exact hz,its.reverse,r'.reverse,by
   have e : acc = its.reverse.toArray:=by
    have:=zme hacc
    rw [show its.toArray.toList = its by simp] at this
    rw [← this]
   rw [e]; exact ⟨IsTup.new _ _,_,Heap.get?_push_size _ rfl,rfl⟩⟩)
 exact ⟨.ref h'.objs.size,_,I3,rfl,hR _ (I2.hok.fresh (Nat.le_refl _))⟩

noncomputable def Itv (K : PySem.W.Frag) (a : Addr) (n : Nat) : It :=
 ⟨fun i H=>i < n ∧ ∃ xs,SqT K H a xs ∧ xs.length = n,fun i H x H'=>H' = H ∧ ∀ xs,SqT K H a xs → xs.length = n → xs.reverse[i]? = some x,fun i H=>n ≤ i ∧ ∃ xs,SqT K H a xs ∧ xs.length = n⟩
theorem zkN {P : Program} {w : World} {K : PySem.W.Frag} {tg : Expr} (a it : Addr) (n : Nat) : Turn P w K tg (Itv K a n) [it] it (fun i h=>i ≤ n ∧ IsRv h it a ((n : Int) - 1 - (i : Int))) where
 mem:=by simp
 obj:=fun i h st b hb=>by
  have e : b = it:=by simpa using hb
  subst e
  obtain ⟨_,o,e,c,d⟩:=st
  exact ⟨o,e,fun v z=>by rw [d] at z; cases z⟩
 keep:=fun i h h' st k=>⟨st.1,st.2.at fun o e=>k it (by simp) o e⟩
 item:=by
  intro X hP hw hK hc i pins s σ H E I hf st hg
  subst hP hw hK
  obtain ⟨hi,xs,hq,hx⟩:=hg
  obtain ⟨its,rv,p,hz⟩:=I.tuple hq
  have hlen:=rv.length
  have hix : n - 1 - i < xs.length:=by omega
  have hxs : xs[n - 1 - i]? = some xs[n - 1 - i]:=List.getElem?_eq_getElem hix
  obtain ⟨u,hu,ru⟩:=rv.get hxs
  obtain ⟨f0,f1,f2,f3,f4,f5⟩:=hf it (by simp)
  have e : (n : Int) - 1 - (i : Int) = ((n - 1 - i : Nat) : Int):=by omega
  have hit:=st.2
  rw [e] at hit
  have hap : a ≠ it:=fun z=>by
   subst z
   obtain ⟨o,h1,h2,_⟩:=p
   obtain ⟨o',h1',h2',_⟩:=hit
   rw [h1] at h1'; cases h1'
   rw [h2] at h2'
   exact absurd h2' (by decide)
  refine next_item (items:=its.toArray) (by rw [List.size_toArray,← hlen]; exact hz) hit p (x:=u) (by simpa using hu) hap fun h' tk htk st' sb=>?_
  have I1 : Inv X pins σ H { s with heap:=h',toks:=tk }:=I.turned (t':=tk) (fun b o hb e=>(sb.2 b hb).trans e) f0 f1 f3 f4 f5
  have e2 : ((n - 1 - i : Nat) : Int) - 1 = (n : Int) - 1 - ((i + 1 : Nat) : Int):=by omega
  rw [e2] at st'
  obtain ⟨o,eo,c,d⟩:=id st'
  exact ⟨u,rfl,go_of (s:={ s with heap:=h',toks:=tk }) eo c d (by decide) ⟨xs[n - 1 - i],H,I1,ru,⟨rfl,fun ys hy hyl=>by
   rw [I.tuple_inj hy hq,List.getElem?_reverse (by omega),hx]; exact hxs⟩,⟨hi,st'⟩,fun b hb=>(hf b hb).1⟩⟩
 done:=by
  intro X hP hw hK hc i pins s σ H E I hf st hg
  subst hP hw hK
  obtain ⟨hi,xs,hq,hx⟩:=hg
  obtain ⟨f0,f1,f2,f3,f4,f5⟩:=hf it (by simp)
  have hie : i = n:=Nat.le_antisymm st.1 hi
  have hit:=st.2
  rw [show (n : Int) - 1 - (i : Int) = -1 by omega] at hit
  exact next_end (I.ok.hd hc) hit fun h' eb _=>⟨rfl,I.turned (t':=s.toks) (fun b o hb e=>eb b o hb e) f0 f1 f3 f4 f5⟩
 self:=fun _ _ _ _ _ st h=>iter_self st.2 h
noncomputable def iRev (K : PySem.W.Frag) (te : TE) : TI:=fun σ H R=>te σ H fun x H1=>∃ a ys,x = .ref a ∧ SqT K H1 a ys ∧ R (Itv K a ys.length) H1
theorem znP (he : PE X e te) (hg : Gl X "reversed") (hm : X.mg "reversed" = none) (hs : starEach [e] X.env = [(false,eval e X.env)]) : PI X tg (.Call (.Name "reversed" p) [e] [] pos) (iRev X.K te):=by
 intro pins s σ H R I h
 refine thn (zhN he hg hm (fun a ys H1=>R (Itv X.K a ys.length) H1) I h hs) fun u s1 hP43=>?_
 obtain ⟨q,H1,a,ys,eu,I1,f1,hit,hq,hR⟩:=hP43
 subst eu
 refine iter_self hit ⟨q,[q],_,_,H1,rfl,I1,zkN a q ys.length,⟨Nat.zero_le _,?_⟩,fun b hb=>?_,hR⟩
 ·rw [show (ys.length : Int) - 1 - ((0 : Nat) : Int) = (ys.length : Int) - 1 by omega]; exact hit
 ·have e : b = q:=by simpa using hb
  subst e
  exact f1
end
end DRv
namespace Internal
open PySem PySem.Spec PyProof.Rows Internal.L2 DRv
section
variable {S : Stat} {Γ : List Sl} {pos pos' p p' : Pos} {e tg : Expr}
theorem i_rev {ds : List D} (h : JE S Γ e (.tup ds)) (hm : S.mg "reversed" = none) (hg : S.sc.names.lookup ("reversed" : Str) = some .globalImplicit:=by ac_nf) (hs : ∀ env,starEach [e] env = [(false,eval e env)]:=by ac_rfl) : JI S Γ tg (.Call (.Name "reversed" p) [e] [] pos) ds.reverse :=
 ⟨iRev S.K (dE S.K Γ (.tup ds)),fun X o=>by
  have q:=znP (tg:=tg) (p:=p) (pos:=pos) (h X o) (gl_of o hg) (by rw [o.mg]; exact hm) (hs X.env)
  rw [o.K] at q; exact q,fun σ H R χ r q=>⟨χ,r,fun v H' e ⟨ad,vs,ev,sq,rs⟩=>⟨ad,vs,ev,zbV zm sq,q _ H' e fun χ2 H2 e2=>by
   have sq2 : SqT S.K H2 ad vs:=zbV zm (e2 _ _ sq)
   have rr:=rs.rev
   have hl:=rs.len
   refine ⟨fun i d hd=>?_,?_,vs,sq2,rfl⟩
   ·obtain ⟨v',ev',rv'⟩:=rr.get hd
    refine ⟨⟨?_,vs,sq2,rfl⟩,fun x H3 ⟨e3,y⟩=>⟨e3,?_⟩⟩
    ·have:=(List.getElem?_eq_some_iff.mp ev').1
     rwa [List.length_reverse] at this
    ·have:=y vs sq2 rfl
     rw [ev'] at this
     cases this
     exact rv'.mono e2 d
   ·rw [List.length_reverse,hl]; exact Nat.le_refl _⟩⟩⟩
theorem zgr {ds : List D} (h : JE S Γ e (.tup ds)) (hne : ds ≠ []) (hm : S.mg "reversed" = none) (hmt : S.mg "tuple" = none) (hg : S.sc.names.lookup ("reversed" : Str) = some .globalImplicit:=by ac_nf)
  (hgt : S.sc.names.lookup ("tuple" : Str) = some .globalImplicit:=by ac_nf) (hs : ∀ env,starEach [e] env = [(false,eval e env)]:=by ac_rfl) : JE S Γ (.Call (.Name "tuple" p') [.Call (.Name "reversed" p) [e] [] pos] [] pos') (.tup ds.reverse):=.mk fun X o =>
 zq (zjv o.calm (h X o) (gl_of o hg) (by rw [o.mg]; exact hm) (gl_of o hgt) (by rw [o.mg]; exact hmt) (hs X.env)) fun σ H Q ⟨χ,R,q⟩=>⟨χ,R,fun v H1 e1 hP44=>by
  obtain ⟨ad,vs,ev,sq,rs⟩:=hP44
  refine ⟨ad,vs,ev,by rw [o.K]; exact zbV zm sq,fun z=>?_,fun l hl=>q _ _ (e1.trans (zH hl _)) (zct hl ((R.mono e1).fresh hl) rs.rev)⟩
  have:=rs.len
  rw [z] at this
  exact hne (List.length_eq_zero_iff.mp this.symm)⟩
end
end Internal

end
section
set_option linter.all false

namespace Internal.BM
noncomputable abbrev Bd:=List (List Int)
structure Rect (w h : Nat) (b : Bd) : Prop where
 len : b.length = h
 row : ∀ r ∈ b,r.length = w

noncomputable def mir (b : Bd) : Bd:=b.map List.reverse
noncomputable def col (b : Bd) (x : Nat) : List Int:=b.reverse.map fun r=>r.getD x 0
noncomputable def qt (w : Nat) (b : Bd) : Bd:=(List.range w).map (col b)

noncomputable def qts : Nat → Nat → Nat → Bd → Bd
 | 0,_,_,b=>b
 | n + 1,w,h,b=>qts n h w (qt w b)
noncomputable def turn (w h : Nat) (t : Nat) (b : Bd) : Bd:=qts (t % 4) w h (if 4 ≤ t then mir b else b)
noncomputable def zbp (r : List Int) (a : Int) : List Int:=(List.range r.length).map fun x : Nat=>r.getD (((x : Int) - a) % (r.length : Int)).toNat 0
noncomputable def slid (b : Bd) (a c : Int) : Bd:=(List.range b.length).map fun y : Nat=>(b.map (zbp · a)).getD (((y : Int) - c) % (b.length : Int)).toNat []

noncomputable def lqt (w : Nat) (b : Bd) : Bd:=(List.range w).map fun x=>(List.range b.length).map fun y=>(b.getD (b.length - 1 - y) []).getD x 0
noncomputable def lslid (w : Nat) (b : Bd) (a c : Int) : Bd:=(List.range b.length).map fun y : Nat=>(List.range w).map fun x : Nat=>(b.getD (((y : Int) - c) % (b.length : Int)).toNat []).getD (((x : Int) - a) % (w : Int)).toNat 0

theorem getD_lt {α : Type} (l : List α) (i : Nat) (d : α) (h : i < l.length) : l.getD i d = l[i]:=by
 rw [List.getD_eq_getElem?_getD,List.getElem?_eq_getElem h]; rfl
theorem zff {α β : Type} (l : List α) (d : α) (f : α → β) : (List.range l.length).map (fun i=>f (l.getD i d)) = l.map f:=by
 apply List.ext_getElem
 ·simp
 ·intro i h1 h2
  simp only [List.getElem_map,List.getElem_range]
  rw [getD_lt l i d (by simpa using h2)]
theorem znQ (w : Nat) (b : Bd) : lqt w b = qt w b:=by
 unfold lqt qt
 apply List.map_congr_left
 intro x _
 unfold col
 rw [← zff b.reverse [] (fun r=>r.getD x 0),List.length_reverse]
 apply List.map_congr_left
 intro y hy
 have hy' : y < b.length:=List.mem_range.mp hy
 congr 1
 rw [getD_lt b _ [] (by omega),getD_lt b.reverse y [] (by rw [List.length_reverse]; exact hy'),List.getElem_reverse]
theorem zB {k : Int} {n : Nat} (h : 0 < n) : (k % (n : Int)).toNat < n:=by
 have h1:=Int.emod_nonneg k (show (n : Int) ≠ 0 by omega)
 have h2:=Int.emod_lt_of_pos k (show (0 : Int) < n by omega)
 omega
theorem zkO {w h : Nat} {b : Bd} (r : Rect w h b) (a c : Int) : lslid w b a c = slid b a c:=by
 unfold lslid slid
 apply List.map_congr_left
 intro y hy
 have hy' : y < b.length:=List.mem_range.mp hy
 have hk : (((y : Int) - c) % (b.length : Int)).toNat < b.length:=zB (by omega)
 rw [getD_lt b _ [] hk,getD_lt (b.map (zbp · a)) _ [] (by rw [List.length_map]; exact hk),List.getElem_map]
 unfold zbp
 rw [r.row _ (List.getElem_mem hk)]
theorem zej {w h : Nat} {b : Bd} (r : Rect w h b) : Rect w h (mir b):=by
 refine ⟨by unfold mir; rw [List.length_map]; exact r.len,fun x hx=>?_⟩
 obtain ⟨y,hy,rfl⟩:=List.mem_map.mp hx
 rw [List.length_reverse]; exact r.row y hy
theorem zhO {w h : Nat} {b : Bd} (r : Rect w h b) : Rect h w (qt w b):=by
 refine ⟨by unfold qt; rw [List.length_map,List.length_range],fun x hx=>?_⟩
 obtain ⟨y,hy,rfl⟩:=List.mem_map.mp hx
 unfold col
 rw [List.length_map,List.length_reverse]; exact r.len
theorem zjw {w h : Nat} {b : Bd} (r : Rect w h b) (hh : 0 < h) (a c : Int) : Rect w h (slid b a c):=by
 refine ⟨by unfold slid; rw [List.length_map,List.length_range]; exact r.len,fun x hx=>?_⟩
 obtain ⟨y,hy,rfl⟩:=List.mem_map.mp hx
 have hb : 0 < b.length:=by rw [r.len]; exact hh
 have hk : (((y : Int) - c) % (b.length : Int)).toNat < b.length:=zB hb
 rw [getD_lt _ _ [] (by rw [List.length_map]; exact hk),List.getElem_map]
 unfold zbp
 rw [List.length_map,List.length_range]
 exact r.row _ (List.getElem_mem hk)
end Internal.BM

end
section
set_option linter.all false
namespace Internal.BM
noncomputable def curW (k w h : Nat) : Nat:=if k % 2 = 0 then w else h
theorem zbW (k w h : Nat) : curW (k + 1) w h = curW k h w:=by
 unfold curW
 by_cases e : k % 2 = 0
 ·rw [if_pos e,if_neg (by omega)]
 ·rw [if_neg e,if_pos (by omega)]
theorem zek : ∀ (k w h : Nat) (b : Bd),qts (k + 1) w h b = qt (curW k w h) (qts k w h b)
 | 0,_,_,_=>rfl
 | k + 1,w,h,b=>by
  show qts (k + 1) h w (qt w b) = _
  rw [zek k h w (qt w b),zbW]; rfl
theorem zel : ∀ (k w h : Nat) (b : Bd),Rect w h b → Rect (curW k w h) (curW k h w) (qts k w h b)
 | 0,_,_,_,r=>r
 | k + 1,w,h,b,r=>by
  rw [zbW,zbW]
  exact zel k h w (qt w b) (zhO r)
theorem zfF {w h : Nat} {b : Bd} (t : Nat) (r : Rect w h b) : Rect (curW (t % 4) w h) (curW (t % 4) h w) (turn w h t b):=by
 unfold turn
 apply zel
 split
 ·exact zej r
 ·exact r
theorem zdO {k w h n : Nat} (hw : w ≤ n) (hh : h ≤ n) : curW k w h ≤ n:=by unfold curW; split <;> assumption
theorem zdb {k w h : Nat} (hw : 0 < w) (hh : 0 < h) : 0 < curW k w h:=by unfold curW; split <;> assumption

noncomputable def nxt (c : Int) : Int:=(c * 48271 + 13) % 2147483647
noncomputable def it : Nat → Int → Int
 | 0,c=>c
 | n + 1,c=>nxt (it n c)
noncomputable def znR (c col : Int) (k n : Nat) : List Int:=(List.range n).map fun x=>it (k + x + 1) c / 7 % col
noncomputable def gen (c col : Int) (w h : Nat) : Bd:=(List.range h).map fun y=>znR c col (y * w) w
end Internal.BM

end
section
set_option linter.all false
namespace Internal.BM

noncomputable def cell (w h : Nat) (b : Bd) (x y : Int) : Int:=(b.getD (y % (h : Int)).toNat []).getD (x % (w : Int)).toNat 0
theorem zco {n i : Nat} (h : i < n) : ((i : Int) % (n : Int)).toNat = i:=by
 rw [Int.emod_eq_of_lt (by omega) (by omega)]; omega
theorem znS {w h : Nat} {b b' : Bd} (r : Rect w h b) (r' : Rect w h b') (e : ∀ x y : Int,cell w h b x y = cell w h b' x y) : b = b':=by
 apply List.ext_getElem
 ·rw [r.len,r'.len]
 ·intro j h1 h2
  have hj : j < h:=by rw [← r.len]; exact h1
  have l1:=r.row _ (List.getElem_mem h1)
  have l2:=r'.row _ (List.getElem_mem h2)
  apply List.ext_getElem
  ·rw [l1,l2]
  ·intro i g1 g2
   have hi : i < w:=by rw [← l1]; exact g1
   have:=e i j
   unfold cell at this
   rw [zco hj,zco hi,getD_lt b j [] h1,getD_lt b' j [] h2,getD_lt _ i 0 g1,getD_lt _ i 0 g2] at this
   exact this
theorem zgs {n : Nat} (hn : 0 < n) (x : Int) : ((-1 - x) % (n : Int)).toNat = n - 1 - (x % (n : Int)).toNat:=by
 have h1:=Int.emod_nonneg x (show (n : Int) ≠ 0 by omega)
 have h2:=Int.emod_lt_of_pos x (show (0 : Int) < n by omega)
 have h3:=Int.mul_ediv_add_emod x (n : Int)
 have e : -1 - x = ((n : Int) - 1 - x % (n : Int)) + (n : Int) * (-(x / (n : Int)) - 1):=by
  have : (n : Int) * (-(x / (n : Int)) - 1) = -((n : Int) * (x / (n : Int))) - n:=by rw [Int.mul_sub,Int.mul_neg,Int.mul_one]
  omega
 rw [e,Int.add_mul_emod_self_left,Int.emod_eq_of_lt (by omega) (by omega)]
 omega
section
variable {w h : Nat} {b : Bd}
theorem zgt (r : Rect w h b) {j : Nat} (hj : j < h) : (b.getD j []).length = w:=by
 have hj' : j < b.length:=by rw [r.len]; exact hj
 rw [getD_lt b j [] hj']; exact r.row _ (List.getElem_mem hj')
theorem zkP (r : Rect w h b) (hw : 0 < w) (hh : 0 < h) (x y : Int) : cell w h (mir b) x y = cell w h b (-1 - x) y:=by
 unfold cell mir
 have hj:=zB (k:=y) hh
 have hi:=zB (k:=x) hw
 have l:=zgt r hj
 rw [zgs hw]
 generalize (y % (h : Int)).toNat = j at *
 generalize (x % (w : Int)).toNat = i at *
 have hj' : j < b.length:=by rw [r.len]; exact hj
 rw [getD_lt (b.map List.reverse) j [] (by rw [List.length_map]; exact hj'),List.getElem_map,getD_lt b j [] hj'] at *
 rw [getD_lt _ i 0 (by rw [List.length_reverse,l]; exact hi),getD_lt _ _ 0 (by rw [l]; omega),List.getElem_reverse]
 congr 1
 rw [l]
theorem zmf (r : Rect w h b) (hw : 0 < w) (hh : 0 < h) (x y : Int) : cell h w (qt w b) x y = cell w h b y (-1 - x):=by
 unfold cell qt
 have hj:=zB (k:=y) hw
 have hi:=zB (k:=x) hh
 rw [zgs hh]
 generalize (y % (w : Int)).toNat = j at *
 generalize (x % (h : Int)).toNat = i at *
 rw [getD_lt _ j [] (by rw [List.length_map,List.length_range]; exact hj),List.getElem_map,List.getElem_range]
 unfold col
 have hl:=r.len
 rw [getD_lt _ i 0 (by rw [List.length_map,List.length_reverse,hl]; exact hi),List.getElem_map,List.getElem_reverse,getD_lt b _ [] (by rw [hl]; omega)]
 congr 2
 rw [hl]
theorem zjx (r : Rect w h b) (hw : 0 < w) (hh : 0 < h) (a c x y : Int) : cell w h (slid b a c) x y = cell w h b (x - a) (y - c):=by
 unfold cell slid
 have hj:=zB (k:=y) hh
 have hi:=zB (k:=x) hw
 have hy:=Int.emod_nonneg y (show (h : Int) ≠ 0 by omega)
 have hx:=Int.emod_nonneg x (show (w : Int) ≠ 0 by omega)
 have hl:=r.len
 rw [getD_lt _ (y % (h : Int)).toNat [] (by rw [List.length_map,List.length_range,hl]; exact hj),List.getElem_map,List.getElem_range,hl]
 have ey : (((y % (h : Int)).toNat : Int) - c) % (h : Int) = (y - c) % (h : Int):=by
  rw [Int.toNat_of_nonneg hy,Int.emod_sub_emod]
 rw [ey]
 have hj2:=zB (k:=y - c) hh
 have l:=zgt r hj2
 generalize ((y - c) % (h : Int)).toNat = j at *
 have hj' : j < b.length:=by rw [hl]; exact hj2
 rw [getD_lt (b.map (zbp · a)) j [] (by rw [List.length_map]; exact hj'),List.getElem_map]
 rw [getD_lt b j [] hj'] at *
 unfold zbp
 rw [l,getD_lt _ (x % (w : Int)).toNat 0 (by rw [List.length_map,List.length_range]; exact hi),List.getElem_map,List.getElem_range,Int.toNat_of_nonneg hx,Int.emod_sub_emod]
end

noncomputable def gq : Nat → Int × Int → Int × Int
 | 0,p=>p
 | k + 1,p=>((gq k p).2,-1 - (gq k p).1)
theorem zem : ∀ (k w h : Nat) (b : Bd) (x y : Int),Rect w h b → 0 < w → 0 < h → cell (curW k w h) (curW k h w) (qts k w h b) x y = cell w h b (gq k (x,y)).1 (gq k (x,y)).2
 | 0,_,_,_,_,_,_,_,_=>rfl
 | k + 1,w,h,b,x,y,r,hw,hh=>by
  rw [zbW,zbW]
  show cell _ _ (qts k h w (qt w b)) x y = _
  rw [zem k h w (qt w b) x y (zhO r) hh hw,zmf r hw hh]; rfl
noncomputable def ga (t : Nat) (p : Int × Int) : Int × Int:=if 4 ≤ t then (-1 - (gq (t % 4) p).1,(gq (t % 4) p).2) else gq (t % 4) p

noncomputable def Fits (t w h : Nat) : Prop:=t % 2 = 1 → w = h
theorem zen {t w h : Nat} (f : Fits t w h) : curW (t % 4) w h = w ∧ curW (t % 4) h w = h:=by
 unfold curW
 by_cases e : t % 2 = 1
 ·cases f e; simp
 ·rw [if_pos (by omega),if_pos (by omega)]; exact ⟨rfl,rfl⟩
theorem zeH {t w h : Nat} {b : Bd} (f : Fits t w h) (r : Rect w h b) : Rect w h (turn w h t b):=by
 have:=zfF t r
 rwa [(zen f).1,(zen f).2] at this
theorem zjy {t w h : Nat} {b : Bd} (f : Fits t w h) (r : Rect w h b) (hw : 0 < w) (hh : 0 < h) (x y : Int) : cell w h (turn w h t b) x y = cell w h b (ga t (x,y)).1 (ga t (x,y)).2:=by
 have c:=zen f
 unfold turn ga
 by_cases e : 4 ≤ t
 ·rw [if_pos e,if_pos e]
  have:=zem (t % 4) w h (mir b) x y (zej r) hw hh
  rw [c.1,c.2] at this
  rw [this,zkP r hw hh]
 ·rw [if_neg e,if_neg e]
  have:=zem (t % 4) w h b x y r hw hh
  rw [c.1,c.2] at this
  exact this

structure Deed where
 t : Nat
 a : Int
 b : Int
deriving DecidableEq
noncomputable def dn (w h : Nat) (B : Bd) (d : Deed) : Bd:=slid (turn w h d.t B) d.a d.b
noncomputable def tb (s t : Nat) : Nat:=((if 4 ≤ t then (t : Int) - s else (s : Int) + t) % 4).toNat + (if (decide (4 ≤ s)) != decide (4 ≤ t) then 4 else 0)
theorem zcp {w h : Nat} {B : Bd} {d : Deed} (f : Fits d.t w h) (r : Rect w h B) (hh : 0 < h) : Rect w h (dn w h B d):=zjw (zeH f r) hh _ _
theorem zfg {w h : Nat} {B : Bd} {d : Deed} (f : Fits d.t w h) (r : Rect w h B) (hw : 0 < w) (hh : 0 < h) (x y : Int) : cell w h (dn w h B d) x y = cell w h B (ga d.t (x - d.a,y - d.b)).1 (ga d.t (x - d.a,y - d.b)).2:=by
 unfold dn
 rw [zjx (zeH f r) hw hh,zjy f r hw hh]

end Internal.BM

end
section
set_option Elab.async false
set_option linter.all false
set_option maxRecDepth 100000
set_option maxHeartbeats 4000000
namespace Internal
open PySem PySem.Spec PyProof.Rows Internal.L2

noncomputable abbrev rowD (r : List Int) : D:=.tup (r.map D.int)
noncomputable abbrev bdD (b : Internal.BM.Bd) : D:=.tup (b.map rowD)
noncomputable abbrev intsD (r : List Int) : D:=.lst (r.map D.int)
section
variable {S : Stat} {Γ : List Sl} {pos p : Pos} {e a b : Expr} {tg : Expr} {α : Type} {l : List α} {f : α → D}
theorem zbR (h : JE S Γ a (.tup (l.map f))) (hm : S.mg "len" = none) (hg : S.sc.names.lookup ("len" : Str) = some .globalImplicit:=by ac_nf) (hs : ∀ env,starEach [a] env = [(false,eval a env)]:=by ac_rfl) : JE S Γ (.Call (.Name "len" p) [a] [] pos) (.int (l.length : Nat)) :=
 (znH h hm hg hs).cast (by rw [List.length_map])
theorem zbF (h : JE S Γ a (.lst (l.map f))) (hm : S.mg "len" = none) (hg : S.sc.names.lookup ("len" : Str) = some .globalImplicit:=by ac_nf) (hs : ∀ env,starEach [a] env = [(false,eval a env)]:=by ac_rfl) : JE S Γ (.Call (.Name "len" p) [a] [] pos) (.int (l.length : Nat)) :=
 (znI h hm hg hs).cast (by rw [List.length_map])
theorem atI_get {i : Int} (d : α) (h0 : 0 ≤ i) (h1 : i < (l.length : Nat)) : atI (l.map f) i = some (f (l.getD i.toNat d)):=by
 have hn : i.toNat < l.length:=by omega
 unfold atI ixN
 rw [List.length_map,if_pos h0,if_pos h1]
 show (l.map f)[i.toNat]? = _
 rw [List.getElem?_map,List.getElem?_eq_getElem hn,Internal.BM.getD_lt l _ d hn]
 rfl
theorem zbC {i : Int} (d : α) (ha : JE S Γ a (.tup (l.map f))) (hb : JE S Γ b (.int i)) (h0 : 0 ≤ i) (h1 : i < (l.length : Nat)) (hs : zcl b:=by ac_rfl) : JE S Γ (.Subscript a b pos) (f (l.getD i.toNat d)):=e_ixT ha hb (atI_get d h0 h1) hs
theorem zbM {i : Int} (d : α) (ha : JE S Γ a (.lst (l.map f))) (hb : JE S Γ b (.int i)) (h0 : 0 ≤ i) (h1 : i < (l.length : Nat)) (hs : zcl b:=by ac_rfl) : JE S Γ (.Subscript a b pos) (f (l.getD i.toNat d)):=e_ixL ha hb (atI_get d h0 h1) hs
theorem JW.cast {d d' : Bool} (h : JW S Γ e d) (q : d = d') : JW S Γ e d':=q ▸ h
noncomputable abbrev natD (i : Nat) : D:=.int (i : Nat)
theorem zmg (n : Nat) : zcu 0 n = (List.range n).map natD:=by
 unfold zcu; apply List.map_congr_left; intro i _; rw [Int.zero_add]
theorem zF {n : Nat} (h : JE S Γ a (.int (n : Nat))) (hm : S.mg "range" = none) (hn : n < 2 ^ 62) (hg : S.sc.names.lookup ("range" : Str) = some .globalImplicit:=by ac_nf) (hs : ∀ env,starEach [a] env = [(false,eval a env)]:=by ac_rfl) : JI S Γ tg (.Call (.Name "range" p) [a] [] pos) ((List.range n).map natD):=by
 have q:=znK (tg:=tg) (p:=p) (pos:=pos) h hm (by omega) hg hs
 rw [Int.toNat_natCast,zmg] at q
 exact q
theorem zdA (h : JE S Γ e (.tup (l.map f))) : JI S Γ tg e (l.map f):=i_tup h
theorem znT (h : JE S Γ e (.tup (l.map f))) (hm : S.mg "reversed" = none) (hg : S.sc.names.lookup ("reversed" : Str) = some .globalImplicit:=by ac_nf) (hs : ∀ env,starEach [e] env = [(false,eval e env)]:=by ac_rfl) : JI S Γ tg (.Call (.Name "reversed" p) [e] [] pos) (l.reverse.map f):=by
 rw [List.map_reverse]; exact i_rev h hm hg hs
end

theorem zfG : ∀ r r' : List Int,eqDs (r.map D.int) (r'.map D.int) = decide (r = r')
 | [],[]=>rfl
 | [],_ :: _=>rfl
 | _ :: _,[]=>rfl
 | a :: r,b :: r'=>by
  show (a == b && eqDs (r.map D.int) (r'.map D.int)) = _
  rw [zfG r r']
  by_cases h : a = b <;> by_cases h' : r = r' <;> simp [h,h']
theorem zfH (r r' : List Int) : eqD (intsD r) (intsD r') = decide (r = r'):=zfG r r'
noncomputable abbrev deedD (d : Internal.BM.Deed) : D:=.tup [natD d.t,.int d.a,.int d.b]
theorem zgu (n : Nat) (r r' : List Int) : CmpOk (n + 1) (intsD r) (intsD r'):=.inr (.inr ⟨_,_,rfl,rfl,fun j x y hx hy=>by
 rw [List.getElem?_map] at hx hy
 obtain ⟨a,_,rfl⟩:=Option.map_eq_some_iff.mp hx
 obtain ⟨b,_,rfl⟩:=Option.map_eq_some_iff.mp hy
 cases n with
 | zero=>exact ⟨rfl,rfl⟩
 | succ n=>exact .inl ⟨rfl,rfl⟩⟩)
section
variable {S : Stat} {Γ : List Sl} {pos : Pos} {a b : Expr}
end

open Internal.BM
structure BdIn (w h : Nat) (b : Bd) : Prop where
 r : Rect w h b
 w0 : 0 < w
 h0 : 0 < h
 w1 : w ≤ 1000
 h1 : h ≤ 1000
theorem BdIn.row0 {w h : Nat} {b : Bd} (q : BdIn w h b) : (b.getD 0 []).length = w:=by
 rw [getD_lt b 0 [] (by rw [q.r.len]; exact q.h0)]
 exact q.r.row _ (List.getElem_mem _)
theorem zjz {w h : Nat} {b : Bd} (q : BdIn w h b) : BdIn w h (mir b):=⟨zej q.r,q.w0,q.h0,q.w1,q.h1⟩
theorem zjA {w h : Nat} {b : Bd} (k : Nat) (q : BdIn w h b) : BdIn (curW k w h) (curW k h w) (qts k w h b):=⟨zel k w h b q.r,zdb q.w0 q.h0,zdb q.h0 q.w0,zdO q.w1 q.h1,zdO q.h1 q.w1⟩
theorem zhP {w h : Nat} {b : Bd} (t : Nat) (q : BdIn w h b) : BdIn (curW (t % 4) w h) (curW (t % 4) h w) (turn w h t b):=⟨zfF t q.r,zdb q.w0 q.h0,zdb q.h0 q.w0,zdO q.w1 q.h1,zdO q.h1 q.w1⟩
theorem dn_in {w h : Nat} {b : Bd} {d : Deed} (f : Fits d.t w h) (q : BdIn w h b) : BdIn w h (dn w h b d):=⟨zcp f q.r q.h0,q.w0,q.h0,q.w1,q.h1⟩
theorem zkQ {α : Type} (l : List α) (f : α → Int) : rowD (l.map f) = .tup (l.map fun x=>.int (f x)):=by rw [rowD,List.map_map]; rfl
theorem m8 (c : Int) (n : Nat) (hn : 0 < n) : ∃ w : Nat,1 + c % (n : Int) = (w : Int) ∧ 1 ≤ w ∧ w ≤ n:=by
 have h1:=Int.emod_nonneg c (show (n : Int) ≠ 0 by omega)
 have h2:=Int.emod_lt_of_pos c (show (0 : Int) < n by omega)
 exact ⟨(1 + c % (n : Int)).toNat,by omega,by omega,by omega⟩
end Internal

end
section
set_option Elab.async false
set_option linter.all false
set_option maxRecDepth 100000
set_option maxHeartbeats 4000000
namespace Internal
open PySem PySem.Spec PyProof.Rows Internal.L2

section
variable {X : Cx}
theorem zfI : ∀ {ts : List Str} {us : List Value},Vals (ts.map V.str) us → ∃ l,us = strValues l ∧ l.map (·.1) = ts
 | [],_,.nil=>⟨[],rfl,rfl⟩
 | t :: ts,_,.cons r h=>by
  obtain ⟨k,rfl⟩:=r
  obtain ⟨l,rfl,e⟩:=zfI h
  exact ⟨(t,k) :: l,rfl,by rw [List.map_cons,e]⟩
theorem zmh : MtR X "str.join" (fun x xs H Q=>∃ sep p ts,x = .str sep ∧ xs = [.ref p] ∧ SqL X.K H p (ts.map V.str) ∧ JoinOk sep ts = true ∧ Q (.str (Str.join sep ts)) H):=by
 intro pins s σ H x vs v us Q I rx rv h
 obtain ⟨sep,p,ts,rfl,rfl,sq,ok,q⟩:=h
 obtain ⟨t,rfl⟩:=rx
 obtain ⟨u,rfl,ru⟩:=rv.one
 cases ru
 obtain ⟨its,rvs,pl,_⟩:=I.list sq
 obtain ⟨l,rfl,el⟩:=zfI rvs
 refine SC.join pl.isList el ok fun t' k=>⟨.str (Str.join sep ts),H,I.tok k,⟨t',?_⟩,q⟩
 show Value.str (Builtin.Str.glued sep ts) t' = _
 rw [StrLaws.glued_eq_join]
noncomputable def chD (c : Nat) : D:=.str ⟨#[c]⟩

noncomputable def Its (x : Str) : It:=⟨fun i _=>i < x.cps.size,fun i H y H'=>H' = H ∧ ∃ c,x.cps[i]? = some c ∧ y = .str ⟨#[c]⟩,fun i _=>x.cps.size ≤ i⟩
theorem zgv {P : Program} {w : World} {K : PySem.W.Frag} {tg : Expr} (it : Addr) (x : Str) (t : Tok) (wd : Bool) : Turn P w K tg (Its x) [it] it (fun i h=>i ≤ x.cps.size ∧ h.IsStrIter it (if wd then "str_iterator" else "str_ascii_iterator") x t i) where
 mem:=by simp
 obj:=fun i h st b hb=>by
  have e : b = it:=by simpa using hb
  subst e
  obtain ⟨_,o,e,c,d⟩:=st
  exact ⟨o,e,fun v z=>by rw [d] at z; cases z⟩
 keep:=fun i h h' st k=>let ⟨z,o,e,r⟩:=st; ⟨z,o,k it (by simp) o e,r⟩
 item:=by
  intro X hP hw hK hc i pins s σ H E I hf st hg
  subst hP hw hK
  obtain ⟨hz,st⟩:=st
  obtain ⟨f0,f1,f2,f3,f4,f5⟩:=hf it (by simp)
  have hi : i < x.cps.size:=hg
  have go : ∀ (h' : Heap) (tk : Tok),h'.IsStrIter it (if wd then "str_iterator" else "str_ascii_iterator") x t (i + 1) → (∀ b o,b ≠ it → s.heap.get? b = some o → h'.get? b = some o) →
    ∃ u,some (Value.str ⟨#[x.cps[i]]⟩ tk) = some u ∧ wpAny (model X.prog X.w) X.A (letOwnedTupleGo tg (.ref it) u) (fun _ s2=>∃ y H',Internal.L2.Inv X pins σ H' s2 ∧ RelV y u ∧ (Its x).yld i H y H' ∧ (i + 1 ≤ x.cps.size ∧ s2.heap.IsStrIter it (if wd then "str_iterator" else "str_ascii_iterator") x t (i + 1)) ∧ ∀ b ∈ [it],H' b = none) E { s with heap:=h',toks:=s.toks + 1 }:=by
   intro h' tk st' kk
   have I1 : Internal.L2.Inv X pins σ H { s with heap:=h',toks:=s.toks + 1 }:=I.turned (fun b o hb e=>kk b o hb e) f0 f1 f3 f4 f5
   obtain ⟨o,e,c,d⟩:=id st'
   refine ⟨_,rfl,go_of (s:={ s with heap:=h',toks:=s.toks + 1 }) e c d (by cases wd <;> decide) ⟨.str ⟨#[x.cps[i]]⟩,H,I1,⟨tk,rfl⟩,⟨rfl,x.cps[i],by simp [hi],rfl⟩,⟨hi,st'⟩,fun b hb=>(hf b hb).1⟩⟩
  cases wd with
  | true=>exact wpAny_pyNext_wide_item st (c:=x.cps[i]) (by simp [hi]) fun h' st' sb=>go h' _ st' fun b o hb e=>(sb.2 b hb).trans e
  | false=>exact wpAny_pyNext_ascii_item st (c:=x.cps[i]) (by simp [hi]) fun h' st' sb=>go h' _ st' fun b o hb e=>(sb.2 b hb).trans e
 done:=by
  intro X hP hw hK hc i pins s σ H E I hf st hg
  subst hP hw hK
  obtain ⟨hz,st⟩:=st
  have hg' : x.cps.size ≤ i:=hg
  have hi : i = x.cps.size:=Nat.le_antisymm hz hg'
  obtain ⟨f0,f1,f2,f3,f4,f5⟩:=hf it (by simp)
  subst hi
  cases wd with
  | true=>exact wpAny_pyNext_wide_end (I.ok.hd hc) st (by simp) fun h' eb=>⟨rfl,I.turned (t':=s.toks) (fun b o hb e=>eb b o hb e) f0 f1 f3 f4 f5⟩
  | false=>exact wpAny_pyNext_ascii_end (I.ok.hd hc) st (by simp) fun h' eb=>⟨rfl,I.turned (t':=s.toks) (fun b o hb e=>eb b o hb e) f0 f1 f3 f4 f5⟩
 self:=fun _ _ _ _ _ st h=>by
  obtain ⟨_,st⟩:=st
  cases wd with
  | true=>exact wpAny_pyIter_striter_wide st h
  | false=>exact wpAny_pyIter_striter_ascii st h
noncomputable def iStr (te : TE) : TI:=fun σ H R=>te σ H fun y H1=>∃ x,y = .str x ∧ R (Its x) H1
theorem znU {tg e : Expr} {te : TE} (he : PE X e te) : PI X tg e (iStr te):=by
 intro pins s σ H R I h
 refine thn (he pins s σ H _ I h) fun v s1 hP45=>?_
 obtain ⟨y,H1,I1,r1,q1⟩:=hP45
 obtain ⟨x,rfl,q⟩:=q1
 obtain ⟨t,rfl⟩:=r1
 have fp : ∀ b ∈ [s1.heap.objs.size],FpOk X pins H1 b:=fun b hb=>by
  have e : b = s1.heap.objs.size:=by simpa using hb
  subst e
  exact I1.fpOk (Nat.le_refl _) (I1.hok.fresh (Nat.le_refl _))
 cases ha : x.cps.all (· < 128) with
 | true =>
  refine wpAny_pyIter_ascii ha ⟨s1.heap.objs.size,[s1.heap.objs.size],_,_,H1,rfl,I1.kept (t':=s1.toks) fun b o e=>Heap.get?_push_of_some _ e,zgv _ x t false,⟨Nat.zero_le _,_,Heap.get?_push_size _ rfl,rfl,rfl⟩,fp,q⟩
 | false =>
  refine wpAny_pyIter_wide ha ⟨s1.heap.objs.size,[s1.heap.objs.size],_,_,H1,rfl,I1.kept (t':=s1.toks) fun b o e=>Heap.get?_push_of_some _ e,zgv _ x t true,⟨Nat.zero_le _,_,Heap.get?_push_size _ rfl,rfl,rfl⟩,fp,q⟩
end
section
variable {S : Stat} {Γ : List Sl} {E : DEnds} {pos p p' apos cpos : Pos} {e a b o : Expr} {tg : Expr}
theorem i_str {x : Str} (h : JE S Γ e (.str x)) : JI S Γ tg e (x.cps.toList.map chD):=⟨iStr (dE S.K Γ (.str x)),fun X o=>znU (h X o),fun σ H R χ r q=>⟨χ,r,fun v H' e' rv=>by
 cases (show v = _ from rv)
 refine ⟨x,rfl,q _ H' e' fun χ2 H2 e2=>⟨fun i d hd=>?_,?_⟩⟩
 ·rw [List.getElem?_map] at hd
  obtain ⟨c,hc,rfl⟩:=Option.map_eq_some_iff.mp hd
  have hc' : x.cps[i]? = some c:=by rw [← Array.getElem?_toList]; exact hc
  refine ⟨(Array.getElem?_eq_some_iff.mp hc').1,fun y H3 ⟨e3,c',h1,h2⟩=>⟨e3,?_⟩⟩
  rw [hc'] at h1
  cases h1
  exact h2
 ·rw [List.length_map,Array.length_toList]; exact Nat.le_refl _⟩⟩
theorem znV {i j : Str} (ha : JE S Γ a (.str i)) (hb : JE S Γ b (.str j)) (hl : i.length + j.length ≤ sizeLine) : JE S Γ (.BinOp a .Add b pos) (.str (i ++ j)):=e_op (fun _ _=>ziy) ha hb fun _ H _ _ _ _ rx ry q=>⟨i,j,rx,ry,hl,q _ H (Same.refl H) rfl⟩
theorem e_ixS {x : Str} {i : Int} {c : Nat} (ha : JE S Γ a (.str x)) (hb : JE S Γ b (.int i)) (h : atI x.cps.toList i = some c) (hx : x.length ≤ sizeLine) (hs : zcl b:=by ac_rfl) : JE S Γ (.Subscript a b pos) (chD c):=.mk fun X o =>
 zq (pe_ix znC (ha X o) (hb X o) hs) (zcn fun χ H x' y Q _ rx ry q=>⟨x,i,c,rx,ry,hx,h,q _ H (Same.refl H) rfl⟩)
theorem zhQ (x : Str) (c : Nat) : (!(Builtin.Str.occurrences x ⟨#[c]⟩ 0 x.length 1).isEmpty) = decide (c ∈ x.cps.toList):=StrLaws.found_one x c
theorem t_inS {x : Str} {c : Nat} (ha : JE S Γ a (chD c)) (hb : JE S Γ b (.str x)) (hm : behindInMarks .In b = false:=by rfl) : JT S Γ (.Compare a [.In] [b] pos) (decide (c ∈ x.cps.toList)) :=
 t_cmp (fun _ _=>zjg) ha hb hm fun _ H x' y _ _ rx ry q=>⟨⟨#[c]⟩,x,rx,ry,by rw [zhQ]; exact q _ H (Same.refl H) rfl⟩
theorem zfJ {K : PySem.W.Frag} {H : Hp} : ∀ {ts : List Str} {vs : List V},Reps K H (ts.map D.str) vs → vs = ts.map V.str
 | [],_,h=>h
 | t :: ts,_,⟨v,r,e,rv,rs⟩=>by rw [e,show v = .str t from rv,zfJ rs]; rfl
theorem znW {sep : Str} {ts : List Str} (ho : JE S Γ o (.str sep)) (ha : JE S Γ e (.lst (ts.map D.str))) (ok : JoinOk sep ts = true) (hbase : ∀ env,attributeBase o "join" env (eval o env) = eval o env:=by ac_rfl)
  (hfew : ∀ env,((backTo cpos (starEach [e] env)).all (fun x=>!x.1) && (backToKw cpos (keywordEach [] env)).all (fun x=>x.1.isSome)
   && decide ([e].length + ([] : List Keyword).length + (if ([] : List Keyword).isEmpty then 0 else 1) < 30)) = true:=by ac_rfl)
  (hline : (apos.endLine == cpos.line) = true:=by rfl) (hs : ∀ env,starEach [e] env = [(false,eval e env)]:=by ac_rfl) : JE S Γ (.Call (.Attribute o "join" apos) [e] [] cpos) (.str (Str.join sep ts)):=.mk fun X oo =>
 zq (pe_bm PySem.F.plainAttrs_str PySem.F.slot_str_join PySem.F.type_str_join zmh (ho X oo) ((zb ha a_nil hs) X oo) (hbase X.env) (hfew X.env) hline (hs X.env)) fun σ H Q ⟨χ,R,q⟩=>⟨χ,R,fun v H1 e1 rv=>by
  cases (show v = _ from rv)
  refine ⟨rfl,χ,R.mono e1,fun ws H2 e2 rws=>?_⟩
  obtain ⟨v,rfl,ad,vs,rfl,sq,rs⟩:=reps1 rws
  cases (zfJ rs)
  refine ⟨sep,ad,ts,rfl,rfl,?_,ok,q _ H2 (e1.trans e2) rfl⟩
  rw [oo.K]; exact Same.seq zm sq⟩

theorem znX {X : Cx} {pins : List (Addr × Obj)} {σ : Internal.L2.St} {H : Hp} {s : Shared} {xe : Value → Shared → Prop} (I : Internal.L2.Inv X pins σ H s) : Internal.L2.Inv { X with xe:=xe } pins σ H s :=
 ⟨⟨I.ok.mod,I.ok.kind,I.ok.glob,I.ok.blt,I.ok.above,I.ok.inj,I.ok.has,I.ok.cab,I.ok.hd,I.ok.frames,I.ok.stk,I.ok.exf,I.ok.bs,I.ok.bsz,I.ok.noex,I.ok.exfs,I.ok.funs,I.ok.frf⟩,I.os,I.bare,I.base,I.loc,I.cell,I.free,I.freeC,I.pin,I.hok,I.len⟩
theorem of_xe {X : Cx} {xe : Value → Shared → Prop} (o : S.Of X) (h : PassesOwn (model X.prog X.w) X.A X.env xe) : S.Of { X with xe:=xe }:=⟨o.prog,o.w,o.K,o.mg,o.base,o.N,o.sc,o.room,o.calm,h,o.fn,o.stk⟩
end
end Internal

end
section
set_option Elab.async false
set_option linter.all false
set_option maxRecDepth 100000
set_option maxHeartbeats 4000000
namespace Internal
open PySem PySem.Spec PyProof.Rows Internal.L2

noncomputable def sl (l : List Nat) : Str:=⟨l.toArray⟩
theorem zeI (l : List Nat) : (sl l).cps.toList = l:=by simp [sl]
theorem zgw (l : List Nat) : (sl l).length = l.length:=by simp [sl,Str.length]
theorem zgx (a b : List Nat) : sl a ++ sl b = sl (a ++ b):=StrLaws.mk_of_toList (by rw [Str.cps_append]; simp [sl])
theorem joinE (ls : List (List Nat)) : Str.join (sl []) (ls.map sl) = sl ls.flatten:=by
 induction ls with
 | nil=>rfl
 | cons x r ih =>
  cases r with
  | nil=>show sl x = _; simp
  | cons y r =>
   show sl x ++ sl [] ++ Str.join (sl []) ((y :: r).map sl) = _
   rw [ih,zgx,zgx]; simp
theorem zmi {sep : Str} {ts : List Str} {B : Nat} (hB : ∀ y ∈ ts,y.length ≤ B) (h : ts.length * B + ts.length * sep.length ≤ 16777216) : JoinOk sep ts = true:=by
 unfold JoinOk
 rw [StrLaws.joinFits hB h]; rfl

section
variable {S : Stat} {Γ : List Sl} {pos p2 : Pos} {a b : Expr}
theorem same_none {H H' : Hp} (e : Same H H') {l : Addr} (h : H' l = none) : H l = none:=by
 cases c : H l with
 | none=>rfl
 | some o=>rw [e _ _ c] at h; cases h
theorem zhR {χ : Addr → Bool} {H : Hp} {l : Addr} {o : HO} (h : H l = none) : Same (hidB χ H) (hidB (fun b=>χ b || b == l) (upd H l o)):=fun b u q=>by
 obtain ⟨c1,c2⟩:=zr q
 have hne : b ≠ l:=zE c2 h
 exact zy (by rw [c1,Bool.false_or]; simpa using hne) (by rw [zp hne]; exact c2)
end

end Internal

end
section
set_option Elab.async false
set_option linter.all false
set_option maxRecDepth 100000
set_option maxHeartbeats 4000000
namespace Internal
open PySem PySem.Spec PyProof.Rows Internal.L2

mutual
noncomputable def noL : D → Bool
 | .lst _=>false
 | .tup ds=>noLs ds
 | _=>true
noncomputable def noLs : List D → Bool
 | []=>true
 | d :: ds=>noL d && noLs ds
end
mutual
theorem zhS {K : PySem.W.Frag} {χ χ' : Addr → Bool} {H : Hp} (h : ∀ b o,(∀ xs,o ≠ .lst xs) → hidB χ' H b = some o → χ b = false) : ∀ (d : D) {v : V},noL d = true → Rep K (hidB χ' H) d v → Rep K (hidB χ H) d v
 | .non,_,_,r=>r
 | .bl _,_,_,r=>r
 | .int _,_,_,r=>r
 | .str _,_,_,r=>r
 | .lst _,_,n,_=>nomatch n
 | .tup ds,v,n,⟨a,vs,e1,e2,r⟩=>by
  exact ⟨a,vs,e1,zy (h a _ (fun _ z=>by cases z) e2) (zr e2).2,zgy h ds n r⟩
 | .dcI _,v,_,⟨a,o,e1,e2,es,ep,k1,k2,k3⟩=>⟨a,o,e1,zy (h a _ (fun _ z=>by cases z) e2) (zr e2).2,es,ep,k1,k2,fun i k v q=>by
   obtain ⟨en,b,a1,a2,a3⟩:=k3 i k v q
   exact ⟨en,b,a1,a2,zy (h b _ (fun _ z=>by cases z) a3) (zr a3).2⟩⟩
theorem zgy {K : PySem.W.Frag} {χ χ' : Addr → Bool} {H : Hp} (h : ∀ b o,(∀ xs,o ≠ .lst xs) → hidB χ' H b = some o → χ b = false) : ∀ (ds : List D) {vs : List V},noLs ds = true → Reps K (hidB χ' H) ds vs → Reps K (hidB χ H) ds vs
 | [],_,_,r=>r
 | d :: ds,_,n,⟨v,r,e,h1,h2⟩=>by
  have n' : noL d = true ∧ noLs ds = true:=by
   have : (noL d && noLs ds) = true:=n
   simpa using this
  exact ⟨v,r,e,zhS h d n'.1 h1,zgy h ds n'.2 h2⟩
end

noncomputable def unh (χ : Addr → Bool) (p : Addr) : Addr → Bool:=fun b=>χ b && !(b == p)
theorem zeo {χ : Addr → Bool} {p : Addr} {H : Hp} : Same (hidB χ H) (hidB (unh χ p) H):=fun b o h=>by
 obtain ⟨c1,c2⟩:=zr h
 exact zy (by unfold unh; rw [c1]; rfl) c2
theorem RE.lend {K : PySem.W.Frag} {χ : Addr → Bool} {H : Hp} {σ : Internal.L2.St} {Γ : List Sl} (r : RE K χ H σ Γ) {i : Nat} {a : Bool} {ds : List D} (hi : Γ[i]? = some (.li a ds)) :
  ∃ p vs,H p = some (.lst vs) ∧ χ p = true ∧ RE K (unh χ p) H σ (Γ.set i (.val (.lst ds))):=by
 obtain ⟨p,vs,h1,h2,h3,h4⟩:=r.ownL i a ds hi
 have hlt:=(List.getElem?_eq_some_iff.mp hi).1
 refine ⟨p,vs,h3,h2,⟨fun b hb=>?_,by rw [List.length_set]; exact r.len,fun j d hj=>?_,fun j a2 es hj=>?_,fun j j' b b' es es' q a1 a2 a3 a4=>?_⟩⟩
 ·refine r.live b ?_
  unfold unh at hb
  rw [Bool.and_eq_true] at hb
  exact hb.1
 ·by_cases e : i = j
  ·subst e
   rw [List.getElem?_set_self hlt] at hj
   cases hj
   exact ⟨.ref p,h1,p,vs,rfl,SqL.of (zy (by unfold unh; simp) h3),Reps.mono zeo _ h4⟩
  ·rw [List.getElem?_set_ne e] at hj
   obtain ⟨v,ev,rv⟩:=r.val j d hj
   exact ⟨v,ev,rv.mono zeo d⟩
 ·by_cases e : i = j
  ·subst e
   rw [List.getElem?_set_self hlt] at hj
   cases hj
  ·rw [List.getElem?_set_ne e] at hj
   obtain ⟨q,ws,b1,b2,b3,b4⟩:=r.own j a2 es hj
   have hne : q ≠ p:=fun z=>by
    subst z
    exact e (r.inj i j a a2 _ es q hi hj h1 b1)
   exact ⟨q,ws,b1,by unfold unh; rw [b2]; simpa using hne,b3,CRep.mono zeo _ b4⟩
 ·have ne : ∀ {k : Nat} {c : Bool} {fs : Ct},(Γ.set i (.val (.lst ds)))[k]? = some (.ll c fs) → i ≠ k:=fun {k c fs} h z=>by
   subst z
   rw [List.getElem?_set_self hlt] at h
   cases h
  have n1:=ne a1
  have n2:=ne a2
  rw [List.getElem?_set_ne n1] at a1
  rw [List.getElem?_set_ne n2] at a2
  exact r.inj j j' b b' es es' q a1 a2 a3 a4
theorem zjB {χ : Addr → Bool} {p : Addr} {H : Hp} {vs : List V} (hp : H p = some (.lst vs)) : ∀ b o,(∀ xs,o ≠ .lst xs) → hidB (unh χ p) H b = some o → χ b = false:=fun b o hn h=>by
 obtain ⟨c1,c2⟩:=zr h
 by_cases e : b = p
 ·subst e
  rw [hp] at c2
  cases c2
  exact (hn _ rfl).elim
 ·unfold unh at c1
  have : (b == p) = false:=by simpa using e
  rw [this] at c1
  simpa using c1
section
variable {S : Stat} {Γ : List Sl} {e : Expr}
theorem e_bor (i : Nat) {a : Bool} {ds : List D} {d : D} (hi : Γ[i]? = some (.li a ds)) (h : JE S (Γ.set i (.val (.lst ds))) e d) (nl : noL d = true) : JE S Γ e d:=.mk fun X o=>zq (h X o) fun σ H Q hP46=>by
 obtain ⟨χ,R,q⟩:=hP46
 obtain ⟨p,vs,hp,_,R'⟩:=R.lend hi
 exact ⟨unh χ p,R',fun v H' e' rv=>q v H' e' (zhS (zjB (e' _ _ hp)) d nl rv)⟩
end
end Internal

end
section
set_option Elab.async false
set_option linter.all false
set_option maxRecDepth 100000
set_option maxHeartbeats 4000000
namespace Internal
open PySem PySem.Spec PyProof.Rows Internal.L2

noncomputable def zjC : Stmt → Expr
 | .While t _ _ _=>t
 | _=>.Constant .none 0 ⟨0,0,0,0⟩
noncomputable def zmj : Stmt → List Stmt
 | .For _ _ b _ _=>b
 | _=>[]

noncomputable def spFr {α : Type} (enc : α → List D) (dom : α → Prop) (res : α → List D) (K : PySem.W.Frag) : Sp:=fun vs H Q _=>∃ (χ : Addr → Bool) (u : α),(∀ p,χ p = true → ∃ o : HN,H p = some o.1) ∧ Reps K (hidB χ H) (enc u) vs ∧ dom u ∧
 ∀ l ws H',H l = none → Same H H' → H' l = some (.lst ws) → Reps K (hidB (fun b=>χ b || b == l) H') (res u) ws → Q (.ref l) H'
section
variable {P : Program} {w : World} {K : PySem.W.Frag} {mg : Str → Option Value} {base : Heap} {α : Type} {enc : α → List D} {dom : α → Prop} {res : α → List D}
theorem zmk {χ : Addr → Bool} {ω : Addr → Option (Bool × Nat)} {l : Addr} {H : Hp} : Same (hidB (fun b=>both χ ω b || b == l) H) (hidB (fun b=>χ b || b == l) H):=fun b o h=>by
 obtain ⟨c1,c2⟩:=zr h
 refine zy ?_ c2
 cases c : χ b with
 | true=>unfold both at c1; rw [c] at c1; simp at c1
 | false =>
  rw [Bool.false_or]
  cases c3 : (b == l) with
  | false=>rfl
  | true=>rw [c3] at c1; simp at c1
theorem zbX {x : Str} {st : Stmt} {N ps : List Str} {k : Nat} (F : Def K mg x st ps) (Sc : FnScope N ps (zc st)) (hlen : ∀ u,dom u → (enc u).length = ps.length)
  (hb : ∀ u,dom u → JB ⟨P,w,K,mg,base,k,N,zc st,true⟩ (startΓ N (enc u)) (zf st) { nx:=fun _=>False,rt:=fun _ _=>False,rf:=fun ds _=>ds = res u }) : FnAt P w K mg base (k + 1) x ps (spFr enc dom res K):=by
 obtain ⟨f,fd,F,b,m⟩:=F
 refine ⟨f,fd,m,F.kp,b,F.ok Sc (fun vs H Q E h=>?_) (fun cdv A outer s H vs Q E hr h=>?_)⟩
 ·obtain ⟨χ,u,_,r,hd,_⟩:=h
  rw [r.len,hlen u hd]
 ·obtain ⟨χ,u,hl,r,hd,q⟩:=h
  refine ⟨_,hb u hd _ ⟨rfl,rfl,rfl,rfl,rfl,rfl,rfl,hr,rfl,PassesOwn.never,fun _ _=>rfl,fun _=>⟨rfl,rfl⟩⟩,χ,fun _=>none,zei hl r,?_,?_,?_,?_,?_⟩
  ·intro _ _ _ _ h; exact h.elim
  ·intro _ _ _ _ _ _ h; exact h.elim
  ·intro _ _ _ _ h; exact h.elim
  ·intro _ _ _ _ h; exact h.elim
  ·intro ω' σ' l vs' H' ds Γ' hds _ k hl' hv rs
   cases (show ds = res u from hds)
   rcases hl' with ⟨j,hj⟩ | hl'
   ·cases hj
   ·exact q l vs' H' hl' (zcR k) hv (Reps.mono zmk _ rs)
theorem f_fn {S : Stat} {Γ : List Sl} {ps : List Str} {x : Str} {p pos : Pos} {e : Expr} {es : List Expr} {j : Nat} (F : FnAt S.P S.w S.K S.mg S.base j x ps (spFr enc dom res S.K)) (u : α) (ha : JA S Γ (e :: es) (enc u)) (hd : dom u) (hj : j ≤ S.k:=by exact Nat.le_of_ble_eq_true rfl)
  (hg : S.sc.names.lookup x = some .globalImplicit:=by ac_nf) (hdb : (x == ("__debug__" : Str)) = false:=by ac_nf)
  (he : ∀ env,starEach (e :: es) env = (false,eval e env) :: starEach es env:=by ac_rfl) (hpl : ∀ env,(backTo pos (starEach es env)).any (·.1) = false:=by ac_rfl) : JF S Γ (.Call (.Name x p) (e :: es) [] pos) (res u):=.mk fun X o=>by
 obtain ⟨f,fd,m,kp,b,F⟩:=F
 have F' : FnOk X.prog X.w X.K X.mg X.base CX0 j f fd ps (spFr enc dom res S.K):=by rw [o.prog,o.w,o.K,o.mg,o.base]; exact F
 refine zq (zfb F' (o.room.mono hj) (gl_of o hg) (by rw [o.mg]; exact m) (by rw [o.K]; exact kp) (by rw [o.K]; exact b) .nil pass0 (ha X o) hdb (he X.env) (hpl X.env)) fun σ H Q ⟨χ,R,q⟩=>⟨χ,R,fun vs H1 e1 rvs=>?_⟩
 show spFr enc dom res S.K (vs ++ []) H1 Q E0
 rw [List.append_nil]
 exact ⟨χ,u,(R.mono e1).live,rvs,hd,fun l ws H' hl e2 hv rs=>q l ws H' (same_none e1 hl) (e1.trans e2) hv rs⟩

theorem e_fnr {S : Stat} {Γ : List Sl} {ps : List Str} {x : Str} {p pos : Pos} {e : Expr} {es : List Expr} {j : Nat} (F : FnAt S.P S.w S.K S.mg S.base j x ps (spFr enc dom res S.K)) (u : α) (ha : JA S Γ (e :: es) (enc u)) (hd : dom u) (hj : j ≤ S.k:=by exact Nat.le_of_ble_eq_true rfl)
  (hg : S.sc.names.lookup x = some .globalImplicit:=by ac_nf) (hdb : (x == ("__debug__" : Str)) = false:=by ac_nf)
  (he : ∀ env,starEach (e :: es) env = (false,eval e env) :: starEach es env:=by ac_rfl) (hpl : ∀ env,(backTo pos (starEach es env)).any (·.1) = false:=by ac_rfl) : JE S Γ (.Call (.Name x p) (e :: es) [] pos) (.lst (res u)):=(f_fn F u ha hd hj hg hdb he hpl).je
end

noncomputable def But (p : Addr) (H H' : Hp) : Prop:=∀ b o,b ≠ p → H b = some o → H' b = some o
noncomputable def spM {α : Type} (enc : α → List D) (ow : α → List D) (dom : α → Prop) (ow' : α → List D) (res : α → D) (K : PySem.W.Frag) : Sp:=fun vs H Q _=>∃ (χ : Addr → Bool) (u : α) (vs' : List V) (p : Addr) (ws : List V),(∀ p,χ p = true → ∃ o : HN,H p = some o.1) ∧ vs = vs' ++ [.ref p] ∧
 Reps K (hidB χ H) (enc u) vs' ∧ χ p = true ∧ H p = some (.lst ws) ∧ Reps K (hidB χ H) (ow u) ws ∧ dom u ∧ ∀ v ws' H',But p H H' → H' p = some (.lst ws') → Reps K (hidB χ H') (ow' u) ws' → Rep K (hidB χ H') (res u) v → Q v H'
noncomputable def startM (N : List Str) (ds ow : List D) : List Sl:=ds.map Sl.val ++ (Sl.arg ow :: List.replicate (N.length - ds.length - 1) Sl.no)
section
variable {P : Program} {w : World} {K : PySem.W.Frag} {mg : Str → Option Value} {base : Heap} {α : Type} {enc ow ow' : α → List D} {dom : α → Prop} {res : α → D}
theorem zkR {N : List Str} {χ : Addr → Bool} {H : Hp} {ds os : List D} {vs ws : List V} {p : Addr} (hn : ds.length < N.length) (hl : ∀ p,χ p = true → ∃ o : HN,H p = some o.1) (r : Reps K (hidB χ H) ds vs) (hp : χ p = true) (hH : H p = some (.lst ws)) (ro : Reps K (hidB χ H) os ws) :
  RS K (unh χ p) (fun b=>if b = p then some (true,ds.length) else none) H (Internal.L2.start N (vs ++ [.ref p])) (startM N ds os) ∧ both (unh χ p) (fun b=>if b = p then some (true,ds.length) else none) = χ:=by
 have eb : both (unh χ p) (fun b=>if b = p then some (true,ds.length) else none) = χ:=by
  funext b
  unfold both unh
  by_cases e : b = p
  ·subst e; simp [hp]
  ·have : (b == p) = false:=by simpa using e
   dsimp only
   rw [this,if_neg e]; simp
 have vl:=r.len
 have et : Internal.L2.start N (vs ++ [.ref p]) = vs.map some ++ (some (.ref p) :: List.replicate (N.length - ds.length - 1) none):=by
  unfold Internal.L2.start
  rw [List.map_append,List.append_assoc,List.length_append,vl]
  congr 1
 refine ⟨⟨by rw [eb]; exact hl,?_,fun i d h=>?_,fun i a es h=>?_,fun b b' i h1 h2=>?_⟩,eb⟩
 ·rw [et]; unfold startM
  simp [vl]
 ·rw [et,eb]
  unfold startM at h
  by_cases hi : i < ds.length
  ·rw [List.getElem?_append_left (by rw [List.length_map]; exact hi),List.getElem?_map] at h
   obtain ⟨d',hd',e⟩:=Option.map_eq_some_iff.mp h
   cases e
   obtain ⟨v,ev,rv⟩:=r.get hd'
   refine ⟨v,?_,rv⟩
   rw [List.getElem?_append_left (by rw [List.length_map,vl]; exact hi),List.getElem?_map,ev]; rfl
  ·rw [List.getElem?_append_right (by rw [List.length_map]; omega),List.length_map] at h
   cases q : i - ds.length with
   | zero=>rw [q] at h; cases h
   | succ m =>
    rw [q,List.getElem?_cons_succ,List.getElem?_replicate] at h
    split at h <;> cases h
 ·rw [et,eb]
  unfold startM at h
  by_cases hi : i < ds.length
  ·rw [List.getElem?_append_left (by rw [List.length_map]; exact hi),List.getElem?_map] at h
   obtain ⟨d',hd',e⟩:=Option.map_eq_some_iff.mp h
   cases e
  ·rw [List.getElem?_append_right (by rw [List.length_map]; omega),List.length_map] at h
   cases q : i - ds.length with
   | zero =>
    rw [q] at h
    cases h
    have hi' : i = ds.length:=by omega
    subst hi'
    refine ⟨p,_,?_,by rw [if_pos rfl],by unfold unh; simp,hH,ws,rfl,ro⟩
    rw [List.getElem?_append_right (by rw [List.length_map,vl]; exact Nat.le_refl _),List.length_map,vl,Nat.sub_self]; rfl
   | succ m =>
    rw [q,List.getElem?_cons_succ,List.getElem?_replicate] at h
    split at h <;> cases h
 ·have g : ∀ c,(if c = p then some (true,ds.length) else none) = some (true,i) → c = p:=fun c h=>by
   by_cases e : c = p
   ·exact e
   ·rw [if_neg e] at h; cases h
  rw [g b h1,g b' h2]
theorem znY {x : Str} {st : Stmt} {N ps : List Str} {k : Nat} (F : Def K mg x st ps) (Sc : FnScope N ps (zc st)) (hlen : ∀ u,dom u → (enc u).length + 1 = ps.length) (hN : ps.length ≤ N.length)
  (hb : ∀ u,dom u → JB ⟨P,w,K,mg,base,k,N,zc st,true⟩ (startM N (enc u) (ow u)) (zf st) { nx:=fun Γ'=>res u = .non ∧ Γ'[(enc u).length]? = some (.arg (ow' u)),rt:=fun d Γ'=>d = res u ∧ Γ'[(enc u).length]? = some (.arg (ow' u)) }) : FnAt P w K mg base (k + 1) x ps (spM enc ow dom ow' res K):=by
 obtain ⟨f,fd,F,b,m⟩:=F
 refine ⟨f,fd,m,F.kp,b,F.ok Sc (fun vs H Q E h=>?_) (fun cdv A outer s H vs Q E hr h=>?_)⟩
 ·obtain ⟨χ,u,vs',p,ws,_,rfl,r,_,_,_,hd,_⟩:=h
  rw [List.length_append,r.len,List.length_singleton,hlen u hd]
 ·obtain ⟨χ,u,vs',p,ws,hl,rfl,r,hp,hH,ro,hd,q⟩:=h
  obtain ⟨RM,eb⟩:=zkR (N:=N) (by have:=hlen u hd; omega) hl r hp hH ro
  have fin : ∀ {ω' : Addr → Option (Bool × Nat)} {σ' : Internal.L2.St} {H' : Hp} {Γ' : List Sl} {v : V},RS K (unh χ p) ω' H' σ' Γ' → Kp (unh χ p) (fun b=>if b = p then some (true,(enc u).length) else none) H ω' H' → Γ'[(enc u).length]? = some (.arg (ow' u)) → Rep K (hidB (both (unh χ p) ω') H') (res u) v → Q v H':=by
   intro ω' σ' H' Γ' v R k hΓ rv
   obtain ⟨p',vs2,_,h2,_,h4,h5⟩:=R.ownL _ true _ hΓ
   have hp' : ω' p = some (true,(enc u).length):=k.arg p _ (by rw [if_pos rfl])
   cases (R.argu p' p _ h2 hp')
   have le : Same (hidB (both (unh χ p) ω') H') (hidB χ H'):=fun b o h=>by
    obtain ⟨c1,c2⟩:=zr h
    refine zy ?_ c2
    cases c : χ b with
    | false=>rfl
    | true =>
     have hb : b ≠ p:=fun z=>by subst z; unfold both at c1; rw [hp'] at c1; simp at c1
     unfold both unh at c1
     have : (b == p) = false:=by simpa using hb
     rw [c,this] at c1; simp at c1
   refine q v vs2 H' (fun b o hb h=>?_) h4 (Reps.mono le _ h5) (rv.mono le _)
   cases c : χ b with
   | true=>exact k.frn b o (by unfold unh; rw [c]; simpa using hb) h
   | false =>
    refine zm b o (k.same b o (zy ?_ h))
    rw [eb,c]
  refine ⟨_,hb u hd _ ⟨rfl,rfl,rfl,rfl,rfl,rfl,rfl,hr,rfl,PassesOwn.never,fun _ _=>rfl,fun _=>⟨rfl,rfl⟩⟩,unh χ p,_,RM,?_,?_,?_,?_,?_⟩
  ·intro ω' σ' H' Γ' hn R k
   exact fin R k hn.2 (by rw [hn.1]; exact rfl)
  ·intro ω' σ' v H' d Γ' hd' R k rv
   obtain ⟨rfl,hΓ⟩:=hd'
   exact fin R k hΓ rv
  ·intro _ _ _ _ h; exact h.elim
  ·intro _ _ _ _ h; exact h.elim
  ·intro _ _ _ _ _ _ _ h; exact h.elim
end
end Internal

end
section
set_option Elab.async false
set_option linter.all false
set_option maxRecDepth 100000
set_option maxHeartbeats 4000000
namespace Internal
open PySem PySem.Spec PyProof.Rows Internal.L2

noncomputable def dM (K : PySem.W.Frag) (Γ : List Sl) (i : Nat) (ds' : List D) (d : D) : TE:=fun σ H Q=>∃ χ,RE K χ H σ Γ ∧ ∀ p,σ[i]? = some (some (.ref p)) → ∀ v ws' H',But p H H' → H' p = some (.lst ws') → Reps K (hidB χ H') ds' ws' → Rep K (hidB χ H') d v → Q v H'
structure JM (S : Stat) (Γ : List Sl) (i : Nat) (e : Expr) (ds' : List D) (d : D) : Prop where
 run : ∀ X,S.Of X → PE X e (dM S.K Γ i ds' d)
noncomputable instance {S : Stat} {Γ : List Sl} {i : Nat} {e : Expr} {ds' : List D} {d : D} : CoeFun (JM S Γ i e ds' d) fun _=>∀ X,S.Of X → PE X e (dM S.K Γ i ds' d):=⟨fun h=>h.run⟩

noncomputable def dAM (K : PySem.W.Frag) (Γ : List Sl) (i : Nat) (ds : List D) : TA:=fun σ H Q=>∃ χ,RE K χ H σ Γ ∧ ∀ p vs H',σ[i]? = some (some (.ref p)) → Same H H' → Reps K (hidB χ H') ds vs → Q (vs ++ [.ref p]) H'
structure JAM (S : Stat) (Γ : List Sl) (i : Nat) (es : List Expr) (ds : List D) : Prop where
 run : ∀ X,S.Of X → PA X es (dAM S.K Γ i ds)
section
variable {S : Stat} {Γ : List Sl} {E : DEnds} {i : Nat} {e : Expr} {es : List Expr} {x : Str} {p pos : Pos}
theorem zml {a : Bool} {os : List D} (hi : Γ[i]? = some (.li a os)) (hN : S.N[i]? = some x:=by ac_nf) (hv : Vis S.sc x:=by ac_nf)
  (h1 : (x == ("__debug__" : Str)) = false:=by ac_nf) (h2 : (x == ("__classdict__" : Str)) = false:=by ac_nf) : JAM S Γ i [.Name x p] []:=⟨fun X o =>
 zeB (zbf (zbk (i:=i) (by rw [o.N]; exact hN) (by rw [o.sc]; exact hv) h1 h2) zcr rfl) fun σ H Q hP47=>by
  obtain ⟨χ,R,q⟩:=hP47
  obtain ⟨pa,vs,hσ,_⟩:=R.ownL i a os hi
  exact ⟨.ref pa,hσ,q pa [] H hσ (Same.refl H) rfl⟩⟩
theorem zhT {d : D} {ds : List D} (h : JE S Γ e d) (hs : JAM S Γ i es ds) (he : ∀ env,starEach (e :: es) env = (false,eval e env) :: starEach es env:=by ac_rfl) : JAM S Γ i (e :: es) (d :: ds):=⟨fun X o =>
 zeB (zbf (h X o) (hs.run X o) (he X.env)) fun σ H Q ⟨χ,R,q⟩=>⟨χ,R,fun v H1 e1 rv=>⟨χ,R.mono e1,fun pa vs H2 hσ e2 rvs=>q pa (v :: vs) H2 hσ (e1.trans e2) ⟨v,vs,rfl,rv.mono (zA e2) d,rvs⟩⟩⟩⟩
theorem e_fnM {α : Type} {enc ow ow' : α → List D} {dom : α → Prop} {res : α → D} {a : Bool} {ps : List Str} {j : Nat} (F : FnAt S.P S.w S.K S.mg S.base j x ps (spM enc ow dom ow' res S.K)) (u : α) (hi : Γ[i]? = some (.li a (ow u))) (ha : JAM S Γ i (e :: es) (enc u)) (hd : dom u) (hj : j ≤ S.k:=by exact Nat.le_of_ble_eq_true rfl)
  (hg : S.sc.names.lookup x = some .globalImplicit:=by ac_nf) (hdb : (x == ("__debug__" : Str)) = false:=by ac_nf)
  (he : ∀ env,starEach (e :: es) env = (false,eval e env) :: starEach es env:=by ac_rfl) (hpl : ∀ env,(backTo pos (starEach es env)).any (·.1) = false:=by ac_rfl) : JM S Γ i (.Call (.Name x p) (e :: es) [] pos) (ow' u) (res u):=.mk fun X o=>by
 obtain ⟨f,fd,m,kp,b,F⟩:=F
 have F' : FnOk X.prog X.w X.K X.mg X.base CX0 j f fd ps (spM enc ow dom ow' res S.K):=by rw [o.prog,o.w,o.K,o.mg,o.base]; exact F
 refine zq (zfb F' (o.room.mono hj) (gl_of o hg) (by rw [o.mg]; exact m) (by rw [o.K]; exact kp) (by rw [o.K]; exact b) .nil pass0 (ha.run X o) hdb (he X.env) (hpl X.env)) fun σ H Q hP48=>?_
 obtain ⟨χ,R,q⟩:=hP48
 refine ⟨χ,R,fun pa vs H1 hσ e1 rvs=>?_⟩
 show spM enc ow dom ow' res S.K ((vs ++ [V.ref pa]) ++ []) H1 Q E0
 rw [List.append_nil]
 obtain ⟨pa',ws,hσ',hχ,hH,hr⟩:=R.ownL i a _ hi
 rw [hσ] at hσ'; cases hσ'
 exact ⟨χ,u,vs,pa,ws,(R.mono e1).live,rfl,rvs,hχ,e1 _ _ hH,Reps.mono (zA e1) _ hr,hd,fun v ws' H' bt hp rw' rv=>q pa hσ v ws' H' (fun b ob hb h=>bt b ob hb (e1 _ _ h)) hp rw' rv⟩
end
section
variable {K : PySem.W.Frag} {φ : Addr → Bool} {ω : Addr → Option (Bool × Nat)} {H H' : Hp} {σ : Internal.L2.St} {Γ : List Sl}

theorem RS.putB (r : RS K φ ω H σ Γ) {i : Nat} {l : Addr} {vs' : List V} {ds' ds : List D} {a : Bool} (hi : Γ[i]? = some (.li a ds)) (hl : ω l = some (a,i)) (hσ : σ[i]? = some (some (.ref l))) (bt : But l H H') (hv : H' l = some (.lst vs')) (hr : Reps K (hidB (both φ ω) H') ds' vs') (φl : φ l = false) :
  RS K φ ω H' σ (Γ.set i (.li a ds')) ∧ Kp φ ω H ω H':=by
 have hb : both φ ω l = true:=by unfold both; rw [hl]; simp
 have up : Same (hidB (both φ ω) H) (hidB (both φ ω) H'):=fun b o h=>by
  obtain ⟨c1,c2⟩:=zr h
  have hne : b ≠ l:=fun z=>by subst z; rw [hb] at c1; cases c1
  exact zy c1 (bt b o hne c2)
 have hlt:=(List.getElem?_eq_some_iff.mp hi).1
 refine ⟨⟨fun p hp=>?_,by rw [List.length_set]; exact r.len,fun j d h=>?_,fun j a' es h=>?_,r.argu⟩,⟨up,fun b o hφ h=>?_,fun b o h=>by
  by_cases hbl : b = l
  ·subst hbl; exact ⟨_,hv⟩
  ·exact ⟨o,bt b o hbl h⟩,fun _ j h=>.inl ⟨j,h⟩,fun _ _ h=>h⟩⟩
 ·by_cases hpl : p = l
  ·subst hpl; exact ⟨⟨_,zez⟩,hv⟩
  ·obtain ⟨o,ho⟩:=r.live p hp
   exact ⟨o,bt p o hpl ho⟩
 ·by_cases hj : i = j
  ·subst hj
   rw [List.getElem?_set_self hlt] at h
   have h' : Sl.li a ds' = Sl.val d:=Option.some.inj h
   cases h'
  ·rw [List.getElem?_set_ne hj] at h
   obtain ⟨v,ev,rv⟩:=r.val j d h
   exact ⟨v,ev,rv.mono up d⟩
 ·by_cases hj : i = j
  ·subst hj
   rw [List.getElem?_set_self hlt] at h
   have h' : Sl.li a ds' = Sl.ll a' es:=Option.some.inj h
   cases h'
   exact ⟨l,_,hσ,hl,φl,hv,vs',rfl,hr⟩
  ·rw [List.getElem?_set_ne hj] at h
   obtain ⟨p,ws,h1,h2,h3,h4,h5⟩:=r.own j a' es h
   have hpl : p ≠ l:=fun z=>by subst z; rw [hl] at h2; exact hj (congrArg Prod.snd (Option.some.inj h2))
   exact ⟨p,ws,h1,h2,h3,bt p _ hpl h4,CRep.mono up es h5⟩
 ·have hne : b ≠ l:=fun z=>by subst z; rw [φl] at hφ; cases hφ
  exact bt b o hne h
end
section
variable {S : Stat} {Γ : List Sl} {E : DEnds} {i j : Nat} {e a b : Expr} {x y : Str} {p pos pos' : Pos}

theorem znZ (i : Nat) {ds os ds' : List D} {d : D} {al aj : Bool} {apos cpos : Pos} (hΓ : Γ[i]? = some (.li al ds)) (hj : Γ[j]? = some (.li aj os)) (hij : i ≠ j) (he : JM S Γ j e ds' d) (hl : ds.length < sizeLine) (h : E.nx ((Γ.set j (.li aj ds')).set i (.li al (ds ++ [d])))) (hi : S.N[i]? = some x:=by ac_nf) (hv : Vis S.sc x:=by ac_nf)
  (h1 : (x == ("__debug__" : Str)) = false:=by ac_nf) (h2 : (x == ("__classdict__" : Str)) = false:=by ac_nf)
  (hbase : ∀ env,attributeBase (.Name x p) "append" env (eval (.Name x p) env) = eval (.Name x p) env:=by ac_rfl)
  (hfew : ∀ env,((backTo cpos (starEach [e] env)).all (fun x=>!x.1) && (backToKw cpos (keywordEach [] env)).all (fun x=>x.1.isSome)
   && decide ([e].length + ([] : List Keyword).length + (if ([] : List Keyword).isEmpty then 0 else 1) < 30)) = true:=by ac_rfl)
  (hline : (apos.endLine == cpos.line) = true:=by rfl) (hs : ∀ env,starEach [e] env = [(false,eval e env)]:=by ac_rfl) (hsw : ∀ X : Cx,swapsWith (.Call (.Attribute (.Name x p) "append" apos) [e] [] cpos) none pos.line X.env = pure false:=by ac_rfl) :
  JS S Γ (.Expr (.Call (.Attribute (.Name x p) "append" apos) [e] [] cpos) pos) E:=.mk fun X o=>by
 refine zN (zcP (pe_bm PySem.F.plainAttrs_list PySem.F.slot_list_append PySem.F.type_list_append zdw (zbk (i:=i) (by rw [o.N]; exact hi) (by rw [o.sc]; exact hv) h1 h2) (zbf (he X o) zcr (hs X.env)) (hbase X.env) (hfew X.env) hline (hs X.env)) (hsw X)) fun Z σ H hP49=>?_
 obtain ⟨φ,ω,r,c⟩:=hP49
 obtain ⟨l,vs,hσ,hω,φl,hH,hr⟩:=r.ownL i al ds hΓ
 obtain ⟨lj,wj,hσj,hωj,φj,hHj,hrj⟩:=r.ownL j aj os hj
 refine ⟨.ref l,hσ,.inl ⟨rfl,vs,SqL.of hH⟩,both φ ω,r.re,fun pj hpj v ws' H1 bt hv1 rw1 rv=>?_⟩
 rw [hσj] at hpj; cases hpj
 have hne : l ≠ lj:=fun z=>by
  subst z; rw [hω] at hωj; exact hij (congrArg Prod.snd (Option.some.inj hωj))
 obtain ⟨r1,k1⟩:=r.putB hj hωj hσj bt hv1 rw1 φj
 have hΓ1 : (Γ.set j (.li aj ds'))[i]? = some (.li al ds):=by rw [List.getElem?_set_ne (Ne.symm hij)]; exact hΓ
 obtain ⟨l',vs2,e1,e2,e3,e4,e5⟩:=r1.ownL i al ds hΓ1
 rw [hσ] at e1; cases e1
 refine ⟨l,vs2,v,rfl,rfl,e4,by rw [e5.len]; exact hl,?_⟩
 obtain ⟨r',k⟩:=r1.put (ds':=ds ++ [d]) (vs':=vs2 ++ [v]) hΓ1 e2 hσ (e5.app (.one rv)) e3
 exact c.n ω σ _ _ h r' (k1.trans k)

theorem zdB (i : Nat) {ds : List D} {d : D} {k : Int} {n : Nat} {al : Bool} {px : Pos} (hΓ : Γ[i]? = some (.li al ds)) (ha : JE S Γ a (.int k)) (hb : JE S Γ b d) (hk : ixN ds.length k = some n) (h : E.nx (Γ.set i (.li al (ds.set n d)))) (hi : S.N[i]? = some x:=by ac_nf) (hv : Vis S.sc x:=by ac_nf)
  (h1 : (x == ("__debug__" : Str)) = false:=by ac_nf) (h2 : (x == ("__classdict__" : Str)) = false:=by ac_nf)
  (hs : ∀ X : Cx,swapsWithSole [.Subscript (.Name x px) a pos'] b pos.line X.env = pure false:=by ac_rfl) (hw : ∀ X : Cx,swappedStores [.Subscript (.Name x px) a pos'] b X.env = pure none:=by ac_rfl)
  (hm : ∀ X : Cx,(assignEach [.Subscript (.Name x px) a pos'] X.env).map (·.2) = [assign (.Subscript (.Name x px) a pos') X.env]:=by ac_rfl)
  (hg : ∀ (X : Cx) v,assign (.Subscript (.Name x px) a pos') X.env v = (do
   let ov ← holding [v] (eval (.Name x px) X.env)
   let iv ← holding [v,ov] (eval a X.env)
   standAt pos'
   holding [v,ov,iv] (setItem ov iv v)
   release [v,ov,iv] []):=by ac_rfl) : JS S Γ (.Assign [.Subscript (.Name x px) a pos'] b pos) E:=.mk fun X o=>by
 refine zN (zja (hb X o) (znq (zbk (i:=i) (by rw [o.N]; exact hi) (by rw [o.sc]; exact hv) h1 h2) (ha X o) set_list (hg X)) (hs X) (hw X) (hm X)) fun Z σ H hP50=>?_
 obtain ⟨φ,ω,r,c⟩:=hP50
 obtain ⟨l,vs,hσ,hω,φl,hH,hr⟩:=r.ownL i al ds hΓ
 refine ⟨both φ ω,r.re,fun v H1 e1 rv=>⟨.ref l,hσ,both φ ω,(r.mono e1).re,fun y H2 e2 ry=>⟨l,vs,k,n,rfl,ry,e2 _ _ (e1 _ _ hH),by rw [hr.len]; exact hk,?_⟩⟩⟩
 obtain ⟨r',kp⟩:=(r.mono (e1.trans e2)).put (ds':=ds.set n d) (vs':=vs.set n v) hΓ hω hσ ((Reps.mono (zA (e1.trans e2)) _ hr).set n (rv.mono (zA e2) d)) φl
 exact c.n ω σ _ _ h r' ((Kp.of (e1.trans e2)).trans kp)
end
end Internal

end
section
set_option Elab.async false
set_option linter.all false
set_option maxRecDepth 100000
set_option maxHeartbeats 4000000
namespace DRg
open PySem PySem.Spec PyProof.Rows
open Sem (wp)
open AutoSeq1 (wpAny_loadPart')
section
variable {prog : Program} {w : World} {A : Around} {E : Value → Shared → Prop} {s : Shared}

theorem zho {r : Addr} {a b c : Int} {t u v : Tok} {n : Nat} {Q : List Value → Shared → Prop} (hh : A.handled = none) (hr : IsRange s.heap r a b c t u v) (hsm : Builtin.Range.small a b c = true) (hn : Builtin.Range.rangeSize a b c = n) (hl : n ≤ 2 ^ 24)
  (hQ : ∀ h' tk acc,(∀ b o,s.heap.get? b = some o → h'.get? b = some o) → ItemsOf (fun i v=>∃ t,v = .int (a + i * c) t) acc n → Q acc.toList { s with heap:=h',toks:=tk }) : wpAny (model prog w) A (collect (.ref r)) Q E s:=by
 unfold collect
 refine wpAny_bind (wpAny_runValue (codeAny_builtin F.entry_proto_collect ?_))
 rw [Around.under_plainId F.plain_proto_collect _]
 show wpAny _ A.in1 (newList [] >>= fun l=>again (.builtin "list.__iadd__" ⟨[l,.ref r],[]⟩)) _ _ s
 refine wpAny_bind (wpAny_newObj_type ?_)
 refine wpAny_pure ⟨plainId_quiet F.plain_list_iadd _,codeAny_builtin F.entry_list_iadd ?_⟩
 rw [Around.under_plainId F.plain_list_iadd _]
 have hk1 : ∀ b o,s.heap.get? b = some o → (s.heap.push { cls:=.type "list",data:=.seq ([] : List Value).toArray }).get? b = some o:=fun b o e=>Heap.get?_push_of_some _ e
 have hS : (s.heap.push { cls:=.type "list",data:=.seq ([] : List Value).toArray }).get? s.heap.objs.size = some { cls:=.type "list",data:=.seq #[] 0 }:=Heap.get?_push_size _ rfl
 show wpAny _ A.in1 (Builtin.List.listExtendWith (.ref s.heap.objs.size) (.ref r) (.ref s.heap.objs.size)) _ _ _
 refine wpAny_extend_range (s:={ s with heap:=_ }) (R:=fun r s'=>match r with
  | .ok (.ret v)=>wpAny (model prog w) A (match v with
    | .ref a=>do
     let o ← load a
     match o.data with
      | .seq xs _=>pure xs.toList
      | _=>unsupported "internal:collect"
    | _=>unsupported "internal:collect") Q E s'
  | .ok _=>False
  | .error e=>E e s') hh (hk1 _ _ hr) hsm hn hl s.heap.objs.size (.ref s.heap.objs.size) 0 hS fun h' tk acc c' hk hS' hacc=>?_
 show wpAny _ A (load s.heap.objs.size >>= _) _ _ _
 refine wpAny_bind (wpAny_load hS' ?_)
 exact wpAny_pure (hQ h' tk acc (fun b o e=>hk b o (Nat.ne_of_lt (Heap.lt_size e)) (hk1 b o e)) hacc)
theorem meets_tuple (r : Addr) (a b c : Int) (t u v : Tok) (n : Nat) (hsm : Builtin.Range.small a b c = true) (hn : Builtin.Range.rangeSize a b c = n) (hl : n ≤ 2 ^ 24) : Meets (Builtin.«tuple.__new__» ⟨[.type "tuple",.ref r],[]⟩)
  (fun A R s=>A.handled = none ∧ IsRange s.heap r a b c t u v ∧ ∀ (h' : Heap) (tk : Nat) (acc : Array Value),(∀ b o,s.heap.get? b = some o → h'.get? b = some o) → ItemsOf (fun i v=>∃ t,v = .int (a + i * c) t) acc n →
   R (.ok (.ret (.ref h'.objs.size))) { s with heap:=h'.push { cls:=.type "tuple",data:=.seq acc },toks:=tk }) :=
 .of_wp fun prog w A R s h=>by
  obtain ⟨hh,hr,h⟩:=h
  have hsub:=sub_tuple_self
  have hinit:=init_tuple_lookup
  have hmh:=madeHere_tuple
  have hT : s.TypeIs (.ref r) "range":=⟨_,hr,rfl⟩
  have ho:=hr
  have hh1 : A.in1.handled = none:=hh
  wp_walk using wpAny_loadPart' ho,wpAny_typeOf hT,zho hh1 hr hsm hn hl
  intro h' tk acc hm hacc
  show wpAny _ _ (Builtin.Tuple.tupleExact acc.toList.toArray >>= fun v=>ret v) _ _ _
  unfold Builtin.Tuple.tupleExact
  refine wpAny_bind (wpAny_newObj_type ?_ (show acc.toList.toArray.size ≤ sizeLine by simp only [Array.toArray_toList]; rw [hacc.1,sizeLine_eq]; omega))
  refine wpAny_pure ⟨_,rfl,?_⟩
  have e : acc.toList.toArray = acc:=by simp
  rw [e]
  exact h h' tk acc hm hacc
theorem call_tuple_rng {r : Addr} {a b c : Int} {t u v : Tok} {n : Nat} {Q : Value → Shared → Prop} (hh : A.handled = none) (hr : IsRange s.heap r a b c t u v) (hsm : Builtin.Range.small a b c = true) (hn : Builtin.Range.rangeSize a b c = n) (hl : n ≤ 2 ^ 24)
  (h : ∀ (h' : Heap) (tk : Nat) (acc : Array Value),(∀ b o,s.heap.get? b = some o → h'.get? b = some o) → ItemsOf (fun i v=>∃ t,v = .int (a + i * c) t) acc n →
   Q (.ref h'.objs.size) { s with heap:=h'.push { cls:=.type "tuple",data:=.seq acc },toks:=tk }) : wpAny (model prog w) A (call (.type "tuple") [.ref r]) Q E s :=
 callType_new F.called_tuple (by decide) (F.typeCall_tuple_1 _) (F.newCall_tuple_1 _) (fun obj=>F.args_object_init_2 obj _) F.entry_tuple_new
  (meets_tuple r a b c t u v n hsm hn hl) ⟨hh,hr,fun h' tk acc hm hacc=>⟨⟨_,Heap.get?_push_size _ rfl,rfl⟩,h h' tk acc hm hacc⟩⟩
end
end DRg
namespace Internal
open PySem PySem.Spec PyProof.Rows Internal.L2
section
variable {X : Cx} {pins : List (Addr × Obj)} {σ : Internal.L2.St} {H : Hp} {s : Shared}

theorem zmm {a b : Expr} {ta : TA} {p pos : Pos} (hg : Gl X "range") (hm : X.mg "range" = none) (ha : PA X [a,b] ta) (R : Int → Int → Hp → Prop) (I : Internal.L2.Inv X pins σ H s) (h : ta σ H (fun vs H1=>∃ i j : Int,vs = [.int i,.int j] ∧ R i j H1))
  (hs : starEach [a,b] X.env = [(false,eval a X.env),(false,eval b X.env)]) (hs2 : starEach [b] X.env = [(false,eval b X.env)]) : wpAny (model X.prog X.w) X.A (eval (.Call (.Name "range" p) [a,b] [] pos) X.env)
   (fun u s1=>∃ q H1 i j,∃ t t' t2 : Tok,u = .ref q ∧ Internal.L2.Inv X pins σ H1 s1 ∧ IsRange s1.heap q i j 1 t t' t2 ∧ R i j H1) X.xe s:=by
 refine Call_ (zbl I hg hm boot_range (PyProof.Rows.callWith_type1 (thn (ha pos pins s σ H _ I h) fun us s1 hP51=>?_) (by rw [hs,hs2]) (by rw [hs2]; rfl)))
 obtain ⟨vs,H1,I1,r1,q1⟩:=hP51
 obtain ⟨i,j,rfl,q⟩:=q1
 cases r1 with
 | cons r rr =>
  cases rr with
  | cons r' rr =>
   cases rr
   obtain ⟨t,rfl⟩:=r
   obtain ⟨t',rfl⟩:=r'
   exact call_range_2 ⟨_,H1,i,j,t,t',_,rfl,I1.kept fun b o e=>Heap.get?_push_of_some _ e,IsRange.new ..,q⟩
theorem zhU {a c : Int} {n : Nat} {acc : Array Value} (h : ItemsOf (fun i v=>∃ t,v = .int (a + i * c) t) acc n) : Vals ((List.range n).map fun i : Nat=>V.int (a + i * c)) acc.toList:=by
 have key : ∀ (l : List Value) (k : Nat),(∀ j v,l[j]? = some v → ∃ t,v = Value.int (a + ((k + j : Nat) : Int) * c) t) → Vals ((List.range' k l.length).map fun i : Nat=>V.int (a + i * c)) l:=by
  intro l
  induction l with
  | nil=>intro k _; exact .nil
  | cons v l ih =>
   intro k hk
   rw [List.length_cons,List.range'_succ,List.map_cons]
   refine .cons (by have q:=hk 0 v rfl; rw [Nat.add_zero] at q; exact q) (ih (k + 1) fun j w hj=>?_)
   obtain ⟨t,e⟩:=hk (j + 1) w (by simpa using hj)
   exact ⟨t,by rw [e,show k + (j + 1) = k + 1 + j by omega]⟩
 have:=key acc.toList 0 fun j v hj=>by
  obtain ⟨t,e⟩:=h.2 j v (by simpa using hj)
  exact ⟨t,by rw [e,Nat.zero_add]⟩
 rw [Array.length_toList,h.1,← List.range_eq_range'] at this
 exact this
noncomputable def tTRg (ta : TA) : TE:=fun σ H Q=>ta σ H fun vs H1=>∃ i j : Int,vs = [.int i,.int j] ∧ (-(2 ^ 62) ≤ i ∧ i < 2 ^ 62 ∧ -(2 ^ 62) ≤ j ∧ j < 2 ^ 62) ∧ (j - i).toNat ≤ 2 ^ 24 ∧ ∀ l,H1 l = none → Q (.ref l) (upd H1 l (.tup ((List.range (j - i).toNat).map fun k : Nat=>V.int (i + k * 1))))
theorem zjD {a b : Expr} {ta : TA} {p p' pos pos' : Pos} (hc : X.calm = true) (hg : Gl X "range") (hm : X.mg "range" = none) (hgt : Gl X "tuple") (hmt : X.mg "tuple" = none) (ha : PA X [a,b] ta)
  (hs : starEach [a,b] X.env = [(false,eval a X.env),(false,eval b X.env)]) (hs2 : starEach [b] X.env = [(false,eval b X.env)]) : PE X (.Call (.Name "tuple" p') [.Call (.Name "range" p) [a,b] [] pos] [] pos') (tTRg ta):=by
 intro pins s σ H Q I h
 refine wpAny_Call_Name_kw (zbl I hgt hmt boot_tuple ?_)
 refine PyProof.Rows.callWith_type1 ?_ rfl rfl
 show wpAny _ _ (spliced ((false,eval (.Call (.Name "range" p) [a,b] [] pos) X.env) :: [])) _ _ s
 refine Calls.spliced_cons (thn (zmm hg hm ha (fun i j H1=>(-(2 ^ 62) ≤ i ∧ i < 2 ^ 62 ∧ -(2 ^ 62) ≤ j ∧ j < 2 ^ 62) ∧ (j - i).toNat ≤ 2 ^ 24 ∧ ∀ l,H1 l = none → Q (.ref l) (upd H1 l (.tup ((List.range (j - i).toNat).map fun k : Nat=>V.int (i + k * 1))))) I h hs hs2) fun u s1 ⟨q,H1,i,j,t,t',t2,eu,I1,hr,hb,hn,hR⟩=>Calls.spliced_nil ?_)
 subst eu
 have en : Builtin.Range.rangeSize i j 1 = ((j - i).toNat : Nat):=by rw [rangeSize_one]; split <;> omega
 refine DRg.call_tuple_rng (I1.ok.hd hc) hr (small_one hb.1 hb.2.1 hb.2.2.1 hb.2.2.2) en hn fun h' tk acc kp hacc=>?_
 have I2 : Internal.L2.Inv X pins σ H1 { s1 with heap:=h',toks:=tk }:=I1.kept (t':=tk) kp
 have vv:=zhU hacc
 have I3 : Internal.L2.Inv X pins σ (upd H1 h'.objs.size (.tup ((List.range (j - i).toNat).map fun k : Nat=>V.int (i + k * 1)))) { s1 with heap:=h'.push { cls:=.type "tuple",data:=.seq acc },toks:=tk } :=
  I2.laid (t':=tk) (fun b o e=>Heap.get?_push_of_some _ e) (Nat.le_refl _) (show ObjOk X.prog X.w _ _ _ (.tup _) from ⟨by rw [List.length_map,List.length_range,sizeLine_eq]; omega,acc.toList,vv,by
   have e : acc.toList.toArray = acc:=by simp
   rw [e]; exact ⟨IsTup.new _ _,_,Heap.get?_push_size _ rfl,rfl⟩⟩)
 exact ⟨.ref h'.objs.size,_,I3,rfl,hR _ (I2.hok.fresh (Nat.le_refl _))⟩
end
section
variable {S : Stat} {Γ : List Sl} {pos p p' pos' : Pos} {a b : Expr}
theorem zcv {K : PySem.W.Frag} {H : Hp} {α : Type} (f : α → Int) : ∀ l : List α,Reps K H (l.map fun x=>D.int (f x)) (l.map fun x=>V.int (f x))
 | []=>rfl
 | x :: l=>⟨_,_,rfl,rfl,zcv f l⟩
theorem zkS {i j : Int} (ha : JE S Γ a (.int i)) (hb : JE S Γ b (.int j)) (hm : S.mg "range" = none) (hmt : S.mg "tuple" = none) (hn : -(2 ^ 62) ≤ i ∧ i < 2 ^ 62 ∧ -(2 ^ 62) ≤ j ∧ j < 2 ^ 62) (hl : (j - i).toNat ≤ 2 ^ 24) (hg : S.sc.names.lookup ("range" : Str) = some .globalImplicit:=by ac_nf)
  (hgt : S.sc.names.lookup ("tuple" : Str) = some .globalImplicit:=by ac_nf) (hs : ∀ env,starEach [a,b] env = [(false,eval a env),(false,eval b env)]:=by ac_rfl) (hs1 : ∀ env,starEach [a,b] env = (false,eval a env) :: starEach [b] env:=by ac_rfl) (hs2 : ∀ env,starEach [b] env = [(false,eval b env)]:=by ac_rfl) :
  JE S Γ (.Call (.Name "tuple" p') [.Call (.Name "range" p) [a,b] [] pos] [] pos') (rowD ((List.range (j - i).toNat).map fun k : Nat=>i + k)):=.mk fun X o =>
 zq (zjD o.calm (gl_of o hg) (by rw [o.mg]; exact hm) (gl_of o hgt) (by rw [o.mg]; exact hmt) ((zb ha (zb hb a_nil hs2) hs1) X o) (hs X.env) (hs2 X.env)) fun σ H Q ⟨χ,R,q⟩=>⟨χ,R,fun vs H1 e1 rs=>by
  obtain ⟨v,r',rfl,rv,rs'⟩:=rs
  obtain ⟨v',rfl,rv'⟩:=reps1 rs'
  cases (show v = _ from rv)
  cases (show v' = _ from rv')
  refine ⟨i,j,rfl,hn,hl,fun l hl'=>q _ _ (e1.trans (zH hl' _)) (zct hl' ((R.mono e1).fresh hl') ?_)⟩
  have:=zcv (K:=S.K) (H:=hidB χ H1) (fun k : Nat=>i + (k : Int) * 1) (List.range (j - i).toNat)
  rw [show (((List.range (j - i).toNat).map fun k : Nat=>i + (k : Int)).map D.int) = (List.range (j - i).toNat).map fun k : Nat=>D.int (i + (k : Int) * 1) by rw [List.map_map]; exact List.map_congr_left fun k _=>by simp]
  exact this⟩
end
end Internal

end
section
set_option Elab.async false
set_option linter.all false
set_option maxRecDepth 100000
set_option maxHeartbeats 4000000
namespace Internal
open PySem PySem.Spec PyProof.Rows Internal.L2
open AutoSeq1 (wpAny_loadPart')

section
variable {X : Cx} {pins : List (Addr × Obj)} {σ : Internal.L2.St} {H : Hp} {s : Shared}
open Classical in
noncomputable def eqW (X : Cx) (H : Hp) (d : D) (u : Value) : Bool:=if ∃ y d',RelV y u ∧ Rep X.K H d' y ∧ eqD d' d = true then true else false
end
section
variable {S : Stat} {Γ : List Sl} {pos p : Pos} {a b : Expr} {ds : List D} {d : D}
end

theorem zmn (T : String) (hT : T = "list" ∨ T = "tuple") (l b : Addr) (hlb : l ≠ b) (xs ys : Array Value) (n m : Nat) (dd : Option Addr) (sl : Array (Option Value)) (h0 : ¬ (!xs.isEmpty && Builtin.List.listTooLong (xs.size + ys.size)) = true) (h1 : xs.size ≤ sizeLine) (h2 : xs.size + ys.size ≤ sizeLine + 1) :
  Meets (Builtin.«list.extend» ⟨[.ref l,.ref b],[]⟩) (fun _ R s=>s.heap.get? l = some { cls:=.type "list",data:=.seq xs n } ∧ s.heap.get? b = some { cls:=.type T,dict:=dd,data:=.seq ys m,slots:=sl } ∧
   R (.ok (.ret Value.none)) { s with heap:=s.heap.update l (Obj.mapSeq fun x=>x ++ ys),toks:=s.toks }) :=
 .of_wp fun prog w A R s h=>by
  obtain ⟨hp,g,d,tk,os⟩:=s
  obtain ⟨hl,hb,h⟩:=h
  have z : (xs ++ ys).size ≤ sizeLine + 1:=by rw [Array.size_append]; exact h2
  have f2:=AutoSeq1.sub_tuple_tuple
  have f3:=AutoSeq1.sub_list_list
  have f4:=AutoSeq1.sub_tuple_list
  have f5:=AutoSeq1.sub_list_tuple
  rcases hT with rfl | rfl
  ·wp_walk using (wpAny_updateSeq hl rfl (hz:=h1) (_hz':=z)),wpAny_loadPart' hl,wpAny_loadPart' hb
   exact ⟨_,rfl,h⟩
  ·wp_walk using (wpAny_updateSeq hl rfl (hz:=h1) (_hz':=z)),wpAny_loadPart' hl,wpAny_loadPart' hb
   exact ⟨_,rfl,h⟩
theorem zjE {X : Cx} : MtM X "list.extend" (fun x vs H Q=>∃ l b xs zs,x = .ref l ∧ vs = [.ref b] ∧ H l = some (.lst xs) ∧ (∃ H0 : Hp,H0 l = none ∧ Same H0 H ∧ (SqL X.K H0 b zs ∨ SqT X.K H0 b zs)) ∧ xs.length + zs.length ≤ sizeLine ∧ Q .non (upd H l (.lst (xs ++ zs)))):=by
 intro pins s σ H x vs v us Q I rx rv h
 obtain ⟨l,b,xs,zs,rfl,rfl,hH,⟨H0,h0,hsm,hB0⟩,hz,q⟩:=h
 have hnk : ∀ o,X.K.lookup l = some o → False:=fun o ho=>by
  have:=(I.bs l o (I.mod.kin l o ho)).2
  rw [hH] at this; cases this
 have hne : l ≠ b:=fun z=>by
  subst z
  rcases hB0 with ((q | ⟨_,q⟩) | ⟨o,_,_,q,_⟩) | ((q | ⟨_,q⟩) | ⟨o,_,_,q,_⟩)
  ·rw [h0] at q; cases q
  ·rw [h0] at q; cases q
  ·exact hnk o q
  ·rw [h0] at q; cases q
  ·rw [h0] at q; cases q
  ·exact hnk o q
 have hB : SqL X.K H b zs ∨ SqT X.K H b zs:=hB0.imp (fun q=>Same.seq hsm q) (fun q=>zgl hsm q)
 cases rx
 obtain ⟨u,rfl,ru⟩:=rv.one
 cases ru
 obtain ⟨z,its,n,r,hl,e⟩:=I.lstM hH
 have go : ∀ (T : String) (its2 : List Value) (ob : Obj) (m : Nat),(T = "list" ∨ T = "tuple") → Vals zs its2 → s.heap.get? b = some ob → ob.cls = .type T → ob.data = .seq its2.toArray m →
   wpAny (model X.prog X.w) X.A (call (.builtin "list.extend") [.ref l,.ref b]) (EP X pins σ Q) X.xe s:=by
  intro T its2 ob m hT r2 hb hc hd
  have hl2:=r2.length
  have hsz : its.toArray.size + its2.toArray.size ≤ sizeLine:=by rw [List.size_toArray,List.size_toArray]; omega
  have hlong : ¬ (!its.toArray.isEmpty && Builtin.List.listTooLong (its.toArray.size + its2.toArray.size)) = true:=by
   rw [notLongL hsz,Bool.and_false]
   exact Bool.false_ne_true
  obtain ⟨cls,dd,data,sl⟩:=ob
  simp only at hc hd
  subst hc hd
  refine call_meets F.slot_list_extend ⟨_,e,rfl⟩ F.entry_list_extend (F.args_list_extend_2 _ _) (zmn T hT l b hne its.toArray its2.toArray n m dd sl hlong (by rw [List.size_toArray]; omega) (by omega)) ⟨e,hb,?_⟩
  refine ⟨.non,_,I.lset (its':=its ++ its2) hH e (by simp) (r.append r2) ?_,rfl,q⟩
  rw [List.length_append]
  omega
 rcases hB with hB | hB
 ·obtain ⟨its2,r2,pl,_⟩:=I.list hB
  obtain ⟨ob,m,e1,c1,_,d1⟩:=pl
  exact go "list" its2 ob m (.inl rfl) r2 e1 c1 d1
 ·obtain ⟨its2,r2,pl,_⟩:=I.tuple hB
  obtain ⟨ob,e1,c1,m,d1⟩:=pl
  exact go "tuple" its2 ob m (.inr rfl) r2 e1 c1 d1
section
variable {S : Stat} {Γ : List Sl} {E : DEnds} {pos p : Pos} {e a b : Expr} {x : Str}
theorem s_ext (i : Nat) {ds es : List D} {al : Bool} {apos cpos : Pos} (hΓ : Γ[i]? = some (.li al ds)) (he : JE S Γ e (.lst es) ∨ JE S Γ e (.tup es)) (hl : ds.length + es.length ≤ sizeLine) (h : E.nx (Γ.set i (.li al (ds ++ es)))) (hi : S.N[i]? = some x:=by ac_nf) (hv : Vis S.sc x:=by ac_nf)
  (h1 : (x == ("__debug__" : Str)) = false:=by ac_nf) (h2 : (x == ("__classdict__" : Str)) = false:=by ac_nf)
  (hbase : ∀ env,attributeBase (.Name x p) "extend" env (eval (.Name x p) env) = eval (.Name x p) env:=by ac_rfl)
  (hfew : ∀ env,((backTo cpos (starEach [e] env)).all (fun x=>!x.1) && (backToKw cpos (keywordEach [] env)).all (fun x=>x.1.isSome)
   && decide ([e].length + ([] : List Keyword).length + (if ([] : List Keyword).isEmpty then 0 else 1) < 30)) = true:=by ac_rfl)
  (hline : (apos.endLine == cpos.line) = true:=by rfl) (hs : ∀ env,starEach [e] env = [(false,eval e env)]:=by ac_rfl) (hsw : ∀ X : Cx,swapsWith (.Call (.Attribute (.Name x p) "extend" apos) [e] [] cpos) none pos.line X.env = pure false:=by ac_rfl) :
  JS S Γ (.Expr (.Call (.Attribute (.Name x p) "extend" apos) [e] [] cpos) pos) E:=.mk fun X o=>by
 have fin : ∀ {Z : Ends} {σ : Internal.L2.St} {H H1 : Hp} {φ : Addr → Bool} {ω : Addr → Option (Bool × Nat)} {l bb : Addr} {vs ws zs : List V},RS S.K φ ω H σ Γ → Cn S.K φ ω H E Z → σ[i]? = some (some (.ref l)) → ω l = some (al,i) → φ l = false → H l = some (.lst vs) → Reps S.K (hidB (both φ ω) H) ds vs → Same H H1 → (SqL S.K (hidB (both φ ω) H1) bb zs ∨ SqT S.K (hidB (both φ ω) H1) bb zs) → Reps S.K (hidB (both φ ω) H1) es zs → ws = [.ref bb] →
   ∃ l' b' xs zs',V.ref l = .ref l' ∧ ws = [.ref b'] ∧ H1 l' = some (.lst xs) ∧ (∃ H0 : Hp,H0 l' = none ∧ Same H0 H1 ∧ (SqL X.K H0 b' zs' ∨ SqT X.K H0 b' zs')) ∧ xs.length + zs'.length ≤ sizeLine ∧ Z.nx σ (upd H1 l' (.lst (xs ++ zs'))):=by
  intro Z σ H H1 φ ω l bb vs ws zs r c hσ hω φl hH hr e1 sq rz ew
  have hb : both φ ω l = true:=by unfold both; rw [hω]; simp
  have hid : hidB (both φ ω) H1 l = none:=by unfold hidB; rw [if_pos hb]
  refine ⟨l,bb,vs,zs,rfl,ew,e1 _ _ hH,⟨hidB (both φ ω) H1,hid,zm,by rw [o.K]; exact sq⟩,by rw [hr.len,rz.len]; exact hl,?_⟩
  ·obtain ⟨r',k⟩:=(r.mono e1).put (ds':=ds ++ es) (vs':=vs ++ zs) hΓ hω hσ ((Reps.mono (zA e1) _ hr).app rz) φl
   exact c.n ω σ _ _ h r' ((Kp.of e1).trans k)
 rcases he with he | he
 ·refine zN (zcP (pe_bm PySem.F.plainAttrs_list PySem.F.slot_list_extend PySem.F.type_list_extend zjE (zbk (i:=i) (by rw [o.N]; exact hi) (by rw [o.sc]; exact hv) h1 h2) ((zb he a_nil hs) X o) (hbase X.env) (hfew X.env) hline (hs X.env)) (hsw X)) fun Z σ H hP52=>?_
  obtain ⟨φ,ω,r,c⟩:=hP52
  obtain ⟨l,vs,hσ,hω,φl,hH,hr⟩:=r.ownL i al ds hΓ
  refine ⟨.ref l,hσ,.inl ⟨rfl,vs,SqL.of hH⟩,both φ ω,r.re,fun ws H1 e1 rws=>?_⟩
  obtain ⟨v,rfl,ad,zs,rfl,sq,rz⟩:=reps1 rws
  exact fin r c hσ hω φl hH hr e1 (.inl sq) rz rfl
 ·refine zN (zcP (pe_bm PySem.F.plainAttrs_list PySem.F.slot_list_extend PySem.F.type_list_extend zjE (zbk (i:=i) (by rw [o.N]; exact hi) (by rw [o.sc]; exact hv) h1 h2) ((zb he a_nil hs) X o) (hbase X.env) (hfew X.env) hline (hs X.env)) (hsw X)) fun Z σ H hP53=>?_
  obtain ⟨φ,ω,r,c⟩:=hP53
  obtain ⟨l,vs,hσ,hω,φl,hH,hr⟩:=r.ownL i al ds hΓ
  refine ⟨.ref l,hσ,.inl ⟨rfl,vs,SqL.of hH⟩,both φ ω,r.re,fun ws H1 e1 rws=>?_⟩
  obtain ⟨v,rfl,ad,zs,rfl,sq,rz⟩:=reps1 rws
  exact fin r c hσ hω φl hH hr e1 (.inr (SqT.of sq)) rz rfl

theorem RE.hide {K : PySem.W.Frag} {χ : Addr → Bool} {H H' : Hp} {σ : Internal.L2.St} {l : Addr} {xs : List V} (r : RE K χ H σ Γ) (hl : H l = none) (e : Same H H') (hv : H' l = some (.lst xs)) : RE K (fun b=>χ b || b == l) H' σ Γ:=by
 have up : Same (hidB χ H) (hidB (fun b=>χ b || b == l) H'):=fun b u q=>by
  obtain ⟨c1,c2⟩:=zr q
  have hne : b ≠ l:=zE c2 hl
  exact zy (by rw [c1,Bool.false_or]; simpa using hne) (e _ _ c2)
 refine ⟨fun p hp=>?_,r.len,fun i d h=>let ⟨v,q,z⟩:=r.val i d h; ⟨v,q,z.mono up d⟩,fun i a ds h=>?_,r.inj⟩
 ·by_cases hpl : p = l
  ·subst hpl; exact ⟨⟨_,zez⟩,hv⟩
  ·have : (p == l) = false:=by simpa using hpl
   rw [this,Bool.or_false] at hp
   obtain ⟨o,ho⟩:=r.live p hp
   exact ⟨o,e _ _ ho⟩
 ·obtain ⟨p,vs,h1,h2,h3,h4⟩:=r.own i a ds h
  exact ⟨p,vs,h1,by rw [h2]; rfl,e _ _ h3,CRep.mono up ds h4⟩
theorem zgz {K : PySem.W.Frag} {H : Hp} {ds : List D} {vs : List V} (h : Reps K H ds vs) : ∀ k : Nat,Reps K H (List.replicate k ds).flatten (List.replicate k vs).flatten
 | 0=>rfl
 | k + 1=>by
  rw [List.replicate_succ,List.replicate_succ,List.flatten_cons,List.flatten_cons]
  exact h.app (zgz h k)
theorem f_rep {ds : List D} {n : Int} (ha : JF S Γ a ds) (hb : JE S Γ b (.int n)) (h1 : -(2 ^ 63) ≤ n) (h2 : n < 2 ^ 63) (hl : ds.length * n.toNat ≤ sizeLine) : JF S Γ (.BinOp a .Mult b pos) (List.replicate n.toNat ds).flatten:=.mk fun X o =>
 zq (pe_op znF (ha X o) (hb X o)) fun σ H Q ⟨χ,R,q⟩=>⟨χ,R,fun l vs H1 hl1 e1 hv rs=>⟨fun b=>χ b || b == l,R.hide hl1 e1 hv,fun y H2 e2 ry=>by
  cases (show y = _ from ry)
  refine ⟨l,n,vs,rfl,rfl,e2 _ _ hv,h1,h2,by rw [rs.len]; exact hl,fun p hp=>?_⟩
  have hp1:=same_none e2 hp
  refine q p _ _ (same_none e1 hp1) ((e1.trans e2).trans (zH hp _)) zu (zgz (Reps.mono (fun b u h=>?_) _ rs) n.toNat)
  obtain ⟨c1,c2⟩:=zr h
  have hne : b ≠ p:=zE c2 hp1
  have c1' : χ b = false:=by
   cases c : χ b with
   | false=>rfl
   | true=>rw [c] at c1; simp at c1
  exact zy (by rw [c1',Bool.false_or]; simpa using hne) (by rw [zp hne]; exact e2 _ _ c2)⟩⟩
end
noncomputable def insZ (x : Int) : List Int → List Int
 | []=>[x]
 | y :: r=>if x ≤ y then x :: y :: r else y :: insZ x r
noncomputable def sortZ : List Int → List Int
 | []=>[]
 | x :: r=>insZ x (sortZ r)
theorem zdC (x : Int) : ∀ l,(insZ x l).Perm (x :: l)
 | []=>.refl _
 | y :: r=>by
  unfold insZ
  split
  ·exact .refl _
  ·exact (List.Perm.cons y (zdC x r)).trans (List.Perm.swap x y r)
theorem zbb : ∀ l,(sortZ l).Perm l
 | []=>.refl _
 | x :: r=>(zdC x (sortZ r)).trans (List.Perm.cons x (zbb r))
theorem zdW (x : Int) : ∀ l : List Int,l.Pairwise (· ≤ ·) → (insZ x l).Pairwise (· ≤ ·)
 | [],_=>List.pairwise_singleton _ _
 | y :: r,h=>by
  unfold insZ
  obtain ⟨h1,h2⟩:=List.pairwise_cons.mp h
  split
  ·rename_i hxy
   refine List.pairwise_cons.mpr ⟨fun z hz=>?_,h⟩
   rcases List.mem_cons.mp hz with rfl | hz
   ·exact hxy
   ·exact Int.le_trans hxy (h1 z hz)
  ·refine List.pairwise_cons.mpr ⟨fun z hz=>?_,zdW x r h2⟩
   rcases List.mem_cons.mp ((zdC x r).mem_iff.mp hz) with rfl | hz
   ·omega
   ·exact h1 z hz
theorem zbN : ∀ l : List Int,(sortZ l).Pairwise (· ≤ ·)
 | []=>List.Pairwise.nil
 | x :: r=>zdW x _ (zbN r)
theorem zcI {a b : List Int} (p : a.Perm b) (ha : a.Pairwise (· ≤ ·)) (hb : b.Pairwise (· ≤ ·)) : a = b:=p.eq_of_pairwise (fun x y _ _ h1 h2=>Int.le_antisymm h1 h2) ha hb
theorem zbs {K : PySem.W.Frag} {H : Hp} : ∀ {ns : List Int} {vs : List V},Reps K H (ns.map D.int) vs → vs = ns.map V.int
 | [],_,h=>h
 | n :: ns,_,⟨v,r,e,rv,rs⟩=>by rw [e,show v = .int n from rv,zbs rs]; rfl
theorem zcw : ∀ {us : List Value} {ns : List Int},IntsAre us ns → Vals (ns.map V.int) us
 | _,_,.nil=>.nil
 | _,_,.cons n t h=>.cons ⟨t,rfl⟩ (zcw h)
theorem zkT {X : Cx} : CallR X (.builtin "sorted") (fun xs H Q=>∃ p ns,xs = [.ref p] ∧ SqL X.K H p (ns.map V.int) ∧ ns.length < 64 ∧ ∀ l,H l = none → Q (.ref l) (upd H l (.lst ((sortZ ns).map V.int)))):=by
 intro pins s σ H xs us Q I r h
 obtain ⟨p,ns,rfl,sq,hl,q⟩:=h
 obtain ⟨u,rfl,ru⟩:=r.one
 cases ru
 obtain ⟨its,rv,pl,hz⟩:=I.list sq
 have hI : IntsAre its ns:=intsAre_of rv
 have hlen:=rv.length
 rw [List.length_map] at hlen
 refine sorted_ints pl.isList hI (by omega) fun out ns' a1 a2 a3=>?_
 obtain ⟨e,he⟩:=sortedAll_at s.heap its out
 have en : ns' = sortZ ns:=zcI (a2.trans (zbb ns).symm) a3 (zbN ns)
 subst en
 have hn : s.heap.objs.size ≤ s.heap.objs.size + 1:=Nat.le_succ _
 refine ⟨.ref (s.heap.objs.size + 1),_,I.laid (t':=s.toks) (o:=.lst ((sortZ ns).map V.int)) (fun b ob q=>sortedAll_old q) hn ?_,rfl,q _ (I.hok.fresh hn)⟩
 exact ⟨by rw [List.length_map,(zbb ns).length_eq,← List.length_map (f:=V.int)]; exact hz,out.toList,e,zcw a1,by simpa using he⟩
section
variable {S : Stat} {Γ : List Sl} {pos p : Pos} {a : Expr}
theorem zkU {ns : List Int} (h : JE S Γ a (intsD ns)) (hl : ns.length < 64) (hm : S.mg "sorted" = none) (hg : S.sc.names.lookup ("sorted" : Str) = some .globalImplicit:=by ac_nf) (hs : ∀ env,starEach [a] env = [(false,eval a env)]:=by ac_rfl) : JF S Γ (.Call (.Name "sorted" p) [a] [] pos) ((sortZ ns).map D.int):=.mk fun X o =>
 zq (zcZ zkT (gl_of o hg) (by rw [o.mg]; exact hm) boot_sorted ((zb h a_nil hs) X o) (by decide +kernel) (by decide +kernel) (hs X.env)) fun σ H Q ⟨χ,R,q⟩=>⟨χ,R,fun vs H1 e1 rs=>by
  obtain ⟨v,rfl,ad,ws,rfl,sq,rw'⟩:=reps1 rs
  have ew : ws = ns.map V.int:=zbs rw'
  subst ew
  refine ⟨ad,ns,rfl,by rw [o.K]; exact Same.seq zm sq,hl,fun l hl'=>q l _ _ (same_none e1 hl') (e1.trans (zH hl' _)) zu (Reps.ints _)⟩⟩
end
end Internal

end
section
set_option Elab.async false
set_option linter.all false
set_option maxRecDepth 100000
set_option maxHeartbeats 4000000
namespace Internal
open PySem PySem.Spec PyProof.Rows Internal.L2
section
variable {S : Stat} {Γ : List Sl} {E : DEnds} {pos p pos' : Pos} {e a b : Expr} {x y z : Str}

theorem zmo (i : Nat) {ds es : List D} {al : Bool} (hi : Γ[i]? = some (.li al ds)) (hb : JF S Γ b es) (hl : ds.length + es.length ≤ sizeLine) (hN : S.N[i]? = some x:=by ac_nf) (hv : Vis S.sc x:=by ac_nf)
  (h1 : (x == ("__debug__" : Str)) = false:=by ac_nf) (h2 : (x == ("__classdict__" : Str)) = false:=by ac_nf) : JF S Γ (.BinOp (.Name x p) .Add b pos) (ds ++ es):=.mk fun X o =>
 zq (pe_op znE (zbk (i:=i) (by rw [o.N]; exact hN) (by rw [o.sc]; exact hv) h1 h2) (hb X o)) fun σ H Q hP54=>by
  obtain ⟨χ,R,q⟩:=hP54
  obtain ⟨pa,vs,hσ,hχ,hH,hr⟩:=R.ownL i al ds hi
  refine ⟨.ref pa,hσ,χ,R,fun l ws H1 hl1 e1 hv1 rs=>?_⟩
  refine ⟨pa,l,vs,ws,rfl,rfl,e1 _ _ hH,hv1,by rw [hr.len,rs.len]; exact hl,fun p' hp'=>?_⟩
  refine q p' _ _ (same_none e1 hp') (e1.trans (zH hp' _)) zu ((Reps.mono (fun b u h=>?_) _ hr).app (Reps.mono (fun b u h=>?_) _ rs))
  ·obtain ⟨c1,c2⟩:=zr h
   have hne : b ≠ p':=zE (e1 _ _ c2) hp'
   exact zy (by rw [c1,Bool.false_or]; simpa using hne) (by rw [zp hne]; exact e1 _ _ c2)
  ·obtain ⟨c1,c2⟩:=zr h
   have hne : b ≠ p':=zE c2 hp'
   have c1' : χ b = false:=by
    cases c : χ b with
    | false=>rfl
    | true=>rw [c] at c1; simp at c1
   exact zy (by rw [c1',Bool.false_or]; simpa using hne) (by rw [zp hne]; exact c2)

theorem zoa (i j k : Nat) {d1 d2 d3 : D} {kt : Nat} {px py pz pt : Pos} (he : JE S Γ e (.tup [d1,d2,d3])) (h : E.nx (((Γ.set i (.val d1)).set j (.val d2)).set k (.val d3))) (hN : S.N.Nodup:=by ac_nf)
  (hi : S.N[i]? = some x:=by ac_nf) (hj : S.N[j]? = some y:=by ac_nf) (hk : S.N[k]? = some z:=by ac_nf)
  (hx : Loc S.sc x:=by ac_nf) (hy : Loc S.sc y:=by ac_nf) (hz : Loc S.sc z:=by ac_nf)
  (hs : ∀ X : Cx,swapsWithSole [.Tuple [.Name x px,.Name y py,.Name z pz] kt pt] e pos.line X.env = pure false:=by ac_rfl) (hw : ∀ X : Cx,swappedStores [.Tuple [.Name x px,.Name y py,.Name z pz] kt pt] e X.env = pure none:=by ac_rfl) (htop : S.top = true:=by rfl) :
  JS S Γ (.Assign [.Tuple [.Name x px,.Name y py,.Name z pz] kt pt] e pos) E:=.mk fun X o=>by
 have gn : ∀ {i : Nat} {x : Str} {px : Pos},S.N[i]? = some x → Loc S.sc x → PG X (.Name x px) (gName i):=fun {i x px} h1 h2=>zdN (by rw [o.N]; exact hN) (by rw [o.N]; exact h1) (by rw [o.sc]; exact h2) (.inl (o.fn htop x))
 refine zN (zja (he X o) (znp o.calm (zee (gn hi hx) (zee (gn hj hy) (zee (gn hk hz) zlN rfl) rfl) rfl) rfl rfl) (hs X) (hw X) rfl) fun Z σ H hP55=>?_
 obtain ⟨φ,ω,r,c⟩:=hP55
 refine ⟨both φ ω,r.re,fun v H1 e1 hP56=>?_⟩
 obtain ⟨ad,vs,ev,sq,rs⟩:=hP56
 obtain ⟨v1,r1,rfl,q1,rs1⟩:=rs
 obtain ⟨v2,r2,rfl,q2,rs2⟩:=rs1
 obtain ⟨v3,rfl,q3⟩:=reps1 rs2
 refine ⟨ad,_,ev,by rw [o.K]; exact zbV zm sq,rfl,v1,_,rfl,v2,_,rfl,v3,_,rfl,rfl,?_⟩
 exact c.n ω _ H1 _ h ((((r.mono e1).set q1).set q2).set q3) (Kp.of e1)
end
end Internal

end
section
set_option linter.all false
namespace Internal.BM

noncomputable def numB (w h : Nat) : Bd:=(List.range h).map fun y=>(List.range w).map fun x=>((y * w + x : Nat) : Int)
theorem zbY (w h : Nat) : Rect w h (numB w h):=by
 refine ⟨by unfold numB; rw [List.length_map,List.length_range],fun r hr=>?_⟩
 obtain ⟨y,_,rfl⟩:=List.mem_map.mp hr
 rw [List.length_map,List.length_range]
noncomputable def origins (w h : Nat) (d : Deed) : List Int:=(dn w h (numB w h) d).flatten
theorem zbS {w h : Nat} {b : Bd} (r : Rect w h b) : b.flatten.length = h * w:=by
 have : ∀ (b : Bd),(∀ r ∈ b,r.length = w) → b.flatten.length = b.length * w:=by
  intro b
  induction b with
  | nil=>intro _; simp
  | cons x b ih =>
   intro h
   rw [List.flatten_cons,List.length_append,ih fun r hr=>h r (by simp [hr]),h x (by simp),List.length_cons,Nat.succ_mul,Nat.add_comm]
 rw [this b r.row,r.len]
theorem zkV {w h : Nat} {b : Bd} (r : Rect w h b) (hw : 0 < w) (hh : 0 < h) (x y : Int) : cell w h b x y ∈ b.flatten:=by
 unfold cell
 have hj:=zB (k:=y) hh
 have hi:=zB (k:=x) hw
 have l:=zgt r hj
 have hj' : (y % (h : Int)).toNat < b.length:=by rw [r.len]; exact hj
 rw [getD_lt _ _ 0 (by rw [l]; exact hi)]
 refine List.mem_flatten.mpr ⟨_,?_,List.getElem_mem _⟩
 rw [getD_lt b _ [] hj']
 exact List.getElem_mem _
theorem zkW {w h : Nat} {b : Bd} (r : Rect w h b) {v : Int} (hv : v ∈ b.flatten) : ∃ x y : Int,v = cell w h b x y:=by
 obtain ⟨l,hl,hv⟩:=List.mem_flatten.mp hv
 obtain ⟨j,hj,rfl⟩:=List.getElem_of_mem hl
 obtain ⟨i,hi,rfl⟩:=List.getElem_of_mem hv
 have l1:=r.row _ hl
 refine ⟨i,j,?_⟩
 unfold cell
 rw [zco (by rw [← r.len]; exact hj),zco (by rw [← l1]; exact hi),getD_lt b j [] hj,getD_lt _ i 0 hi]
theorem zob {w h : Nat} {b : Bd} {d : Deed} (f : Fits d.t w h) (r : Rect w h b) (hw : 0 < w) (hh : 0 < h) {v : Int} (hv : v ∈ (dn w h b d).flatten) : v ∈ b.flatten:=by
 obtain ⟨x,y,rfl⟩:=zkW (zcp f r hh) hv
 rw [zfg f r hw hh]
 exact zkV r hw hh _ _
theorem zkX {w h : Nat} {v : Int} (hv : v ∈ (numB w h).flatten) : 0 ≤ v ∧ v < ((w * h : Nat) : Int):=by
 obtain ⟨l,hl,hv⟩:=List.mem_flatten.mp hv
 obtain ⟨y,hy,rfl⟩:=List.mem_map.mp hl
 obtain ⟨x,hx,rfl⟩:=List.mem_map.mp hv
 have hy:=List.mem_range.mp hy
 have hx:=List.mem_range.mp hx
 have : y * w + x < w * h:=by
  have h1 : (y + 1) * w ≤ h * w:=Nat.mul_le_mul_right w hy
  rw [Nat.succ_mul] at h1
  rw [Nat.mul_comm w h]
  omega
 omega
structure OrOk (n : Nat) (os : List Int) : Prop where
 len : os.length = n
 mem : ∀ v ∈ os,0 ≤ v ∧ v < (n : Int)
theorem zdc {w h : Nat} {d : Deed} (f : Fits d.t w h) (hw : 0 < w) (hh : 0 < h) : OrOk (w * h) (origins w h d) :=
 ⟨by unfold origins; rw [zbS (zcp f (zbY w h) hh),Nat.mul_comm],fun v hv=>zkX (zob f (zbY w h) hw hh hv)⟩

noncomputable def free (met : List Bool) : Nat:=met.count false
noncomputable def rl (os : List Int) : Nat → List Bool → Nat → Nat → List Bool × Nat
 | 0,met,_,n=>(met,n)
 | m + 1,met,c,n=>if met.getD c true then (met,n) else rl os m (met.set c true) (os.getD c 0).toNat (n + 1)
theorem zgA {met : List Bool} {c : Nat} (hc : c < met.length) (h : met.getD c true = false) : free met = free (met.set c true) + 1:=by
 unfold free
 rw [getD_lt met c true hc] at h
 rw [List.count_set hc,h]
 have : 0 < met.count false:=List.count_pos_iff.mpr (by rw [← h]; exact List.getElem_mem hc)
 simp
 omega
theorem zjF {met : List Bool} {c : Nat} (hc : c < met.length) (h : free met = 0) : met.getD c true = true:=by
 rw [getD_lt met c true hc]
 cases e : met[c] with
 | true=>rfl
 | false =>
  have : 0 < met.count false:=List.count_pos_iff.mpr (by rw [← e]; exact List.getElem_mem hc)
  unfold free at h
  omega
noncomputable def rstep (os : List Int) (s : List Bool × List Nat) (c : Nat) : List Bool × List Nat:=if s.1.getD c true then s else ((rl os (free s.1) s.1 c 0).1,s.2 ++ [(rl os (free s.1) s.1 c 0).2])
noncomputable def rall (os : List Int) (k : Nat) : List Bool × List Nat:=(List.range k).foldl (rstep os) (List.replicate os.length false,[])
theorem zdD (os : List Int) (k : Nat) : rall os (k + 1) = rstep os (rall os k) k:=by unfold rall; rw [List.range_succ,List.foldl_append]; rfl
theorem zjG (os : List Int) : ∀ m met c n,(rl os m met c n).1.length = met.length
 | 0,_,_,_=>rfl
 | m + 1,met,c,n=>by
  unfold rl
  split
  ·rfl
  ·rw [zjG os m,List.length_set]
theorem zcx (os : List Int) : ∀ k,(rall os k).1.length = os.length ∧ (rall os k).2.length ≤ k
 | 0=>⟨by simp [rall],Nat.le_refl _⟩
 | k + 1=>by
  obtain ⟨h1,h2⟩:=zcx os k
  rw [zdD]
  unfold rstep
  split
  ·exact ⟨h1,by omega⟩
  ·refine ⟨by rw [zjG]; exact h1,?_⟩
   rw [List.length_append,List.length_singleton]
   omega

noncomputable def lens (w h : Nat) (d : Deed) : List Nat:=(rall (origins w h d) (w * h)).2
end Internal.BM
namespace Internal.BM
theorem zjH {os : List Int} : ∀ (m : Nat) (met : List Bool) (c n : Nat),m = free met → OrOk met.length os → c < met.length → (rl os m met c n).2 + free (rl os m met c n).1 = n + free met ∧ (met.getD c true = false → n + 1 ≤ (rl os m met c n).2) ∧ n ≤ (rl os m met c n).2
 | 0,met,c,n,hm,ok,hc=>⟨rfl,(fun h=>by rw [zjF hc hm.symm] at h; cases h),Nat.le_refl _⟩
 | m + 1,met,c,n,hm,ok,hc=>by
  unfold rl
  cases e : met.getD c true with
  | true=>exact ⟨rfl,(fun h=>by cases h),Nat.le_refl _⟩
  | false =>
   have hf:=zgA hc e
   have hv:=ok.mem (os.getD c 0) (by rw [getD_lt os c 0 (by rw [ok.len]; exact hc)]; exact List.getElem_mem _)
   have hl : (met.set c true).length = met.length:=List.length_set
   obtain ⟨h1,_,h3⟩:=zjH m (met.set c true) (os.getD c 0).toNat (n + 1) (by omega) (by rw [hl]; exact ok) (by rw [hl]; omega)
   rw [if_neg Bool.false_ne_true]
   exact ⟨by omega,fun _=>by omega,by omega⟩
theorem zgB {os : List Int} {N : Nat} (ok : OrOk N os) : ∀ k,k ≤ N → (rall os k).2.sum + free (rall os k).1 = N ∧ ∀ v ∈ (rall os k).2,1 ≤ v
 | 0,_=>by
  refine ⟨?_,fun v hv=>nomatch hv⟩
  show 0 + free (List.replicate os.length false) = N
  unfold free
  rw [List.count_replicate_self,ok.len]; omega
 | k + 1,hk=>by
  obtain ⟨h1,h2⟩:=zgB ok k (by omega)
  have hl:=(zcx os k).1
  rw [zdD]
  unfold rstep
  cases e : (rall os k).1.getD k true with
  | true=>exact ⟨h1,h2⟩
  | false =>
   rw [if_neg Bool.false_ne_true]
   have hkl : k < (rall os k).1.length:=by rw [hl,ok.len]; omega
   obtain ⟨q1,q2,_⟩:=zjH (free (rall os k).1) (rall os k).1 k 0 rfl (by rw [hl,ok.len]; exact ok) hkl
   have q2:=q2 e
   refine ⟨by dsimp only; rw [List.sum_append,List.sum_singleton]; omega,fun v hv=>?_⟩
   rcases List.mem_append.mp hv with hv | hv
   ·exact h2 v hv
   ·rw [List.mem_singleton.mp hv]; omega
theorem zmp : ∀ {l : List Nat},(∀ v ∈ l,1 ≤ v) → l.sum ≤ l.length → ∀ v ∈ l,v = 1
 | [],_,_,v,hv=>nomatch hv
 | a :: l,h,hs,v,hv=>by
  have ha:=h a (by simp)
  have hl : ∀ v ∈ l,1 ≤ v:=fun v hv=>h v (by simp [hv])
  have ge : ∀ {l : List Nat},(∀ v ∈ l,1 ≤ v) → l.length ≤ l.sum:=by
   intro l
   induction l with
   | nil=>intro _; exact Nat.le_refl _
   | cons b l ih=>intro h; have:=ih fun v hv=>h v (by simp [hv]); have:=h b (by simp); simp; omega
  have:=ge hl
  rw [List.sum_cons,List.length_cons] at hs
  rcases List.mem_cons.mp hv with rfl | hv
  ·omega
  ·exact zmp hl (by omega) v hv

end Internal.BM

end
section
set_option Elab.async false
set_option linter.all false
set_option maxRecDepth 100000
set_option maxHeartbeats 4000000
namespace Internal
open PySem PySem.Spec PyProof.Rows Internal.L2
section
variable {S : Stat} {Γ : List Sl} {pos p : Pos} {a : Expr}
end
end Internal

end
section
set_option Elab.async false
set_option linter.all false
set_option maxRecDepth 100000
set_option maxHeartbeats 4000000
namespace Internal
open PySem PySem.Spec PyProof.Rows Internal.L2

theorem zmq {vs : List Value} {ns : List Int} (h : IntsAre vs ns) : ∀ (i : Nat) (v : Value),vs[i]? = some v → ∃ t,v = .int (ns.getD i 0) t:=by
 induction h with
 | nil=>intro i v hv; simp at hv
 | cons n t h ih =>
  intro i v hv
  cases i with
  | zero=>exact ⟨t,by simpa using hv.symm⟩
  | succ i=>obtain ⟨t',e⟩:=ih i v (by simpa using hv); exact ⟨t',by simpa using e⟩
theorem c_sum {X : Cx} (hc : X.calm = true) : CallR X (.builtin "sum") (fun xs H Q=>∃ (p : Addr) (ns : List Int),xs = [.ref p] ∧ SqL X.K H p (ns.map V.int) ∧ Q (.int ns.sum) H):=by
 intro pins s σ H xs us Q I r h
 obtain ⟨p,ns,rfl,sq,q⟩:=h
 obtain ⟨u,rfl,ru⟩:=r.one
 cases ru
 obtain ⟨its,rv,pl,hz⟩:=I.list sq
 have hI : IntsAre its ns:=intsAre_of rv
 have hlen:=rv.length
 rw [List.length_map] at hlen
 have hp : p < s.heap.objs.size:=let ⟨_,ho,_⟩:=pl.isList; Heap.lt_size ho
 refine call_sum_walkAnyS (wpAny_pyIter_list pl.isList ?_)
 have W:=(Walks.list (prog:=X.prog) (w:=X.w) (A:=X.A.in1) (I.ok.hd hc) s.heap.objs.size p (Nat.ne_of_lt hp) its.toArray).toS
 refine ⟨_,_,_,_,_,_,_,fun i=>ns.getD i 0,rfl,W,⟨⟨_,Heap.get?_push_size _ rfl,rfl,rfl⟩,?_⟩,?_,?_,?_⟩
 ·obtain ⟨o,ho,r⟩:=pl.isList
  exact ⟨o,Heap.get?_push_of_some _ ho,r⟩
 ·intro b hb
  rcases List.mem_cons.mp hb with rfl | hb
  ·exact Heap.lt_size (Heap.get?_push_size (o:={ cls:=.type "list_iterator",data:=.fields #[.ref p,.int 0 0] }) s.heap rfl)
  ·rw [List.mem_singleton.mp hb]
   obtain ⟨o,ho,_⟩:=pl.isList
   exact Heap.lt_size (Heap.get?_push_of_some _ ho)
 ·intro i v hv
  exact zmq hI i v (by simpa using hv)
 ·intro s' t' hm
  have es : preSum (fun i=>ns.getD i 0) its.toArray.size = ns.sum:=by
   rw [PyProof.Rows.preSum_getD,List.size_toArray,← hlen,List.take_length]
  rw [es]
  obtain ⟨h',g',d',tk',os'⟩:=s'
  have e1 : g' = s.gens:=hm.gens
  have e2 : d' = s.drawn:=hm.drawn
  have e3 : os' = s.os:=hm.os
  subst e1 e2 e3
  refine ⟨.int ns.sum,H,I.kept (t':=tk') fun b o e=>hm.heap b o ?_ (Heap.get?_push_of_some _ e),⟨t',rfl⟩,q⟩
  intro hb
  exact absurd (Heap.lt_size e) (by rw [List.mem_singleton.mp hb]; exact Nat.lt_irrefl _)
section
variable {S : Stat} {Γ : List Sl} {pos p p' pos' : Pos} {a b c : Expr}
theorem e_sum {ns : List Int} (h : JE S Γ a (intsD ns)) (hm : S.mg "sum" = none) (hg : S.sc.names.lookup ("sum" : Str) = some .globalImplicit:=by ac_nf) (hs : ∀ env,starEach [a] env = [(false,eval a env)]:=by ac_rfl) : JE S Γ (.Call (.Name "sum" p) [a] [] pos) (.int ns.sum):=.mk fun X o =>
 zq (zcZ (c_sum o.calm) (gl_of o hg) (by rw [o.mg]; exact hm) boot_sum ((zb h a_nil hs) X o) (by decide +kernel) (by decide +kernel) (hs X.env)) fun σ H Q ⟨χ,R,q⟩=>⟨χ,R,fun vs H1 e1 rs=>by
  obtain ⟨v,rfl,ad,ws,rfl,sq,rw'⟩:=reps1 rs
  have ew : ws = ns.map V.int:=zbs rw'
  subst ew
  exact ⟨ad,ns,rfl,by rw [o.K]; exact Same.seq zm sq,q _ H1 e1 rfl⟩⟩
end

section
variable {X : Cx} {pins : List (Addr × Obj)} {σ : Internal.L2.St} {H : Hp} {s : Shared}
noncomputable def tLRg (n : Nat) (ta : TA) : TE:=fun σ H Q=>ta σ H fun vs H1=>∃ i j k : Int,vs = [.int i,.int j,.int k] ∧ 0 < k ∧ k < 1073741824 ∧ Builtin.Range.small i j k = true ∧ Builtin.Range.rangeSize i j k = (n : Int) ∧ n ≤ 2 ^ 24 ∧ ∀ l,H1 l = none → Q (.ref l) (upd H1 l (.lst ((List.range n).map fun m : Nat=>V.int (i + m * k))))
theorem ziB {n : Nat} {a b c : Expr} {ta : TA} {p p' pos pos' : Pos} (hc : X.calm = true) (hg : Gl X "range") (hm : X.mg "range" = none) (hgt : Gl X "list") (hmt : X.mg "list" = none) (ha : PA X [a,b,c] ta)
  (hs : starEach [a,b,c] X.env = (false,eval a X.env) :: starEach [b,c] X.env) (hs2 : (backTo pos (starEach [b,c] X.env)).any (·.1) = false) : PE X (.Call (.Name "list" p') [.Call (.Name "range" p) [a,b,c] [] pos] [] pos') (tLRg n ta):=by
 intro pins s σ H Q I h
 refine wpAny_Call_Name_kw (zbl I hgt hmt boot_list ?_)
 refine PyProof.Rows.callWith_type1 ?_ rfl rfl
 show wpAny _ _ (spliced ((false,eval (.Call (.Name "range" p) [a,b,c] [] pos) X.env) :: [])) _ _ s
 refine Calls.spliced_cons (Call_ (zbl I hg hm boot_range (PyProof.Rows.callWith_type1 (thn (ha pos pins s σ H _ I h) fun us s1 hP57=>?_) hs hs2)))
 obtain ⟨vs,H1,I1,r1,q1⟩:=hP57
 obtain ⟨i,j,k,rfl,k0,k1,hsm,hn,hl,q⟩:=q1
 cases r1 with
 | cons r rr =>
  cases rr with
  | cons r' rr =>
   cases rr with
   | cons r'' rr =>
    cases rr
    obtain ⟨t,rfl⟩:=r
    obtain ⟨t',rfl⟩:=r'
    obtain ⟨t'',rfl⟩:=r''
    refine call_range_3 (by omega) ?_ (.inl (PyProof.noPylong_small (by omega)))
    refine Calls.spliced_nil ?_
    have I2 : Internal.L2.Inv X pins σ H1 { s1 with heap:=s1.heap.push { cls:=.type "range",data:=.fields #[.int i t,.int j t',.int k t''] },toks:=s1.toks }:=I1.kept (t':=s1.toks) fun b o e=>Heap.get?_push_of_some _ e
    refine call_list_range (I2.ok.hd hc) (IsRange.new ..) hsm hn hl fun h' tk acc c' hk hS hacc=>?_
    have vv:=zhU hacc
    refine ⟨.ref _,_,I2.laid (t':=tk) (o:=.lst ((List.range n).map fun m : Nat=>V.int (i + m * k))) hk (Nat.le_refl _) ?_,rfl,q _ (I2.hok.fresh (Nat.le_refl _))⟩
    exact ⟨by rw [List.length_map,List.length_range,sizeLine_eq]; omega,acc.toList,c',vv,by simpa using hS⟩
end
section
variable {S : Stat} {Γ : List Sl} {pos p p' pos' : Pos} {a b c : Expr}
theorem zjI {i j k : Int} (n : Nat) (ha : JE S Γ a (.int i)) (hb : JE S Γ b (.int j)) (hc : JE S Γ c (.int k)) (hm : S.mg "range" = none) (hmt : S.mg "list" = none) (k0 : 0 < k) (k1 : k < 1073741824) (hsm : Builtin.Range.small i j k = true) (hn : Builtin.Range.rangeSize i j k = (n : Int)) (hl : n ≤ 2 ^ 24) (hg : S.sc.names.lookup ("range" : Str) = some .globalImplicit:=by ac_nf)
  (hgt : S.sc.names.lookup ("list" : Str) = some .globalImplicit:=by ac_nf) (hs1 : ∀ env,starEach [a,b,c] env = (false,eval a env) :: starEach [b,c] env:=by ac_rfl) (hs2 : ∀ env,starEach [b,c] env = (false,eval b env) :: starEach [c] env:=by ac_rfl) (hs3 : ∀ env,starEach [c] env = [(false,eval c env)]:=by ac_rfl)
  (hpl : ∀ env,(backTo pos (starEach [b,c] env)).any (·.1) = false:=by ac_rfl) :
  JF S Γ (.Call (.Name "list" p') [.Call (.Name "range" p) [a,b,c] [] pos] [] pos') ((List.range n).map fun m : Nat=>D.int (i + m * k)):=.mk fun X o =>
 zq (ziB (n:=n) o.calm (gl_of o hg) (by rw [o.mg]; exact hm) (gl_of o hgt) (by rw [o.mg]; exact hmt) ((zb ha (zb hb (zb hc a_nil hs3) hs2) hs1) X o) (hs1 X.env) (hpl X.env)) fun σ H Q ⟨χ,R,q⟩=>⟨χ,R,fun vs H1 e1 rs=>by
  obtain ⟨v,r',rfl,rv,rs'⟩:=rs
  obtain ⟨v',r'',rfl,rv',rs''⟩:=rs'
  obtain ⟨v'',rfl,rv''⟩:=reps1 rs''
  cases (show v = _ from rv)
  cases (show v' = _ from rv')
  cases (show v'' = _ from rv'')
  exact ⟨i,j,k,rfl,k0,k1,hsm,hn,hl,fun l hl'=>q l _ _ (same_none e1 hl') (e1.trans (zH hl' _)) zu (zcv (fun m : Nat=>i + (m : Int) * k) (List.range n))⟩⟩
theorem t_neS {i j : Str} (ha : JE S Γ a (.str i)) (hb : JE S Γ b (.str j)) : JT S Γ (.Compare a [.NotEq] [b] pos) (!decide (i = j)):=t_cmp (fun _ _=>op_ne) ha hb (zbK _) fun _ H x y _ _ rx ry q=>by
 cases (show x = _ from rx); cases (show y = _ from ry)
 refine ⟨rfl,?_⟩
 have e : decide (V.str i = V.str j) = decide (i = j):=by simp
 rw [e]; exact q _ H (Same.refl H) rfl
end
end Internal

end
section
set_option Elab.async false
set_option linter.all false
set_option maxRecDepth 100000
set_option maxHeartbeats 4000000
namespace Internal
open PySem PySem.Spec PyProof.Rows Internal.L2

theorem zgC (l : Addr) (items : Array Value) (n : Nat) (b : Addr) (items2 : Array Value) (n2 : Nat) (sl sl2 : Array (Option Value)) (hc0 : items.size + items2.size ≤ sizeLine) :
  Meets (Builtin.«list.__add__» ⟨[.ref l,.ref b],[]⟩) (fun _ R s=>s.heap.get? l = some { cls:=.type "list",dict:=none,data:=.seq items n,slots:=sl } ∧ s.heap.get? b = some { cls:=.type "list",dict:=none,data:=.seq items2 n2,slots:=sl2 } ∧ R (.ok (.ret (Value.ref s.heap.objs.size))) { s with heap:=s.heap.push { cls:=Value.type "list",data:=Data.seq (items ++ items2) },toks:=s.toks }) :=
 .of_wp fun prog w A R s h=>by obtain ⟨hp,g,d,tk,os⟩:=s; obtain ⟨hl,hb,h⟩:=h; have f1:=AutoSeq1.idx_int; have f2:=AutoSeq1.sub_tuple_tuple; have f3:=AutoSeq1.sub_list_list; have f4:=AutoSeq1.sub_tuple_list; have f5:=AutoSeq1.sub_list_tuple; wp_walk using wpAny_loadPart' hl,wpAny_loadPart' hb; exact ⟨_,rfl,h⟩
noncomputable def rCatP (K : PySem.W.Frag) : R2:=fun x y H Q=>∃ l b xs zs,x = .ref l ∧ y = .ref b ∧ SqL K H l xs ∧ SqL K H b zs ∧ xs.length + zs.length ≤ sizeLine ∧ ∀ p,H p = none → Q (.ref p) (upd H p (.lst (xs ++ zs)))
theorem zmr {X : Cx} : OpR X (binaryOp .Add) (rCatP X.K):=by
 intro pins s σ H x y v u Q I rx ry h
 obtain ⟨l,b,xs,zs,rfl,rfl,hH,hB,hz,q⟩:=h
 cases rx
 cases ry
 obtain ⟨its,r,⟨⟨c1,d1,dt1,sl1⟩,n,e,h1,h2,h3⟩,z⟩:=I.list hH
 obtain ⟨its2,r2,⟨⟨c2,d2,dt2,sl2⟩,n2,e2,g1,g2,g3⟩,z2⟩:=I.list hB
 dsimp only at h1 h2 h3 g1 g2 g3
 subst h1 h2 h3 g1 g2 g3
 refine concat_meets ⟨_,e,rfl⟩ ⟨_,e2,rfl⟩ noFill_list_add seq_list_add F.slot_list_add F.entry_list_add (F.args_list_add_2 _ _) (zgC l its.toArray n b its2.toArray n2 sl1 sl2 (by rw [List.size_toArray,List.size_toArray,← r.length,← r2.length]; exact hz)) ⟨e,e2,?_⟩
 have ea : its.toArray ++ its2.toArray = (its ++ its2).toArray:=by simp
 rw [ea]
 exact ⟨.ref _,_,I.lnew (t':=s.toks) (r.append r2) (by rw [List.length_append]; omega),rfl,q _ I.fresh⟩
section
variable {S : Stat} {Γ : List Sl} {E : DEnds} {pos p pos' : Pos} {e a b : Expr} {x y z : Str}
theorem e_pow {i j : Int} (ha : JE S Γ a (.int i)) (hb : JE S Γ b (.int j)) (h : CPow i j) : JE S Γ (.BinOp a .Pow b pos) (.int (i ^ j.toNat)):=e_op (fun _ _=>znx) ha hb fun _ H _ _ _ _ rx ry q=>⟨i,j,rx,ry,h,q _ H (Same.refl H) rfl⟩
theorem f_cat {ds es : List D} (ha : JE S Γ a (.lst ds)) (hb : JE S Γ b (.lst es)) (hl : ds.length + es.length ≤ sizeLine) : JF S Γ (.BinOp a .Add b pos) (ds ++ es):=.mk fun X o =>
 zq (pe_op zmr (ha X o) (hb X o)) fun σ H Q ⟨χ,R,q⟩=>⟨χ,R,fun x H1 e1 ⟨l,vs,ex,sq,rs⟩=>⟨χ,R.mono e1,fun y H2 e2 hP58=>by
  obtain ⟨l2,ws,ey,sq2,rs2⟩:=hP58
  refine ⟨l,l2,vs,ws,ex,ey,?_,?_,by rw [rs.len,rs2.len]; exact hl,fun p' hp'=>?_⟩
  ·rw [o.K]; exact Same.seq zm (Same.seq (zA e2) sq)
  ·rw [o.K]; exact Same.seq zm sq2
  ·exact q p' _ _ (same_none (e1.trans e2) hp') ((e1.trans e2).trans (zH hp' _)) zu ((Reps.mono (zhR hp') _ (Reps.mono (zA e2) _ rs)).app (Reps.mono (zhR hp') _ rs2))⟩⟩
end
end Internal

end
section
set_option Elab.async false
set_option linter.all false
set_option maxRecDepth 100000
set_option maxHeartbeats 4000000
namespace Internal
open PySem PySem.Spec PyProof.Rows Internal.L2

structure Lol (K : PySem.W.Frag) (φ : Addr → Bool) (ω : Addr → Option (Bool × Nat)) (H0 H : Hp) (σ : Internal.L2.St) (Γ : List Sl) (i : Nat) (rs : List (List Int)) : Prop where
 r : RS K φ ω H σ Γ
 k : Kp φ ω H0 ω H
 at_ : ∃ (p : Addr) (qs : List Addr),σ[i]? = some (some (.ref p)) ∧ H p = some (.lst (qs.map V.ref)) ∧ H0 p = none ∧ both φ ω p = false ∧ qs.length = rs.length ∧ qs.Nodup ∧ p ∉ qs ∧
  ∀ (j : Nat) q r,qs[j]? = some q → rs[j]? = some r → H0 q = none ∧ both φ ω q = false ∧ H q = some (.lst (r.map V.int))
noncomputable def dR (K : PySem.W.Frag) (Γ : List Sl) (i : Nat) (rs : List (List Int)) (E : DEnds) : TS:=fun Z σ H=>∃ φ ω H0,Lol K φ ω H0 H σ Γ i rs ∧ Cn K φ ω H0 E Z
structure JR (S : Stat) (Γ : List Sl) (i : Nat) (rs : List (List Int)) (st : List Stmt) (E : DEnds) : Prop where
 run : ∀ X,S.Of X → PSs X st (dR S.K Γ i rs E)
section
variable {S : Stat} {Γ : List Sl} {E : DEnds} {pos p pos' : Pos} {rest sa sb : List Stmt} {e a b c : Expr} {x y z : Str} {rs : List (List Int)}
end
end Internal

end
section
set_option Elab.async false
set_option linter.all false
set_option maxRecDepth 100000
namespace Internal.L2
open PySem PySem.Spec PyProof.Rows

section
variable {κ : Type} [DecidableEq κ]
noncomputable def valV (kvs : List (κ × V)) (k : κ) : Option V:=(kvs.find? fun kv=>decide (kv.1 = k)).map (·.2)

noncomputable def putK (kvs : List (κ × V)) (k : κ) (v : V) : List (κ × V) :=
 if (kvs.any fun kv=>decide (kv.1 = k)) = true then kvs.map (fun kv=>if kv.1 = k then (kv.1,v) else kv) else kvs ++ [(k,v)]
theorem zdd {p : κ × V} {r : List (κ × V)} {k : κ} (e : p.1 = k) : valV (p :: r) k = some p.2:=by simp [valV,List.find?_cons,e]
theorem zde {p : κ × V} {r : List (κ × V)} {k : κ} (e : ¬ p.1 = k) : valV (p :: r) k = valV r k:=by simp [valV,List.find?_cons,e]
theorem zgD (k : κ) : ∀ kvs : List (κ × V),(kvs.any fun kv=>decide (kv.1 = k)) = (valV kvs k).isSome
 | []=>rfl
 | p :: r=>by
  rw [List.any_cons]
  by_cases e : p.1 = k
  ·simp only [zdd e,decide_eq_true e,Bool.true_or,Option.isSome_some]
  ·rw [zde e,decide_eq_false e,Bool.false_or]; exact zgD k r
theorem zdX (kvs : List (κ × V)) (k : κ) (v : V) : (putK kvs k v).length ≤ kvs.length + 1:=by
 unfold putK
 split
 ·rw [List.length_map]; omega
 ·rw [List.length_append,List.length_cons,List.length_nil]; omega
theorem RelO.isSome_eq {o : Option V} {u : Option Value} (r : RelO o u) : o.isSome = u.isSome:=by
 cases o with
 | none=>cases u with
  | none=>rfl
  | some _=>exact (show False from r).elim
 | some _=>cases u with
  | none=>exact (show False from r).elim
  | some _=>rfl
theorem RelO.getD {o : Option V} {u : Option Value} {d : V} {d' : Value} (r : RelO o u) (rd : RelV d d') : RelV (o.getD d) (u.getD d'):=by
 cases o with
 | none=>cases u with
  | none=>exact rd
  | some _=>exact (show False from r).elim
 | some _=>cases u with
  | none=>exact (show False from r).elim
  | some _=>exact r

theorem KV.val {kvs : List (κ × V)} {vs : List (κ × Value)} (r : KV kvs vs) (k : κ) : RelO (valV kvs k) (valueAt vs k):=by
 unfold KV at r
 induction r with
 | nil=>exact True.intro
 | @cons p q ps qs h t ih =>
  obtain ⟨h1,h2⟩:=h
  by_cases e : p.1 = k
  ·have e' : q.1 = k:=h1.symm.trans e
   have b : valueAt (q :: qs) k = some q.2:=by simp [valueAt,List.find?_cons,e']
   rw [zdd e,b]; exact h2
  ·have e' : ¬ q.1 = k:=fun z=>e (h1.trans z)
   have b : valueAt (q :: qs) k = valueAt qs k:=by simp [valueAt,List.find?_cons,e']
   rw [zde e,b]; exact ih
theorem KV.any {kvs : List (κ × V)} {vs : List (κ × Value)} (r : KV kvs vs) (k : κ) : (kvs.any fun kv=>decide (kv.1 = k)) = vs.any fun kv=>decide (kv.1 = k):=by
 unfold KV at r
 induction r with
 | nil=>rfl
 | cons h t ih=>rw [List.any_cons,List.any_cons,ih,h.1]
theorem KV.repl {kvs : List (κ × V)} {vs : List (κ × Value)} (r : KV kvs vs) (k : κ) {y : V} {u : Value} (ry : RelV y u) :
  KV (kvs.map fun kv=>if kv.1 = k then (kv.1,y) else kv) (vs.map fun kv=>if kv.1 = k then (kv.1,u) else kv):=by
 unfold KV at r ⊢
 induction r with
 | nil=>exact .nil
 | @cons p q ps qs h t ih =>
  rw [List.map_cons,List.map_cons]
  refine .cons ?_ ih
  obtain ⟨h1,h2⟩:=h
  by_cases e : p.1 = k
  ·rw [if_pos e,if_pos (h1.symm.trans e)]; exact ⟨h1,ry⟩
  ·rw [if_neg e,if_neg (fun z=>e (h1.trans z))]; exact ⟨h1,h2⟩
theorem KV.put {kvs : List (κ × V)} {vs : List (κ × Value)} (r : KV kvs vs) (k : κ) {y : V} {u : Value} (ry : RelV y u) : KV (putK kvs k y) (stored vs k u):=by
 unfold putK stored
 rw [r.any k]
 by_cases e : (vs.any fun kv=>decide (kv.1 = k)) = true
 ·rw [if_pos e,if_pos e]; exact r.repl k ry
 ·rw [if_neg e,if_neg e]; exact Paired.snoc r ⟨rfl,ry⟩
theorem KV.length {kvs : List (κ × V)} {vs : List (κ × Value)} (r : KV kvs vs) : kvs.length = vs.length:=Paired.length r
end

theorem kV_is {P : Program} {w : World} {k : Key} {u : Value} (r : RelV (kV k) u) : (zL P w).is k u = true:=by
 cases k with
 | inl i=>obtain ⟨t,e⟩:=(show ∃ t,u = Value.int i t from r); subst e; exact zhl P w i t
 | inr x=>obtain ⟨t,e⟩:=(show ∃ t,u = Value.str x t from r); subst e; exact zhm P w x t
theorem zfK {P : Program} {w : World} : ∀ {ks : List Key} {us : List Value},Vals (ks.map kV) us → ItemsAre (zL P w) ks us
 | [],_,r=>by rw [List.map_nil] at r; cases r; exact .nil
 | k :: ks,_,r=>by
  rw [List.map_cons] at r
  cases r with
  | cons h t=>exact .cons (kV_is h) (zfK t)

noncomputable abbrev KT (H : Hp) : List (List Key × V) → List (List Key × Addr × Value) → Prop:=Paired fun p q=>p.1 = q.1 ∧ H q.2.1 = some (.tup (p.1.map kV)) ∧ RelV p.2 q.2.2
theorem KT.val {H : Hp} {kvs : List (List Key × V)} {xs : List (List Key × Addr × Value)} (r : KT H kvs xs) (k : List Key) : RelO (valV kvs k) ((atKey xs k).map (·.2)):=by
 induction r with
 | nil=>exact True.intro
 | @cons p q ps qs h t ih =>
  obtain ⟨h1,_,h2⟩:=h
  by_cases e : p.1 = k
  ·have e' : q.1 = k:=h1.symm.trans e
   have b : atKey (q :: qs) k = some q.2:=by simp [atKey,List.find?_cons,e']
   rw [zdd e,b]; exact h2
  ·have e' : ¬ q.1 = k:=fun z=>e (h1.trans z)
   have b : atKey (q :: qs) k = atKey qs k:=by simp [atKey,List.find?_cons,e']
   rw [zde e,b]; exact ih
theorem KT.repl {H : Hp} {kvs : List (List Key × V)} {xs : List (List Key × Addr × Value)} (r : KT H kvs xs) (k : List Key) {y : V} {u : Value} (ry : RelV y u) :
  KT H (kvs.map fun kv=>if kv.1 = k then (kv.1,y) else kv) (xs.map (putAt k u)):=by
 induction r with
 | nil=>exact .nil
 | @cons p q ps qs h t ih =>
  rw [List.map_cons,List.map_cons]
  refine .cons ?_ ih
  obtain ⟨h1,h2,h3⟩:=h
  unfold putAt
  by_cases e : p.1 = k
  ·rw [if_pos e,if_pos (h1.symm.trans e)]; exact ⟨h1,h2,ry⟩
  ·rw [if_neg e,if_neg (fun z=>e (h1.trans z))]; exact ⟨h1,h2,h3⟩
theorem KT.put {H : Hp} {kvs : List (List Key × V)} {xs : List (List Key × Addr × Value)} (r : KT H kvs xs) (k : List Key) {b : Addr} {y : V} {u : Value} (hb : H b = some (.tup (k.map kV))) (ry : RelV y u) :
  KT H (putK kvs k y) (storedH xs k b u):=by
 have e : (kvs.any fun kv=>decide (kv.1 = k)) = (atKey xs k).isSome:=by
  rw [zgD,(r.val k).isSome_eq,Option.isSome_map]
 unfold putK storedH
 rw [e]
 by_cases q : (atKey xs k).isSome = true
 ·rw [if_pos q,if_pos q]; exact r.repl k ry
 ·rw [if_neg q,if_neg q]; exact Paired.snoc r ⟨rfl,hb,ry⟩
theorem KT.keeps {H H' : Hp} {kvs : List (List Key × V)} {xs : List (List Key × Addr × Value)} (r : KT H kvs xs) (ht : ∀ b ys,H b = some (.tup ys) → H' b = some (.tup ys)) : KT H' kvs xs :=
 Paired.mapP r fun _ _ z=>⟨z.1,ht _ _ z.2.1,z.2.2⟩

section
variable {P : Program} {w : World} {H : Hp} {h : Heap} {a : Addr}
theorem rd_of {u : HO} (ok : HOk P w H h) (e : Rd H a u) : ObjOk P w H h a u:=e.ok ok
theorem dk_rd {kvs : List (Key × V)} (ok : HOk P w H h) (e : Rd H a (.dK kvs)) : kvs.length ≤ sizeLine ∧ (a == sysModules) = false ∧ ∃ vs,KV kvs vs ∧ h.DictOf (zL P w) a vs :=
 show ObjOk P w H h a (.dK kvs) from rd_of ok e
theorem dk_of {kvs : List (Key × V)} (ok : HOk P w H h) (e : H a = some (.dK kvs)) : kvs.length ≤ sizeLine ∧ (a == sysModules) = false ∧ ∃ vs,KV kvs vs ∧ h.DictOf (zL P w) a vs:=dk_rd ok (.inl e)

theorem zdE {ks : List Key} (ok : HOk P w H h) (e : H a = some (.tup (ks.map kV))) : (tupleKind (zL P w)).is h ks a:=by
 obtain ⟨_,its,r,⟨o,h1,h2,n,h3⟩,_⟩:=(show ObjOk P w H h a (.tup (ks.map kV)) from ok a _ e)
 exact ⟨o,its.toArray,n,h1,h2,h3,by simpa using zfK r⟩
theorem dt_rd {kvs : List (List Key × V)} (ok : HOk P w H h) (e : Rd H a (.dT kvs)) : kvs.length ≤ sizeLine ∧ (a == sysModules) = false ∧
  ∃ xs,KT H kvs xs ∧ h.DictOfH (tupleKind (zL P w)) a xs:=by
 obtain ⟨z,y,xs,r,o,es,ep,h1,h2,h3,h4,h5⟩:=(show ObjOk P w H h a (.dT kvs) from rd_of ok e)
 refine ⟨z,y,xs,r,o,es,ep,h1,h2,h3,h4,fun x hx=>?_,h5⟩
 have all : ∀ {l : List (List Key × V)} {m : List (List Key × Addr × Value)},KT H l m → ∀ x ∈ m,(tupleKind (zL P w)).is h x.1 x.2.1:=by
  intro l m q
  induction q with
  | nil=>intro x hx; exact nomatch hx
  | @cons p q ps qs hq t ih =>
   intro x hx
   rcases List.mem_cons.mp hx with e | hx
   ·subst e
    exact zdE ok (by rw [← hq.1]; exact hq.2.1)
   ·exact ih x hx
 exact all r x hx
theorem dt_of {kvs : List (List Key × V)} (ok : HOk P w H h) (e : H a = some (.dT kvs)) : kvs.length ≤ sizeLine ∧ (a == sysModules) = false ∧
  ∃ xs,KT H kvs xs ∧ h.DictOfH (tupleKind (zL P w)) a xs:=dt_rd ok (.inl e)
end

noncomputable def DGet (H : Hp) (a : Addr) (y : V) (r : Option V) : Prop :=
 (∃ kvs k,Rd H a (.dK kvs) ∧ y = kV k ∧ r = valV kvs k) ∨ ∃ kvs k b,Rd H a (.dT kvs) ∧ y = .ref b ∧ H b = some (.tup (k.map kV)) ∧ r = valV kvs k

noncomputable def DPut (H : Hp) (a : Addr) (y v : V) (H' : Hp) : Prop :=
 (∃ kvs k,H a = some (.dK kvs) ∧ y = kV k ∧ kvs.length < sizeLine ∧ H' = upd H a (.dK (putK kvs k v))) ∨
 ∃ kvs k b,H a = some (.dT kvs) ∧ y = .ref b ∧ H b = some (.tup (k.map kV)) ∧ kvs.length < sizeLine ∧ H' = upd H a (.dT (putK kvs k v))
theorem DPut.t {H : Hp} {a b : Addr} {kvs : List (List Key × V)} {k : List Key} {v : V} (e : H a = some (.dT kvs)) (eb : H b = some (.tup (k.map kV))) (hl : kvs.length < sizeLine) :
  DPut H a (.ref b) v (upd H a (.dT (putK kvs k v))):=.inr ⟨kvs,k,b,e,rfl,eb,hl,rfl⟩

section
variable {X : Cx} {pins : List (Addr × Obj)} {σ : St} {H : Hp} {s : Shared} {a : Addr} {y v : V} {u r : Value} {o : Option V} {A : Around} {E : Value → Shared → Prop}

theorem Inv.big (I : Inv X pins σ H s) : sysModules < s.heap.objs.size:=by
 have h : mainGlobals < s.heap.objs.size:=(I.mod.glob.keeps I.bk).lt
 exact Nat.lt_trans (by decide) h

theorem zjJ {Q : Value → Shared → Prop} (hu : A.units + 1 < cLine) (I : Inv X pins σ H s) (g : DGet H a y (some v)) (ry : RelV y u) (h : ∀ w' s',Inv X pins σ H s' → RelV v w' → Q w' s') :
  wpAny (model X.prog X.w) A (getItem (.ref a) u) Q E s:=by
 rcases g with ⟨kvs,k,e,ey,l⟩ | ⟨kvs,k,b,e,ey,eb,l⟩
 ·subst ey
  obtain ⟨z,hd,vs,rel,dd⟩:=dk_rd I.hok e
  obtain ⟨w',hw,rw'⟩:=RelO.some_of (v:=v) (o:=valueAt vs k) (by rw [l]; exact rel.val k)
  exact wpAny_getItem_of (kV_is ry) dd.mapOf hw (h w' _ (I.tok _) rw')
 ·subst ey
  cases (show u = Value.ref b from ry)
  obtain ⟨z,hd,xs,rel,dd⟩:=dt_rd I.hok e
  obtain ⟨w',hw,rw'⟩:=RelO.some_of (v:=v) (o:=(atKey xs k).map (·.2)) (by rw [l]; exact rel.val k)
  obtain ⟨p,hp,hp2⟩:=Option.map_eq_some_iff.mp hw
  refine wpAny_getItem_heap (tupleKind_room_in1 hu) (zdE I.hok eb) dd hp ?_
  rw [hp2]
  exact h w' _ (I.tok _) rw'

theorem zdP {h' : Heap} {t' : Nat} {ob : HO} (I : Inv X pins σ H s) (mu : Mut (H a)) (hs : Heap.SameBut a s.heap h') (he : ∃ q,h'.get? a = some q) (new : ObjOk X.prog X.w (upd H a ob) h' a ob) :
  Inv X pins σ (upd H a ob) { s with heap:=h',toks:=t' } :=
 I.write (x:=a) (e:=a) mu (.inl rfl) (fun b q hb z=>(hs.2 b hb).trans z) he new
theorem zoc {P : Program} {w : World} {H' : Hp} {h' : Heap} {kvs : List (Key × V)} {vs : List (Key × Value)} (z : kvs.length ≤ sizeLine) (hd : (a == sysModules) = false) (rel : KV kvs vs) (dd : h'.DictOf (zL P w) a vs) :
  ObjOk P w H' h' a (.dK kvs):=⟨z,hd,vs,rel,dd⟩

theorem zjK {H' : Hp} {Q : Unit → Shared → Prop} (hu : A.units + 1 < cLine) (I : Inv X pins σ H s) (g : DPut H a y v H') (ry : RelV y u) (rv : RelV v r) (h : ∀ s',Inv X pins σ H' s' → Q () s') :
  wpAny (model X.prog X.w) A (setItem (.ref a) u r) Q E s:=by
 rcases g with ⟨kvs,k,e,ey,l,eH⟩ | ⟨kvs,k,b,e,ey,eb,l,eH⟩
 ·subst ey eH
  obtain ⟨z,hd,vs,rel,dd⟩:=dk_of I.hok e
  have hz : vs.length ≤ sizeLine:=by rw [← rel.length]; exact z
  have hl : (putK kvs k v).length ≤ sizeLine:=by have:=zdX kvs k v; omega
  refine wpAny_setItem_pairs (hsz:=hz) (kV_is ry) dd fun h' dd' hs=>h _ ?_
  have he : ∃ q,h'.get? a = some q:=let ⟨q,_,_,hq,_⟩:=dd'; ⟨q,hq⟩
  exact zdP I (by rw [e]; exact True.intro) hs he (zoc hl hd (rel.put k rv) dd')
 ·subst ey eH
  cases (show u = Value.ref b from ry)
  obtain ⟨z,hd,xs,rel,dd⟩:=dt_of I.hok e
  have hz : xs.length ≤ sizeLine:=by rw [← Paired.length rel]; exact z
  have hl : (putK kvs k v).length ≤ sizeLine:=by have:=zdX kvs k v; omega
  refine wpAny_setItem_heap (hsz:=hz) (tupleKind_room_in1 hu) (zdE I.hok eb) dd fun h' dd' hs=>h _ ?_
  obtain ⟨q,es,ep,hq,h2,h3,h4,_,h5⟩:=dd'
  refine zdP I (by rw [e]; exact True.intro) hs ⟨q,hq⟩ ⟨hl,hd,_,(rel.put k eb rv).keeps fun c ys ec=>?_,q,es,ep,hq,h2,h3,h4,h5⟩
  rw [zp (ne_of ec e (fun z=>nomatch z))]
  exact ec
end

section
variable {X : Cx} {pins : List (Addr × Obj)} {σ : St} {H : Hp} {s : Shared} {a : Addr} {kvs : List (Key × V)} {k : Key} {u : Value} {A : Around} {E : Value → Shared → Prop}
end

noncomputable def NoSl (i : Expr) : Prop:=∀ ov iv,subscripted i false ov iv = operate [ov,iv] (getItem ov iv)
theorem zms {prog : Program} {w : World} {A : Around} {E : Value → Shared → Prop} {s : Shared} {env : Env} {value slice : Expr} {pos : Pos} {T id : String} {Q : Value → Shared → Prop}
  (hl : typeLookup (.type T) "__getitem__" = pure (some (.builtin id))) (hs : NoSl slice)
  (h : wpAny (model prog w) A (eval value env) (fun o s₁=>wpAny (model prog w) A (eval slice env) (fun i s₂=>s₂.TypeIs o T ∧ wpAny (model prog w) A (getItem o i) Q E s₂) E s₁) E s) :
  wpAny (model prog w) A (eval (.Subscript value slice pos) env) Q E s:=by
 refine Subscript_ (wpAny_mono h (fun o s₁ h₁=>wpAny_mono h₁ (fun i s₂ h₂=>?_) fun _ _ x=>x) fun _ _ x=>x)
 obtain ⟨hT,h₂⟩:=h₂
 unfold subscriptTail
 refine wpAny_bind ?_
 rw [getitemInPython_of_ne hT.not_modules]
 refine wpAny_bind (wpAny_specialOf hT hl ?_)
 have fin : wpAny (model prog w) A (subscripted slice false o i) (fun r s₃=>wpAny (model prog w) A (letTemporaryGo value o r >>= fun _=>pure r) Q E s₃) E s₂:=by
  rw [hs o i]
  exact wpAny_operating (wpAny_mono h₂ (fun r s₃ h₃=>wpAny_bind (wpAny_letTemporaryGo (wpAny_pure h₃))) fun _ _ x=>x)
 first
  | exact wpAny_pure (wpAny_bind fin)
  | exact wpAny_bind (wpAny_pure (wpAny_bind fin))
  | exact wpAny_bind fin

theorem zhp {X : Cx} {pins : List (Addr × Obj)} {σ : St} {H : Hp} {s : Shared} {a : Addr} {y : V} {o : Option V} (I : Inv X pins σ H s) (g : DGet H a y o) : s.TypeIs (.ref a) "dict":=by
 rcases g with ⟨kvs,k,e,_,_⟩ | ⟨kvs,k,b,e,_,_,_⟩
 ·obtain ⟨_,_,vs,_,dd⟩:=dk_rd I.hok e
  exact dd.typeIs
 ·obtain ⟨_,_,xs,_,dd⟩:=dt_rd I.hok e
  exact dd.typeIs

noncomputable def tDGet (td ty : TE) : TE:=fun σ H Q=>td σ H fun x H1=>ty σ H1 fun y H2=>∃ a v,x = .ref a ∧ DGet H2 a y (some v) ∧ Q v H2

noncomputable def sDPut (td ty tv : TE) : TS:=fun D σ H=>tv σ H fun v H1=>td σ H1 fun x H2=>ty σ H2 fun y H3=>∃ a H4,x = .ref a ∧ DPut H3 a y v H4 ∧ D.nx σ H4
section
variable {X : Cx} {o i e value : Expr} {pos pos' tpos : Pos} {td ty tv : TE}
theorem zmt (hu : X.A.units + 1 < cLine) (ho : PE X o td) (hi : PE X i ty) (hs : NoSl i) : PE X (.Subscript o i pos) (tDGet td ty):=by
 intro pins s σ H Q I h
 refine zms PySem.F.slot_dict_getitem.lookup hs (thn (ho pins s σ H _ I h) fun u s1 ⟨x,H1,I1,rx,q1⟩=>thn (hi pins s1 σ H1 _ I1 q1) fun iv s2 hP59=>?_)
 obtain ⟨y,H2,I2,ry,a,v,ex,g,q2⟩:=hP59
 subst ex
 obtain rfl : u = Value.ref a:=rx
 exact ⟨zhp I2 g,zjJ hu I2 g ry fun w' s3 I3 rw'=>⟨v,H2,I3,rw',q2⟩⟩
theorem zmu (hu : X.A.units + 1 < cLine) (ho : PE X o td) (hi : PE X i ty) (hv : PE X value tv) (hs : swapsWith value (some (.Subscript o i pos')) pos.line X.env = pure false) :
  PS X (.Assign [.Subscript o i pos'] value pos) (sDPut td ty tv):=by
 intro pins s σ H D I h
 refine wpAny_Assign_Subscript (thn (hv pins s σ H _ I h) fun r s1 ⟨v,H1,I1,rv,q1⟩=>thn (ho pins s1 σ H1 _ I1 q1) fun u s2 ⟨x,H2,I2,rx,q2⟩=>thn (hi pins s2 σ H2 _ I2 q2) fun iv s3 hP60=>?_) hs
 obtain ⟨y,H3,I3,ry,a,H4,ex,g,q3⟩:=hP60
 subst ex
 obtain rfl : u = Value.ref a:=rx
 exact zjK hu I3 g ry rv fun s4 I4=>⟨σ,H4,I4,q3⟩
end

theorem zgE {P : Program} {w : World} {H : Hp} (h : Heap) (hb : sysModules < h.objs.size) : ObjOk P w H (h.push { cls:=.type "dict",data:=.dict #[] }) h.objs.size (.dT []) :=
 ⟨Nat.zero_le _,beq_eq_false_iff_ne.mpr (Ne.symm (Nat.ne_of_lt hb)),[],.nil,_,#[],0,Heap.get?_push_size _ rfl,⟨rfl,rfl,rfl⟩,rfl,rfl,List.nodup_nil⟩
noncomputable def zod : TE:=fun _ H Q=>∀ p,H p = none → Q (.ref p) (upd H p (.dT []))
section
variable {X : Cx} {pos : Pos}
theorem zkY : PE X (.Dict [] [] pos) zod:=fun pins s σ H Q I h =>
 wpAny_Dict_empty ⟨.ref s.heap.objs.size,_,I.laid (a:=s.heap.objs.size) (o:=.dT []) (t':=s.toks) (fun _ _ q=>Heap.get?_push_of_some _ q) (Nat.le_refl _) (zgE s.heap I.big),rfl,h _ (I.hok.fresh (Nat.le_refl _))⟩
end

noncomputable def zjL : List (TE × TE) → St → Hp → (List (V × V) → Hp → Prop) → Prop
 | [],_,H,Q=>Q [] H
 | (tk,tv) :: r,σ,H,Q=>tk σ H fun x H1=>tv σ H1 fun y H2=>zjL r σ H2 fun ps H3=>Q ((x,y) :: ps) H3
noncomputable abbrev VV : List (V × V) → List (Value × Value) → Prop:=Paired fun p q=>RelV p.1 q.1 ∧ RelV p.2 q.2
noncomputable def PPs (X : Cx) (pos : Pos) (keys : List (Option Expr)) (values : List Expr) (trs : List (TE × TE)) : Prop :=
 ∀ (pins : List (Addr × Obj)) (s : Shared) (σ : St) (H : Hp) (Q : List (V × V) → Hp → Prop),Inv X pins σ H s → zjL trs σ H Q →
  wpAny (model X.prog X.w) X.A (evalPairs (pairTrees keys values X.env pos)) (fun vs s'=>∃ ps H',Inv X pins σ H' s' ∧ VV ps vs ∧ Q ps H') X.xe s
theorem zmv {X : Cx} {pos : Pos} : PPs X pos [] [] []:=fun pins s σ H Q I h=>pairTrees_nil_walk ⟨[],H,I,.nil,h⟩
theorem zkZ {X : Cx} {pos : Pos} {k v : Expr} {ks : List (Option Expr)} {vs : List Expr} {tk tv : TE} {trs : List (TE × TE)} (hk : PE X k tk) (hv : PE X v tv) (hr : PPs X pos ks vs trs) :
  PPs X pos (some k :: ks) (v :: vs) ((tk,tv) :: trs):=fun pins s σ H Q I h =>
 pairTrees_cons_walk (thn (hk pins s σ H _ I h) fun u s1 ⟨x,H1,I1,rx,q1⟩=>thn (hv pins s1 σ H1 _ I1 q1) fun w2 s2 ⟨y,H2,I2,ry,q2⟩ =>
  thn (hr pins s2 σ H2 _ I2 q2) fun ws s3 ⟨ps,H3,I3,rel,q3⟩=>⟨(x,y) :: ps,H3,I3,.cons ⟨rx,ry⟩ rel,q3⟩)

structure M1 (X : Cx) (o : Expr) (m : Str) (apos : Pos) (e : Expr) (cpos : Pos) : Prop where
 base : attributeBase o m X.env (eval o X.env) = eval o X.env
 few : ((backTo cpos (starEach [e] X.env)).all (fun x=>!x.1) && (backToKw cpos (keywordEach [] X.env)).all (fun x=>x.1.isSome)
  && decide (([e] : List Expr).length + ([] : List Keyword).length + (if ([] : List Keyword).isEmpty then 0 else 1) < 30)) = true
 line : (apos.endLine == cpos.line) = true
 trees : backTo cpos (starEach [e] X.env) = [(false,eval e X.env)]
structure M2 (X : Cx) (o : Expr) (m : Str) (apos : Pos) (e f : Expr) (cpos : Pos) : Prop where
 base : attributeBase o m X.env (eval o X.env) = eval o X.env
 few : ((backTo cpos (starEach [e,f] X.env)).all (fun x=>!x.1) && (backToKw cpos (keywordEach [] X.env)).all (fun x=>x.1.isSome)
  && decide (([e,f] : List Expr).length + ([] : List Keyword).length + (if ([] : List Keyword).isEmpty then 0 else 1) < 30)) = true
 line : (apos.endLine == cpos.line) = true
 trees : backTo cpos (starEach [e,f] X.env) = [(false,eval e X.env),(false,eval f X.env)]

noncomputable def IsD (H : Hp) (a : Addr) : Prop:=(∃ kvs,Rd H a (.dK kvs)) ∨ ∃ kvs,Rd H a (.dT kvs)
theorem zoe {X : Cx} {pins : List (Addr × Obj)} {σ : St} {H : Hp} {s : Shared} {a : Addr} (I : Inv X pins σ H s) (d : IsD H a) :
  s.TypeIs (.ref a) "dict" ∧ (∀ b,Value.ref a = .ref b → ∃ ob,s.heap.get? b = some ob ∧ ob.dict = none) ∧ (a == sysModules) = false:=by
 rcases d with ⟨kvs,e⟩ | ⟨kvs,e⟩
 ·obtain ⟨_,hd,vs,_,dd⟩:=dk_rd I.hok e
  refine ⟨dd.typeIs,fun b q=>?_,hd⟩
  cases q
  obtain ⟨ob,_,_,h1,h2,_⟩:=dd
  exact ⟨ob,h1,h2.2.1⟩
 ·obtain ⟨_,hd,xs,_,dd⟩:=dt_rd I.hok e
  refine ⟨dd.typeIs,fun b q=>?_,hd⟩
  cases q
  obtain ⟨ob,_,_,h1,h2,_⟩:=dd
  exact ⟨ob,h1,h2.2.1⟩

section
variable {X : Cx} {pins : List (Addr × Obj)} {σ : St} {H : Hp} {s : Shared} {a : Addr} {y d : V} {u r : Value} {o : Option V} {A : Around} {E : Value → Shared → Prop}

theorem zof {Q : Value → Shared → Prop} (hu : A.units + 1 < cLine) (I : Inv X pins σ H s) (g : DGet H a y o) (ry : RelV y u) (rd : RelV d r) (h : ∀ w' s',Inv X pins σ H s' → RelV (o.getD d) w' → Q w' s') :
  wpAny (model X.prog X.w) A (call (.builtin "dict.get") [.ref a,u,r]) Q E s:=by
 rcases g with ⟨kvs,k,e,ey,l⟩ | ⟨kvs,k,b,e,ey,eb,l⟩
 ·subst ey
  obtain ⟨z,hd,vs,rel,dd⟩:=dk_rd I.hok e
  refine call_meetsIn PySem.F.slot_dict_get dd.typeIs PySem.F.entry_dict_get (PySem.F.args_dict_get_3 _ _ _) (meets_dict_get_default (zL X.prog X.w) a (kV_is ry) hd r) ⟨_,dd.mapOf,h _ _ (I.tok _) ?_⟩
  rw [l]
  exact (rel.val k).getD rd
 ·subst ey
  cases (show u = Value.ref b from ry)
  obtain ⟨z,hd,xs,rel,dd⟩:=dt_rd I.hok e
  refine call_meetsIn PySem.F.slot_dict_get dd.typeIs PySem.F.entry_dict_get (PySem.F.args_dict_get_3 _ _ _) (meetsH_dict_get_default (tupleKind (zL X.prog X.w)) a b hd r) ⟨tupleKind_room_in1 hu,k,xs,zdE I.hok eb,dd,h _ _ (I.tok _) ?_⟩
  rw [l]
  exact (rel.val k).getD rd
end

noncomputable def zog (td ty tx : TE) : TE:=fun σ H Q=>td σ H fun x H1=>∃ a,x = .ref a ∧ IsD H1 a ∧ ty σ H1 fun y H2=>tx σ H2 fun z H3=>∃ o,DGet H3 a y o ∧ Q (o.getD z) H3
section
variable {X : Cx} {o e f : Expr} {apos cpos : Pos} {td ty tx : TE}
theorem zla (hu : X.A.units + 1 < cLine) (ho : PE X o td) (he : PE X e ty) (hf : PE X f tx) (m : M2 X o "get" apos e f cpos) : PE X (.Call (.Attribute o "get" apos) [e,f] [] cpos) (zog td ty tx):=by
 intro pins s σ H Q I h
 refine wpAny_Call_method m.base m.few m.line PySem.F.plainAttrs_dict PySem.F.slot_dict_get PySem.F.type_dict_get (thn (ho pins s σ H _ I h) fun u s1 hP61=>?_)
 obtain ⟨x,H1,I1,rx,a,ex,d,q1⟩:=hP61
 subst ex
 obtain rfl : u = Value.ref a:=rx
 obtain ⟨t1,t2,_⟩:=zoe I1 d
 refine ⟨t1,t2,?_⟩
 rw [m.trees]
 refine Calls.callWith_builtin rfl (Calls.evalArgs_plain (Calls.spliced_cons (thn (he pins s1 σ H1 _ I1 q1) fun iv s2 ⟨y,H2,I2,ry,q2⟩ =>
  Calls.spliced_cons (thn (hf pins s2 σ H2 _ I2 q2) fun fv s3 ⟨z,H3,I3,rz,ov,g,q3⟩=>Calls.spliced_nil ?_))))
 exact zof hu I3 g ry rz fun w' s4 I4 rw'=>⟨_,H3,I4,rw',q3⟩
end

section
variable {X : Cx} {pins : List (Addr × Obj)} {σ : St} {H : Hp} {s : Shared} {a : Addr} {kvs : List (Key × V)} {A : Around} {E : Value → Shared → Prop}
end

section
variable {X : Cx} {pins : List (Addr × Obj)} {σ : St} {H : Hp} {s : Shared} {a : Addr} {y : V} {u : Value} {A : Around} {E : Value → Shared → Prop}
end
end Internal.L2

end
section
set_option Elab.async false
set_option linter.all false
set_option maxRecDepth 100000
set_option maxHeartbeats 4000000
namespace Internal
open PySem PySem.Spec PyProof.Rows Internal.L2

noncomputable def putD (kvs : List (List Int × D)) (k : List Int) (d : D) : List (List Int × D):=if (kvs.any fun kv=>decide (kv.1 = k)) = true then kvs.map (fun kv=>if kv.1 = k then (kv.1,d) else kv) else kvs ++ [(k,d)]
noncomputable abbrev kK (k : List Int) : List Key:=k.map Sum.inl
theorem zgF {a b : List Int} : kK a = kK b ↔ a = b:=⟨fun h=>List.map_inj_right (fun _ _ e=>by injection e) |>.mp h,fun h=>by rw [h]⟩
section
variable {K : PySem.W.Frag} {H : Hp}
theorem DReps.len : ∀ {kvs : List (List Int × D)} {ho : List (List Key × V)},DReps K H kvs ho → ho.length = kvs.length
 | [],_,h=>by cases (show _ = [] from h); rfl
 | (_,_) :: r,_,⟨v,r',e,_,h2⟩=>by subst e; exact congrArg (· + 1) (DReps.len h2)
theorem DReps.any : ∀ {kvs : List (List Int × D)} {ho : List (List Key × V)} (k : List Int),DReps K H kvs ho → (ho.any fun kv=>decide (kv.1 = kK k)) = (kvs.any fun kv=>decide (kv.1 = k))
 | [],_,k,h=>by cases (show _ = [] from h); rfl
 | (k',_) :: r,_,k,⟨v,r',e,_,h2⟩=>by
  subst e
  rw [List.any_cons,List.any_cons,DReps.any k h2]
  congr 1
  exact decide_eq_decide.mpr zgF
theorem DReps.upd : ∀ {kvs : List (List Int × D)} {ho : List (List Key × V)} (k : List Int) {d : D} {v : V},DReps K H kvs ho → Rep K H d v → DReps K H (kvs.map fun kv=>if kv.1 = k then (kv.1,d) else kv) (ho.map fun kv=>if kv.1 = kK k then (kv.1,v) else kv)
 | [],_,k,_,_,h,_=>by cases (show _ = [] from h); rfl
 | (k',d') :: r,_,k,d,v,⟨v',r',e,h1,h2⟩,hd=>by
  subst e
  have ih:=DReps.upd k h2 hd
  rw [List.map_cons,List.map_cons]
  by_cases q : k' = k
  ·subst q
   rw [if_pos rfl,if_pos rfl]
   exact ⟨v,_,rfl,hd,ih⟩
  ·have q2 : ¬ kK k' = kK k:=fun z=>q (zgF.mp z)
   rw [if_neg q,if_neg q2]
   exact ⟨v',_,rfl,h1,ih⟩
theorem DReps.snoc : ∀ {kvs : List (List Int × D)} {ho : List (List Key × V)} (k : List Int) {d : D} {v : V},DReps K H kvs ho → Rep K H d v → DReps K H (kvs ++ [(k,d)]) (ho ++ [(kK k,v)])
 | [],_,k,d,v,h,hd=>by cases (show _ = [] from h); exact ⟨v,[],rfl,hd,rfl⟩
 | (k',d') :: r,_,k,d,v,⟨v',r',e,h1,h2⟩,hd=>by
  subst e
  exact ⟨v',_,rfl,h1,DReps.snoc k h2 hd⟩
theorem DReps.put {kvs : List (List Int × D)} {ho : List (List Key × V)} (k : List Int) {d : D} {v : V} (h : DReps K H kvs ho) (hd : Rep K H d v) : DReps K H (putD kvs k d) (putK ho (kK k) v):=by
 unfold putD putK
 rw [h.any k]
 split
 ·exact h.upd k hd
 ·exact h.snoc k hd

theorem zdQ {k : List Int} {y : V} (h : Rep K H (rowD k) y) : ∃ b,y = .ref b ∧ H b = some (.tup ((kK k).map kV)):=by
 obtain ⟨b,vs,rfl,hb,rs⟩:=h
 refine ⟨b,rfl,?_⟩
 rw [hb,zbs rs,List.map_map]; rfl
end
section
variable {S : Stat} {Γ : List Sl} {E : DEnds} {pos p pos' : Pos} {e value : Expr} {x : Str}
theorem RS.ownD {K : PySem.W.Frag} {φ : Addr → Bool} {ω : Addr → Option (Bool × Nat)} {H : Hp} {σ : Internal.L2.St} (r : RS K φ ω H σ Γ) (i : Nat) (kvs : List (List Int × D)) (h : Γ[i]? = some (.dic kvs)) : ∃ p kv,σ[i]? = some (some (.ref p)) ∧ ω p = some (false,i) ∧ φ p = false ∧ H p = some (.dT kv) ∧ DReps K (hidB (both φ ω) H) kvs kv:=by
 obtain ⟨p,ho,h1,h2,h3,h4,kv,rfl,h5⟩:=r.own i false _ h
 exact ⟨p,kv,h1,h2,h3,h4,h5⟩
theorem RE.ownD {K : PySem.W.Frag} {χ : Addr → Bool} {H : Hp} {σ : Internal.L2.St} (r : RE K χ H σ Γ) (i : Nat) (kvs : List (List Int × D)) (h : Γ[i]? = some (.dic kvs)) : ∃ p kv,σ[i]? = some (some (.ref p)) ∧ χ p = true ∧ H p = some (.dT kv) ∧ DReps K (hidB χ H) kvs kv:=by
 obtain ⟨p,ho,h1,h2,h3,kv,rfl,h4⟩:=r.own i false _ h
 exact ⟨p,kv,h1,h2,h3,h4⟩

theorem zjM (i : Nat) (h : E.nx (Γ.set i (.dic []))) (hiΓ : i < Γ.length:=by exact Nat.le_of_ble_eq_true rfl) (hN : S.N.Nodup:=by ac_nf) (hi : S.N[i]? = some x:=by ac_nf) (hx : Loc S.sc x:=by ac_nf)
  (hs : ∀ X : Cx,S.Of X → swapsWith (.Dict [] [] p) (some (.Name x pos')) pos.line X.env = pure false:=by ac_rfl) (htop : S.top = true:=by rfl) : JS S Γ (.Assign [.Name x pos'] (.Dict [] [] p) pos) E:=.mk fun X o =>
 zN (zdt (i:=i) (by rw [o.N]; exact hN) (by rw [o.N]; exact hi) (by rw [o.sc]; exact hx) zkY (hs X o) (.inl (o.fn htop x))) fun Z σ H ⟨φ,ω,r,c⟩=>fun l hl=>by
  obtain ⟨r',k⟩:=r.takeC (ds:=.dct []) hiΓ hl (zH hl _) zu ⟨[],rfl,rfl⟩
  exact c.n _ _ _ _ h r' k

theorem zoh (i : Nat) {kvs : List (List Int × D)} {k : List Int} {d : D} {px : Pos} (hi : Γ[i]? = some (.dic kvs)) (he : JE S Γ e (rowD k)) (hd : JE S Γ value d) (hl : kvs.length < sizeLine) (h : E.nx (Γ.set i (.dic (putD kvs k d)))) (hN : S.N[i]? = some x:=by ac_nf) (hv : Vis S.sc x:=by ac_nf)
  (h1 : (x == ("__debug__" : Str)) = false:=by ac_nf) (h2 : (x == ("__classdict__" : Str)) = false:=by ac_nf) (hs : ∀ X : Cx,swapsWith value (some (.Subscript (.Name x px) e pos')) pos.line X.env = pure false:=by ac_rfl) : JS S Γ (.Assign [.Subscript (.Name x px) e pos'] value pos) E:=.mk fun X o =>
 zN (zmu (by have:=o.room.units; omega) (zbk (i:=i) (by rw [o.N]; exact hN) (by rw [o.sc]; exact hv) h1 h2) (he X o) (hd X o) (hs X)) fun Z σ H ⟨φ,ω,r,c⟩=>⟨both φ ω,r.re,fun v H1 e1 rv=>by
  obtain ⟨pa,kv,hσ,hω,φl,hH,hr⟩:=r.ownD i kvs hi
  refine ⟨.ref pa,hσ,both φ ω,(r.mono e1).re,fun y H2 e2 ry=>?_⟩
  obtain ⟨b,rfl,hb⟩:=zdQ ry
  refine ⟨pa,_,rfl,DPut.t (e2 _ _ (e1 _ _ hH)) (zm _ _ hb) (by rw [hr.len]; exact hl),?_⟩
  obtain ⟨r',k'⟩:=(r.mono (e1.trans e2)).putC (ds':=.dct (putD kvs k d)) (vs':=.dT (putK kv (kK k) v)) hi hω hσ ⟨_,rfl,DReps.put k (DReps.mono (zA (e1.trans e2)) _ hr) (rv.mono (zA e2) d)⟩ φl
  exact c.n ω σ _ _ h r' ((Kp.of (e1.trans e2)).trans k')⟩
end
section
variable {S : Stat} {Γ : List Sl} {pos : Pos} {a b : Expr}
theorem zgG {x : Str} {c : Nat} (ha : JE S Γ a (chD c)) (hb : JE S Γ b (.str x)) (hm : behindInMarks .NotIn b = false:=by rfl) : JE S Γ (.Compare a [.NotIn] [b] pos) (.bl (!decide (c ∈ x.cps.toList))) :=
 e_cmp (fun _ _=>zgf) ha hb hm fun _ H x' y _ _ rx ry q=>⟨⟨#[c]⟩,x,rx,ry,by rw [zhQ]; exact q _ H (Same.refl H) rfl⟩
theorem JW.cast' {e : Expr} {d d' : Bool} (h : JW S Γ e d) (q : d = d') : JW S Γ e d':=q ▸ h
end
end Internal

end
section
set_option Elab.async false
set_option linter.all false
set_option maxRecDepth 100000
set_option maxHeartbeats 4000000

namespace Internal
open PySem PySem.Spec PyProof.Rows

noncomputable def Raw (h : Heap) (d : Addr) (es : Array DictEntry) (ep : Nat) : Prop:=∃ od,h.get? d = some od ∧ od.ExactDict ∧ od.data = .dict es ep
theorem Raw.ty {s : Shared} {d : Addr} {es : Array DictEntry} {ep : Nat} (r : Raw s.heap d es ep) : s.TypeIs (.ref d) "dict":=let ⟨od,h1,h2,_⟩:=r; ⟨od,h1,h2.1⟩
theorem Raw.keep {h h' : Heap} {d : Addr} {es : Array DictEntry} {ep : Nat} (r : Raw h d es ep) (k : ∀ o,h.get? d = some o → h'.get? d = some o) : Raw h' d es ep:=let ⟨od,h1,h2⟩:=r; ⟨od,k _ h1,h2⟩
section
variable {prog : Program} {w : World} {A : Around} {E : Value → Shared → Prop} {s : Shared} {d it : Addr} {es : Array DictEntry} {ep i : Nat}
theorem zlb {Q : Value → Shared → Prop} (hd : (d == sysModules) = false) (r : Raw s.heap d es ep) (hQ : Q (.ref s.heap.objs.size) { s with heap:=s.heap.push { cls:=.type "dict_keyiterator",data:=.fields #[.ref d,.int 0 0,.int es.size 0,.int ep 0] } }) :
  wpAny (model prog w) A (pyIter (.ref d)) Q E s:=by
 obtain ⟨od,h1,h2,h3⟩:=id r
 refine wpAny_pyIter_slot r.ty F.slot_dict_iter (wpAny_call_entry F.slot_dict_iter r.ty F.entry_dict_iter ?_ (F.args_dict_iter_1 _))
 unfold Builtin.«dict.__iter__»
 refine wpAny_bind ?_
 unfold Builtin.Dict.dictSlotNone
 refine wpAny_bind (wpAny_notOrdered_dict r.ty ?_)
 show wpAny _ _ (pure (Value.ref d)) _ _ s
 refine wpAny_pure ?_
 show wpAny _ _ (Builtin.Dict.showsAll d >>= _) _ _ s
 unfold Builtin.Dict.showsAll
 rw [hd,if_neg Bool.false_ne_true]
 refine wpAny_bind (wpAny_pure (wpAny_bind (wpAny_dictEntries h1 h3 (wpAny_bind (wpAny_dictEpoch h1 h3 ?_)))))
 refine wpAny_bind (wpAny_newObj_type (wpAny_pure ⟨_,rfl,"dict_keyiterator",_,⟨_,Heap.get?_push_size _ rfl,rfl⟩,F.slot_dict_keyiterator_next.lookup,?_⟩))
 simpa [rawInt] using hQ
theorem zlc {Q : Option Value → Shared → Prop} (hit : s.heap.IsKeyIter it d i es.size ep) (r : Raw s.heap d es ep) (hi : i < es.size)
  (hQ : ∀ h',h'.IsKeyIter it d (i + 1) es.size ep → Heap.SameBut it s.heap h' → Q (some es[i].key) { s with heap:=h' }) : wpAny (model prog w) A (pyNext (.ref it)) Q E s:=by
 obtain ⟨oi,g1,g2,g3⟩:=id hit
 obtain ⟨od,h1,h2,h3⟩:=id r
 have ty:=hit.typeIs
 unfold pyNext
 refine wpAny_bind (wpAny_attempt (wpAny_callSpecial?_slot (name:=Str.ofString "__next__") ty F.slot_dict_keyiterator_next (wpAny_call_entry F.slot_dict_keyiterator_next ty F.entry_dict_keyiterator_next ?_ (F.args_dict_keyiterator_next_1 _))))
 refine wpAny_bind (wpAny_pure (wpAny_bind (wpAny_bind ?_)))
 first | refine wpAny_bind (wpAny_typeNameOfWhole_keyiter ty (wpAny_pure ?_)) | refine wpAny_bind (wpAny_typeNameOf_keyiter ty (wpAny_pure ?_))
 refine wpAny_bind (wpAny_fieldsOf g1 g3 ?_)
 rw [show Builtin.Dict_items.ownsTuple "dict_keyiterator" = false by decide]
 simp only [Bool.false_eq_true,if_false]
 show wpAny _ _ (if (Value.ref d == Value.none) = true then _ else _) _ _ s
 rw [if_neg (by intro z; cases z)]
 refine wpAny_bind (wpAny_pure (wpAny_bind (wpAny_dictEntries h1 h3 ?_)))
 rw [if_neg (by simp)]
 refine wpAny_bind (wpAny_pure (wpAny_bind (wpAny_dictEpoch h1 h3 ?_)))
 rw [if_neg (by simp)]
 refine wpAny_pure ?_
 simp only [show ¬ ((i : Int) < 0) by omega,if_false,Int.toNat_natCast,Array.getElem?_eq_getElem hi]
 refine wpAny_bind ?_
 first | refine wpAny_bind (wpAny_typeNameOfWhole_keyiter ty (wpAny_pure ?_)) | refine wpAny_bind (wpAny_typeNameOf_keyiter ty (wpAny_pure ?_))
 refine wpAny_bind (wpAny_isOneOf_keyiter ty ?_)
 show wpAny _ _ (setField (.ref it) 1 (rawInt ((i : Int) + 1)) >>= _) _ _ s
 refine wpAny_bind (wpAny_setField g1 g3 (by simp) ?_)
 have nx : (s.heap.update it (Obj.mapFields (·.setIfInBounds 1 (rawInt ((i : Int) + 1))))).IsKeyIter it d (i + 1) es.size ep :=
  ⟨_,Heap.get?_update_self _ g1 (Obj.isFreed_of_fields (Obj.data_mapFields g3 _)),(Obj.cls_mapFields ..).trans g2,by rw [Obj.data_mapFields g3]; simp [rawInt]⟩
 refine wpAny_bind (wpAny_holding (wpAny_bind (wpAny_isOneOf_keyiter (s:={ s with heap:=s.heap.update it (Obj.mapFields (·.setIfInBounds 1 (rawInt ((i : Int) + 1)))) }) nx.typeIs ?_)))
 show wpAny _ _ (pure es[i].key) _ _ _
 exact wpAny_pure (wpAny_pure ⟨_,rfl,wpAny_pure (hQ _ nx (Heap.SameBut.update ..))⟩)
theorem zmw {Q : Option Value → Shared → Prop} (hh : A.handled = none) (hit : s.heap.IsKeyIter it d es.size es.size ep) (r : Raw s.heap d es ep)
  (hQ : ∀ h',Heap.ExtBut it s.heap h' → Q none { s with heap:=h' }) : wpAny (model prog w) A (pyNext (.ref it)) Q E s:=by
 obtain ⟨oi,g1,g2,g3⟩:=id hit
 obtain ⟨od,h1,h2,h3⟩:=id r
 have ty:=hit.typeIs
 unfold pyNext
 refine wpAny_bind (wpAny_attempt (wpAny_callSpecial?_slot (name:=Str.ofString "__next__") ty F.slot_dict_keyiterator_next (wpAny_call_entry F.slot_dict_keyiterator_next ty F.entry_dict_keyiterator_next ?_ (F.args_dict_keyiterator_next_1 _))))
 refine wpAny_bind (wpAny_pure (wpAny_bind (wpAny_bind ?_)))
 first | refine wpAny_bind (wpAny_typeNameOfWhole_keyiter ty (wpAny_pure ?_)) | refine wpAny_bind (wpAny_typeNameOf_keyiter ty (wpAny_pure ?_))
 refine wpAny_bind (wpAny_fieldsOf g1 g3 ?_)
 rw [show Builtin.Dict_items.ownsTuple "dict_keyiterator" = false by decide]
 simp only [Bool.false_eq_true,if_false]
 show wpAny _ _ (if (Value.ref d == Value.none) = true then _ else _) _ _ s
 rw [if_neg (by intro z; cases z)]
 refine wpAny_bind (wpAny_pure (wpAny_bind (wpAny_dictEntries h1 h3 ?_)))
 rw [if_neg (by simp)]
 refine wpAny_bind (wpAny_pure (wpAny_bind (wpAny_dictEpoch h1 h3 ?_)))
 rw [if_neg (by simp)]
 refine wpAny_pure ?_
 simp only [show ¬ ((es.size : Int) < 0) by omega,if_false,Int.toNat_natCast,Array.getElem?_eq_none (Nat.le_refl es.size)]
 refine wpAny_bind ?_
 first | refine wpAny_bind (wpAny_typeNameOfWhole_keyiter ty (wpAny_pure ?_)) | refine wpAny_bind (wpAny_typeNameOf_keyiter ty (wpAny_pure ?_))
 show wpAny _ _ (setField (.ref it) 0 .none >>= _) _ _ s
 refine wpAny_bind (wpAny_setField g1 g3 (by simp) ?_)
 show wpAny _ _ (newExc (.type "StopIteration") [] >>= _) _ _ _
 refine wpAny_bind ?_
 simp only [newExc,newTuple]
 refine wpAny_bind (wpAny_newObj_type (wpAny_bind (m:=firstArgMember _ _) (wpAny_of_eq (a:=Value.none) (by first | rfl | (simp only [firstArgMember]; rfl)) (wpAny_newObj_type ?_ (by size_fits)))) (by size_fits))
 simp only [raiseNew]
 refine wpAny_bind (wpAny_handled ?_)
 rw [show A.in1.handled = none from hh]
 refine wpAny_bind (wpAny_pure (wpAny_throw (?stop)))
 refine wpAny_bind (wpAny_isInstance (b:=true) (T:="StopIteration") ⟨_,Heap.get?_push_size _ rfl,rfl⟩ isSubtype_stop ?_)
 exact wpAny_pure (hQ _ (((Heap.SameBut.update ..).extBut.push _).push _))

theorem zjN {v : Addr} {Q : Value → Shared → Prop} (hv : s.heap.IsValuesView v d) (r : Raw s.heap d es ep) (hQ : Q (.ref s.heap.objs.size) { s with heap:=s.heap.push { cls:=.type "dict_valueiterator",data:=.fields #[.ref d,.int 0 0,.int es.size 0,.int ep 0] } }) :
  wpAny (model prog w) A (pyIter (.ref v)) Q E s:=by
 obtain ⟨ov,g1,g2,g3⟩:=id hv
 obtain ⟨od,h1,h2,h3⟩:=id r
 have ty:=hv.typeIs
 refine wpAny_pyIter_slot ty F.slot_dict_values_iter (wpAny_call_entry F.slot_dict_values_iter ty F.entry_dict_values_iter ?_ (F.args_dict_values_iter_1 _))
 unfold Builtin.«dict_values.__iter__»
 refine wpAny_bind (wpAny_pure (wpAny_bind ?_))
 unfold Builtin.Dict_items.dictOf
 refine wpAny_bind (wpAny_field g1 g3 (x:=.ref d) rfl (wpAny_pure (wpAny_bind ?_)))
 unfold Builtin.Dict_items.newIterator
 refine wpAny_bind (wpAny_dictEntries h1 h3 (wpAny_bind (wpAny_dictEpoch h1 h3 ?_)))
 rw [show Builtin.Dict_items.ownsTuple "dict_valueiterator" = false by decide]
 simp only [Bool.false_eq_true,if_false]
 refine wpAny_newObj_type (wpAny_pure ⟨_,rfl,"dict_valueiterator",_,⟨_,Heap.get?_push_size _ rfl,rfl⟩,F.slot_dict_valueiterator_next.lookup,?_⟩)
 simpa [rawInt] using hQ
theorem zjO {Q : Option Value → Shared → Prop} (hit : s.heap.IsValIter it d i es.size ep) (r : Raw s.heap d es ep) (hi : i < es.size)
  (hQ : ∀ h',h'.IsValIter it d (i + 1) es.size ep → Heap.SameBut it s.heap h' → Q (some es[i].val) { s with heap:=h' }) : wpAny (model prog w) A (pyNext (.ref it)) Q E s:=by
 obtain ⟨oi,g1,g2,g3⟩:=id hit
 obtain ⟨od,h1,h2,h3⟩:=id r
 have ty:=hit.typeIs
 unfold pyNext
 refine wpAny_bind (wpAny_attempt (wpAny_callSpecial?_slot (name:=Str.ofString "__next__") ty F.slot_dict_valueiterator_next (wpAny_call_entry F.slot_dict_valueiterator_next ty F.entry_dict_valueiterator_next ?_ (F.args_dict_valueiterator_next_1 _))))
 refine wpAny_bind (wpAny_pure (wpAny_bind (wpAny_bind ?_)))
 first | refine wpAny_bind (wpAny_typeNameOfWhole_valiter ty (wpAny_pure ?_)) | refine wpAny_bind (wpAny_typeNameOf_valiter ty (wpAny_pure ?_))
 refine wpAny_bind (wpAny_fieldsOf g1 g3 ?_)
 rw [show Builtin.Dict_items.ownsTuple "dict_valueiterator" = false by decide]
 simp only [Bool.false_eq_true,if_false]
 show wpAny _ _ (if (Value.ref d == Value.none) = true then _ else _) _ _ s
 rw [if_neg (by intro z; cases z)]
 refine wpAny_bind (wpAny_pure (wpAny_bind (wpAny_dictEntries h1 h3 ?_)))
 rw [if_neg (by simp)]
 refine wpAny_bind (wpAny_pure (wpAny_bind (wpAny_dictEpoch h1 h3 ?_)))
 rw [if_neg (by simp)]
 refine wpAny_pure ?_
 simp only [show ¬ ((i : Int) < 0) by omega,if_false,Int.toNat_natCast,Array.getElem?_eq_getElem hi]
 refine wpAny_bind ?_
 first | refine wpAny_bind (wpAny_typeNameOfWhole_valiter ty (wpAny_pure ?_)) | refine wpAny_bind (wpAny_typeNameOf_valiter ty (wpAny_pure ?_))
 refine wpAny_bind (wpAny_isOneOf_valiter ty ?_)
 show wpAny _ _ (setField (.ref it) 1 (rawInt ((i : Int) + 1)) >>= _) _ _ s
 refine wpAny_bind (wpAny_setField g1 g3 (by simp) ?_)
 have nx : (s.heap.update it (Obj.mapFields (·.setIfInBounds 1 (rawInt ((i : Int) + 1))))).IsValIter it d (i + 1) es.size ep :=
  ⟨_,Heap.get?_update_self _ g1 (Obj.isFreed_of_fields (Obj.data_mapFields g3 _)),(Obj.cls_mapFields ..).trans g2,by rw [Obj.data_mapFields g3]; simp [rawInt]⟩
 refine wpAny_bind (wpAny_holding (wpAny_bind (wpAny_isOneOf_valiter (s:={ s with heap:=s.heap.update it (Obj.mapFields (·.setIfInBounds 1 (rawInt ((i : Int) + 1)))) }) nx.typeIs ?_)))
 refine wpAny_bind (wpAny_isOneOf_valiter (s:={ s with heap:=s.heap.update it (Obj.mapFields (·.setIfInBounds 1 (rawInt ((i : Int) + 1)))) }) nx.typeIs ?_)
 show wpAny _ _ (pure es[i].val) _ _ _
 exact wpAny_pure (wpAny_pure ⟨_,rfl,wpAny_pure (hQ _ nx (Heap.SameBut.update ..))⟩)
theorem zld {Q : Option Value → Shared → Prop} (hh : A.handled = none) (hit : s.heap.IsValIter it d es.size es.size ep) (r : Raw s.heap d es ep)
  (hQ : ∀ h',Heap.ExtBut it s.heap h' → Q none { s with heap:=h' }) : wpAny (model prog w) A (pyNext (.ref it)) Q E s:=by
 obtain ⟨oi,g1,g2,g3⟩:=id hit
 obtain ⟨od,h1,h2,h3⟩:=id r
 have ty:=hit.typeIs
 unfold pyNext
 refine wpAny_bind (wpAny_attempt (wpAny_callSpecial?_slot (name:=Str.ofString "__next__") ty F.slot_dict_valueiterator_next (wpAny_call_entry F.slot_dict_valueiterator_next ty F.entry_dict_valueiterator_next ?_ (F.args_dict_valueiterator_next_1 _))))
 refine wpAny_bind (wpAny_pure (wpAny_bind (wpAny_bind ?_)))
 first | refine wpAny_bind (wpAny_typeNameOfWhole_valiter ty (wpAny_pure ?_)) | refine wpAny_bind (wpAny_typeNameOf_valiter ty (wpAny_pure ?_))
 refine wpAny_bind (wpAny_fieldsOf g1 g3 ?_)
 rw [show Builtin.Dict_items.ownsTuple "dict_valueiterator" = false by decide]
 simp only [Bool.false_eq_true,if_false]
 show wpAny _ _ (if (Value.ref d == Value.none) = true then _ else _) _ _ s
 rw [if_neg (by intro z; cases z)]
 refine wpAny_bind (wpAny_pure (wpAny_bind (wpAny_dictEntries h1 h3 ?_)))
 rw [if_neg (by simp)]
 refine wpAny_bind (wpAny_pure (wpAny_bind (wpAny_dictEpoch h1 h3 ?_)))
 rw [if_neg (by simp)]
 refine wpAny_pure ?_
 simp only [show ¬ ((es.size : Int) < 0) by omega,if_false,Int.toNat_natCast,Array.getElem?_eq_none (Nat.le_refl es.size)]
 refine wpAny_bind ?_
 first | refine wpAny_bind (wpAny_typeNameOfWhole_valiter ty (wpAny_pure ?_)) | refine wpAny_bind (wpAny_typeNameOf_valiter ty (wpAny_pure ?_))
 show wpAny _ _ (setField (.ref it) 0 .none >>= _) _ _ s
 refine wpAny_bind (wpAny_setField g1 g3 (by simp) ?_)
 show wpAny _ _ (newExc (.type "StopIteration") [] >>= _) _ _ _
 refine wpAny_bind ?_
 simp only [newExc,newTuple]
 refine wpAny_bind (wpAny_newObj_type (wpAny_bind (m:=firstArgMember _ _) (wpAny_of_eq (a:=Value.none) (by first | rfl | (simp only [firstArgMember]; rfl)) (wpAny_newObj_type ?_ (by size_fits)))) (by size_fits))
 simp only [raiseNew]
 refine wpAny_bind (wpAny_handled ?_)
 rw [show A.in1.handled = none from hh]
 refine wpAny_bind (wpAny_pure (wpAny_throw (?stop)))
 refine wpAny_bind (wpAny_isInstance (b:=true) (T:="StopIteration") ⟨_,Heap.get?_push_size _ rfl,rfl⟩ isSubtype_stop ?_)
 exact wpAny_pure (hQ _ (((Heap.SameBut.update ..).extBut.push _).push _))

theorem ziC (hd : (d == sysModules) = false) (es : Array DictEntry) (ep : Nat) :
  MeetsIn prog w (Builtin.«dict.values» ⟨[.ref d],[]⟩) (fun _ R s=>Raw s.heap d es ep ∧ R (.ok (.ret (.ref s.heap.objs.size))) { s with heap:=s.heap.push { cls:=.type "dict_values",data:=.fields #[.ref d] } }) :=
 .of_wp fun A R s hP62=>by
  obtain ⟨r,h⟩:=hP62
  refine wpAny_bind ?_
  unfold Builtin.Dict.noArgs
  refine wpAny_bind (wpAny_notOrdered_dict r.ty ?_)
  show wpAny _ _ (pure d) _ _ s
  refine wpAny_pure ?_
  show wpAny _ _ (Builtin.Dict.showsAll d >>= _) _ _ s
  unfold Builtin.Dict.showsAll
  rw [hd,if_neg Bool.false_ne_true]
  exact wpAny_bind (wpAny_pure (wpAny_bind (wpAny_newObj_type (wpAny_pure ⟨_,rfl,h⟩))))

theorem ziD (hh : A.handled = none) (hne : d ≠ it) : Walks prog w A it [it,d] [it] es.size (fun i v=>∃ h : i < es.size,v = es[i].val) (fun i h=>h.IsValIter it d i es.size ep ∧ Raw h d es ep) where
 sub:=fun b hb=>List.mem_cons.mpr (.inl (List.mem_singleton.mp hb))
 frame:=fun _ _ _ st hk=>⟨st.1.at fun o e=>hk it (by simp) o e,st.2.keep fun o e=>hk d (by simp) o e⟩
 item:=fun i s Q E hi st hQ=>zjO st.1 st.2 hi fun h' n sb=>hQ _ h' s.toks ⟨hi,rfl⟩ ⟨n,st.2.keep fun o e=>sb.extBut d o hne e⟩ fun b o hb e=>sb.extBut b o (fun z=>hb (List.mem_singleton.mpr z)) e
 done:=fun s Q E st hQ=>zld hh st.1 st.2 fun h' eb=>hQ h' s.toks fun b o hb e=>eb b o (fun z=>hb (List.mem_singleton.mpr z)) e
 self:=fun _ _ _ _ st hQ=>wpAny_pyIter_valiter st.1 hQ
end
end Internal

end
section
set_option Elab.async false
set_option linter.all false
set_option maxRecDepth 100000
set_option maxHeartbeats 4000000
namespace Internal
open PySem PySem.Spec PyProof.Rows Internal.L2

theorem zhV {X : Cx} {pins : List (Addr × Obj)} {σ : Internal.L2.St} {H : Hp} {s : Shared} {a : Addr} {kv : List (List Key × V)} {o : Obj} (I : Internal.L2.Inv X pins σ H s) (ha : H a = some (.dT kv)) (ho : s.heap.get? a = some o) : Internal.L2.Inv X pins σ (upd H a (.frz o (.dT kv))) s:=by
 have ne : ∀ {b : Addr} {u : HO},(∀ kv,u ≠ .dT kv) → H b = some u → upd H a (.frz o (.dT kv)) b = some u:=fun {b u} hn h=>by
  rw [zp fun z=>by subst z; rw [ha] at h; cases h; exact hn _ rfl]; exact h
 have nn : ∀ {b : Addr},H b = none → upd H a (.frz o (.dT kv)) b = none:=fun {b} h=>by
  rw [zp fun z=>by subst z; rw [ha] at h; cases h]; exact h
 have st : ∀ (b : Addr) (u : HO),ObjOk X.prog X.w H s.heap b u → ObjOk X.prog X.w (upd H a (.frz o (.dT kv))) s.heap b u:=fun b u h =>
  h.stay (fun _ _ _ q=>q) (fun c q=>ne (fun _ z=>by cases z) q) fun c xs q=>ne (fun _ z=>by cases z) q
 refine ⟨I.ok,I.os,I.bare,⟨I.base.keep,I.base.slot,fun b ob e n hx=>nn (I.base.free b ob e n hx),I.base.there,fun b xs e=>ne (fun _ z=>by cases z) (I.base.tups b xs e),fun b ob u e=>ne (fun _ z=>by cases z) (I.base.frzs b ob u e),fun b ps e=>let ⟨m,q⟩:=I.base.tbls b ps e; ⟨m,ne (fun _ z=>by cases z) q⟩⟩,I.loc,I.cell,nn I.free,fun x c e=>nn (I.freeC x c e),fun p hp=>let ⟨q1,q2,q3⟩:=I.pin p hp; ⟨q1,nn q2,q3⟩,fun b u e=>?_,I.len⟩
 by_cases hb : b = a
 ·subst hb
  rw [zu] at e
  cases e
  exact ⟨ho,st _ _ (I.hok _ _ ha)⟩
 ·rw [zp hb] at e
  exact st b u (I.hok b u e)

theorem zhW {P : Program} {w : World} {H Hh : Hp} {h : Heap} {a : Addr} {kvs : List (List Int × Int)} {o : Obj} (ok : ObjOk P w H h a (.dT (dcV kvs))) (ho : h.get? a = some o) (hh : ∀ b xs,H b = some (.tup xs) → Hh b = some (.tup xs)) : zdy Hh o kvs:=by
 obtain ⟨z,y,xs,r,o',es,ep,h1,h2,h3,h4,h5⟩:=ok
 rw [ho] at h1; cases h1
 have hl : es.size = kvs.length:=by
  have e1:=r.length
  rw [List.length_map] at e1
  rw [← Array.length_toList,h4,List.length_map,← e1]
 refine ⟨es,ep,h3,hl,fun i k v hk=>?_⟩
 have hi : i < kvs.length:=(List.getElem?_eq_some_iff.mp hk).1
 have hd : (dcV kvs)[i]? = some (k.map Sum.inl,V.int v):=by rw [dcV,List.getElem?_map,hk]; rfl
 have key : ∀ {l1 : List (List Key × V)} {l2 : List (List Key × Addr × Value)},Paired (fun (p : List Key × V) (q : List Key × Addr × Value)=>p.1 = q.1 ∧ H q.2.1 = some (.tup (p.1.map kV)) ∧ RelV p.2 q.2.2) l1 l2 → ∀ (i : Nat) p,l1[i]? = some p → ∃ q,l2[i]? = some q ∧ p.1 = q.1 ∧ H q.2.1 = some (.tup (p.1.map kV)) ∧ RelV p.2 q.2.2:=by
  intro l1 l2 r
  induction r with
  | nil=>intro i p h; simp at h
  | cons hq _ ih =>
   intro i p h
   cases i with
   | zero=>cases h; exact ⟨_,rfl,hq⟩
   | succ i=>exact ih i p h
 obtain ⟨q,q1,q2,q3,q4⟩:=key r i _ hd
 refine ⟨entryOfKey (tupleKind (zL P w)) q,q.2.1,?_,rfl,hh _ _ ?_⟩
 ·rw [← Array.getElem?_toList,h4,List.getElem?_map,q1]; rfl
 ·rw [q3]; simp only [List.map_map]; rfl

theorem zmx {P : Program} {w : World} {H : Hp} {h : Heap} {a : Addr} {kvs : List (List Int × Int)} {o : Obj} {es : Array DictEntry} {ep : Nat} (ok : ObjOk P w H h a (.dT (dcV kvs))) (ho : h.get? a = some o) (hd : o.data = .dict es ep) : es.size = kvs.length ∧ ∀ (i : Nat) (hi : i < es.size),∃ t,es[i].val = .int ((kvs.map (·.2)).getD i 0) t:=by
 obtain ⟨z,y,xs,r,o',es',ep',h1,h2,h3,h4,h5⟩:=ok
 rw [ho] at h1; cases h1
 rw [hd] at h3; cases h3
 have hl : es.size = kvs.length:=by
  have e1:=r.length
  rw [List.length_map] at e1
  rw [← Array.length_toList,h4,List.length_map,← e1]
 refine ⟨hl,fun i hi=>?_⟩
 have key : ∀ {l1 : List (List Key × V)} {l2 : List (List Key × Addr × Value)},Paired (fun (p : List Key × V) (q : List Key × Addr × Value)=>p.1 = q.1 ∧ H q.2.1 = some (.tup (p.1.map kV)) ∧ RelV p.2 q.2.2) l1 l2 → ∀ (i : Nat) p,l1[i]? = some p → ∃ q,l2[i]? = some q ∧ RelV p.2 q.2.2:=by
  intro l1 l2 r
  induction r with
  | nil=>intro i p h; simp at h
  | cons hq _ ih =>
   intro i p h
   cases i with
   | zero=>cases h; exact ⟨_,rfl,hq.2.2⟩
   | succ i=>exact ih i p h
 have hi' : i < kvs.length:=by omega
 obtain ⟨q,q1,q4⟩:=key r i (kvs[i].1.map Sum.inl,V.int kvs[i].2) (by rw [dcV,List.getElem?_map,List.getElem?_eq_getElem hi']; rfl)
 obtain ⟨t,ht⟩:=q4
 refine ⟨t,?_⟩
 have e : es[i] = entryOfKey (tupleKind (zL P w)) q:=by
  have:=congrArg (fun l=>l[i]?) h4
  simp only [List.getElem?_map,q1,Array.getElem?_toList,Array.getElem?_eq_getElem hi,Option.map_some] at this
  exact Option.some.inj this
 rw [e]
 show q.2.2 = _
 rw [ht,List.getD_eq_getElem?_getD,List.getElem?_map,List.getElem?_eq_getElem hi']; rfl

noncomputable abbrev dcD (kvs : List (List Int × Int)) : List (List Int × D):=kvs.map fun kv=>(kv.1,D.int kv.2)
theorem zdF {K : PySem.W.Frag} {H : Hp} : ∀ {kvs : List (List Int × Int)} {kv : List (List Key × V)},DReps K H (dcD kvs) kv → kv = dcV kvs
 | [],_,h=>h
 | (k,v) :: r,_,⟨v',r',e,h1,h2⟩=>by
  rw [e,zdF h2,show v' = V.int v from h1]; rfl
theorem RS.frzD {K : PySem.W.Frag} {φ : Addr → Bool} {ω : Addr → Option (Bool × Nat)} {H : Hp} {σ : Internal.L2.St} {Γ : List Sl} {P : Program} {w : World} {h : Heap} (r : RS K φ ω H σ Γ) (hok : HOk P w H h) {i : Nat} {kvs : List (List Int × Int)} (hi : Γ[i]? = some (.dic (dcD kvs))) :
  ∃ p ob ω',H p = some (.dT (dcV kvs)) ∧ h.get? p = some ob ∧ RS K φ ω' (upd H p (.frz ob (.dT (dcV kvs)))) σ (Γ.set i (.val (.dcI kvs))) ∧ Kp φ ω H ω' (upd H p (.frz ob (.dT (dcV kvs)))):=by
 obtain ⟨p,kv,hσ,hω,φp,hH,hr⟩:=r.ownD i _ hi
 have ek:=zdF hr
 subst ek
 obtain ⟨_,_,_,_,ob,_,_,hob,_⟩:=id (hok p _ hH)
 have hlt:=(List.getElem?_eq_some_iff.mp hi).1
 have bp : both φ ω p = true:=by unfold both; rw [hω]; simp
 have ne : ∀ {b : Addr},b ≠ p → both φ (fun b=>if b = p then none else ω b) b = both φ ω b:=fun {b} hb=>by unfold both; dsimp only; rw [if_neg hb]
 have bp' : both φ (fun b=>if b = p then none else ω b) p = false:=by unfold both; dsimp only; rw [if_pos rfl,φp]; rfl
 have up : Same (hidB (both φ ω) H) (hidB (both φ (fun b=>if b = p then none else ω b)) (upd H p (.frz ob (.dT (dcV kvs))))):=fun b u q=>by
  obtain ⟨c1,c2⟩:=zr q
  have hb : b ≠ p:=fun z=>by subst z; rw [bp] at c1; cases c1
  exact zy ((ne hb).trans c1) (by rw [zp hb]; exact c2)
 have lv : ∀ b,both φ (fun b=>if b = p then none else ω b) b = true → b ≠ p ∧ both φ ω b = true:=fun b q=>by
  have hb : b ≠ p:=fun z=>by subst z; rw [bp'] at q; cases q
  exact ⟨hb,(ne hb).symm.trans q⟩
 refine ⟨p,ob,fun b=>if b = p then none else ω b,hH,hob,⟨fun b q=>?_,by rw [List.length_set]; exact r.len,fun j d hj=>?_,fun j a c hj=>?_,fun b b' k h1 h2=>?_⟩,⟨up,fun b u hb hu=>?_,fun b u hu=>?_,fun b j hj=>?_,fun b j hj=>?_⟩⟩
 ·obtain ⟨hb,q'⟩:=lv b q
  obtain ⟨u,hu⟩:=r.live b q'
  exact ⟨u,by rw [zp hb]; exact hu⟩
 ·by_cases e : i = j
  ·subst e
   rw [List.getElem?_set_self hlt] at hj
   cases hj
   refine ⟨.ref p,hσ,p,ob,rfl,zy bp' zu,zhW (hok p _ hH) hob fun b xs hb=>?_⟩
   have hne : b ≠ p:=fun z=>by subst z; rw [hH] at hb; cases hb
   refine zy ?_ (by rw [zp hne]; exact hb)
   cases c : both φ (fun b=>if b = p then none else ω b) b with
   | false=>rfl
   | true =>
    obtain ⟨⟨u,nu⟩,hu⟩:=r.live b (lv b c).2
    rw [hb] at hu
    cases hu
    exact (nu _ rfl).elim
  ·rw [List.getElem?_set_ne e] at hj
   obtain ⟨v,ev,rv⟩:=r.val j d hj
   exact ⟨v,ev,rv.mono up d⟩
 ·by_cases e : i = j
  ·subst e
   rw [List.getElem?_set_self hlt] at hj
   cases hj
  ·rw [List.getElem?_set_ne e] at hj
   obtain ⟨b,ws,h1,h2,h3,h4,h5⟩:=r.own j a c hj
   have hne : b ≠ p:=fun z=>by subst z; rw [hω] at h2; exact e (congrArg Prod.snd (Option.some.inj h2))
   exact ⟨b,ws,h1,by rw [if_neg hne]; exact h2,h3,by rw [zp hne]; exact h4,CRep.mono up c h5⟩
 ·have g : ∀ c,(if c = p then none else ω c) = some (true,k) → ω c = some (true,k):=fun c q=>by
   by_cases hc : c = p
   ·rw [if_pos hc] at q; cases q
   ·rw [if_neg hc] at q; exact q
  exact r.argu b b' k (g b h1) (g b' h2)
 ·have hne : b ≠ p:=fun z=>by subst z; rw [φp] at hb; cases hb
  rw [zp hne]; exact hu
 ·by_cases hb : b = p
  ·subst hb; exact ⟨_,zu⟩
  ·exact ⟨u,by rw [zp hb]; exact hu⟩
 ·by_cases hb : b = p
  ·rw [if_pos hb] at hj; cases hj
  ·rw [if_neg hb] at hj; exact .inl ⟨j,hj⟩
 ·have hb : b ≠ p:=fun z=>by subst z; rw [hω] at hj; cases hj
  rw [if_neg hb]; exact hj
noncomputable def getI (kvs : List (List Int × Int)) (k : List Int) : Option Int:=(kvs.find? fun kv=>decide (kv.1 = k)).map (·.2)
noncomputable def putI (kvs : List (List Int × Int)) (k : List Int) (v : Int) : List (List Int × Int):=if (kvs.any fun kv=>decide (kv.1 = k)) = true then kvs.map (fun kv=>if kv.1 = k then (kv.1,v) else kv) else kvs ++ [(k,v)]
theorem zfh (k : List Int) : ∀ (kvs : List (List Int × Int)),valV (dcV kvs) (kK k) = (getI kvs k).map V.int
 | []=>rfl
 | (k',v) :: r=>by
  show valV ((kK k',V.int v) :: dcV r) (kK k) = _
  by_cases q : k' = k
  ·subst q
   rw [zdd rfl]
   simp [getI,List.find?_cons]
  ·rw [zde (fun z=>q (zgF.mp z)),zfh k r]
   simp [getI,List.find?_cons,q]
theorem zmy (kvs : List (List Int × Int)) (k : List Int) (v : Int) : putD (dcD kvs) k (.int v) = dcD (putI kvs k v):=by
 unfold putD putI dcD
 rw [List.any_map]
 have e : ((fun kv : List Int × D=>decide (kv.1 = k)) ∘ fun kv : List Int × Int=>(kv.1,D.int kv.2)) = fun kv=>decide (kv.1 = k):=rfl
 rw [e]
 split
 ·rw [List.map_map,List.map_map]
  apply List.map_congr_left
  intro kv _
  show (if kv.1 = k then (kv.1,D.int v) else (kv.1,D.int kv.2)) = _
  simp only [Function.comp]
  split <;> rfl
 ·rw [List.map_append]; rfl
section
variable {S : Stat} {Γ : List Sl} {E : DEnds} {pos p pos' apos cpos p1 p2 : Pos} {e a b value : Expr} {x : Str} {rest : List Stmt} {kvs : List (List Int × Int)}

theorem zjP (i : Nat) (hi : Γ[i]? = some (.dic (dcD kvs))) (h : JB S (Γ.set i (.val (.dcI kvs))) rest E) : JB S Γ rest E:=.mk fun X o pins s σ H Z I hP63=>by
 obtain ⟨φ,ω,r,c⟩:=hP63
 obtain ⟨q,ob,ω',hH,hob,r',k⟩:=r.frzD I.hok hi
 exact h X o pins s σ _ Z (zhV I hH hob) ⟨φ,ω',r',c.step k⟩

theorem e_dix {k : List Int} {v : Int} (ha : JE S Γ a (.dcI kvs)) (hb : JE S Γ b (rowD k)) (hk : getI kvs k = some v) (hs : NoSl b:=by ac_rfl) : JE S Γ (.Subscript a b pos) (.int v):=.mk fun X o =>
 zq (zmt (by have:=o.room.units; omega) (ha X o) (hb X o) hs) fun σ H Q ⟨χ,R,q⟩=>⟨χ,R,fun x H1 e1 ⟨ad,ob,ex,hd,_⟩=>⟨χ,R.mono e1,fun y H2 e2 ry=>by
  obtain ⟨bb,rfl,hb⟩:=zdQ ry
  refine ⟨ad,V.int v,ex,.inr ⟨dcV kvs,kK k,bb,.inr ⟨ob,e2 _ _ (zm _ _ hd)⟩,rfl,zm _ _ hb,?_⟩,q _ H2 (e1.trans e2) rfl⟩
  rw [zfh,hk]; rfl⟩⟩

theorem zhX (i : Nat) {k : List Int} {n : Int} (hi : Γ[i]? = some (.dic (dcD kvs))) (he : JE S Γ e (rowD k)) (hf : JE S Γ a (.int n)) (hN : S.N[i]? = some x:=by ac_nf) (hv : Vis S.sc x:=by ac_nf)
  (h1 : (x == ("__debug__" : Str)) = false:=by ac_nf) (h2 : (x == ("__classdict__" : Str)) = false:=by ac_nf)
  (hm : ∀ X : Cx,M2 X (.Name x p) "get" apos e a cpos:=by intro _; exact ⟨rfl,rfl,rfl,rfl⟩) : JE S Γ (.Call (.Attribute (.Name x p) "get" apos) [e,a] [] cpos) (.int ((getI kvs k).getD n)):=.mk fun X o =>
 zq (zla (by have:=o.room.units; omega) (zbk (i:=i) (by rw [o.N]; exact hN) (by rw [o.sc]; exact hv) h1 h2) (he X o) (hf X o) (hm X)) fun σ H Q hP64=>by
  obtain ⟨χ,R,q⟩:=hP64
  obtain ⟨pa,kv,hσ,_,hH,hr⟩:=R.ownD i _ hi
  have ek:=zdF hr
  subst ek
  refine ⟨.ref pa,hσ,pa,rfl,.inr ⟨_,.inl hH⟩,χ,R,fun y H1 e1 ry=>⟨χ,R.mono e1,fun z H2 e2 rz=>?_⟩⟩
  cases (show z = .int n from rz)
  obtain ⟨bb,rfl,hb⟩:=zdQ ry
  refine ⟨(getI kvs k).map V.int,.inr ⟨dcV kvs,kK k,bb,.inl (e2 _ _ (e1 _ _ hH)),rfl,e2 _ _ (zm _ _ hb),(zfh k kvs).symm⟩,?_⟩
  have eq : ((getI kvs k).map V.int).getD (V.int n) = V.int ((getI kvs k).getD n):=by cases getI kvs k <;> rfl
  rw [eq]
  exact q _ H2 (e1.trans e2) rfl

theorem zhY (i : Nat) {k : List Int} {v : Int} {px : Pos} (hi : Γ[i]? = some (.dic (dcD kvs))) (he : JE S Γ e (rowD k)) (hd : JE S Γ value (.int v)) (hl : kvs.length < sizeLine) (h : E.nx (Γ.set i (.dic (dcD (putI kvs k v))))) (hN : S.N[i]? = some x:=by ac_nf) (hv : Vis S.sc x:=by ac_nf)
  (h1 : (x == ("__debug__" : Str)) = false:=by ac_nf) (h2 : (x == ("__classdict__" : Str)) = false:=by ac_nf) (hs : ∀ X : Cx,swapsWith value (some (.Subscript (.Name x px) e pos')) pos.line X.env = pure false:=by ac_rfl) : JS S Γ (.Assign [.Subscript (.Name x px) e pos'] value pos) E :=
 zoh i hi he hd (by rw [List.length_map]; exact hl) (by rw [zmy]; exact h) hN hv h1 h2 hs
end
end Internal

end
section
set_option Elab.async false
set_option linter.all false
set_option maxRecDepth 100000
set_option maxHeartbeats 4000000

namespace Internal
open PySem PySem.Spec PyProof.Rows

noncomputable def Ctx0 (e : Addr) (h : Heap) : Prop:=∃ oe vs,h.get? e = some oe ∧ oe.data = .fields vs ∧ vs[2]? = some .none
section
variable {M : Model} {A : Around} {E : Value → Shared → Prop} {s : Shared} {B : Heap} {env : Env} {out : List Env} {L e : Addr} {cls a0 : Value}

theorem zfL {oe : Obj} {vs : Array Value} {hd : Value} {had : Bool} {Q : Unit → Shared → Prop} (fr : A.frames = some (env :: out)) (ff : s.heap.FunFrames B (env :: out)) (fL : env.frame = some L) (he : s.heap.get? e = some oe) (kb : B.StaysIn s.heap) (en : B.get? e = none)
  (dt : oe.data = .fields vs) (sz : 1 < vs.size) (h0 : vs[0]? = some a0) (hQ : ∀ h',Heap.HeldW B (env :: out) e oe.cls a0 L h' → s.heap.UpToSlots h' → (vs[2]? = some .none → Ctx0 e h') → Q () { s with heap:=h' }) :
  wpAny M A (do let a ← frameOf env; let pl ← entryPlaceOf L had; let b ← EntryCells.newEntry hd a .none (rawInt L) .none pl; setField (.ref e) 1 b) Q E s:=by
 have nf : e ∉ (env :: out).filterMap (·.frame):=fun m=>by
  obtain ⟨_,o,ho,no⟩:=ff.mem m
  rw [he] at ho; cases ho
  exact no vs dt
 refine wpAny_bind (wpAny_frameOf_fun fr ff fL fun h1 so=>wpAny_bind (wpAny_entryPlaceOf fun pl ip=>?_))
 unfold EntryCells.newEntry newFields
 refine wpAny_bind (wpAny_newObj_type ?_ (ip.sizeOk5 _ _ _ _ _))
 have e1 : h1.get? e = some oe:=(so.2.1 e nf).trans he
 have kb1 : B.StaysIn h1:=fun b o q=>(so.2.1 b fun m=>by rw [(ff.mem m).1] at q; cases q).trans (kb b o q)
 generalize tO : ({ cls:=.type "traceback",dict:=none,data:=.fields ([hd,.ref L,.none,rawInt L,.none] ++ (if pl.isEmpty then List.replicate 6 Value.none else pl)).toArray } : Obj) = to
 have td : to.data = .fields ([hd,.ref L,.none,rawInt L,.none] ++ (if pl.isEmpty then List.replicate 6 Value.none else pl)).toArray:=by rw [← tO]
 have tf : to.isFreed = false:=Obj.isFreed_of_fields td
 have e2 : (h1.push to).get? e = some oe:=Heap.get?_push_of_some to e1
 refine wpAny_setField e2 dt sz ?_
 have ne : h1.objs.size ≠ e:=Nat.ne_of_gt (Heap.lt_size e1)
 have d3:=Obj.data_mapFields dt (·.setIfInBounds 1 (Value.ref h1.objs.size))
 have e3:=Heap.get?_update_self (Obj.mapFields (·.setIfInBounds 1 (Value.ref h1.objs.size))) e2 (Obj.isFreed_of_fields d3)
 have t3:=(Heap.get?_update_other (h1.push to) (Obj.mapFields (·.setIfInBounds 1 (Value.ref h1.objs.size))) (Ne.symm ne)).trans (Heap.get?_push_size h1 tf)
 have kp : ∀ b o,b ≠ e → h1.get? b = some o → ((h1.push to).update e (Obj.mapFields (·.setIfInBounds 1 (Value.ref h1.objs.size)))).get? b = some o:=fun b o hb q =>
  (Heap.get?_update_other _ _ (Ne.symm hb)).trans (Heap.get?_push_of_some to q)
 have nr : ∀ b o,s.heap.get? b = some o → (∀ ws,o.data ≠ .fields ws) → b ≠ e:=fun b o q no z=>by
  rw [z,he] at q; cases q
  exact no vs dt
 refine hQ _ ⟨fun b o q=>kp b o (fun z=>by rw [z,en] at q; cases q) (kb1 b o q),en,ff.of_keeps fun b o q no=>?_,?_⟩ (fun b o q no=>?_) fun v2=>?_
 ·obtain ⟨sl,z⟩:=so.2.2 b o q
  exact ⟨_,kp b _ (nr b o q no) z,rfl⟩
 ·refine ⟨_,_,h1.objs.size,to,_,e3,⟨Obj.cls_mapFields _ _,by rw [Array.getElem?_setIfInBounds_ne (by decide)]; exact h0⟩,d3,by simp [sz],kb1.fresh,ne,t3,td,?_⟩
  simp
 ·obtain ⟨sl,z⟩:=so.2.2 b o q
  exact ⟨sl,kp b _ (nr b o q no) z⟩
 ·exact ⟨_,_,e3,d3,by rw [Array.getElem?_setIfInBounds_ne (by decide)]; exact v2⟩

theorem zjQ {oe : Obj} {vs : Array Value} {Q : Unit → Shared → Prop} (fr : A.frames = some (env :: out)) (ff : s.heap.FunFrames B (env :: out)) (fL : env.frame = some L) (he : s.heap.get? e = some oe) (kb : B.StaysIn s.heap) (en : B.get? e = none)
  (dt : oe.data = .fields vs) (v1 : vs[1]? = some .none) (h0 : vs[0]? = some a0) (hQ : ∀ h',Heap.HeldW B (env :: out) e oe.cls a0 L h' → s.heap.UpToSlots h' → (vs[2]? = some .none → Ctx0 e h') → Q () { s with heap:=h' }) : wpAny M A (noteFrame (.ref e) env) Q E s:=by
 unfold noteFrame
 simp only [fL]
 refine wpAny_bind (wpAny_field he dt v1 ?_)
 rw [if_neg (by simp)]
 exact zfL fr ff fL he kb en dt (Array.getElem?_eq_some_iff.mp v1).1 h0 hQ

theorem zle {fv : Value} {Q : Unit → Shared → Prop} (fr : A.frames = some (env :: out)) (fL : env.frame = some L) (kb : B.StaysIn s.heap) (en : B.get? e = none) (ff : s.heap.FunFrames B (env :: out)) (tr : s.heap.TracedAtW B e cls a0 fv)
  (hQ : ∀ h',Heap.HeldW B (env :: out) e cls a0 L h' → s.heap.UpToSlots h' → (Ctx0 e s.heap → Ctx0 e h') → Q () { s with heap:=h' }) : wpAny M A (noteFrame (.ref e) env) Q E s:=by
 obtain ⟨oe,vs,T,oT,ts,he,⟨hc,h0⟩,dt,v1,nT,Te,hT,dT,t3⟩:=id tr
 subst hc
 unfold noteFrame
 simp only [fL]
 refine wpAny_bind (wpAny_field he dt v1 ?_)
 rw [if_pos (by simp)]
 refine wpAny_bind (wpAny_field hT dT t3 ?_)
 by_cases hv : (fv == rawInt L) = true
 ·rw [if_pos hv]
  cases beq_iff_eq.mp hv
  exact wpAny_pure (hQ s.heap ⟨kb,en,ff,tr⟩ (fun b o q _=>⟨o.slots,q⟩) fun c=>c)
 rw [if_neg hv]
 refine wpAny_bind (wpAny_setField hT dT (Array.getElem?_eq_some_iff.mp t3).1 ?_)
 have ot : ∀ b,b ≠ T → (s.heap.update T (Obj.mapFields (·.setIfInBounds 3 Value.none))).get? b = s.heap.get? b:=fun b hb=>Heap.get?_update_other _ _ (Ne.symm hb)
 have nr : ∀ b o,s.heap.get? b = some o → (∀ ws,o.data ≠ .fields ws) → b ≠ T:=fun b o q no z=>by
  rw [z,hT] at q; cases q
  exact no ts dT
 refine zfL (s:={ s with heap:=s.heap.update T (Obj.mapFields (·.setIfInBounds 3 Value.none)) }) fr (ff.of_keeps fun b o q no=>⟨o,(ot b (nr b o q no)).trans q,rfl⟩) fL ((ot e (Ne.symm Te)).trans he)
  (fun b o q=>(ot b fun z=>by rw [z,nT] at q; cases q).trans (kb b o q)) en dt (Array.getElem?_eq_some_iff.mp v1).1 h0 fun h' x1 x2 x3=>hQ h' x1 (fun b o q no=>x2 b o ((ot b (nr b o q no)).trans q) no) fun ⟨oe',vs',c1,c2,c3⟩=>?_
 rw [he] at c1; cases c1
 rw [dt] at c2; cases c2
 exact x3 c3

theorem zdf {fl : Value} {l : List Env} {Q : Unit → Shared → Prop} (kb : B.StaysIn s.heap) (en : B.get? e = none) (ff : s.heap.FunFrames B l) (tr : s.heap.TracedAtW B e cls a0 fl)
  (hQ : ∀ h',Heap.FlyingW B l e cls a0 h' → s.heap.UpToSlots h' → (Ctx0 e s.heap → Ctx0 e h') → Q () { s with heap:=h' }) : wpAny M A (setFlight (.ref e) none) Q E s:=by
 obtain ⟨oe,vs,T,oT,ts,he,hc,dt,v1,nT,Te,hT,dT,t3⟩:=tr
 have sz : 3 < ts.size:=(Array.getElem?_eq_some_iff.mp t3).1
 have ot : ∀ b,b ≠ T → (s.heap.update T (Obj.mapFields (·.setIfInBounds 3 ((none : Option Addr).elim Value.none fun f=>rawInt f)))).get? b = s.heap.get? b:=fun b hb=>Heap.get?_update_other _ _ (Ne.symm hb)
 have nr : ∀ b o,s.heap.get? b = some o → (∀ ws,o.data ≠ .fields ws) → b ≠ T:=fun b o q no z=>by
  rw [z,hT] at q; cases q
  exact no ts dT
 unfold setFlight
 refine wpAny_bind (wpAny_field he dt v1 ?_)
 rw [if_pos (by simp)]
 refine wpAny_setField hT dT sz (hQ _ ⟨fun b o q=>(ot b fun z=>by rw [z,nT] at q; cases q).trans (kb b o q),en,ff.of_keeps fun b o q no=>⟨o,(ot b (nr b o q no)).trans q,rfl⟩,?_⟩ (fun b o q no=>⟨o.slots,(ot b (nr b o q no)).trans q⟩) fun ⟨oe',vs',c1,c2,c3⟩=>⟨oe',vs',(ot e (Ne.symm Te)).trans c1,c2,c3⟩)
 exact ⟨oe,vs,T,_,_,(ot e (Ne.symm Te)).trans he,hc,dt,v1,nT,Te,Heap.get?_update_self _ hT (Obj.isFreed_of_fields (Obj.data_mapFields dT _)),Obj.data_mapFields dT _,by simp [sz]⟩
end
end Internal

end
section
set_option Elab.async false
set_option linter.all false
set_option maxRecDepth 100000
set_option maxHeartbeats 4000000

namespace Internal
open PySem PySem.Spec PyProof.Rows Internal.L2

noncomputable abbrev XC:=Value × Bool
noncomputable def flagA (b : Bool) : Option Addr:=if b = true then some 0 else none
theorem zjR {a b : Bool} (h : flagA a = flagA b) : a = b:=by cases a <;> cases b <;> first | rfl | (unfold flagA at h; simp at h)

noncomputable def FlyS (B : Heap) (l : List Env) (e : Addr) (cls a0 : Value) (h : Heap) : Prop:=B.StaysIn h ∧ B.get? e = none ∧ h.FunFrames B l ∧ ∃ fv,h.TracedAtW B e cls a0 fv
theorem FlyS.out {B : Heap} {l : List Env} {e : Addr} {cls a0 : Value} {h : Heap} (x : FlyS B l e cls a0 h) : B.get? e = none:=x.2.1
theorem FlyS.fr {B : Heap} {l : List Env} {e : Addr} {cls a0 : Value} {h : Heap} (x : FlyS B l e cls a0 h) : h.FunFrames B l:=x.2.2.1
theorem FlyS.of {B : Heap} {l : List Env} {e : Addr} {cls a0 : Value} {h : Heap} (x : Heap.FlyingW B l e cls a0 h) : FlyS B l e cls a0 h:=⟨x.1,x.2.1,x.2.2.1,_,x.2.2.2.at⟩
section
variable {M : Model} {A : Around} {E : Value → Shared → Prop} {s : Shared} {B : Heap} {env : Env} {out : List Env} {L e : Addr} {cls a0 : Value} {Q : Unit → Shared → Prop}
theorem zgH (fr : A.frames = some (env :: out)) (fL : env.frame = some L) (fl : FlyS B (env :: out) e cls a0 s.heap)
  (hQ : ∀ h',Heap.HeldW B (env :: out) e cls a0 L h' → s.heap.UpToSlots h' → (Ctx0 e s.heap → Ctx0 e h') → Q () { s with heap:=h' }) : wpAny M A (noteFrame (.ref e) env) Q E s :=
 let ⟨k,n,f,_,t⟩:=fl
 zle fr fL k n f t hQ
theorem zjS (fr : A.frames = some (env :: out)) (fL : env.frame = some L) (fl : FlyS B (env :: out) e cls a0 s.heap)
  (hQ : ∀ h',Heap.FlyingW B out e cls a0 h' → s.heap.UpToSlots h' → (Ctx0 e s.heap → Ctx0 e h') → Q () { s with heap:=h' }) : wpAny M A (leaving env (.ref e)) Q E s:=by
 unfold leaving
 refine wpAny_bind (zgH fr fL fl fun h1 x1 u1 c1=>zdf x1.1 x1.2.1 x1.2.2.1 x1.2.2.2 fun h2 x2 u2 c2=>?_)
 exact hQ h2 ⟨x2.1,x2.2.1,x2.2.2.1.2.2,x2.2.2.2⟩ (u1.trans u2) fun c=>c2 (c1 c)
end

structure FlyG (P : Program) (w : World) (low outer : List Env) (H : Hp) (s : Shared) (cls : XC) (a : Addr) (s' : Shared) (H' : Hp) (B : Heap) (t : Addr) : Prop where
 os : s'.os = s.os
 bare : AllBare s'.gens
 fly : FlyS B outer a cls.1 (.ref t) s'.heap
 ctx : cls.2 = true → Ctx0 a s'.heap
 hok : HOk P w H' B
 same : Same H H'
 keep : ∀ b o,s.heap.get? b = some o → H b = none → b ∉ frs outer → B.get? b = some o
 slot : ∀ b o,s.heap.get? b = some o → H b = none → b ∈ frs low → ∃ sl,s'.heap.get? b = some { o with slots:=sl }
 free : ∀ b o,s.heap.get? b = some o → H b = none → H' b = none
noncomputable abbrev Fly (P : Program) (w : World) (outer : List Env):=FlyG P w outer outer
theorem FlyG.lower {P : Program} {w : World} {low low' outer : List Env} {H : Hp} {s : Shared} {cls : XC} {a : Addr} {s' : Shared} {H' : Hp} {B : Heap} {t : Addr} (f : FlyG P w low outer H s cls a s' H' B t) (h : ∀ b ∈ frs low',b ∈ frs low) : FlyG P w low' outer H s cls a s' H' B t :=
 ⟨f.os,f.bare,f.fly,f.ctx,f.hok,f.same,f.keep,fun b o e n hb=>f.slot b o e n (h b hb),f.free⟩
noncomputable abbrev CX1 (P : Program) (w : World) : CXT:=fun outer H s E e s'=>∃ cls a H' B t,e = .ref a ∧ Fly P w outer H s cls a s' H' B t ∧ E cls.1 (flagA cls.2) H'

theorem zlf {P : Program} {w : World} {H : Hp} {h : Heap} {fs : List Addr} (x : HOk P w H h) (hf : ∀ b ∈ fs,H b = none) : HOk P w H (PySem.W.hideAll h fs):=fun a o e =>
 (x a o e).stay (fun b u hb q=>PySem.W.hideAll_get _ q fun hm=>by
  have n:=hf b hm
  rcases hb with rfl | hb
  ·rw [n] at e; cases e
  ·rw [n] at hb; cases hb) (fun _ q=>q) fun _ _ q=>q
theorem zbD {base h : Heap} : ∀ {l : List Env},h.FunFrames base l → ∀ b ∈ frs l,∃ o,h.get? b = some o ∧ ∀ vs,o.data ≠ .fields vs:=fun {l} x b hb=>by
 obtain ⟨_,o,ho,hd⟩:=x.mem hb
 exact ⟨o,ho,hd⟩

structure XOk (X : Cx) (H₁ : Hp) (cls : XC) : Prop where
 made : ∀ (pins : List (Addr × Obj)) (σ : Internal.L2.St) (H : Hp) (s : Shared) (h' : Heap) (a : Addr) (vs : List Value),Inv X pins σ H s → Same H₁ H → Heap.MadeExcOf s.heap h' a cls.1 vs → X.xe (.ref a) { s with heap:=h' }
 onG : ∀ (pins : List (Addr × Obj)) (σ : Internal.L2.St) (H : Hp) (s : Shared) (a : Addr) (s' : Shared) (H' : Hp) (B : Heap) (t : Addr),Inv X pins σ H s → Same H₁ H → FlyG X.prog X.w X.outer X.stack H s cls a s' H' B t → X.xe (.ref a) s'
theorem zjT {X : Cx} (ok : X.Ok) : ∀ b ∈ frs X.outer,b ∈ frs X.stack:=fun b hb=>by
 rcases ok.stk with e | ⟨e,hf⟩
 ·rw [e]; exact hb
 ·rw [e]; unfold frs; rw [List.filterMap_cons,hf]; exact List.mem_cons_of_mem _ hb
theorem XOk.on {X : Cx} {H₁ : Hp} {cls : XC} (k : XOk X H₁ cls) (pins : List (Addr × Obj)) (σ : Internal.L2.St) (H : Hp) (s : Shared) (a : Addr) (s' : Shared) (H' : Hp) (B : Heap) (t : Addr) (I : Inv X pins σ H s) (e : Same H₁ H) (fl : Fly X.prog X.w X.stack H s cls a s' H' B t) : X.xe (.ref a) s' :=
 k.onG pins σ H s a s' H' B t I e (fl.lower (zjT I.ok))

section
variable {P : Program} {w : World} {K : PySem.W.Frag} {mg : Str → Option Value} {base : Heap} {N : List Str} {qual : Str} {scope : Scope} {f : Addr} {cd : Value} {A : Around} {outer : List Env} {s₀ : Shared} {H₀ : Hp} {E : XK} {cls : XC}
theorem zmz (hE : ∀ H',Same H₀ H' → E cls.1 (flagA cls.2) H') : XOk (cxOf (CX1 P w) P w K mg base N qual scope f cd A outer s₀ H₀ E) H₀ cls:=by
 have fr0 : (envOfC qual scope s₀.heap.objs.size f cd).frame = some s₀.heap.objs.size:=rfl
 constructor
 ·intro pins σ H s h' a vs I sm hx
  have hst : (cxOf (CX1 P w) P w K mg base N qual scope f cd A outer s₀ H₀ E).A.frames = some (envOfC qual scope s₀.heap.objs.size f cd :: outer):=I.ok.frames
  have fun1:=I.stack
  have hin : ∀ env ∈ (envOfC qual scope s₀.heap.objs.size f cd :: outer),∀ b,env.frame = some b → b ∈ frs (envOfC qual scope s₀.heap.objs.size f cd :: outer):=fun env he b hb=>List.mem_filterMap.mpr ⟨env,he,hb⟩
  obtain ⟨t,he,htn,ht⟩:=hx.there
  have kb : (PySem.W.hideAll s.heap (frs (envOfC qual scope s₀.heap.objs.size f cd :: outer))).StaysIn h':=fun b o q=>hx.keeps b o (PySem.W.of_hideAll _ q)
  have en : (PySem.W.hideAll s.heap (frs (envOfC qual scope s₀.heap.objs.size f cd :: outer))).get? a = none:=by
   cases c : (PySem.W.hideAll s.heap (frs (envOfC qual scope s₀.heap.objs.size f cd :: outer))).get? a with
   | none=>rfl
   | some o=>have:=PySem.W.of_hideAll _ c; rw [hx.new] at this; cases this
  have ff:=(PySem.W.funFrames_hide fun1 hin).of_keeps (h':=h') fun b o q _=>⟨o,hx.keeps b o q,rfl⟩
  show wpAny _ _ (leaving (envOfC qual scope s₀.heap.objs.size f cd) (.ref a)) _ _ _
  unfold leaving
  refine wpAny_bind (zjQ (s:={ s with heap:=h' }) hst ff fr0 he kb en rfl rfl rfl fun h1 y1 u1 c1=>zdf (s:={ s with heap:=h1 }) y1.1 y1.2.1 y1.2.2.1 y1.2.2.2 fun h'' y2 u2 c2=>?_)
  have x1 : Heap.FlyingW _ outer a cls.1 (.ref t) h'':=⟨y2.1,y2.2.1,y2.2.2.1.2.2,y2.2.2.2⟩
  have x4:=u1.trans u2
  refine ⟨cls,a,H,_,t,rfl,⟨I.os,I.bare,.of x1,fun _=>c2 (c1 rfl),zlf I.hok fun b hb=>I.stkFree b hb,sm,fun b o e n hb=>?_,fun b o e n hb=>?_,fun b o e n=>I.base.free b o e n (by exact List.not_mem_nil)⟩,hE H sm⟩
  ·refine PySem.W.hideAll_get _ (I.base.keep b o e n hb (by exact List.not_mem_nil)) fun hm=>?_
   rcases List.mem_cons.mp (show b ∈ s₀.heap.objs.size :: frs outer from hm) with z | z
   ·exact absurd (Heap.lt_size e) (by rw [z]; exact Nat.lt_irrefl _)
   ·exact hb z
  ·obtain ⟨sl,e1⟩:=I.base.slot b o e n hb (by exact List.not_mem_nil)
   obtain ⟨o2,e2,hd⟩:=zbD I.funs b hb
   rw [e1] at e2; cases e2
   obtain ⟨sl',e3⟩:=x4 b _ (hx.keeps _ _ e1) hd
   exact ⟨sl',e3⟩
 ·intro pins σ H s a s' H' B t I sm fl
  have hst : (cxOf (CX1 P w) P w K mg base N qual scope f cd A outer s₀ H₀ E).A.frames = some (envOfC qual scope s₀.heap.objs.size f cd :: outer):=I.ok.frames
  have nL : ∀ b,b ∈ frs outer → b ∈ frs (envOfC qual scope s₀.heap.objs.size f cd :: outer):=fun b hb=>by show b ∈ s₀.heap.objs.size :: frs outer; exact List.mem_cons_of_mem _ hb
  refine zjS hst fr0 fl.fly fun h'' x1 x2 x3=>?_
  refine ⟨cls,a,H',B,t,rfl,⟨fl.os.trans I.os,fl.bare,.of x1,fun c=>x3 (fl.ctx c),fl.hok,sm.trans fl.same,fun b o e n hb=>?_,fun b o e n hb=>?_,fun b o e n=>?_⟩,hE H' (sm.trans fl.same)⟩
  ·refine fl.keep b o (I.base.keep b o e n hb (by exact List.not_mem_nil)) (I.base.free b o e n (by exact List.not_mem_nil)) fun hm=>?_
   rcases List.mem_cons.mp (show b ∈ s₀.heap.objs.size :: frs outer from hm) with z | z
   ·exact absurd (Heap.lt_size e) (by rw [z]; exact Nat.lt_irrefl _)
   ·exact hb z
  ·obtain ⟨sl,e1⟩:=I.base.slot b o e n hb (by exact List.not_mem_nil)
   obtain ⟨sl2,e2⟩:=fl.slot b _ e1 (I.base.free b o e n (by exact List.not_mem_nil)) hb
   obtain ⟨o2,e3,hd⟩:=zbD I.funs b hb
   rw [e1] at e3; cases e3
   obtain ⟨sl',e4⟩:=x2 b _ e2 hd
   exact ⟨sl',e4⟩
  ·have hn:=I.base.free b o e n (by exact List.not_mem_nil)
   by_cases hb : b ∈ frs outer
   ·obtain ⟨sl,e1⟩:=I.base.slot b o e n hb (by exact List.not_mem_nil)
    exact fl.free b _ e1 hn
   ·exact fl.free b o (I.base.keep b o e n hb (by exact List.not_mem_nil)) hn
end
end Internal

end
section
set_option Elab.async false
set_option linter.all false
set_option maxRecDepth 100000
set_option maxHeartbeats 4000000
namespace Internal
open PySem PySem.Spec PyProof.Rows Internal.L2

structure JXE (S : Stat) (Γ : List Sl) (e : Expr) (cls : XC) : Prop where
 run : ∀ X,S.Of X → ∀ (pins : List (Addr × Obj)) (s : Shared) (σ : Internal.L2.St) (H : Hp) (χ : Addr → Bool),Inv X pins σ H s → RE S.K χ H σ Γ →
  (∀ (H2 : Hp) (s2 : Shared) (a : Addr) (s' : Shared) (H' : Hp) (B : Heap) (t : Addr),Inv X pins σ H2 s2 → Same H H2 → Fly X.prog X.w X.stack H2 s2 cls a s' H' B t → X.xe (.ref a) s') → ∀ Q,wpAny (model X.prog X.w) X.A (eval e X.env) Q X.xe s
structure JXS (S : Stat) (Γ : List Sl) (st : Stmt) (cls : XC) : Prop where
 run : ∀ X,S.Of X → ∀ (pins : List (Addr × Obj)) (s : Shared) (σ : Internal.L2.St) (H H₁ : Hp) (φ : Addr → Bool) (ω : Addr → Option (Bool × Nat)),Inv X pins σ H s → RS S.K φ ω H σ Γ → Kp φ (fun _=>none) H₁ ω H → XOk X H₁ cls → ∀ Q,wpAny (model X.prog X.w) X.A (exec st X.env) Q X.xe s
structure JX (S : Stat) (Γ : List Sl) (st : List Stmt) (cls : XC) : Prop where
 run : ∀ X,S.Of X → ∀ (pins : List (Addr × Obj)) (s : Shared) (σ : Internal.L2.St) (H H₁ : Hp) (φ : Addr → Bool) (ω : Addr → Option (Bool × Nat)),Inv X pins σ H s → RS S.K φ ω H σ Γ → Kp φ (fun _=>none) H₁ ω H → XOk X H₁ cls → ∀ Q,wpAny (model X.prog X.w) X.A (execs st X.env) Q X.xe s

section
variable {S : Stat} {Γ : List Sl} {pos pos' p : Pos} {st : Stmt} {rest : List Stmt} {e a b c : Expr} {x : Str} {cls : XC}
theorem x_head (h : JXS S Γ st cls) : JX S Γ (st :: rest) cls:=.mk fun X o pins s σ H H₁ φ ω I r k ok Q =>
 wpAny_execs_cons (thn (h.run X o pins s σ H H₁ φ ω I r k ok (fun _ _=>False)) fun _ _ z=>z.elim)
theorem zgI (h : JS S Γ st { nx:=fun Γ'=>JX S Γ' rest cls,rt:=fun _ _=>False }) : JX S Γ (st :: rest) cls:=.mk fun X o pins s σ H H₁ φ ω I r k ok Q=>by
 have h2 : PSs X rest (fun _ σ' H'=>∃ Γ' ω',JX S Γ' rest cls ∧ RS S.K φ ω' H' σ' Γ' ∧ Kp φ (fun _=>none) H₁ ω' H'):=fun pins s σ H Z I ⟨Γ',ω',hb,q,kk⟩=>hb.run X o pins s σ H H₁ φ ω' I q kk ok _
 refine thn (zed (h X o) h2 pins s σ H { nx:=fun _ _=>False,rt:=fun _ _=>False } I ?_) fun f s' z=>?_
 ·exact ⟨φ,ω,r,{ n:=fun ω' σ' H' Γ' hb r' k'=>⟨Γ',ω',hb,r',k.trans k'⟩,rt:=fun _ _ _ _ _ _ z=>z.elim,bk:=fun _ _ _ _ z=>z.elim,ct:=fun _ _ _ _ z=>z.elim,rf:=fun _ _ _ _ _ _ _ z=>z.elim }⟩
 ·cases f with
  | next=>obtain ⟨_,_,_,q⟩:=z; exact q.elim
  | brk=>obtain ⟨_,_,_,q⟩:=z; exact q.elim
  | cont=>obtain ⟨_,_,_,q⟩:=z; exact q.elim
  | ret u=>obtain ⟨_,_,_,_,_,q⟩:=z; exact q.elim
theorem zoi (h : JXE S Γ e cls) (hs : ∀ X : Cx,swapsWith e none pos.line X.env = pure false:=by ac_rfl) : JXS S Γ (.Expr e pos) cls:=.mk fun X o pins s σ H H₁ φ ω I r k ok Q =>
 wpAny_Expr_any (thn (h.run X o pins s σ H (both φ ω) I r.re (fun H2 s2 a s' H' B t I2 e2 fl=>ok.on pins σ H2 s2 a s' H' B t I2 ((zcR k).trans e2) fl) (fun _ _=>False)) fun _ _ z=>z.elim) I.quiet (hs X)
theorem x_if {q : Bool} {sa sb : List Stmt} (hc : JT S Γ c q) (ha : q = true → JX S Γ sa cls) (hb : q = false → JX S Γ sb cls) : JXS S Γ (.If c sa sb pos) cls:=.mk fun X o pins s σ H H₁ φ ω I r k ok Q=>by
 refine wpAny_If (thn (hc X o pins s σ H (fun b H'=>b = q ∧ Same H H') I ⟨both φ ω,r.re,fun H' e=>⟨rfl,e⟩⟩) fun d s1 hP65=>?_)
 obtain ⟨H1,I1,hd,e1⟩:=hP65
 subst hd
 cases d with
 | true=>exact (ha rfl).run X o pins s1 σ H1 H₁ φ ω I1 (r.mono e1) (k.trans (Kp.of e1)) ok Q
 | false=>exact (hb rfl).run X o pins s1 σ H1 H₁ φ ω I1 (r.mono e1) (k.trans (Kp.of e1)) ok Q

theorem x_for (i n : Nat) {iter : Expr} {body : List Stmt} {β : Type} {us : List β} {g : β → D} {px : Pos} (hi : JI S Γ (.Name x px) iter (us.map g)) (Iv : Nat → List Sl → Prop) (h0 : Iv 0 Γ) (hn : n < us.length)
  (hb : ∀ (k : Nat) u Γ',k < n → us[k]? = some u → Iv k Γ' → JB S (Γ'.set i (.val (g u))) body { nx:=Iv (k + 1),rt:=fun _ _=>False,ct:=Iv (k + 1) }) (hx' : ∀ u Γ',us[n]? = some u → Iv n Γ' → JX S (Γ'.set i (.val (g u))) body cls)
  (hN : S.N.Nodup:=by ac_nf) (hxi : S.N[i]? = some x:=by ac_nf) (hx : Loc S.sc x:=by ac_nf) (hs : ∀ env v,foldedSetIterable iter env v = pure v:=by ac_rfl)
  (htop : S.top = true:=by rfl) : JXS S Γ (.For (.Name x px) iter body [] pos) cls:=.mk fun X o pins s σ H H₁ φ ω I r kk ok Q=>by
 obtain ⟨wi,hw1,hw2⟩:=hi
 have hB : PSs X body (fun Z σ H=>(∃ k u Γ',k < n ∧ us[k]? = some u ∧ Iv k Γ' ∧ dS S.K (Γ'.set i (.val (g u))) { nx:=Iv (k + 1),rt:=fun _ _=>False,ct:=Iv (k + 1) } Z σ H) ∨ ∃ u Γ' ω',us[n]? = some u ∧ Iv n Γ' ∧ RS S.K φ ω' H σ (Γ'.set i (.val (g u))) ∧ Kp φ (fun _=>none) H₁ ω' H):=fun pins s σ H Z I q=>by
  rcases q with ⟨k,u,Γ',h1,h2,h3,q⟩ | ⟨u,Γ',ω',h2,h3,r',k'⟩
  ·exact hb k u Γ' h1 h2 h3 X o pins s σ H Z I q
  ·exact (hx' u Γ' h2 h3).run X o pins s σ H H₁ φ ω' I r' k' ok _
 refine thn (zje o.own o.calm (hw1 X o) (zdN (i:=i) (by rw [o.N]; exact hN) (by rw [o.N]; exact hxi) (by rw [o.sc]; exact hx) (.inl (o.fn htop x))) hB (hs X.env) pins s σ H { nx:=fun _ _=>False,rt:=fun _ _=>False } I ?_) fun f s' z=>?_
 ·refine hw2 σ H _ (both φ ω) r.re fun J H1 e1 itd=>?_
  refine ⟨fun k m σ' H'=>m = us.length - k ∧ k ≤ n ∧ ∃ ω' Γ',Iv k Γ' ∧ RS S.K φ ω' H' σ' Γ' ∧ Kp φ (fun _=>none) H₁ ω' H' ∧ Same (hidB (both φ ω) H1) (hidB (both φ ω') H'),⟨us.length,by simp,Nat.zero_le _,ω,Γ,h0,r.mono e1,kk.trans (Kp.of e1),Same.refl _⟩,?_⟩
  rintro k m σ' H' ⟨rfl,hk,ω',Γ',iv,r',kp,sm⟩
  obtain ⟨it1,it2⟩:=itd (both φ ω') H' sm
  have hlt : k < us.length:=by omega
  have huk : us[k]? = some us[k]:=List.getElem?_eq_getElem hlt
  generalize us[k] = u at huk
  have hdk : (us.map g)[k]? = some (g u):=by rw [List.getElem?_map,huk]; rfl
  obtain ⟨go,yl⟩:=it1 k (g u) hdk
  refine .inr ⟨go,fun σ2 H2=>k + 1 ≤ n ∧ ∃ ω2 Γ2,Iv (k + 1) Γ2 ∧ RS S.K φ ω2 H2 σ2 Γ2 ∧ Kp φ (fun _=>none) H₁ ω2 H2 ∧ Same (hidB (both φ ω) H1) (hidB (both φ ω2) H2),fun σ2 H2 q=>⟨us.length - (k + 1),by omega,rfl,q⟩,fun y H3 hy=>?_⟩
  obtain ⟨e3,ry⟩:=yl y H3 hy
  subst e3
  by_cases hkn : k < n
  ·exact .inl ⟨k,u,Γ',hkn,huk,iv,φ,ω',r'.set ry,{ n:=fun ω2 σ2 H2 Γ2 h2 r2 k2=>⟨hkn,ω2,Γ2,h2,r2,kp.trans k2,sm.trans k2.same⟩,rt:=fun _ _ _ _ _ _ z=>z.elim,bk:=fun _ _ _ _ z=>z.elim,ct:=fun ω2 σ2 H2 Γ2 h2 r2 k2=>⟨hkn,ω2,Γ2,h2,r2,kp.trans k2,sm.trans k2.same⟩,rf:=fun _ _ _ _ _ _ _ z=>z.elim }⟩
  ·have : k = n:=by omega
   subst this
   exact .inr ⟨u,Γ',ω',huk,iv,r'.set ry,kp⟩
 ·cases f with
  | next=>obtain ⟨_,_,_,q⟩:=z; exact q.elim
  | brk=>obtain ⟨_,_,_,q⟩:=z; exact q.elim
  | cont=>obtain ⟨_,_,_,q⟩:=z; exact q.elim
  | ret u=>obtain ⟨_,_,_,_,_,q⟩:=z; exact q.elim
end
end Internal

end
section
set_option Elab.async false
set_option linter.all false
set_option maxRecDepth 100000
set_option maxHeartbeats 4000000
namespace Internal
open PySem PySem.Spec PyProof.Rows Internal.L2

noncomputable def spX {α : Type} (enc : α → List D) (bad : α → Prop) (cls : XC) (K : PySem.W.Frag) : Sp:=fun vs H Q E=>∃ (χ : Addr → Bool) (u : α),(∀ p,χ p = true → ∃ o : HN,H p = some o.1) ∧ Reps K (hidB χ H) (enc u) vs ∧ bad u ∧ ∀ H',Same H H' → E cls.1 (flagA cls.2) H'
noncomputable def FnX (P : Program) (w : World) (K : PySem.W.Frag) (mg : Str → Option Value) (base : Heap) (k : Nat) (x : Str) (ps : List Str) (sp : Sp) : Prop:=∃ f fd,mg x = some (.ref f) ∧ PySem.W.keepIn K (.ref f) = true ∧ Binds K fd ps [] ∧ FnOk P w K mg base (CX1 P w) k f fd ps sp
section
variable {P : Program} {w : World} {K : PySem.W.Frag} {mg : Str → Option Value} {base : Heap} {α : Type} {enc : α → List D} {bad : α → Prop} {cls : XC}
theorem fx_D {x qual : Str} {st : Stmt} {f : Addr} {fd : FuncData} {N ps : List Str} {k : Nat} (F : Fun K x qual st f fd) (Sc : FnScope N ps (zc st)) (hlen : ∀ u,bad u → (enc u).length = ps.length)
  (hb : ∀ u,bad u → JX ⟨P,w,K,mg,base,k,N,zc st,true⟩ (startΓ N (enc u)) (zf st) cls) : FnOk P w K mg base (CX1 P w) (k + 1) f fd ps (spX enc bad cls K):=by
 obtain ⟨oc,od,kV,doc,pm,an,cdv,ct,osl,rfl,lk,hcd⟩:=F.ex
 refine fn_of lk hcd Sc (fun vs H Q E h=>?_) fun A outer s H vs Q E hr h=>?_
 ·obtain ⟨χ,u,_,r,hd,_⟩:=h
  rw [r.len,hlen u hd]
 ·obtain ⟨χ,u,hl,r,hd,q⟩:=h
  exact ⟨fun _ σ' H'=>H' = H ∧ σ' = start N vs,fun pins s' σ' H' Z I z=>by
   obtain ⟨rfl,rfl⟩:=z
   exact (hb u hd).run _ ⟨rfl,rfl,rfl,rfl,rfl,rfl,rfl,hr,rfl,PassesOwn.leaving,fun _ _=>rfl,fun _=>⟨rfl,rfl⟩⟩ pins s' _ _ _ χ (fun _=>none) I (zei hl r) Kp.refl (zmz q) _,rfl,rfl⟩
theorem fx_at {x : Str} {st : Stmt} {N ps : List Str} {k : Nat} (F : Def K mg x st ps) (Sc : FnScope N ps (zc st)) (hlen : ∀ u,bad u → (enc u).length = ps.length)
  (hb : ∀ u,bad u → JX ⟨P,w,K,mg,base,k,N,zc st,true⟩ (startΓ N (enc u)) (zf st) cls) : FnX P w K mg base (k + 1) x ps (spX enc bad cls K):=by
 obtain ⟨f,fd,F,b,m⟩:=F
 exact ⟨f,fd,m,F.kp,b,fx_D F Sc hlen hb⟩

theorem e_fnx {S : Stat} {Γ : List Sl} {ps : List Str} {x : Str} {p pos : Pos} {e : Expr} {es : List Expr} {j : Nat} (F : FnX S.P S.w S.K S.mg S.base j x ps (spX enc bad cls S.K)) (u : α) (ha : JA S Γ (e :: es) (enc u)) (hd : bad u) (hj : j ≤ S.k:=by exact Nat.le_of_ble_eq_true rfl)
  (hg : S.sc.names.lookup x = some .globalImplicit:=by ac_nf) (hdb : (x == ("__debug__" : Str)) = false:=by ac_nf)
  (he : ∀ env,starEach (e :: es) env = (false,eval e env) :: starEach es env:=by ac_rfl) (hpl : ∀ env,(backTo pos (starEach es env)).any (·.1) = false:=by ac_rfl) : JXE S Γ (.Call (.Name x p) (e :: es) [] pos) cls:=.mk fun X o pins s σ H χ I R hx Q=>by
 obtain ⟨f,fd,hm,hk,hb,F⟩:=F
 have F' : FnOk X.prog X.w X.K X.mg X.base (CX1 X.prog X.w) j f fd ps (spX enc bad cls S.K):=by rw [o.prog,o.w,o.K,o.mg,o.base]; exact F
 have hb' : Binds X.K fd ps []:=by rw [o.K]; exact hb
 refine wpAny_Call_Name_kw (zcO I (gl_of o hg) (by rw [o.mg]; exact hm) ?_ hdb)
 refine PySem.W.callWith_K (h₀:=X.base) I.ok.mod.kin (by rw [o.K]; exact hk) (thn (ha X o pos pins s σ H (fun vs H1=>Same H H1 ∧ Reps S.K (hidB χ H1) (enc u) vs) I ⟨χ,R,fun vs H1 e1 rv=>⟨e1,rv⟩⟩) fun us s1 ⟨vs,H1,I1,r,e1,rv⟩=>⟨I1.kIn,?_⟩) (he X.env) (hpl X.env)
 have hsp : spX enc bad cls S.K vs H1 (fun _ _=>False) (fun c f _=>c = cls.1 ∧ f = flagA cls.2):=⟨χ,u,(R.mono e1).live,rv,hd,fun _ _=>⟨rfl,rfl⟩⟩
 have hl : us.length = ps.length:=by rw [← r.length]; exact F'.len _ _ _ _ hsp
 refine wpAny_call (codeAny_mono (F'.run X.A X.stack s1 H1 ⟨us,[]⟩ us vs (fun _ _=>False) (fun c f _=>c = cls.1 ∧ f = flagA cls.2) (o.room.mono hj) I1.env0 (by have:=hb' s1 us I1.kIn (by rw [List.append_nil]; exact hl); rw [List.append_nil] at this; exact this) r hsp) fun r s' hq=>?_)
 cases r with
 | error ev =>
  obtain ⟨c,a,H',B,t,rfl,fl,q1,q2⟩:=hq
  have ec : c = cls:=Prod.ext q1 (zjR q2)
  subst ec
  exact hx H1 s1 a s' H' B t I1 e1 fl
 | ok fl =>
  cases fl with
  | ret u=>obtain ⟨_,_,_,_,_,_,_,q⟩:=hq; exact q.elim
  | next=>exact False.elim hq
  | brk=>exact False.elim hq
  | cont=>exact False.elim hq
end

abbrev bmV : List Value:=[.type "ValueError",.type "Exception",.type "BaseException",.type "object"]

structure ExCls (K : PySem.W.Frag) (mg : Str → Option Value) (x : Str) (C : Addr) : Prop where
 bound : mg x = some (.ref C)
 exc : PySem.W.excIn K C bmV "ValueError.__new__" = true
theorem zbZ {K : PySem.W.Frag} {h : Heap} {C : Addr} {bmB : List Value} {newId : String} (X : K.In h) (q : PySem.W.excIn K C bmB newId = true) :
  ∃ bm N nm q bs hdct sn sub ab col dd k0 k1 k2 k3 k5 mN,h.get? C = some (excClassObj nm q C N bs bm hdct sn sub ab col dd k0 k1 k2 k3 k5 newId) ∧ h.Ns N mN ∧ mN "__init__" = none ∧ OwnTail h bmB bm:=by
 unfold PySem.W.excIn at q
 split at q
 ·rename_i dd cd sl ho
  split at q
  ·rename_i C' bm k0 k1 k2 k3 n k5 hm hs
   simp only [Bool.and_eq_true,beq_iff_eq,Bool.not_eq_true'] at q
   obtain ⟨⟨⟨⟨⟨rfl,rfl⟩,hdel⟩,ht⟩,hok⟩,hni⟩:=q
   obtain ⟨nm,bs,mro,ns,qn,hd,sn,sub,ab,col,del⟩:=cd
   dsimp only at hm hdel hok hni
   subst hm hdel
   have hsl : sl = #[k0,k1,k2,k3,some (.builtin n),k5]:=by
    obtain ⟨l⟩:=sl
    simp only at hs
    rw [hs]
   subst hsl
   exact ⟨bm,ns,nm,qn,bs,hd,sn,sub,ab,col,dd,k0,k1,k2,k3,k5,_,X _ _ ho,.of_isNs (PySem.W.isNs_of_in X hok),PySem.W.nsMap_none_of_in X hok hni,PySem.W.tail_of_in X ht⟩
  ·cases q
 ·cases q
section
variable {S : Stat} {Γ : List Sl} {pos cpos np p : Pos} {e : Expr} {x : Str}
theorem x_raise {C : Addr} {d : D} (hC : ExCls S.K S.mg x C) (hm : JE S Γ e d) (hg : S.sc.names.lookup x = some .globalImplicit:=by ac_nf) (hdb : (x == ("__debug__" : Str)) = false:=by ac_nf)
  (hs : ∀ env,starEach [e] env = [(false,eval e env)]:=by ac_rfl) : JXS S Γ (.Raise (some (.Call (.Name x np) [e] [] cpos)) none pos) (.ref C,true):=.mk fun X o pins s σ H H₁ φ ω I r k ok Q=>by
 have XK:=I.mod.kin
 rw [o.K] at XK
 obtain ⟨tl,N,nm,q,bs,hdct,sn,sub,ab,col,dd,k0,k1,k2,k3,k5,mN,hCo,hN,hni,T⟩:=zbZ XK hC.exc
 refine wpAny_Raise_call_subT (C:=C) (nm:=nm) (q:=q) (N:=N) (bs:=bs) (bm:=tl) (hdct:=hdct) (sn:=sn) (sub:=sub) (ab:=ab) (col:=col) (dd:=dd) (k0:=k0) (k1:=k1) (k2:=k2) (k3:=k3) (k5:=k5)
  PySem.F.excBase_ValueError (mN:=mN) (T.hasType PySem.F.excBase_ValueError.hasBase) (I.ok.hd o.calm) (by rw [hs]; rfl) hni (zcO I (gl_of o hg) (by rw [o.mg]; exact hC.bound) ⟨rfl,?_⟩ hdb)
 have hA:=(zb hm a_nil hs) X o cpos pins s σ H (fun vs H1=>Same H H1 ∧ vs.length = 1) I ⟨both φ ω,r.re,fun vs H1 e1 rv=>⟨e1,by rw [rv.len]; rfl⟩⟩
 rw [hs] at hA ⊢
 refine Calls.evalArgs_plain (thn hA fun us s1 hP66=>?_)
 obtain ⟨vs,H1,I1,rvs,e1,hl⟩:=hP66
 have hlen : us.length = 1:=by rw [← rvs.length]; exact hl
 exact ⟨rfl,by dsimp only; rw [hlen]; decide,I1.bk _ _ hCo,hN.keeps I1.bk,T.keeps I1.bk,fun h' a hx=>ok.made pins σ H1 s1 h' a us I1 ((zcR k).trans e1) hx⟩
end
end Internal

end
section
set_option Elab.async false
set_option linter.all false
set_option maxRecDepth 100000
set_option maxHeartbeats 4000000
namespace Internal
open PySem PySem.Spec PyProof.Rows Internal.L2

section
variable {S : Stat} {Γ : List Sl} {pos p : Pos} {e a : Expr}
theorem zgJ {i : Int} (h : JE S Γ a (.int i)) (hi : i.natAbs.log2 < 1920) : JE S Γ (.FormattedValue a (-1) none pos) (.str (toString i)):=.mk fun X o pins s σ H Q I hP67=>by
 obtain ⟨χ,R,q⟩:=hP67
 refine wpAny_FormattedValue_plain (thn (h X o pins s σ H (fun v H1=>Same H H1 ∧ Rep S.K (hidB χ H1) (.int i) v) I ⟨χ,R,fun v H1 e1 rv=>⟨e1,rv⟩⟩) fun u s1 hP68=>?_)
 obtain ⟨v,H1,I1,ru,e1,rv⟩:=hP68
 cases (show v = V.int i from rv)
 obtain ⟨t,rfl⟩:=(show ∃ t,u = Value.int i t from ru)
 exact wpAny_formatField_int hi ⟨.str (toString i),H1,I1.tok _,⟨_,rfl⟩,q _ H1 e1 rfl⟩

noncomputable def JP (S : Stat) (Γ : List Sl) (L : Nat) : List Expr → List Str → Prop
 | [],xs=>xs = []
 | e :: es,xs=>∃ x r,xs = x :: r ∧ JE S Γ e (.str x) ∧ x.length ≤ L ∧ JP S Γ L es r
theorem p_nil {L : Nat} : JP S Γ L [] []:=rfl
theorem zca {L : Nat} {es : List Expr} {x : Str} {xs : List Str} (h : JE S Γ e (.str x)) (hl : x.length ≤ L) (r : JP S Γ L es xs) : JP S Γ L (e :: es) (x :: xs):=⟨x,xs,rfl,h,hl,r⟩
noncomputable def catS (acc : Str) (xs : List Str) : Str:=xs.foldl (· ++ ·) acc
theorem zgK {X : Cx} {L : Nat} (o : S.Of X) {pins : List (Addr × Obj)} {σ : Internal.L2.St} {χ : Addr → Bool} : ∀ (es : List Expr) (xs : List Str) (acc : Str) (k : Nat) (s : Shared) (H : Hp) (Q : Str → Shared → Prop),JP S Γ L es xs → acc.length ≤ k * L → (k + es.length) * L ≤ sizeLine → Inv X pins σ H s → RE S.K χ H σ Γ →
  (∀ s1 H1,Inv X pins σ H1 s1 → Same H H1 → (catS acc xs).length ≤ sizeLine → Q (catS acc xs) s1) → Joins (model X.prog X.w) X.A X.xe (evalEach es X.env) acc Q s
 | [],xs,acc,k,s,H,Q,hp,hk,hl,I,R,q=>by
  cases (show xs = [] from hp)
  exact q s H I (Same.refl H) (Nat.le_trans hk hl)
 | e :: es,xs,acc,k,s,H,Q,hp,hk,hl,I,R,q=>by
  obtain ⟨x,r,rfl,hx,hxl,hr⟩:=hp
  rw [List.length_cons] at hl
  have hl2 : (acc ++ x).length ≤ (k + 1) * L:=by rw [strLen_append,Nat.succ_mul]; omega
  show wpAny _ _ (eval e X.env) _ _ s
  refine thn (hx X o pins s σ H (fun v H1=>Same H H1 ∧ Rep S.K (hidB χ H1) (.str x) v) I ⟨χ,R,fun v H1 e1 rv=>⟨e1,rv⟩⟩) fun u s1 hP69=>?_
  obtain ⟨v,H1,I1,ru,e1,rv⟩:=hP69
  cases (show v = V.str x from rv)
  obtain ⟨t,rfl⟩:=(show ∃ t,u = Value.str x t from ru)
  refine ⟨x,t,rfl,Nat.le_trans hl2 (Nat.le_trans (Nat.mul_le_mul_right L (by omega)) hl),?_⟩
  exact zgK o es r (acc ++ x) (k + 1) s1 H1 Q hr hl2 (by rw [show k + 1 + es.length = k + (es.length + 1) by omega]; exact hl) I1 (R.mono e1) fun s2 H2 I2 e2 hz=>q s2 H2 I2 (e1.trans e2) hz
theorem zjU {e' : Expr} {es : List Expr} {xs : List Str} (h : JP S Γ 1000000 (e :: e' :: es) xs) (hl : es.length ≤ 10) : JE S Γ (.JoinedStr (e :: e' :: es) pos) (.str (catS Str.empty xs)):=.mk fun X o pins s σ H Q I hP70=>by
 obtain ⟨χ,R,q⟩:=hP70
 refine wpAny_JoinedStr (zgK o _ xs Str.empty 0 s H _ h (Nat.zero_le _) ?_ I R fun s1 H1 I1 e1 hz=>⟨hz,.str _,H1,I1.tok _,⟨_,rfl⟩,q _ H1 e1 rfl⟩)
 rw [List.length_cons,List.length_cons]
 exact Nat.le_trans (Nat.mul_le_mul_right _ (show 0 + (es.length + 1 + 1) ≤ 12 by omega)) (by decide)
end
end Internal

end
section
set_option Elab.async false
set_option linter.all false
set_option maxRecDepth 100000
set_option maxHeartbeats 4000000
namespace Internal
open PySem PySem.Spec PyProof.Rows Internal.L2

structure ExLook (K : PySem.W.Frag) (C : Addr) : Prop where
 exc : PySem.W.excIn K C bmV "ValueError.__new__" = true
 cl : PySem.W.findIn K (.ref C) "__class__" = some (some (.builtin "object.__class__"))
 ga : PySem.W.findIn K (.ref C) "__getattribute__" = some (some (.builtin "BaseException.__getattribute__"))
 gt : PySem.W.findIn K (.ref C) "__getattr__" = some none
noncomputable def XcAt (a C : Addr) (h : Heap) : Prop:=∃ o,h.get? a = some o ∧ o.cls = .ref C
section
variable {prog : Program} {w : World} {A : Around} {E : Value → Shared → Prop} {h : Heap} {g : Array GenState} {d : Drawn} {t : Nat} {os : OsState} {a C : Addr} {o : Obj} {K : PySem.W.Frag}
theorem zjV {M : Model} {T : String} {Q : Bool → Shared → Prop} (X : K.In h) (L : ExLook K C) (hT : bmV.contains (.type T) = true) (hq : Q true ⟨h,g,d,t,os⟩) : wpAny M A (isSubtype (.ref C) (.type T)) Q E ⟨h,g,d,t,os⟩:=by
 obtain ⟨bm,N,nm,q,bs,hdct,sn,sub,ab,col,dd,k0,k1,k2,k3,k5,mN,hC,hN,hni,T'⟩:=zbZ X L.exc
 refine wpAny_isSubtype_exc hC ?_
 rw [show (Value.ref C :: bm).contains (.type T) = true from by rw [List.contains_cons,T'.hasType hT]; exact Bool.or_true _]
 exact hq
theorem zoj {R : Result → Shared → Prop} (X : K.In h) (L : ExLook K C) (hx : h.get? a = some o) (hc : o.cls = .ref C) (hq : R (.ok (.ret (.ref C))) ⟨h,g,d,t,os⟩) :
  codeAny (model prog w) A (.call (.builtin "getset_descriptor.__get__") ⟨[.builtin "object.__class__",.ref a,.ref C],[]⟩) R ⟨h,g,d,t,os⟩:=by
 have hT5 : (⟨h,g,d,t,os⟩ : Shared).TypeIs (.builtin "object.__class__") "getset_descriptor":=F.typeOf_object_class
 have hcB : bmV.contains (.type (".".intercalate ("object.__class__".cutAt '.').dropLast)) = true:=by
  rw [F.owner_object_class]; decide +kernel
 refine codeAny_call_builtin F.slot_gs_get.plain F.entry_gs_get (F.slot_gs_get.check _ _ _ _ _ _ _ _ hT5 (F.args_gs_get _ _ _) ?_)
 repeat (any_goals (first | assumption | (with_reducible refine wpAny_loadPart_at hx ?_; rw [hc]) | with_reducible refine zjV X L hcB ?_ | wp_step))
 refine ⟨Code.quiet_builtin _ (by decide +kernel),codeAny_builtin F.entry_object_class ?_⟩
 repeat (any_goals (first | assumption | (with_reducible refine wpAny_loadPart_at hx ?_; rw [hc]) | wp_step))
theorem zlg {tk : Tok} {Q : Fin → Shared → Prop} (X : K.In h) (L : ExLook K C) (hx : h.get? a = some o) (hc : o.cls = .ref C) (hq : Q (.done (.ret (.ref C))) ⟨h,g,d,t,os⟩) :
  wpAny (model prog w) A (Builtin.«object.__getattribute__» ⟨[.ref a,.str "__class__" tk],[]⟩) Q E ⟨h,g,d,t,os⟩:=by
 have hT5 : (⟨h,g,d,t,os⟩ : Shared).TypeIs (.builtin "object.__class__") "getset_descriptor":=F.typeOf_object_class
 have f5:=F.typeOf_object_class
 have f6:=F.slot_gs_get.lookup
 have f7:=F.slot_gs_set.lookup
 have LK : PySem.W.Looks (model prog w) h (typeLookup (.ref C) "__class__") (some (.builtin "object.__class__")):=PySem.W.looks_findIn X L.cl
 repeat (any_goals (first | assumption | (with_reducible refine wpAny_loadPart_at hx ?_; rw [hc]) | with_reducible refine LK.at ?_ | wp_step))
 refine zoj X L hx hc ?_
 repeat (any_goals (first | assumption | wp_step))
theorem zlh {M : Model} {nameV : Value} {Q : Unit → Shared → Prop} (X : K.In h) (L : ExLook K C) (hx : h.get? a = some o) (hc : o.cls = .ref C) (hq : Q () ⟨h,g,d,t,os⟩) : wpAny M A (checkBuiltinCall "BaseException.__getattribute__" ⟨[.ref a,nameV],[]⟩) Q E ⟨h,g,d,t,os⟩:=by
 have hk : builtinKind "BaseException.__getattribute__" = some .slot:=by decide +kernel
 have hsplit : splitId "BaseException.__getattribute__" = some ("BaseException","__getattribute__"):=by decide +kernel
 have ha:=F.args_bexc_ga (.ref a) nameV
 have hcB : bmV.contains (.type "BaseException") = true:=by decide +kernel
 simp only [checkBuiltinCall,hk,hsplit]
 refine wpAny_bind ?_
 ·unfold isInstance
  repeat (first | (with_reducible refine wpAny_loadPart_at hx ?_; rw [hc]) | with_reducible refine zjV X L hcB ?_ | wp_step)
  exact hq
theorem zmA {tk : Tok} {R : Result → Shared → Prop} (X : K.In h) (L : ExLook K C) (hx : h.get? a = some o) (hc : o.cls = .ref C) (hq : R (.ok (.ret (.ref C))) ⟨h,g,d,t,os⟩) :
  codeAny (model prog w) A (.call (.builtin "BaseException.__getattribute__") ⟨[.ref a,.str "__class__" tk],[]⟩) R ⟨h,g,d,t,os⟩ :=
 codeAny_call_builtin F.attr_ValueError.ga.plain F.entry_bexc_ga (zlh X L hx hc (zlg X L hx hc hq))
theorem xc_by {tk : Tok} {Q : Value → Shared → Prop} (X : K.In h) (L : ExLook K C) (hx : h.get? a = some o) (hc : o.cls = .ref C) (hq : Q (.ref C) ⟨h,g,d,t,os⟩) :
  wpAny (model prog w) A (getAttrBy (.ref a) (.str "__class__" tk) false) Q E ⟨h,g,d,t,os⟩:=by
 have f3:=F.attr_ValueError.ga.bind (.ref a)
 have hx2 : (Value.builtin "BaseException.__getattribute__" == Value.builtin "object.__getattribute__") = false:=by decide +kernel
 have hx1 : (onTheHeap (Value.ref C) && Value.builtin "BaseException.__getattribute__" == Value.builtin "object.__getattribute__") = false:=by rw [hx2]; rfl
 have L1 : PySem.W.Looks (model prog w) h (typeLookup (.ref C) "__getattribute__") (some (.builtin "BaseException.__getattribute__")):=PySem.W.looks_findIn X L.ga
 have Internal.L2 : PySem.W.Looks (model prog w) h (typeLookup (.ref C) "__getattr__") none:=PySem.W.looks_findIn X L.gt
 repeat (any_goals (first | assumption | (with_reducible refine wpAny_loadPart_at hx ?_; rw [hc]) | with_reducible refine L1.at ?_ | with_reducible refine Internal.L2.at ?_ | wp_step))
 refine zmA X L hx hc ?_
 repeat (any_goals (first | assumption | wp_step))
theorem zmB {Q : Option Value → Shared → Prop} (X : K.In h) (L : ExLook K C) (hx : h.get? a = some o) (hc : o.cls = .ref C) (hq : Q (some (.ref C)) ⟨h,g,d,t + 1,os⟩) : wpAny (model prog w) A (getAttr? (.ref a) "__class__") Q E ⟨h,g,d,t,os⟩:=by
 unfold getAttr? getAttrBy?
 repeat (any_goals (first | assumption | with_reducible apply xc_by X L hx hc | wp_step))
theorem zli (L : ExLook K C) : PySem.W.KitX K (.ref a) (.ref C) (XcAt a C) where
 ty:=fun M h _ ⟨o,h1,h2⟩=>h2 ▸ (PySem.W.Looks.ld h1).andThen .now
 it:=fun M h X _=>by
  obtain ⟨bm,N,nm,q,bs,hdct,sn,sub,ab,col,dd,k0,k1,k2,k3,k5,mN,hC,hN,hni,T'⟩:=zbZ X L.exc
  intro A' Q' E' s' k q
  unfold isType loadHead
  exact wpAny_bind (wpAny_loadPart (k _ _ hC) (wpAny_pure q))
 ne:=fun h tp dd its n sl X htp=>by
  obtain ⟨bm,N,nm,q,bs,hdct,sn,sub,ab,col,dd,k0,k1,k2,k3,k5,mN,hC,hN,hni,T'⟩:=zbZ X L.exc
  refine Bool.eq_false_iff.mpr fun q=>?_
  have e : C = tp:=Value.ref.inj (beq_iff_eq.mp q)
  subst e
  have z:=congrArg Obj.data (Option.some.inj (hC.symm.trans htp))
  unfold excClassObj at z
  nomatch z
 ca:=fun {_ _ _ _ _ s} X ⟨o,h1,h2⟩ k=>by obtain ⟨h,g,d,t,os⟩:=s; exact zmB X L h1 h2 k
end
end Internal

end
section
set_option Elab.async false
set_option linter.all false
set_option maxRecDepth 100000
set_option maxHeartbeats 4000000
namespace Internal
open PySem PySem.Spec PyProof.Rows Internal.L2

theorem zdY {P : Program} {w : World} {H : Hp} {h : Heap} {a : Addr} {o : HO} (x : ObjOk P w H h a o) : ∃ ob,h.get? a = some ob:=by
 cases o with
 | lst xs=>obtain ⟨_,_,_,_,e⟩:=x; exact ⟨_,e⟩
 | tup xs=>obtain ⟨_,_,_,⟨_,e,_⟩,_⟩:=x; exact ⟨_,e⟩
 | dK kvs=>obtain ⟨_,_,_,_,o,_,_,e,_⟩:=x; exact ⟨_,e⟩
 | dT kvs=>obtain ⟨_,_,_,_,o,_,_,e,_⟩:=x; exact ⟨_,e⟩
 | set S n=>obtain ⟨o,_,_,_,e,_⟩:=x; exact ⟨_,e⟩
 | dE es=>obtain ⟨_,_,_,_,_,e,_⟩:=x; exact ⟨_,e⟩
 | ins C dx fs=>obtain ⟨_,_,_,e,_⟩:=x; exact ⟨_,e⟩
 | own y=>exact x
 | xd fs=>obtain ⟨_,⟨_,_,_,e,_⟩,_⟩:=x; exact ⟨_,e⟩
 | rng lo hi=>obtain ⟨_,_,_,e⟩:=x; exact ⟨_,e⟩
 | frz ob u=>obtain ⟨e,_⟩:=x; exact ⟨_,e⟩
 | tbl ps=>exact ⟨_,(show h.get? a = some _ from x)⟩
 | met f y=>exact ⟨_,(show h.get? a = some _ from x)⟩
 | ext φ=>obtain ⟨_,e,_⟩:=x; exact e
section
variable {X : Cx} {pins : List (Addr × Obj)} {σ : Internal.L2.St} {H H' : Hp} {s s' : Shared} {B h5 : Heap} {a t : Addr} {cls : XC}
theorem zhZ (fl : Fly X.prog X.w X.stack H s cls a s' H' B t) : H' a = none:=by
 cases c : H' a with
 | none=>rfl
 | some o =>
  obtain ⟨ob,e⟩:=zdY (fl.hok a o c)
  have:=fl.fly.out
  rw [e] at this; cases this
theorem zia (I : Internal.L2.Inv X pins σ H s) (fl : Fly X.prog X.w X.stack H s cls a s' H' B t) (hB : B.StaysIn h5) (hU : s'.heap.UpToSlots h5) : Internal.L2.Inv X pins σ H' { s' with heap:=h5 }:=by
 refine I.call' (s':={ s' with heap:=h5 }) (ch:=[]) fl.os ⟨fun b o e n hb _=>hB _ _ (fl.keep b o e n hb),fun b o e n hb _=>?_,fun b o e n _=>fl.free b o e n,fun b o e _=>?_,fun b xs e=>fl.same _ _ e,fun b o u e=>fl.same _ _ e,fun b ps e=>⟨#[],by rw [fl.same _ _ e]; simp⟩⟩ (fl.hok.kept hB) fl.bare (fun b hb=>nomatch hb)
 ·obtain ⟨sl,e1⟩:=fl.slot b o e n hb
  obtain ⟨o2,e2,hd⟩:=zbD fl.fly.fr b hb
  rw [e1] at e2; cases e2
  obtain ⟨sl',e3⟩:=hU b _ e1 hd
  exact ⟨sl',e3⟩
 ·cases c : H b with
  | some u =>
   obtain ⟨ob,q⟩:=zdY (fl.hok b u (fl.same _ _ c))
   exact ⟨ob,hB _ _ q⟩
  | none =>
   by_cases hb : b ∈ frs X.stack
   ·obtain ⟨sl,e1⟩:=fl.slot b o e c hb
    obtain ⟨o2,e2,hd⟩:=zbD fl.fly.fr b hb
    rw [e1] at e2; cases e2
    obtain ⟨sl',e3⟩:=hU b _ e1 hd
    exact ⟨_,e3⟩
   ·exact ⟨o,hB _ _ (fl.keep b o e c hb)⟩

noncomputable def mkd (X : Cx) (a : Addr) (oe : Obj) : Cx:={ X with A:=X.A.mark (some (.ref a)),calm:=false,pn:=(a,oe) :: X.pn,xe:=fun _ _=>False }
theorem zib {oe : Obj} {vs : Array Value} (I : Internal.L2.Inv X pins σ H s) (he : s.heap.get? a = some oe) (hd : oe.data = .fields vs) (hn : H a = none) : Internal.L2.Inv (mkd X a oe) pins σ H s:=by
 refine ⟨⟨I.ok.mod,I.ok.kind,I.ok.glob,I.ok.blt,I.ok.above,I.ok.inj,I.ok.has,I.ok.cab,(fun z=>Bool.noConfusion z),I.ok.frames,I.ok.stk,I.ok.exf,I.ok.bs,I.ok.bsz,I.ok.noex,I.ok.exfs,I.ok.funs,I.ok.frf⟩,I.os,I.bare,I.base,I.loc,I.cell,I.free,I.freeC,fun p hp=>?_,I.hok,I.len⟩
 rcases List.mem_cons.mp (show p ∈ (a,oe) :: (X.pn ++ pins) from hp) with rfl | hp
 ·refine ⟨he,hn,fun z=>?_,fun z=>?_,fun v z=>by rw [hd] at z; cases z⟩
  ·obtain ⟨m,⟨o',es,ep,ho',hd',_⟩,_⟩:=I.loc
   have z' : a = X.env.locals:=z
   rw [← z',he] at ho'; cases ho'
   rw [hd] at hd'; cases hd'
  ·obtain ⟨o2,e2,hd2⟩:=zbD I.funs a z
   rw [he] at e2; cases e2
   exact hd2 vs hd
 ·exact I.pin p hp
theorem zjW {oe : Obj} (ok : X.Ok) (I : Internal.L2.Inv (mkd X a oe) pins σ H s) : Internal.L2.Inv X pins σ H s :=
 ⟨ok,I.os,I.bare,I.base,I.loc,I.cell,I.free,I.freeC,fun p hp=>I.pin p (List.mem_cons_of_mem _ hp),I.hok,I.len⟩
theorem zok {oe : Obj} (I : Internal.L2.Inv (mkd X a oe) pins σ H s) : s.heap.get? a = some oe:=(I.pin (a,oe) (List.mem_cons_self ..)).1

theorem zlj {n : Str} {i : Nat} {h' : Heap} {m m' : Str → Option Value} {t' : Nat} (I : Internal.L2.Inv X pins σ H s) (hN : X.N.Nodup) (hi : X.N[i]? = some n) (hk : X.env.kindOf n = some .local) (hn : s.heap.Ns X.env.locals m)
  (hn' : h'.Ns X.env.locals m') (hm : ∀ x,x ≠ n → m' x = m x) (hs : Heap.SameBut X.env.locals s.heap h') : Internal.L2.Inv X pins (σ.set i none) H { s with heap:=h',toks:=t' }:=by
 have cne:=I.cne
 obtain ⟨oL,_,_,hoL,_⟩:=id hn
 have tracked : HOk X.prog X.w H h':=fun b ob e=>by
  refine (I.hok b ob e).stay (fun c w' hc q=>(hs.2 c ?_).trans q) (fun _ q=>q) fun _ _ q=>q
  rintro rfl
  rcases hc with rfl | hc
  ·rw [I.free] at e; cases e
  ·rw [I.free] at hc; cases hc
 refine ⟨I.ok,I.os,I.bare,⟨fun b o e n hb hx=>?_,fun b o e n hb hx=>?_,I.base.free,fun b o e hx=>?_,I.base.tups,I.base.frzs,I.base.tbls⟩,⟨_,hn',fun j y v' e1 e2 e3=>?_⟩,fun y c e=>?_,I.free,I.freeC,fun p hp=>?_,tracked,by simpa using I.len⟩
 ·exact (hs.2 b (Nat.ne_of_lt (Nat.lt_of_lt_of_le (Heap.lt_size e) I.ok.above))).trans (I.base.keep b o e n hb hx)
 ·obtain ⟨sl,e1⟩:=I.base.slot b o e n hb hx
  exact ⟨sl,(hs.2 b (Nat.ne_of_lt (Nat.lt_of_lt_of_le (Heap.lt_size e) I.ok.above))).trans e1⟩
 ·obtain ⟨o',e1⟩:=I.base.there b o e hx
  exact ⟨o',(hs.2 b (Nat.ne_of_lt (Nat.lt_of_lt_of_le (Heap.lt_size e) I.ok.above))).trans e1⟩
 ·obtain ⟨m0,hn0,hl0⟩:=I.loc
  have em : m0 = m:=hn0.eq_nsMap.trans hn.eq_nsMap.symm
  subst em
  by_cases hj : j = i
  ·subst hj
   have hiσ : j < σ.length:=by rw [I.len]; exact (List.getElem?_eq_some_iff.mp hi).1
   rw [List.getElem?_set_self hiσ] at e2
   cases e2
  ·rw [List.getElem?_set_ne (Ne.symm hj)] at e2
   obtain ⟨u',r',q⟩:=hl0 j y v' e1 e2 e3
   refine ⟨u',r',?_⟩
   rcases q with ⟨k,e⟩ | ⟨k,c,e,z⟩
   ·refine .inl ⟨k,?_⟩
    have : y ≠ n:=fun e=>hj (zeb hN e1 (e ▸ hi))
    rw [hm y this]; exact e
   ·exact .inr ⟨k,c,e,z.sameBut hs (cne y c e)⟩
 ·obtain ⟨w',z⟩:=I.cell y c e
  exact ⟨w',z.sameBut hs (cne y c e)⟩
 ·obtain ⟨e,n,ne,nf,d⟩:=I.pin p hp
  exact ⟨(hs.2 p.1 ne).trans e,n,ne,nf,d⟩
end
end Internal

end
section
set_option Elab.async false
set_option linter.all false
set_option maxRecDepth 100000
set_option maxHeartbeats 4000000
namespace Internal
open PySem PySem.Spec PyProof.Rows Internal.L2
section
variable {K : PySem.W.Frag} {A : Around} {E : Value → Shared → Prop} {h : Heap} {g : Array GenState} {d : Drawn} {t : Nat} {os : OsState} {a C D : Addr} {o : Obj}

theorem zfi {prog : Program} {w : World} {Q : Bool → Shared → Prop} (X : K.In h) (hD : PySem.W.excIn K D bmV "ValueError.__new__" = true) (hs : PySem.W.subIn K (.ref C) (.ref D) = some true) (he : h.get? a = some o) (hcls : o.cls = .ref C) (hq : Q true ⟨h,g,d,t,os⟩) :
  wpAny (model prog w) A (excMatches (.ref a) (.ref D)) Q E ⟨h,g,d,t,os⟩:=by
 obtain ⟨bm,N,nm,q,bs,hdct,sn,sub,ab,col,dd,k0,k1,k2,k3,k5,mN,hDo,hN,hni,T⟩:=zbZ X hD
 have hcB : (Value.ref D :: bm).contains (.type "BaseException") = true:=by rw [List.contains_cons,T.hasType (by decide +kernel : bmV.contains (.type "BaseException") = true),Bool.or_true]
 have L1 : PySem.W.Looks (model prog w) h (isSubtype (.ref C) (.ref D)) true:=PySem.W.looks_subIn X hs
 have f:=tc_notTuple
 unfold excMatches
 repeat (first | (with_reducible refine wpAny_loadPart_at he ?_; rw [hcls]) | with_reducible refine wpAny_loadPart_at hDo ?_ | (with_reducible refine wpAny_isSubtype_exc hDo ?_; rw [hcB]) | with_reducible refine L1.at ?_ | wp_step)
 exact hq
end

noncomputable def IsC (S : Stat) (y : Str) (C : Addr) (b : Bool) : Prop:=(∃ D,S.mg y = some (.ref D) ∧ PySem.W.kitOne S.K (.ref C) (.ref D) = some b) ∨ (∃ T,S.mg y = none ∧ bootBuiltins y = some (.type T) ∧ PySem.W.kitOne S.K (.ref C) (.type T) = some b)
noncomputable def tMk (i : Nat) (a : Addr) (b : Bool) : TE:=fun σ H Q=>σ[i]? = some (some (.ref a)) ∧ Q (.bl b) H
section
variable {S : Stat} {Γ : List Sl} {pos p p1 p2 : Pos} {C a : Addr} {oe : Obj} {b : Bool} {x y : Str} {i : Nat}
theorem zgL {X : Cx} (o : S.Of X) (L : ExLook S.K C) (hc : oe.cls = .ref C) (hy : IsC S y C b) (hm : S.mg "isinstance" = none) (hN : S.N[i]? = some x) (hx : Loc S.sc x) (h1 : (x == ("__debug__" : Str)) = false) (h2 : (x == ("__classdict__" : Str)) = false)
  (hg : S.sc.names.lookup ("isinstance" : Str) = some .globalImplicit) (hgy : S.sc.names.lookup y = some .globalImplicit) (hn : y ≠ "__name__") (hdb : (y == ("__debug__" : Str)) = false) :
  PE (mkd X a oe) (.Call (.Name "isinstance" p) [.Name x p1,.Name y p2] [] pos) (tMk i a b):=by
 have gl : ∀ z : Str,S.sc.names.lookup z = some .globalImplicit → Gl (mkd X a oe) z:=fun z q=>gl_of o q
 have ev : ∃ (v : V) (u : Value),PE (mkd X a oe) (.Name y p2) (tC v) ∧ (∀ u',RelV v u' → u' = u) ∧ PySem.W.kitOne S.K (.ref C) u = some b:=by
  rcases hy with ⟨D,m1,k1⟩ | ⟨T,m1,m2,k1⟩
  ·exact ⟨.ref D,.ref D,zfa (gl y hgy) (by show X.mg y = _; rw [o.mg]; exact m1) rfl hdb,fun _ z=>z,k1⟩
  ·exact ⟨.ty T,.type T,zhD (gl y hgy) (by show X.mg y = _; rw [o.mg]; exact m1) m2 rfl hn hdb,fun _ z=>z,k1⟩
 obtain ⟨v,u,hv,ru,hk⟩:=ev
 intro pins s σ H Q I ⟨hσ,q⟩
 refine wpAny_Call_Name_kw (zbl I (gl _ hg) (by show X.mg _ = _; rw [o.mg]; exact hm) boot_isinstance ?_)
 have ha:=zbf (zbk (X:=mkd X a oe) (i:=i) (x:=x) (pos:=p1) (by show X.N[i]? = _; rw [o.N]; exact hN) (by show Vis X.env.scope x; rw [o.sc]; exact hx.elim .inl fun z=>.inr (.inl z)) h1 h2) (zbf hv zcr)
 refine PyProof.Rows.callWith_builtin1 (thn (ha pos pins s σ H (fun vs H1=>vs = [.ref a,v] ∧ H1 = H) I ⟨.ref a,hσ,rfl,rfl⟩) fun us s1 hP71=>?_)
 obtain ⟨vs,H1,I1,r1,e1,e2⟩:=hP71
 subst e1 e2
 cases r1 with
 | cons ra r1 =>
  cases r1 with
  | cons rb r1 =>
   cases r1
   cases (show _ = Value.ref a from ra)
   cases ru _ rb
   have Kin : S.K.In s1.heap:=by have:=I1.kIn; rw [show (mkd X a oe).K = S.K from o.K] at this; exact this
   exact PySem.W.kia_one (zli L) Kin ⟨oe,zok I1,hc⟩ hk (by intro z; cases z) fun tk=>⟨.bl b,H1,I1.tok _,rfl,q⟩
end
end Internal

end
section
set_option Elab.async false
set_option linter.all false
set_option maxRecDepth 100000
set_option maxHeartbeats 4000000
namespace Internal
open PySem PySem.Spec PyProof.Rows Internal.L2
theorem zgM {prog : Program} {w : World} {A : Around} {E : Value → Shared → Prop} {s : Shared} {env : Env} {K : PySem.W.Frag} {e C D : Addr} {t : Expr} {n : Str} {b₀ : Stmt} {suite : List Stmt} {pos : Pos} {rest : List ExceptHandler} {Q : Flow → Shared → Prop} (hD : PySem.W.excIn K D bmV "ValueError.__new__" = true)
  (hs : PySem.W.subIn K (.ref C) (.ref D) = some true)
  (h : wpAny (model prog w) (A.mark (some (.ref e))) (eval t env) (fun c s₁=>c = .ref D ∧ K.In s₁.heap ∧ (∃ oe,s₁.heap.get? e = some oe ∧ oe.cls = .ref C) ∧
   wpAny (model prog w) (A.mark (some (.ref e))) (setFlight (.ref e) none) (fun _ s₂ =>
     wpAny (model prog w) (A.mark (some (.ref e))) (storeName env n (.ref e)) (fun _ s₃ =>
      wpAny (model prog w) (A.mark (some (.ref e))) (execs (b₀ :: suite) env)
       (fun f s₄=>wpAny (model prog w) A (do bindName env n .none; unbindBehindTheSuite env n pos) (fun _ s₅=>Q f s₅) E s₄)
       (AsSuiteRaised (model prog w) (A.mark (some (.ref e))) env n pos (notedBy (model prog w) (A.mark (some (.ref e))) env (cameBackBy (model prog w) A env E))) s₃) (notedBy (model prog w) (A.mark (some (.ref e))) env (cameBackBy (model prog w) A env E)) s₂) (notedBy (model prog w) (A.mark (some (.ref e))) env (cameBackBy (model prog w) A env E)) s₁) (notedBy (model prog w) (A.mark (some (.ref e))) env (cameBackBy (model prog w) A env E)) s) :
  wpAny (model prog w) A (handleBy (.ref e) env (.ExceptHandler (some t) (some n) (b₀ :: suite) pos :: rest)) Q E s:=by
 refine wpAny_handleBy_cons (codeAny_handlers_test (wpAny_mono h (fun c s₁ h₁=>?_) fun _ _ y=>y)) (by intro q; cases q)
 obtain ⟨rfl,X,⟨oe,he,hcls⟩,hk⟩:=h₁
 obtain ⟨hh,g,d,tk,os⟩:=s₁
 exact zfi X hD hs he hcls (codeAny_handlers_suite_as hk)
section
variable {K : PySem.W.Frag} {φ : Addr → Bool} {ω : Addr → Option (Bool × Nat)} {H : Hp} {σ : Internal.L2.St} {Γ : List Sl}

theorem RS.skip (r : RS K φ ω H σ Γ) {i : Nat} (hi : Γ[i]? = some .no) (v : Option V) : RS K φ ω H (σ.set i v) Γ:=by
 refine ⟨r.live,by rw [List.length_set]; exact r.len,fun j d h=>?_,fun j a ds h=>?_,r.argu⟩
 ·have hj : i ≠ j:=fun z=>by rw [← z,hi] at h; cases h
  obtain ⟨v',e,q⟩:=r.val j d h
  exact ⟨v',by rw [List.getElem?_set_ne hj]; exact e,q⟩
 ·have hj : i ≠ j:=fun z=>by rw [← z,hi] at h; cases h
  obtain ⟨p,vs,e,q⟩:=r.own j a ds h
  exact ⟨p,vs,by rw [List.getElem?_set_ne hj]; exact e,q⟩
end
theorem zlk {X : Cx} {xe : Value → Shared → Prop} {pins : List (Addr × Obj)} {σ : Internal.L2.St} {H : Hp} {s : Shared} (I : Internal.L2.Inv { X with xe:=xe } pins σ H s) : Internal.L2.Inv X pins σ H s :=
 ⟨⟨I.ok.mod,I.ok.kind,I.ok.glob,I.ok.blt,I.ok.above,I.ok.inj,I.ok.has,I.ok.cab,I.ok.hd,I.ok.frames,I.ok.stk,I.ok.exf,I.ok.bs,I.ok.bsz,I.ok.noex,I.ok.exfs,I.ok.funs,I.ok.frf⟩,I.os,I.bare,I.base,I.loc,I.cell,I.free,I.freeC,I.pin,I.hok,I.len⟩
section
variable {S : Stat} {Γ : List Sl} {E : DEnds} {pos p1 dp hp mp lp ap q1 q2 q3 q4 r1 r2 r3 r4 t1 t2 t3 t4 : Pos} {C D : Addr} {b1 b2 b3 : Bool} {dn en mn y1 y2 y3 : Str} {call : Expr}
theorem zol (ie im : Nat) {nc : Bool} (hx : JXE S Γ call (.ref C,nc)) (L : ExLook S.K C) (hD : S.mg dn = some (.ref D)) (xD : PySem.W.excIn S.K D bmV "ValueError.__new__" = true) (sub : PySem.W.subIn S.K (.ref C) (.ref D) = some true)
  (hy1 : IsC S y1 C b1) (hy2 : IsC S y2 C b2) (hy3 : IsC S y3 C b3) (hm : S.mg "isinstance" = none) (hΓ : Γ[ie]? = some .no) (h : E.nx (Γ.set im (.own [.bl b1,.bl b2,.bl b3])))
  (him : im < Γ.length:=by exact Nat.le_of_ble_eq_true rfl) (hne : ie ≠ im:=by decide)
  (hN : S.N.Nodup:=by ac_nf) (hie : S.N[ie]? = some en:=by ac_nf) (hen : S.sc.names.lookup en = some .local:=by ac_nf)
  (himn : S.N[im]? = some mn:=by ac_nf) (hmn : Loc S.sc mn:=by ac_nf)
  (h1 : (en == ("__debug__" : Str)) = false:=by decide +kernel) (h2 : (en == ("__classdict__" : Str)) = false:=by decide +kernel) (hg : S.sc.names.lookup ("isinstance" : Str) = some .globalImplicit:=by ac_nf)
  (hdn : S.sc.names.lookup dn = some .globalImplicit:=by ac_nf) (hdd : (dn == ("__debug__" : Str)) = false:=by decide +kernel)
  (hg1 : S.sc.names.lookup y1 = some .globalImplicit:=by ac_nf) (hn1 : y1 ≠ "__name__":=by decide +kernel) (hd1 : (y1 == ("__debug__" : Str)) = false:=by decide +kernel)
  (hg2 : S.sc.names.lookup y2 = some .globalImplicit:=by ac_nf) (hn2 : y2 ≠ "__name__":=by decide +kernel) (hd2 : (y2 == ("__debug__" : Str)) = false:=by decide +kernel)
  (hg3 : S.sc.names.lookup y3 = some .globalImplicit:=by ac_nf) (hn3 : y3 ≠ "__name__":=by decide +kernel) (hd3 : (y3 == ("__debug__" : Str)) = false:=by decide +kernel)
  (hs : ∀ X : Cx,swapsWith call none p1.line X.env = pure false:=by ac_rfl) (htop : S.top = true:=by rfl) :
  JS S Γ (.Try [.Expr call p1] [.ExceptHandler (some (.Name dn dp)) (some en) [.Assign [.Name mn mp] (.List [.Call (.Name "isinstance" q1) [.Name en q2,.Name y1 q3] [] q4,.Call (.Name "isinstance" r1) [.Name en r2,.Name y2 r3] [] r4,.Call (.Name "isinstance" t1) [.Name en t2,.Name y3 t3] [] t4] lp) ap] hp] [] [] pos) E:=.mk fun X o pins s σ H Z I hP72=>by
 obtain ⟨φ,ω,r,c⟩:=hP72
 obtain ⟨stk,fr0⟩:=o.stk htop
 have o':=of_xe (S:=S) (xe:=fun e s1=>wpAny (model X.prog X.w) X.A (noteFrame e X.env) (fun _ s2=>wpAny (model X.prog X.w) X.A (setFlight e none) (fun _ s3=>wpAny (model X.prog X.w) X.A (handleBy e X.env [.ExceptHandler (some (.Name dn dp)) (some en) [.Assign [.Name mn mp] (.List [.Call (.Name "isinstance" q1) [.Name en q2,.Name y1 q3] [] q4,.Call (.Name "isinstance" r1) [.Name en r2,.Name y2 r3] [] r4,.Call (.Name "isinstance" t1) [.Name en t2,.Name y3 t3] [] t4] lp) ap] hp]) (SP X pins Z) X.xe s3) X.xe s2) X.xe s1) o PassesOwn.looking
 refine wpAny_Try_except (wpAny_execs_cons (thn (wpAny_Expr_any (thn (hx.run _ o' pins s σ H (both φ ω) (znX I) r.re (fun H2 s2 a s' H' B t I2 e2 fl=>?_) (fun _ _=>False)) fun _ _ z=>z.elim) I.quiet (hs X)) fun _ _ z=>z))
 have I2' : Internal.L2.Inv X pins σ H2 s2:=zlk I2
 have fl' : Fly X.prog X.w X.stack H2 s2 (.ref C,nc) a s' H' B t:=fl
 have hfr : X.A.frames = some (X.env :: X.outer):=by rw [I.ok.frames,stk]
 have ff:=fl'.fly
 rw [stk] at ff
 refine zgH hfr fr0 ff fun h1' x1 u1 _=>?_
 refine zdf x1.1 x1.2.1 x1.2.2.1 x1.2.2.2 fun h2' x2 u2 _=>?_
 obtain ⟨oe,vs,he,hcls,hd,_⟩:=x2.first
 have I3:=zia I2' fl' x2.1 (u1.trans u2)
 have Im:=zib I3 he hd (zhZ fl')
 have gl : ∀ (b : Addr) (ob : Obj) (z : Str),S.sc.names.lookup z = some .globalImplicit → Gl (mkd X b ob) z:=fun b ob z q=>gl_of o q
 refine zgM (K:=S.K) (C:=C) (D:=D) xD sub (zcO Im (gl _ _ _ hdn) (by show X.mg _ = _; rw [o.mg]; exact hD) ⟨rfl,?_,⟨oe,he,hcls⟩,?_⟩ hdd)
 ·have:=Im.kIn; rw [show (mkd X a oe).K = S.K from o.K] at this; exact this
 refine zdf x2.1 x2.2.1 x2.2.2.1 x2.2.2.2.at fun h4 x4 u4 _=>?_
 obtain ⟨oe4,vs4,he4,hcls4,hd4,_⟩:=x4.first
 have I4:=zia I2' fl' x4.1 ((u1.trans u2).trans u4)
 have Im4:=zib I4 he4 hd4 (zhZ fl')
 refine zec (X:=mkd X a oe4) Im4 (by show X.N.Nodup; rw [o.N]; exact hN) (by show X.N[ie]? = _; rw [o.N]; exact hie) (by show Loc X.env.scope en; rw [o.sc]; exact .inl hen) (v:=.ref a) rfl (fun s5 I5=>?_) (.inl (o.fn htop en))
 have P : PS (mkd X a oe4) (.Assign [.Name mn mp] (.List [.Call (.Name "isinstance" q1) [.Name en q2,.Name y1 q3] [] q4,.Call (.Name "isinstance" r1) [.Name en r2,.Name y2 r3] [] r4,.Call (.Name "isinstance" t1) [.Name en t2,.Name y3 t3] [] t4] lp) ap) _ :=
  zdt (i:=im) (by show X.N.Nodup; rw [o.N]; exact hN) (by show X.N[im]? = _; rw [o.N]; exact himn) (by show Loc X.env.scope mn; rw [o.sc]; exact hmn)
   (zji (zbf (zgL o L hcls4 hy1 hm hie (.inl hen) h1 h2 hg hg1 hn1 hd1) (zbf (zgL o L hcls4 hy2 hm hie (.inl hen) h1 h2 hg hg2 hn2 hd2) (zbf (zgL o L hcls4 hy3 hm hie (.inl hen) h1 h2 hg hg3 hn3 hd3) zcr)))) rfl (.inl (o.fn htop mn))
 have hσ : (σ.set ie (some (V.ref a)))[ie]? = some (some (V.ref a)):=List.getElem?_set_self (by rw [r.len]; exact (List.getElem?_eq_some_iff.mp hΓ).1)
 refine wpAny_mono ((zed P zhE) pins s5 _ H' { nx:=fun σ' H''=>∃ p,H' p = none ∧ σ' = (σ.set ie (some (V.ref a))).set im (some (.ref p)) ∧ H'' = upd H' p (.lst [.bl b1,.bl b2,.bl b3]),rt:=fun _ _=>False } I5 ⟨hσ,hσ,hσ,by show 3 ≤ sizeLine; decide,fun p hp=>⟨p,hp,rfl,rfl⟩⟩) (fun f s6 z=>?_) fun _ _ z=>z.elim
 cases f with
 | brk=>obtain ⟨_,_,_,q⟩:=z; exact q.elim
 | cont=>obtain ⟨_,_,_,q⟩:=z; exact q.elim
 | ret u=>obtain ⟨_,_,_,_,_,q⟩:=z; exact q.elim
 | next =>
  obtain ⟨_,_,I6,p,hp,rfl,rfl⟩:=z
  have I6':=zjW I.ok I6
  obtain ⟨m,hn,_⟩:=id I6'.loc
  refine wpAny_nameGoes_keeps (by show X.env.scope.names.lookup en = _; rw [o.sc]; exact hen) hn (by rw [I.ok.kind]; rfl) fun h7 v hn7 hs7=>?_
  have hsm : Same H H':=e2.trans fl'.same
  obtain ⟨r',k'⟩:=((r.mono hsm).skip hΓ (some (.ref a))).takeC (H':=upd H' p (.lst [.bl b1,.bl b2,.bl b3])) (vs:=.lst [.bl b1,.bl b2,.bl b3]) (ds:=.lst [.bl b1,.bl b2,.bl b3]) him hp (zH hp _) zu ⟨_,rfl,_,_,rfl,rfl,_,_,rfl,rfl,_,_,rfl,rfl,rfl⟩
  refine ⟨_,_,zlj I6' (by rw [o.N]; exact hN) (by rw [o.N]; exact hie) (by show X.env.scope.names.lookup en = _; rw [o.sc]; exact hen) hn hn7 (fun x hx=>by simp [hx]) hs7,c.n _ _ _ _ h (r'.skip ?_ none) ((Kp.of hsm).trans k')⟩
  rw [List.getElem?_set_ne (Ne.symm hne)]; exact hΓ
end
end Internal

end
section
set_option Elab.async false
set_option linter.all false
set_option maxRecDepth 100000
set_option maxHeartbeats 4000000
namespace Internal
open PySem PySem.Spec PyProof.Rows Internal.L2

structure JXA (S : Stat) (Γ : List Sl) (es : List Expr) (cls : XC) : Prop where
 run : ∀ X,S.Of X → ∀ (pos : Pos) (pins : List (Addr × Obj)) (s : Shared) (σ : Internal.L2.St) (H : Hp) (χ : Addr → Bool),Inv X pins σ H s → RE S.K χ H σ Γ →
  (∀ (H2 : Hp) (s2 : Shared) (a : Addr) (s' : Shared) (H' : Hp) (B : Heap) (t : Addr),Inv X pins σ H2 s2 → Same H H2 → Fly X.prog X.w X.stack H2 s2 cls a s' H' B t → X.xe (.ref a) s') → ∀ Q,wpAny (model X.prog X.w) X.A (spliced (backTo pos (starEach es X.env))) Q X.xe s
section
variable {S : Stat} {Γ : List Sl} {pos pos' p : Pos} {e a b : Expr} {es : List Expr} {x : Str} {cls : XC} {d : D}
end
end Internal

end
section
set_option Elab.async false
set_option linter.all false
set_option maxRecDepth 100000
set_option maxHeartbeats 4000000
namespace Internal
open PySem PySem.Spec PyProof.Rows Internal.L2

section
variable {prog : Program} {w : World} {A : Around} {E : Value → Shared → Prop} {s : Shared} {env : Env} {K : PySem.W.Frag} {C C1 a : Addr}
end
end Internal

end
section
set_option Elab.async false
set_option linter.all false
set_option maxRecDepth 100000
set_option maxHeartbeats 4000000
namespace Internal
open PySem PySem.Spec PyProof.Rows Internal.L2
section
variable {S : Stat} {Γ : List Sl} {pos p1 dp hp np cpos rp rpos : Pos} {C C2 D : Addr} {dn en cn : Str} {call msg : Expr}
end
end Internal

end
section
set_option Elab.async false
set_option linter.all false
set_option maxRecDepth 100000
set_option maxHeartbeats 4000000

namespace Internal
open PySem PySem.Spec PyProof.Rows Internal.L2
section
variable {X : Cx} {pins pins' : List (Addr × Obj)} {σ σ' : Internal.L2.St} {H₃ H2 H' : Hp} {s₃ s2 s' : Shared} {x : Str} {scope : Scope} {C a t : Addr} {fp : List Addr} {cls : XC} {B : Heap}
end
section
variable {X : Cx}
end
end Internal

end
section
set_option Elab.async false
set_option linter.all false
set_option maxRecDepth 100000
set_option maxHeartbeats 4000000
namespace Internal
open PySem PySem.Spec PyProof.Rows Internal.L2
section
variable {S : Stat} {Γ : List Sl} {pos : Pos} {x : Str} {cls : XC}
end
end Internal

end
section
set_option Elab.async false
set_option linter.all false
set_option maxRecDepth 100000
set_option maxHeartbeats 4000000
namespace Internal
open PySem PySem.Spec PyProof.Rows Internal.L2

noncomputable def Itd (a : Addr) (u : HO) (bs : List Addr) : It:=⟨fun i H=>H a = some u ∧ i < bs.length,fun i H x H'=>H' = H ∧ ∃ b,bs[i]? = some b ∧ x = .ref b,fun i H=>H a = some u ∧ bs.length = i⟩
theorem zeJ {P : Program} {w : World} {H : Hp} {h : Heap} {a : Addr} {o : Obj} {kv : List (List Key × V)} {es : Array DictEntry} {ep : Nat} (ok : HOk P w H h) (ha : H a = some (.frz o (.dT kv))) (hd : o.data = .dict es ep) : Raw h a es ep ∧ (a == sysModules) = false:=by
 obtain ⟨ho,_,y,_,_,o',_,_,h1,h2,_⟩:=ok a _ ha
 rw [ho] at h1; cases h1
 exact ⟨⟨o,ho,h2,hd⟩,y⟩
theorem zjX {P : Program} {w : World} {K : PySem.W.Frag} {tg : Expr} {a it : Addr} {o : Obj} {kv : List (List Key × V)} {es : Array DictEntry} {ep : Nat} {bs : List Addr} (hd : o.data = .dict es ep) (hz : es.size = bs.length) (hk : ∀ (i : Nat) e,es[i]? = some e → ∃ b,bs[i]? = some b ∧ e.key = .ref b) :
  Turn P w K tg (Itd a (.frz o (.dT kv)) bs) [it] it (fun i h=>h.IsKeyIter it a i es.size ep) where
 mem:=by simp
 obj:=fun i h st b hb=>by
  cases List.mem_singleton.mp hb
  obtain ⟨ob,e,c,d⟩:=st
  exact ⟨ob,e,fun v z=>by rw [d] at z; cases z⟩
 keep:=fun i h h' st k=>st.at fun ob e=>k it (List.mem_singleton.mpr rfl) ob e
 item:=by
  intro X hP hw hK hc i pins s σ H E I hf st hg
  subst hP hw hK
  obtain ⟨ha,hi⟩:=hg
  obtain ⟨rw1,_⟩:=zeJ I.hok ha hd
  obtain ⟨f0,f1,f2,f3,f4,f5⟩:=hf it (List.mem_singleton.mpr rfl)
  have hi' : i < es.size:=by omega
  obtain ⟨b,hb,ek⟩:=hk i es[i] (Array.getElem?_eq_getElem hi')
  refine zlc st rw1 hi' fun h' st' sb=>?_
  have I1 : Internal.L2.Inv X pins σ H { s with heap:=h' }:=I.turned (t':=s.toks) (fun c oc hc e=>(sb.2 c hc).trans e) f0 f1 f3 f4 f5
  obtain ⟨oi,e,c,d⟩:=id st'
  refine ⟨_,rfl,go_of (s:={ s with heap:=h' }) e c d (by decide) ⟨.ref b,H,I1,?_,⟨rfl,b,hb,rfl⟩,st',fun c hc=>(hf c hc).1⟩⟩
  rw [ek]; exact rfl
 done:=by
  intro X hP hw hK hc i pins s σ H E I hf st hg
  subst hP hw hK
  obtain ⟨ha,hi⟩:=hg
  obtain ⟨rw1,_⟩:=zeJ I.hok ha hd
  obtain ⟨f0,f1,f2,f3,f4,f5⟩:=hf it (List.mem_singleton.mpr rfl)
  have e : i = es.size:=by omega
  subst e
  exact zmw (I.ok.hd hc) st rw1 fun h' eb=>⟨rfl,I.turned (t':=s.toks) (fun b ob hb e=>eb b ob hb e) f0 f1 f3 f4 f5⟩
 self:=fun _ _ _ _ _ st h=>wpAny_pyIter_keyiter st h
noncomputable def iDict (te : TE) : TI:=fun σ H R=>te σ H fun x H1=>∃ (a : Addr) (o : Obj) (kv : List (List Key × V)) (es : Array DictEntry) (ep : Nat) (bs : List Addr),x = .ref a ∧ H1 a = some (.frz o (.dT kv)) ∧ o.data = .dict es ep ∧ es.size = bs.length ∧
 (∀ (i : Nat) e,es[i]? = some e → ∃ b,bs[i]? = some b ∧ e.key = .ref b) ∧ R (Itd a (.frz o (.dT kv)) bs) H1
theorem zmC {X : Cx} {tg e : Expr} {te : TE} (he : PE X e te) : PI X tg e (iDict te):=by
 intro pins s σ H R I h
 refine thn (he pins s σ H _ I h) fun v s1 hP73=>?_
 obtain ⟨x,H1,I1,r1,q1⟩:=hP73
 obtain ⟨a,o,kv,es,ep,bs,rfl,ha,hd,hz,hk,q⟩:=q1
 cases r1
 obtain ⟨rw1,hsys⟩:=zeJ I1.hok ha hd
 refine zlb hsys rw1 ⟨s1.heap.objs.size,[s1.heap.objs.size],_,_,H1,rfl,I1.kept (t':=s1.toks) fun b ob e=>Heap.get?_push_of_some _ e,zjX hd hz hk,⟨_,Heap.get?_push_size _ rfl,rfl,rfl⟩,fun b hb=>?_,q⟩
 cases List.mem_singleton.mp hb
 exact I1.fpOk (Nat.le_refl _) (I1.hok.fresh (Nat.le_refl _))
noncomputable def keyA (e : DictEntry) : Addr:=match e.key with | .ref b=>b | _=>0
section
variable {S : Stat} {Γ : List Sl} {E : DEnds} {pos p pos' apos cpos p1 p2 : Pos} {tg e a b value : Expr} {x : Str} {rest : List Stmt} {kvs : List (List Int × Int)}
theorem i_dct (h : JE S Γ e (.dcI kvs)) : JI S Γ tg e (kvs.map fun kv=>rowD kv.1):=⟨iDict (dE S.K Γ (.dcI kvs)),fun X o=>zmC (h X o),fun σ H R χ r q=>⟨χ,r,fun v H' e' hP74=>by
  obtain ⟨ad,ob,ev,hd,es,ep,k1,k2,k3⟩:=hP74
  have hk : ∀ (i : Nat) e,es[i]? = some e → ∃ b,(es.toList.map keyA)[i]? = some b ∧ e.key = .ref b:=fun i en he=>by
   have hi : i < kvs.length:=by have:=(Array.getElem?_eq_some_iff.mp he).1; omega
   obtain ⟨en',b,a1,a2,_⟩:=k3 i kvs[i].1 kvs[i].2 (by rw [List.getElem?_eq_getElem hi])
   rw [he] at a1; cases a1
   refine ⟨b,?_,a2⟩
   rw [List.getElem?_map,Array.getElem?_toList,he]
   show some (keyA en) = some b
   unfold keyA; rw [a2]
  refine ⟨ad,ob,dcV kvs,es,ep,es.toList.map keyA,ev,zm _ _ hd,k1,by rw [List.length_map,Array.length_toList],hk,q _ H' e' fun χ' H2 sm=>⟨fun i d hi=>?_,?_⟩⟩
  ·rw [List.getElem?_map] at hi
   obtain ⟨⟨k,v'⟩,hkv,rfl⟩:=Option.map_eq_some_iff.mp hi
   obtain ⟨en,b,a1,a2,a3⟩:=k3 i k v' hkv
   have hlt : i < kvs.length:=(List.getElem?_eq_some_iff.mp hkv).1
   refine ⟨⟨zm _ _ (sm _ _ hd),by rw [List.length_map,Array.length_toList,k2]; exact hlt⟩,fun x H3 ⟨e3,b',hb',ex⟩=>⟨e3,?_⟩⟩
   obtain ⟨b2,hb2,ek2⟩:=hk i en a1
   rw [hb2] at hb'; cases hb'
   rw [a2] at ek2; cases ek2
   subst ex
   exact ⟨b,k.map V.int,rfl,sm _ _ a3,Reps.ints k⟩
  ·exact ⟨zm _ _ (sm _ _ hd),by rw [List.length_map,List.length_map,Array.length_toList,k2]⟩⟩⟩

theorem zom (ha : JE S Γ a (.dcI kvs)) (hm : S.mg "sum" = none) (hg : S.sc.names.lookup ("sum" : Str) = some .globalImplicit:=by ac_nf)
  (hbase : ∀ env,attributeBase a "values" env (eval a env) = eval a env:=by ac_rfl) (hline : (apos.endLine == cpos.line) = true:=by rfl) :
  JE S Γ (.Call (.Name "sum" p) [.Call (.Attribute a "values" apos) [] [] cpos] [] pos) (.int (kvs.map (·.2)).sum):=.mk fun X o pins s σ H Q I hP75=>by
 obtain ⟨χ,R,q⟩:=hP75
 refine wpAny_Call_Name_kw (zbl I (gl_of o hg) (by rw [o.mg]; exact hm) boot_sum ?_)
 refine PyProof.Rows.callWith_builtin1 ?_ rfl rfl
 show wpAny _ _ (spliced ((false,eval (.Call (.Attribute a "values" apos) [] [] cpos) X.env) :: [])) _ _ s
 refine Calls.spliced_cons (wpAny_Call_method0_late (hbase X.env) hline (thn (ha X o pins s σ H (fun v H1=>Same H H1 ∧ Rep S.K (hidB χ H1) (.dcI kvs) v) I ⟨χ,R,fun v H1 e1 rv=>⟨e1,rv⟩⟩) fun u s1 hP76=>?_))
 obtain ⟨v,H1,I1,ru,e1,rv⟩:=hP76
 obtain ⟨ad,ob,rfl,hd,es,ep,k1,k2,_⟩:=rv
 cases (show u = Value.ref ad from ru)
 have hd':=zm _ _ hd
 obtain ⟨rw1,hsys⟩:=zeJ I1.hok hd' k1
 obtain ⟨ho,ok1⟩:=(show s1.heap.get? ad = some ob ∧ ObjOk X.prog X.w H1 s1.heap ad (.dT (dcV kvs)) from I1.hok ad _ hd')
 obtain ⟨_,hvs⟩:=zmx ok1 ho k1
 refine ⟨"dict","dict.values",PySem.F.plainAttrs_dict,PySem.F.slot_dict_values,PySem.F.type_dict_values,rw1.ty,?_,Calls.callWith_builtin rfl (PySem.evalArgs_none ?_)⟩
 ·rintro b e; cases e
  obtain ⟨od,h1,h2,_⟩:=rw1
  exact ⟨od,h1,h2.2.1⟩
 refine call_meetsIn PySem.F.slot_dict_values rw1.ty PySem.F.entry_dict_values (PySem.F.args_dict_values_1 _) (ziC hsys es ep) ⟨rw1,Calls.spliced_nil ?_⟩
 have hlt : ad < s1.heap.objs.size:=Heap.lt_size ho
 refine call_sum_walkAnyS (zjN (v:=s1.heap.objs.size) (d:=ad) (es:=es) (ep:=ep) ⟨_,Heap.get?_push_size _ rfl,rfl,rfl⟩ (rw1.keep fun o e=>Heap.get?_push_of_some _ e) ?_)
 generalize hh1 : s1.heap.push { cls:=.type "dict_values",data:=.fields #[.ref ad] } = h1
 have hsz : s1.heap.objs.size < h1.objs.size:=by rw [← hh1]; exact Heap.lt_size (Heap.get?_push_size _ rfl)
 have kp : ∀ b ob,s1.heap.get? b = some ob → h1.get? b = some ob:=fun b ob e=>by rw [← hh1]; exact Heap.get?_push_of_some _ e
 have W:=(ziD (prog:=X.prog) (w:=X.w) (A:=X.A.in1) (d:=ad) (it:=h1.objs.size) (es:=es) (ep:=ep) (I.ok.hd o.calm) (Nat.ne_of_lt (Nat.lt_trans hlt hsz))).toS
 refine ⟨_,_,_,_,_,_,_,fun i=>(kvs.map (·.2)).getD i 0,rfl,W,⟨⟨_,Heap.get?_push_size _ rfl,rfl,rfl⟩,(rw1.keep fun o e=>kp _ _ e).keep fun o e=>Heap.get?_push_of_some _ e⟩,?_,?_,?_⟩
 ·intro b hb
  rcases List.mem_cons.mp hb with rfl | hb
  ·exact Heap.lt_size (Heap.get?_push_size (o:={ cls:=.type "dict_valueiterator",data:=.fields #[.ref ad,.int 0 0,.int es.size 0,.int ep 0] }) h1 rfl)
  ·rw [List.mem_singleton.mp hb]
   exact Heap.lt_size (Heap.get?_push_of_some _ (kp _ _ ho))
 ·rintro i v ⟨hi,rfl⟩
  exact hvs i hi
 ·intro s' t' hm'
  have es' : preSum (fun i=>(kvs.map (·.2)).getD i 0) es.size = (kvs.map (·.2)).sum:=by
   have : es.size = (kvs.map (·.2)).length:=by rw [List.length_map]; exact k2
   rw [PyProof.Rows.preSum_getD,this,List.take_length]
  rw [es']
  obtain ⟨h',g',d',tk',os'⟩:=s'
  have q1 : g' = s1.gens:=hm'.gens
  have q2 : d' = s1.drawn:=hm'.drawn
  have q3 : os' = s1.os:=hm'.os
  subst q1 q2 q3
  refine ⟨.int _,H1,I1.kept (t':=tk') fun b ob e=>hm'.heap b ob ?_ (Heap.get?_push_of_some _ (kp _ _ e)),⟨t',rfl⟩,q _ H1 e1 rfl⟩
  intro hb
  exact absurd (Heap.lt_size e) (by rw [List.mem_singleton.mp hb]; exact Nat.not_lt_of_le (Nat.le_of_lt hsz))
end
end Internal

end
section
set_option Elab.async false
set_option linter.all false
set_option maxRecDepth 100000
set_option maxHeartbeats 4000000

namespace DSt
open PySem PySem.Spec PyProof.Rows

noncomputable abbrev Rise (xs : Array Nat) : Prop:=xs.toList.Pairwise (· < ·)
theorem zdg {xs : Array Nat} (h : Rise xs) {i j : Nat} {a b : Nat} (hij : i < j) (ha : xs[i]? = some a) (hb : xs[j]? = some b) : a < b:=by
 have ha' : xs.toList[i]? = some a:=by rw [Array.getElem?_toList]; exact ha
 have hb' : xs.toList[j]? = some b:=by rw [Array.getElem?_toList]; exact hb
 obtain ⟨h1,e1⟩:=List.getElem?_eq_some_iff.mp ha'
 obtain ⟨h2,e2⟩:=List.getElem?_eq_some_iff.mp hb'
 have:=List.pairwise_iff_getElem.mp h i j h1 h2 hij
 rw [e1,e2] at this
 exact this
theorem zfj {xs : Array Nat} (hs : Rise xs) (j : Nat) : ∀ (fuel lo hi : Nat),hi - lo ≤ fuel → lo ≤ hi → hi ≤ xs.size → (∀ i a,i < lo → xs[i]? = some a → a < j) → (∀ i a,hi ≤ i → xs[i]? = some a → j ≤ a) →
  SetTable.below.go xs j fuel lo hi ≤ xs.size ∧ (∀ i a,i < SetTable.below.go xs j fuel lo hi → xs[i]? = some a → a < j) ∧ ∀ i a,SetTable.below.go xs j fuel lo hi ≤ i → xs[i]? = some a → j ≤ a
 | 0,lo,hi,hf,hl,hh,h1,h2=>by
  have e : lo = hi:=by omega
  subst e
  rw [SetTable.below.go]
  exact ⟨hh,h1,h2⟩
 | fuel + 1,lo,hi,hf,hl,hh,h1,h2=>by
  rw [SetTable.below.go]
  by_cases hlt : lo < hi
  ·rw [if_pos hlt]
   have hm : (lo + hi) / 2 < xs.size:=by omega
   have em : xs[(lo + hi) / 2]? = some xs[(lo + hi) / 2]:=Array.getElem?_eq_getElem hm
   have eg : xs.getD ((lo + hi) / 2) j = xs[(lo + hi) / 2]:=by simp [Array.getD,hm]
   by_cases hc : xs.getD ((lo + hi) / 2) j < j
   ·rw [if_pos hc]
    refine zfj hs j fuel _ _ (by omega) (by omega) hh (fun i a hi' ha=>?_) h2
    by_cases he : i = (lo + hi) / 2
    ·subst he
     rw [em] at ha; cases ha
     rw [eg] at hc; exact hc
    ·exact Nat.lt_trans (zdg hs (show i < (lo + hi) / 2 by omega) ha em) (by rw [eg] at hc; exact hc)
   ·rw [if_neg hc]
    refine zfj hs j fuel _ _ (by omega) (by omega) (by omega) h1 fun i a hi' ha=>?_
    rw [eg] at hc
    by_cases he : i = (lo + hi) / 2
    ·subst he
     rw [em] at ha; cases ha
     omega
    ·have:=zdg hs (show (lo + hi) / 2 < i by omega) em ha
     omega
  ·rw [if_neg hlt]
   have e : lo = hi:=by omega
   subst e
   exact ⟨hh,h1,h2⟩
theorem zci {xs : Array Nat} (hs : Rise xs) (j : Nat) : SetTable.below xs j ≤ xs.size ∧ (∀ i a,i < SetTable.below xs j → xs[i]? = some a → a < j) ∧ ∀ i a,SetTable.below xs j ≤ i → xs[i]? = some a → j ≤ a :=
 zfj hs j xs.size 0 xs.size (by omega) (Nat.zero_le _) (Nat.le_refl _) (fun i a h=>absurd h (Nat.not_lt_zero _)) fun i a h ha=>by
  have:=(Array.getElem?_eq_some_iff.mp ha).1
  omega

theorem ziE {xs : Array Nat} (hs : Rise xs) {i a : Nat} (h : xs[i]? = some a) : SetTable.below xs (a + 1) = i + 1:=by
 obtain ⟨h1,h2,h3⟩:=zci hs (a + 1)
 have hi:=(Array.getElem?_eq_some_iff.mp h).1
 by_cases c : SetTable.below xs (a + 1) ≤ i
 ·have:=h3 i a c h; omega
 by_cases c2 : i + 1 < SetTable.below xs (a + 1)
 ·have e : xs[i + 1]? = some xs[i + 1]:=Array.getElem?_eq_getElem (by omega)
  have l1:=h2 (i + 1) _ c2 e
  have l2:=zdg hs (Nat.lt_succ_self i) h e
  omega
 ·omega
theorem ziF {xs : Array Nat} (hs : Rise xs) : SetTable.below xs 0 = 0:=by
 obtain ⟨h1,h2,h3⟩:=zci hs 0
 by_cases c : SetTable.below xs 0 = 0
 ·exact c
 ·have e : xs[0]? = some xs[0]:=Array.getElem?_eq_getElem (by omega)
  have:=h2 0 _ (by omega) e
  omega
structure Tab (L : Bool) (t : SetTable) : Prop where
 rise : Rise t.place
 dum : t.dummies = #[]
 led : t.led = L
theorem zgN (j : Nat) : SetTable.has #[] j = false:=by unfold SetTable.has; simp
theorem ziG {L : Bool} {t : SetTable} (T : Tab L t) {j : Nat} (h : t.slot j = .empty) : ∀ i : Nat,t.place[i]? ≠ some j:=fun i hi=>by
 unfold SetTable.slot at h
 obtain ⟨h1,h2,h3⟩:=zci T.rise j
 have e : t.place[SetTable.below t.place j]? = some j:=by
  by_cases c : SetTable.below t.place j ≤ i
  ·by_cases c2 : SetTable.below t.place j = i
   ·rw [c2]; exact hi
   ·have hl : SetTable.below t.place j < t.place.size:=by have:=(Array.getElem?_eq_some_iff.mp hi).1; omega
    have e:=Array.getElem?_eq_getElem hl
    have l1:=zdg T.rise (show SetTable.below t.place j < i by omega) e hi
    have l2:=h3 _ _ (Nat.le_refl _) e
    omega
  ·exact absurd (h2 i j (by omega) hi) (Nat.lt_irrefl _)
 dsimp only at h
 rw [if_pos (by rw [e]; simp)] at h
 cases h
theorem zgO {L : Bool} {t : SetTable} (T : Tab L t) (h : Int) {j : Nat} {d : Option Nat} : ∀ (fuel : Nat) (p : SetTable.Probe),p.dummy = none → SetTable.probe.go t (fun _=>h + 1) h fuel p = some (.empty j d) → t.slot j = .empty ∧ d = none
 | 0,p,hp,e=>by rw [SetTable.probe.go] at e; cases e
 | fuel + 1,p,hp,e=>by
  rw [SetTable.probe.go] at e
  have adv : (t.advance p).dummy = none:=by
   unfold SetTable.advance
   split
   ·exact hp
   ·exact hp
  cases c : t.slot p.j with
  | empty =>
   rw [c] at e
   simp only [Option.some.injEq,SetTable.Met.empty.injEq] at e
   obtain ⟨e1,e2⟩:=e
   exact ⟨by rw [← e1]; exact c,by rw [← e2]; exact hp⟩
  | dummy =>
   exfalso
   unfold SetTable.slot at c
   dsimp only at c
   rw [T.dum,zgN] at c
   split at c
   ·cases c
   ·simp at c
  | live i =>
   rw [c] at e
   have hne : (h + 1 == h) = false:=by rw [beq_eq_false_iff_ne]; omega
   simp only [hne] at e
   exact zgO T h fuel _ adv e
theorem zjY {L : Bool} {t : SetTable} (T : Tab L t) {h : Int} {j : Nat} {b : Bool} (e : t.freeSlot h = some (j,b)) : t.slot j = .empty:=by
 unfold SetTable.freeSlot at e
 split at e
 ·rename_i j' d q
  obtain ⟨h1,h2⟩:=zgO T h _ _ rfl q
  subst h2
  simp only [Option.getD_none,Option.some.injEq,Prod.mk.injEq] at e
  rw [← e.1]; exact h1
 ·cases e
theorem zmD {L : Bool} {t : SetTable} (T : Tab L t) {j : Nat} (h : t.slot j = .empty) : Tab L (t.put j).1:=by
 have hn:=ziG T h
 obtain ⟨h1,h2,h3⟩:=zci T.rise j
 refine ⟨?_,?_,T.led⟩
 ·show (SetTable.insertAt t.place (SetTable.below t.place j) j).toList.Pairwise _
  rw [SetTable.toList_insertAt]
  have r : t.place.toList.Pairwise (· < ·):=T.rise
  rw [← List.take_append_drop (SetTable.below t.place j) t.place.toList] at r
  obtain ⟨p1,p2,p3⟩:=List.pairwise_append.mp r
  refine List.pairwise_append.mpr ⟨p1,List.pairwise_cons.mpr ⟨fun a ha=>?_,p2⟩,fun a ha b hb=>?_⟩
  ·obtain ⟨i,hi⟩:=List.mem_iff_getElem?.mp ha
   rw [List.getElem?_drop,Array.getElem?_toList] at hi
   have l1:=h3 _ _ (Nat.le_add_right _ _) hi
   have l2 : a ≠ j:=fun z=>hn _ (z ▸ hi)
   omega
  ·have la : a < j:=by
    obtain ⟨i,hi⟩:=List.mem_iff_getElem?.mp ha
    rw [List.getElem?_take] at hi
    split at hi
    ·rw [Array.getElem?_toList] at hi
     exact h2 i a (by assumption) hi
    ·cases hi
   rcases List.mem_cons.mp hb with rfl | hb
   ·exact la
   ·exact p3 a ha b hb
 ·show (if SetTable.has t.dummies j = true then _ else t.dummies) = #[]
  rw [T.dum,zgN,if_neg (by decide)]
theorem zcE {L : Bool} {t : SetTable} (T : Tab L t) (n : Nat) : Tab L (t.standIn n):=by
 refine ⟨?_,rfl,T.led⟩
 show (Array.range n).toList.Pairwise _
 rw [Array.toList_range]
 exact List.pairwise_lt_range
theorem zon {L : Bool} {t : SetTable} (T : Tab L t) (n : Nat) : Tab L (t.orStandIn n):=by
 unfold SetTable.orStandIn
 split
 ·exact T
 ·exact zcE T n
theorem zmE {L : Bool} {t : SetTable} (T : Tab L t) (es : Array (Int × Value)) (h : Int) (x : Value) : Tab L (layNew t es h x).2.1:=by
 unfold layNew
 split
 ·rename_i slot d e
  have:=zmD T (zjY T e)
  generalize hq : t.put slot = q at this
  obtain ⟨t',p⟩:=q
  exact zon this _
 ·exact zcE T _
theorem zjZ {L : Bool} {t : SetTable} (T : Tab L t) (es : Array (Int × Value)) (n : Nat) : Tab L (relayAll t es n).2.1:=by
 unfold relayAll
 split
 ·rename_i t' order e
  dsimp only
  split
  ·unfold SetTable.relaid SetTable.laid at e
   simp only [Option.bind_eq_bind,Option.bind_eq_some_iff,Option.pure_def,Option.some.injEq,Prod.mk.injEq] at e
   obtain ⟨owner,_,e1,e2⟩:=e
   subst e1
   refine ⟨?_,rfl,T.led⟩
   show (List.map _ _).Pairwise _
   rw [List.map_filterMap]
   have : ∀ l : List Nat,l.Pairwise (· < ·) → (l.filterMap fun j=>Option.map (fun x : Nat × Nat=>x.1) (Option.map (fun x=>(j,x)) (owner.getD j none))).Pairwise (· < ·):=by
    intro l hl
    refine List.Pairwise.filterMap _ ?_ hl
    intro a a' haa b hb b' hb'
    simp only [Option.map_map,Option.map_eq_some_iff,Function.comp] at hb hb'
    obtain ⟨_,_,rfl⟩:=hb
    obtain ⟨_,_,rfl⟩:=hb'
    exact haa
   exact this _ List.pairwise_lt_range
  ·exact zcE T _
 ·exact zcE T _

noncomputable def valOf : Value → Int
 | .int n _=>n
 | _=>0
structure SetE (es : Array (Int × Value)) (ns : List Int) : Prop where
 el : ∀ e ∈ es.toList,∃ n t,e.2 = Value.int n t ∧ e.1 = hashInt n
 pm : (es.toList.map fun e=>valOf e.2).Perm ns
 nd : ns.Nodup
noncomputable def SetI (L : Bool) (h : Heap) (a : Addr) (ns : List Int) : Prop:=∃ o es ep t,h.get? a = some o ∧ o.ExactSet ∧ o.data = .set es ep t ∧ t.fits es.size = true ∧ Tab L t ∧ SetE es ns
theorem SetE.size {es : Array (Int × Value)} {ns : List Int} (h : SetE es ns) : es.size = ns.length:=by rw [← h.pm.length_eq,List.length_map,Array.length_toList]
theorem SetE.elems {prog : Program} {w : World} {es : Array (Int × Value)} {ns : List Int} (h : SetE es ns) : ElemsOf (intKind prog w) es.toList:=fun e he=>by
 obtain ⟨n,t,e1,e2⟩:=h.el e he
 exact ⟨⟨n,by rw [e1]; show (n == n) = true; simp,e2⟩,by rw [e1]; rfl⟩
theorem SetE.scan {es : Array (Int × Value)} {ns : List Int} (h : SetE es ns) (hn : ns.length < scanBound) {k : Int} {tk : Tok} : byScan (.int k tk) es = true:=by
 unfold byScan
 rw [show (Value.int k tk).scannable = true from rfl,Bool.true_and,Bool.and_eq_true,decide_eq_true_eq,Array.all_eq_true']
 refine ⟨by rw [h.size]; exact hn,fun e he=>?_⟩
 obtain ⟨n,t,e1,_⟩:=h.el e (Array.mem_toList_iff.mpr he)
 rw [e1]; rfl
theorem SetE.perm {es es' : Array (Int × Value)} {ns : List Int} (h : SetE es ns) (p : es'.toList.Perm es.toList) : SetE es' ns:=⟨fun e he=>h.el e (p.mem_iff.mp he),(p.map _).trans h.pm,h.nd⟩
theorem SetE.cons {es es' : Array (Int × Value)} {ns : List Int} {k : Int} {t : Tok} (h : SetE es ns) (hk : k ∉ ns) (p : es'.toList.Perm (es.push (hashInt k,.int k t)).toList) : SetE es' (k :: ns):=by
 refine SetE.perm (es:=es.push (hashInt k,.int k t)) ⟨fun e he=>?_,?_,List.nodup_cons.mpr ⟨hk,h.nd⟩⟩ p
 ·rw [Array.toList_push] at he
  rcases List.mem_append.mp he with z | z
  ·exact h.el e z
  ·rw [List.mem_singleton.mp z]; exact ⟨k,t,rfl,rfl⟩
 ·rw [Array.toList_push,List.map_append]
  exact (List.perm_append_comm).trans (List.Perm.cons k h.pm)
theorem SetE.find {prog : Program} {w : World} {es : Array (Int × Value)} {ns : List Int} (h : SetE es ns) (k : Int) : (es.toList.findIdx? fun e=>(intKind prog w).is k e.2) = none ↔ k ∉ ns:=by
 rw [List.findIdx?_eq_none_iff]
 have key : ∀ e ∈ es.toList,((intKind prog w).is k e.2 = true ↔ valOf e.2 = k):=fun e he=>by
  obtain ⟨n,t,e1,_⟩:=h.el e he
  rw [e1]
  show (n == k) = true ↔ n = k
  exact beq_iff_eq
 constructor
 ·intro q hk
  obtain ⟨e,he,ev⟩:=List.mem_map.mp (h.pm.mem_iff.mpr hk)
  have:=q e he
  rw [(key e he).mpr ev] at this
  cases this
 ·intro q e he
  cases c : (intKind prog w).is k e.2 with
  | false=>rfl
  | true=>exact absurd (h.pm.mem_iff.mp (List.mem_map.mpr ⟨e,he,(key e he).mp c⟩)) q
section
variable {prog : Program} {w : World} {A : Around} {E : Value → Shared → Prop} {s : Shared} {L : Bool} {a : Addr} {ns : List Int}
theorem zgP {h : Heap} {o : Obj} {es es' : Array (Int × Value)} {ep : Nat} {t t' : SetTable} {ns' : List Int} (ho : h.get? a = some o) (x : o.ExactSet) (hd : o.data = .set es ep t) (ht : Tab L t') (hf : t'.fits es'.size = true) (he : SetE es' ns') :
  SetI L (h.update a (Obj.putSet es' t')) a ns' ∧ Heap.SameBut a h (h.update a (Obj.putSet es' t')):=by
 refine ⟨⟨_,es',ep + 1,t',Heap.get?_update_self _ ho (by rw [putSet_of es' t' hd]; rfl),?_,?_,hf,ht,he⟩,Heap.SameBut.update ..⟩
 ·rw [putSet_of es' t' hd]; exact x
 ·rw [putSet_of es' t' hd]
theorem zmF {g : Bool → Sem Unit} (hg : ∀ (b : Bool) (s₁ : Shared) (Q' : Unit → Shared → Prop),Q' () s₁ → wpAny (model prog w) A (g b) Q' E s₁) {o : Obj} {es es1 : Array (Int × Value)} {ep : Nat} {t t1 : SetTable} {wd gv : Bool} {R : Option Bool → Shared → Prop}
  (ho : s.heap.get? a = some o) (x : o.ExactSet) (hd : o.data = .set es ep t) (ht : Tab L t1) (hf : t1.fits es1.size = true) (he : SetE es1 ns) (hz : es1.size ≤ sizeLine) (hR : ∀ h',Heap.SameBut a s.heap h' → SetI L h' a ns → R (some true) { s with heap:=h' }) :
  wpAny (model prog w) A (do
   g gv
   storeSet a es1 t1
   if (!wd && t1.tooFull) = true then do
     g (relayAll t1 es1 (SetTable.grown es1.size)).2.2
     storeSet a (relayAll t1 es1 (SetTable.grown es1.size)).1 (relayAll t1 es1 (SetTable.grown es1.size)).2.1
     pure (some true)
    else pure (some true)) R E s:=by
 refine wpAny_bind (hg _ _ _ (wpAny_bind (wpAny_storeSet_of ho hd ?_ hz)))
 obtain ⟨i1,s1⟩:=zgP ho x hd ht hf he
 by_cases c : (!wd && t1.tooFull) = true
 ·rw [if_pos c]
  refine wpAny_bind (hg _ _ _ ?_)
  obtain ⟨o1,es1',ep1,t1',ho1,x1,hd1,hf1,ht1,he1⟩:=id i1
  have pr:=relayAll_perm t1 es1 (SetTable.grown es1.size)
  refine wpAny_bind (wpAny_storeSet_of (s:={ s with heap:=_ }) ho1 hd1 (wpAny_pure ?_) (by rw [← Array.length_toList,pr.length_eq,Array.length_toList]; exact hz))
  obtain ⟨i2,s2⟩:=zgP ho1 x1 hd1 (zjZ ht es1 (SetTable.grown es1.size)) (relayAll_fits t1 es1 _) (he.perm pr)
  exact hR _ (s1.trans s2) i2
 ·rw [if_neg c]
  exact wpAny_pure (hR _ s1 i1)
theorem zoo {k : Int} {tk : Tok} {Q : Bool → Shared → Prop} (hI : SetI L s.heap a ns) (hn : ns.length + 1 < scanBound)
  (hQ : ∀ b h',Heap.SameBut a s.heap h' → SetI L h' a (if k ∈ ns then ns else k :: ns) → Q b { s with heap:=h' }) : wpAny (model prog w) A (setAddHashed a (.int k tk) (hashInt k)) Q E s:=by
 obtain ⟨o,es,ep,t,ho,x,hd,hf,ht,he⟩:=id hI
 unfold setAddHashed
 refine wpAny_holding ?_
 rw [setAddHashedIn.eq_def]
 show wpAny _ _ (setState a >>= _) _ _ s
 refine wpAny_bind (wpAny_setState_of ho hd hf ?_)
 dsimp only
 rw [if_pos (he.scan (by omega))]
 refine wpAny_bind ?_
 unfold setAddByScan
 refine wpAny_bind (wpAny_rule (wpAny_bind (wpAny_setScan_of (knd:=intKind prog w) (k:=k) (by show (k == k) = true; simp) ho hd hf he.elems ?_)))
 cases c : es.toList.findIdx? fun e=>(intKind prog w).is k e.2 with
 | some j =>
  have hk : k ∈ ns:=by
   by_cases hk : k ∈ ns
   ·exact hk
   ·rw [(he.find k).mpr hk] at c; cases c
  refine wpAny_pure (wpAny_pure (hQ _ _ (.refl ..) ?_))
  rw [if_pos hk]; exact hI
 | none =>
  have hk : k ∉ ns:=(he.find k).mp c
  rw [if_neg hk] at hQ
  dsimp only
  have hp:=layNew_perm t es (hashInt k) (.int k tk)
  have hf1:=layNew_fits t es (hashInt k) (.int k tk)
  have ht1:=zmE ht es (hashInt k) (.int k tk)
  generalize layNew t es (hashInt k) (.int k tk) = q at hp hf1 ht1
  obtain ⟨es1,t1,wd,gv⟩:=q
  have he1:=he.cons hk hp
  dsimp only at hf1 ht1 ⊢
  simp only [hashByValue.eq_3,pure_bind,if_true,ite_self]
  exact zmF (fun b s₁ Q' h=>by cases b <;> first | exact wpAny_pure h | exact wpAny_rule h) ho x hd ht1 hf1 he1 (by rw [he1.size]; exact Nat.le_trans (Nat.le_of_lt hn) (by decide)) fun h' hs hi=>wpAny_pure (hQ _ _ hs hi)
end
end DSt

end
section
set_option Elab.async false
set_option linter.all false
set_option maxRecDepth 100000
set_option maxHeartbeats 4000000
namespace DSt
open PySem PySem.Spec PyProof.Rows
open Sem (wp)
open AutoSeq1 (wpAny_loadPart')
section
variable {prog : Program} {w : World} {A : Around} {E : Value → Shared → Prop} {s : Shared}
theorem zmG (a : Value) {Q₁ : Value → Shared → Prop} (h : Q₁ (.ref s.heap.objs.size) { s with heap:=s.heap.push { cls:=.type "set",data:=.set #[] 0 (SetTable.fresh 0 0 (!w.params.followText "set-order")) } }) :
  codeAny (model prog w) A (.call (.builtin "set.__new__") ⟨[.type "set",a],[]⟩) (wants Q₁ E) s:=by
 refine codeAny_of_tree ?_
 refine wpAny_bind (wpAny_of_eq (F.newCall_set_1 a) (wpAny_pure ⟨plainId_quiet F.plain_set_new _,codeAny_builtin F.entry_set_new ?_⟩))
 rw [Around.under_plainId F.plain_set_new _]
 have hsub:=sub_set_self
 show wpAny _ _ (Builtin.Frozenset.newClass "set" ⟨[.type "set",a],[]⟩ >>= _) _ _ s
 refine wpAny_bind ?_
 unfold Builtin.Frozenset.newClass
 refine wpAny_bind (wpAny_pure ?_)
 refine wpAny_ite_false rfl ?_
 refine wpAny_bind (wpAny_of_eq hsub ?_)
 refine wpAny_ite_false rfl ?_
 refine wpAny_pure (wpAny_bind ?_)
 unfold newSet
 refine wpAny_bind ?_
 unfold setsByText
 refine wpAny_bind (wpAny_askSetting (wpAny_pure ?_))
 dsimp only
 exact wpAny_newObj_type (wpAny_pure h)

noncomputable def met (val : Nat → Int) : Nat → List Int
 | 0=>[]
 | i + 1=>if val i ∈ met val i then met val i else val i :: met val i
theorem met_len (val : Nat → Int) : ∀ i,(met val i).length ≤ i
 | 0=>Nat.le_refl _
 | i + 1=>by
  have:=met_len val i
  unfold met
  split
  ·omega
  ·rw [List.length_cons]; omega
theorem SetI.at {L : Bool} {h h' : Heap} {a : Addr} {ns : List Int} (x : SetI L h a ns) (e : ∀ o,h.get? a = some o → h'.get? a = some o) : SetI L h' a ns:=let ⟨o,es,ep,t,ho,r⟩:=x; ⟨o,es,ep,t,e o ho,r⟩
theorem zic {L : Bool} {R : Result → Shared → Prop} {I : Addr} {fp wr : List Addr} {n : Nat} {P : Nat → Value → Prop} {St : Nat → Heap → Prop} (W : Walks prog w A.in1 I fp wr n P St) (S : Addr) (hS : S ∉ fp) (val : Nat → Int) (hv : ∀ i v,P i v → ∃ t,v = Value.int (val i) t) (hn : n + 1 < scanBound) :
  ∀ (k i : Nat) (s : Shared),n - i = k → i ≤ n → St i s.heap → SetI L s.heap S (met val i) → (∀ h' tk,(∀ b o,b ∉ S :: wr → s.heap.get? b = some o → h'.get? b = some o) → SetI L h' S (met val n) → R (.ok (.ret .none)) { s with heap:=h',toks:=tk }) →
   codeAny (model prog w) A (.builtin "set.update.loop" ⟨[.ref S,.ref I],[]⟩) R s
 | 0,i,s,hk,hi,st,si,hR=>by
  have e : i = n:=by omega
  subst e
  refine codeAny_builtin F.entry_set_update_loop ?_
  rw [Around.under_plainId F.plain_set_update_loop _]
  show wpAny _ A.in1 (pyNext (.ref I) >>= _) _ _ s
  refine wpAny_bind (W.done s _ _ st fun h' tk fr=>?_)
  exact wpAny_pure (hR h' tk (fun b o hb e=>fr b o (fun z=>hb (List.mem_cons_of_mem _ z)) e) (si.at fun o e=>fr S o (fun z=>hS (W.sub _ z)) e))
 | k + 1,i,s,hk,hi,st,si,hR=>by
  refine codeAny_builtin F.entry_set_update_loop ?_
  rw [Around.under_plainId F.plain_set_update_loop _]
  show wpAny _ A.in1 (pyNext (.ref I) >>= _) _ _ s
  refine wpAny_bind (W.item i s _ _ (by omega) st fun v h' tk pv st' fr=>?_)
  obtain ⟨t,rfl⟩:=hv i v pv
  have hSw : S ∉ wr:=fun z=>hS (W.sub _ z)
  refine wpAny_bind (wpAny_holding ?_)
  unfold setAdd
  refine wpAny_holding (wpAny_bind ((intKind prog w).pyHash (k:=val i) (by show (val i == val i) = true; simp) ?_))
  have ml:=met_len val i
  refine zoo (L:=L) (ns:=met val i) (s:={ s with heap:=h',toks:=tk + 1 }) (si.at fun o e=>fr S o hSw e) (by omega) fun b h'' sb si'=>?_
  refine wpAny_pure ⟨plainId_quiet F.plain_set_update_loop _,?_⟩
  refine zic W S hS val hv hn k (i + 1) _ (by omega) (by omega) (W.frame (i + 1) h' h'' st' fun b hb o e=>(sb.2 b fun z=>hS (z ▸ hb)).trans e) si' fun h3 tk3 fr3 si3=>hR h3 tk3 (fun b o hb e=>?_) si3
  exact fr3 b o hb ((sb.2 b fun z=>hb (z ▸ List.mem_cons_self)).trans (fr b o (fun z=>hb (List.mem_cons_of_mem _ z)) e))
theorem call_set_tup {t : Addr} {items : Array Value} {ns : List Int} {Q : Value → Shared → Prop} (hh : A.handled = none) (ht : s.heap.IsTuple t items) (hi : IntsAre items.toList ns) (hn : items.size + 1 < scanBound)
  (hQ : ∀ h' tk,SetI (!w.params.followText "set-order") h' s.heap.objs.size (met (fun i=>ns.getD i 0) items.size) → (∀ b o,s.heap.get? b = some o → h'.get? b = some o) → Q (.ref s.heap.objs.size) { s with heap:=h',toks:=tk }) :
  wpAny (model prog w) A (call (.type "set") [.ref t]) Q E s:=by
 obtain ⟨c,tl,hmro⟩:=F.called_set.mro
 have hmade:=F.called_set.made
 have hsub:=F.called_set.sub
 refine wpAny_call (codeAny_of_tree (wpAny_pure ⟨Code.quiet_builtin _ (by decide +kernel),codeAny_builtin F.entry_type_call ?_⟩))
 rw [Around.under_plain (weight_type_call_type "set" [.ref t] []) rfl]
 have hcc:=F.called_set.canCreate
 unfold Builtin.«type.__call__»
 dsimp only [List.cons_append,List.nil_append]
 rw [if_neg (by decide),hcc,if_neg (by decide)]
 refine wpAny_bind (wpAny_of_eq (F.typeCall_set_1 (.ref t)) (wpAny_bind (wpAny_of_eq hmro (wpAny_ite_false rfl (wpAny_bind (wpAny_of_eq hmade (wpAny_bind (wpAny_pure (wpAny_bind (wpAny_holding (wpAny_call ?_)))))))))))
 refine codeAny_mono (zmG (E:=E) (.ref t) (Q₁:=fun obj s₁=>obj = .ref s.heap.objs.size ∧ s₁ = { s with heap:=s.heap.push { cls:=.type "set",data:=.set #[] 0 (SetTable.fresh 0 0 (!w.params.followText "set-order")) } }) ⟨rfl,rfl⟩) fun r s₁ hr=>?_
 cases r with
 | error e=>exact hr
 | ok f =>
  cases f with
  | next=>exact hr.elim
  | brk=>exact hr.elim
  | cont=>exact hr.elim
  | ret v =>
   obtain ⟨rfl,rfl⟩:=hr
   have hS:=Heap.get?_push_size s.heap (o:={ cls:=.type "set",data:=.set #[] 0 (SetTable.fresh 0 0 (!w.params.followText "set-order")) }) rfl
   have hT : Shared.TypeIs { s with heap:=s.heap.push { cls:=.type "set",data:=.set #[] 0 (SetTable.fresh 0 0 (!w.params.followText "set-order")) } } (.ref s.heap.objs.size) "set":=⟨_,hS,rfl⟩
   refine wpAny_bind (wpAny_isInstance hT hsub (wpAny_ite_false rfl (wpAny_bind (wpAny_holding ?_))))
   refine wpAny_bind (wpAny_specialOf hT F.called_set.init.lookup (wpAny_holding (wpAny_bind (wpAny_of_eq (F.called_set.init.bind (.ref s.heap.objs.size)) (wpAny_bind (wpAny_call ?_))))))
   refine codeAny_mono (codeAny_call_builtin (R:=wants (fun r s₂=>r = Value.none ∧ Q (.ref s.heap.objs.size) s₂) E) F.called_set.init.plain F.entry_set_init (check_set_init_1 hT ?_)) fun r s₂ hr=>?_
   ·obtain ⟨ot,hto,htc,htd⟩:=id ht
    have hto':=Heap.get?_push_of_some (h:=s.heap) { cls:=.type "set",data:=.set #[] 0 (SetTable.fresh 0 0 (!w.params.followText "set-order")) } hto
    have hTt : Shared.TypeIs { s with heap:=s.heap.push { cls:=.type "set",data:=.set #[] 0 (SetTable.fresh 0 0 (!w.params.followText "set-order")) } } (.ref t) "tuple":=⟨_,hto',htc⟩
    have hs1 : isSubtype (.type "tuple") (.type "set") = pure false:=by rw [isSubtype_type]; kernel_rfl
    have hs2 : isSubtype (.type "tuple") (.type "frozenset") = pure false:=by rw [isSubtype_type]; kernel_rfl
    unfold Builtin.«set.__init__»
    have ht1 : (s.heap.push { cls:=.type "set",data:=.set #[] 0 (SetTable.fresh 0 0 (!w.params.followText "set-order")) }).IsTuple t items:=⟨_,hto',htc,htd⟩
    wp_walk using wpAny_typeOf hT,wpAny_load hS,wpAny_typeOf hTt,wpAny_loadPart' hto',wpAny_pyIter_tuple ht1
    have hlt : t < s.heap.objs.size:=Heap.lt_size hto
    have sz : (s.heap.push { cls:=.type "set",data:=.set #[] 0 (SetTable.fresh 0 0 (!w.params.followText "set-order")) }).objs.size = s.heap.objs.size + 1:=Heap.size_push ..
    show codeAny _ _ (.builtin "set.update.loop" ⟨[.ref s.heap.objs.size,.ref (s.heap.push { cls:=.type "set",data:=.set #[] 0 (SetTable.fresh 0 0 (!w.params.followText "set-order")) }).objs.size],[]⟩) _ _
    generalize hI : (s.heap.push { cls:=.type "set",data:=.set #[] 0 (SetTable.fresh 0 0 (!w.params.followText "set-order")) }).objs.size = I at *
    have hneI : t ≠ I:=Nat.ne_of_lt (by rw [sz]; exact Nat.lt_succ_of_lt hlt)
    have hSI : s.heap.objs.size ≠ I:=Nat.ne_of_lt (by rw [sz]; exact Nat.lt_succ_self _)
    have hSt : s.heap.objs.size ≠ t:=Nat.ne_of_gt hlt
    refine zic (L:=!w.params.followText "set-order") (Walks.tuple (A:=A.in1.in1.in1) hh I t hneI items) s.heap.objs.size (by simp [hSI,hSt]) (fun i=>ns.getD i 0) (fun i v pv=>?_) hn items.size 0 _ (by omega) (Nat.zero_le _) ⟨?_,?_⟩ ?_ fun h' tk fr si=>?_
    ·exact IntsAre.int_at hi i v (by rw [Array.getElem?_toList]; exact pv)
    ·subst hI
     exact ⟨_,Heap.get?_push_size _ rfl,rfl,rfl⟩
    ·exact ⟨_,Heap.get?_push_of_some _ hto',htc,htd⟩
    ·exact ⟨_,#[],0,_,Heap.get?_push_of_some _ hS,⟨rfl,rfl,rfl⟩,rfl,rfl,⟨List.Pairwise.nil,rfl,rfl⟩,⟨fun e he=>(nomatch he),.nil,List.nodup_nil⟩⟩
    ·refine wpAny_pure (wpAny_pure ⟨rfl,hQ h' tk si fun b o e=>?_⟩)
     have hb:=Heap.lt_size e
     exact fr b o (by simp only [List.mem_cons,List.not_mem_nil,or_false,not_or]; exact ⟨Nat.ne_of_lt hb,Nat.ne_of_lt (by rw [sz]; exact Nat.lt_succ_of_lt hb)⟩) (Heap.get?_push_of_some _ (Heap.get?_push_of_some _ e))
   ·cases r with
    | error e=>exact hr
    | ok f =>
     cases f with
     | next=>exact hr.elim
     | brk=>exact hr.elim
     | cont=>exact hr.elim
     | ret v =>
      obtain ⟨rfl,hr⟩:=hr
      exact wpAny_pure (wpAny_ite_false rfl (wpAny_pure hr))
end
end DSt

end
section
set_option Elab.async false
set_option linter.all false
set_option maxRecDepth 100000
set_option maxHeartbeats 4000000
namespace DSt
open PySem PySem.Spec PyProof.Rows
open Sem (wp)
open AutoSeq1 (wpAny_loadPart')
theorem n_iter : entryFor table "set.__iter__" = some Builtin.«frozenset.__iter__» :=
 entryFor_alias (id':="frozenset.__iter__") (by kernel_rfl) (by first | rfl | decide +kernel | (unfold String.splitOn; simp +decide [String.splitOnAux])) (by decide +kernel) (by kernel_rfl)
theorem s_next : Slot "set_iterator" "__next__" "set_iterator.__next__" :=
 .of (owner:="set_iterator") (n:="__next__") (by rw [typeLookup_type,builtinLookup_eq_fast]; kernel_rfl) (by decide +kernel) (by decide +kernel) (by decide +kernel) (by first | exact .inl (by decide +kernel) | exact .inr (by decide +kernel)) (by rw [isSubtype_type]; kernel_rfl)
theorem n_next : entryFor table "set_iterator.__next__" = some Builtin.«set_iterator.__next__»:=entryFor_of_tree (by kernel_rfl)
theorem owner : Manifest.owners.lookup (String.ofList "rotareti_tes".toList.reverse) = some Manifest.sig_set_iterator:=by kernel_rfl
theorem a_next (a : Value) : argsOk "set_iterator.__next__" ⟨[a],[]⟩:=by
 unfold argsOk; rw [signature?_of (id:="set_iterator.__next__") (n:="__txen__".toList) (o:="rotareti_tes".toList) (by kernel_rfl) owner]; kernel_rfl
theorem zka : Slot "set_iterator" "__iter__" "set_iterator.__iter__" :=
 .of (owner:="set_iterator") (n:="__iter__") (by rw [typeLookup_type,builtinLookup_eq_fast]; kernel_rfl) (by decide +kernel) (by decide +kernel) (by decide +kernel) (by first | exact .inl (by decide +kernel) | exact .inr (by decide +kernel)) (by rw [isSubtype_type]; kernel_rfl)
theorem zop : entryFor table "set_iterator.__iter__" = some Builtin.«dict_keyiterator.__iter__» :=
 entryFor_alias (id':="dict_keyiterator.__iter__") (by kernel_rfl) (by first | rfl | decide +kernel | (unfold String.splitOn; simp +decide [String.splitOnAux])) (by decide +kernel) (by kernel_rfl)
theorem zoq (a : Value) : argsOk "set_iterator.__iter__" ⟨[a],[]⟩:=by
 unfold argsOk; rw [signature?_of (id:="set_iterator.__iter__") (n:="__reti__".toList) (o:="rotareti_tes".toList) (by kernel_rfl) owner]; kernel_rfl
theorem zdh {α : Type} : ∀ {l : List α} {i : Nat} (h : i < l.length),(l[i] :: l.eraseIdx i).Perm l
 | a :: l,0,_=>.refl _
 | a :: l,i + 1,h=>by
  have hi : i < l.length:=by simpa using h
  show (l[i] :: a :: l.eraseIdx i).Perm (a :: l)
  exact (List.Perm.swap a l[i] _).trans (List.Perm.cons a (zdh hi))
section
variable {prog : Program} {w : World} {A : Around} {E : Value → Shared → Prop} {s : Shared}
theorem zkb {src : Source} {n : Nat} {Q : Nat → Shared → Prop} (hn : 0 < n) (h : ∀ i d,i < n → Q i { s with drawn:=d }) : wpAny (model prog w) A (PySem.choose src n) Q E s:=by
 intro Γ p hin
 show Sem.wp (model prog w) Γ (Sem.choose src n Sem.pure) _ _ p s
 rw [Sem.wp_choose]
 exact ⟨Nat.ne_of_gt hn,h _ _ (Nat.mod_lt _ hn)⟩
theorem zid {α : Type} : ∀ (n : Nat) (xs : List α) (s : Shared) (Q : List α → Shared → Prop),n = xs.length → (∀ l d,l.Perm xs → Q l { s with drawn:=d }) → wpAny (model prog w) A (drawOrder n xs) Q E s
 | 0,xs,s,Q,hn,h=>by
  have e : xs = []:=List.eq_nil_of_length_eq_zero hn.symm
  subst e
  rw [drawOrder]
  exact wpAny_pure (h [] s.drawn (.refl _))
 | n + 1,[],s,Q,hn,h=>by cases hn
 | n + 1,x :: xs,s,Q,hn,h=>by
  rw [drawOrder]
  ·refine wpAny_bind (zkb (by simp) fun i d hi=>?_)
   rw [List.getElem?_eq_getElem hi]
   refine wpAny_bind (zid n _ _ _ (by rw [List.length_eraseIdx_of_lt hi]; simp at hn ⊢; omega) fun l d' hp=>?_)
   exact wpAny_pure (h _ d' ((List.Perm.cons _ hp).trans (zdh hi)))
  ·intro z; cases z
theorem zie {α : Type} (next : Nat → Nat) : ∀ (fuel k : Nat) (left : List α) (out : Array α),fuel = left.length → (pickOrder.go next fuel k left out).toList.Perm (out.toList ++ left)
 | 0,k,left,out,hf=>by
  have e : left = []:=List.eq_nil_of_length_eq_zero hf.symm
  subst e
  rw [pickOrder.go,List.append_nil]
 | fuel + 1,k,left,out,hf=>by
  rw [pickOrder.go]
  have hl : next k % left.length < left.length:=Nat.mod_lt _ (by omega)
  rw [List.getElem?_eq_getElem hl]
  dsimp only
  refine (zie next fuel (k + 1) _ _ (by rw [List.length_eraseIdx_of_lt hl]; omega)).trans ?_
  rw [Array.toList_push,List.append_assoc]
  exact List.Perm.append_left _ (zdh hl)
theorem zdG {α : Type} (next : Nat → Nat) (xs : Array α) : (pickOrder next xs).toList.Perm xs.toList:=by
 have:=zie next xs.size 0 xs.toList #[] (by simp)
 simpa [pickOrder] using this
noncomputable def itObj (first : Value) (i : Nat) (a : Addr) (n ep : Nat) : Obj:={ cls:=.type "set_iterator",data:=.fields #[first,rawInt i,.ref a,rawInt n,rawInt ep] }
noncomputable def IsIt (h : Heap) (I : Addr) (first : Value) (i : Nat) (a : Addr) (n ep : Nat) : Prop:=∃ o,h.get? I = some o ∧ o.cls = .type "set_iterator" ∧ o.data = .fields #[first,rawInt i,.ref a,rawInt n,rawInt ep]
theorem IsIt.typeIs {I a : Addr} {f : Value} {i n ep : Nat} (x : IsIt s.heap I f i a n ep) : s.TypeIs (.ref I) "set_iterator":=let ⟨o,ho,hc,_⟩:=x; ⟨o,ho,hc⟩
theorem iter_self {I a : Addr} {f : Value} {i n ep : Nat} {Q : Value → Shared → Prop} (hit : IsIt s.heap I f i a n ep) (h : Q (.ref I) s) : wpAny (model prog w) A (pyIter (.ref I)) Q E s:=by
 refine wpAny_pyIter_slot hit.typeIs zka (wpAny_call_entry zka hit.typeIs zop ?_ (zoq _))
 show wpAny _ _ (ret (.ref I)) _ _ s
 exact wpAny_pure ⟨_,rfl,"set_iterator",_,hit.typeIs,s_next.lookup,h⟩
theorem zll {a : Addr} {o : Obj} {es : Array (Int × Value)} {ep : Nat} {t : SetTable} {Q : Value → Shared → Prop} (ho : s.heap.get? a = some o) (x : o.ExactSet) (hd : o.data = .set es ep t) (hf : t.fits es.size = true) (hz : es.size ≤ sizeLine)
  (h1 : (w.params.followText "set-order" = true ∨ t.plain = true ∨ es.size ≤ 1) → Q (.ref s.heap.objs.size) { s with heap:=s.heap.push (itObj (rawInt 0) 0 a es.size ep) })
  (h2 : w.params.followText "set-order" = false → ∀ (l : List Nat) d,l.Perm (List.range es.size) → Q (.ref (s.heap.objs.size + 1)) { s with heap:=(s.heap.push { cls:=.type "tuple",data:=.seq (l.map fun i=>rawInt (i : Nat)).toArray }).push (itObj (.ref s.heap.objs.size) 0 a es.size ep),drawn:=d }) :
  wpAny (model prog w) A (pyIter (.ref a)) Q E s:=by
 have hT : s.TypeIs (.ref a) "set":=⟨o,ho,x.1⟩
 refine wpAny_pyIter_slot hT F.slot_set_iter (wpAny_call_entry F.slot_set_iter hT n_iter ?_ (F.args_set_iter_1 _))
 unfold Builtin.«frozenset.__iter__»
 refine wpAny_bind (wpAny_of_eq (a:=a) rfl ?_)
 unfold Builtin.Frozenset.sizeOf
 refine wpAny_bind (wpAny_bind (wpAny_setEntries_of ho hd hf (wpAny_pure ?_)))
 unfold setDrawn
 refine wpAny_bind (wpAny_bind (wpAny_setState_of ho hd hf ?_))
 dsimp only
 unfold setsByText
 refine wpAny_bind (wpAny_bind (wpAny_askSetting (wpAny_pure (wpAny_pure ?_))))
 show wpAny _ _ (if (!w.params.followText "set-order" && (!t.plain && decide (es.size > 1))) = true then _ else _) _ _ s
 have szt : ∀ ob : Obj,(s.heap.push ob).objs.size = s.heap.objs.size + 1:=fun ob=>Heap.size_push ..
 by_cases c : (!w.params.followText "set-order" && (!t.plain && decide (es.size > 1))) = true
 ·rw [if_pos c]
  simp only [Bool.and_eq_true,Bool.not_eq_true',decide_eq_true_eq] at c
  refine wpAny_bind (zid _ _ _ _ (by simp) fun l d hp=>wpAny_bind (wpAny_newTuple ?_ (by rw [List.length_map,hp.length_eq,List.length_range]; exact hz)))
  have ho1:=Heap.get?_push_of_some (h:=s.heap) { cls:=.type "tuple",data:=.seq (l.map fun i=>rawInt (i : Nat)).toArray } ho
  refine wpAny_bind (wpAny_setEpoch_of (s:={ s with heap:=_,drawn:=d }) ho1 hd hf (wpAny_bind ?_))
  unfold newFields
  refine wpAny_newObj_type (wpAny_pure ⟨_,rfl,"set_iterator",_,⟨_,Heap.get?_push_size _ rfl,rfl⟩,s_next.lookup,?_⟩)
  have:=h2 c.1 l d hp
  show Q (.ref (s.heap.push _).objs.size) _
  rw [szt]
  exact this
 ·rw [if_neg c]
  refine wpAny_bind (wpAny_pure (wpAny_bind (wpAny_setEpoch_of ho hd hf (wpAny_bind ?_))))
  unfold newFields
  refine wpAny_newObj_type (wpAny_pure ⟨_,rfl,"set_iterator",_,⟨_,Heap.get?_push_size _ rfl,rfl⟩,s_next.lookup,?_⟩)
  refine h1 ?_
  cases c1 : w.params.followText "set-order" with
  | true=>exact .inl rfl
  | false =>
   cases c2 : t.plain with
   | true=>exact .inr (.inl rfl)
   | false =>
    rw [c1,c2] at c
    simp at c
    exact .inr (.inr c)

theorem zkc {a : Addr} {o : Obj} {es : Array (Int × Value)} {ep i sl : Nat} {t : SetTable} {Q : Option (Value × Nat) → Shared → Prop} (hT : w.params.followText "set-order" = false) (ho : s.heap.get? a = some o) (hd : o.data = .set es ep t) (hf : t.fits es.size = true) (T : Tab true t) (hp : t.plain = true ∨ es.size ≤ 1)
  (hs : SetTable.below t.place sl = i) (hQ : Q (match es[i]?,t.place[i]? with | some e,some j=>some (e.2,j + 1) | _,_=>none) s) : wpAny (model prog w) A (setNext a sl i ep) Q E s:=by
 unfold setNext
 refine wpAny_bind (wpAny_setState_of ho hd hf ?_)
 dsimp only
 unfold setsByText
 refine wpAny_bind (wpAny_bind (wpAny_askSetting (wpAny_pure ?_)))
 show wpAny _ _ (if w.params.followText "set-order" = true then _ else _) _ _ s
 rw [hT,if_neg (by decide)]
 show wpAny _ _ (if (!t.plain && decide (es.size > 1)) = true then _ else _) _ _ s
 rw [if_neg (by
  rcases hp with e | e
  ·rw [e]; simp
  ·rw [decide_eq_false (by omega)]; simp)]
 refine wpAny_bind ?_
 show wpAny _ _ (if (!t.led && !es.isEmpty) = true then _ else pure ()) _ _ s
 rw [T.led,if_neg (by simp)]
 refine wpAny_pure ?_
 rw [hs]
 refine wpAny_pure ?_
 cases c1 : es[i]? with
 | none=>rw [c1] at hQ; exact hQ
 | some e =>
  cases c2 : t.place[i]? with
  | none=>rw [c1,c2] at hQ; exact hQ
  | some j=>rw [c1,c2] at hQ; exact hQ
theorem zkd {a : Addr} {o : Obj} {es : Array (Int × Value)} {ep i : Nat} {t : SetTable} {Q : Option (Value × Nat) → Shared → Prop} (hT : w.params.followText "set-order" = true) (ho : s.heap.get? a = some o) (hd : o.data = .set es ep t) (hf : t.fits es.size = true)
  (hQ : Q (((pickOrder (w.params.setOrder a ep) es)[i]?).map fun e=>(e.2,0)) s) : wpAny (model prog w) A (setNext a 0 i ep) Q E s:=by
 unfold setNext
 refine wpAny_bind (wpAny_setState_of ho hd hf ?_)
 dsimp only
 unfold setsByText
 refine wpAny_bind (wpAny_bind (wpAny_askSetting (wpAny_pure ?_)))
 show wpAny _ _ (if w.params.followText "set-order" = true then _ else _) _ _ s
 rw [hT,if_pos rfl,if_neg (by simp)]
 unfold setWalk
 refine wpAny_bind (wpAny_bind (wpAny_setState_of ho hd hf ?_))
 dsimp only
 unfold setsByText
 refine wpAny_bind (wpAny_bind (wpAny_askSetting (wpAny_pure ?_)))
 show wpAny _ _ (if w.params.followText "set-order" = true then _ else _) _ _ s
 rw [hT,if_pos rfl]
 exact wpAny_bind (wpAny_askSetting (wpAny_pure (wpAny_pure hQ)))
theorem zif {I a : Addr} {o : Obj} {es : Array (Int × Value)} {ep i n sl : Nat} {t : SetTable} {v : Value} {sl' : Nat} {Q : Option Value → Shared → Prop} (hit : IsIt s.heap I (rawInt sl) i a n ep) (hn : es.size = n) (ho : s.heap.get? a = some o) (hd : o.data = .set es ep t) (hf : t.fits es.size = true)
  (hN : ∀ {A : Around} {E : Value → Shared → Prop} {Q : Option (Value × Nat) → Shared → Prop},Q (some (v,sl')) s → wpAny (model prog w) A (setNext a sl i ep) Q E s)
  (hQ : ∀ h',IsIt h' I (rawInt sl') (i + 1) a n ep → Heap.SameBut I s.heap h' → Q (some v) { s with heap:=h' }) : wpAny (model prog w) A (pyNext (.ref I)) Q E s:=by
 obtain ⟨oi,hoi,hc,hdi⟩:=id hit
 unfold pyNext
 refine wpAny_bind (wpAny_attempt (wpAny_callSpecial?_slot (name:=Str.ofString "__next__") hit.typeIs s_next
  (wpAny_call_entry s_next hit.typeIs n_next ?_ (a_next _))))
 unfold Builtin.«set_iterator.__next__»
 refine wpAny_bind (wpAny_of_eq (a:=(Value.ref I,[])) rfl ?_)
 dsimp only
 refine wpAny_bind (wpAny_fieldsOf hoi hdi ?_)
 show wpAny _ _ (setEntries a >>= _) _ _ s
 refine wpAny_bind (wpAny_setEntries_of ho hd hf ?_)
 rw [if_neg (by simp [hn])]
 show wpAny _ _ (setNext a sl i ep >>= _) _ _ s
 refine wpAny_bind (hN ?_)
 dsimp only
 refine wpAny_bind (wpAny_setField hoi hdi (by simp) ?_)
 have ho1:=Heap.get?_update_self (Obj.mapFields (·.setIfInBounds 0 (rawInt (sl' : Nat)))) hoi (Obj.isFreed_of_fields (Obj.data_mapFields hdi _))
 have hd1:=Obj.data_mapFields hdi (·.setIfInBounds 0 (rawInt (sl' : Nat)))
 refine wpAny_bind (wpAny_setField (s:={ s with heap:=_ }) ho1 hd1 (by simp) ?_)
 have ho2:=Heap.get?_update_self (Obj.mapFields (·.setIfInBounds 1 (rawInt ((i : Int) + 1)))) ho1 (Obj.isFreed_of_fields (Obj.data_mapFields hd1 _))
 have hd2:=Obj.data_mapFields hd1 (·.setIfInBounds 1 (rawInt ((i : Int) + 1)))
 refine wpAny_pure ⟨v,rfl,wpAny_pure (hQ _ ⟨_,ho2,?_,?_⟩ ?_)⟩
 ·rw [Obj.cls_mapFields,Obj.cls_mapFields]; exact hc
 ·rw [hd2]; simp
 ·exact (Heap.SameBut.update ..).trans (Heap.SameBut.update ..)
theorem zig {m : Sem PySem.Fin} {Q : Option Value → Shared → Prop} (hh : A.handled = none) {I : Addr} {i : Nat} {vs : Array Value} {oi : Obj} (hoi : s.heap.get? I = some oi) (hdi : oi.data = .fields vs) (hi : 2 < vs.size) (e : m = (do
   setField (Value.ref I) 2 Value.none
   let x ← newExc (Value.type "StopIteration") []
   raiseNew x)) (hQ : ∀ h',Heap.ExtBut I s.heap h' → Q none { s with heap:=h' }) :
  wpAny (model prog w) A.in1 m (fun fin s'=>∃ v,fin = Fin.done (Flow.ret v) ∧ False) (fun e s₁=>wpAny (model prog w) A (do
   let b ← isInstance e (.type "StopIteration")
   if b = true then pure none else throw e) Q E s₁) s:=by
 subst e
 refine wpAny_bind (wpAny_setField hoi hdi hi ?_)
 refine wpAny_bind ?_
 simp only [newExc,newTuple]
 refine wpAny_bind (wpAny_newObj_type ?_ (by size_fits))
 refine wpAny_bind (m:=firstArgMember _ _) (wpAny_of_eq (a:=Value.none) (by first | rfl | (simp only [firstArgMember]; rfl)) ?_)
 refine wpAny_newObj_type ?_ (by size_fits)
 simp only [raiseNew]
 refine wpAny_bind (wpAny_handled ?_)
 first | rw [show A.in1.handled = none from hh] | rw [hh]
 refine wpAny_bind (wpAny_pure (wpAny_throw ?_))
 refine wpAny_bind (wpAny_isInstance (T:="StopIteration") (b:=true) ⟨_,Heap.get?_push_size _ rfl,rfl⟩ isSubtype_stop ?_)
 refine wpAny_pure (hQ _ ?_)
 have ext : Heap.ExtBut I s.heap (s.heap.update I (Obj.mapFields fun x=>x.setIfInBounds 2 Value.none)):=fun b ob hb e=>(Heap.get?_update_other _ _ (Ne.symm hb)).trans e
 exact (ext.push _).push _
theorem zih {I a : Addr} {o : Obj} {es : Array (Int × Value)} {ep i n sl : Nat} {t : SetTable} {Q : Option Value → Shared → Prop} (hh : A.handled = none) (hit : IsIt s.heap I (rawInt sl) i a n ep) (hn : es.size = n) (ho : s.heap.get? a = some o) (hd : o.data = .set es ep t) (hf : t.fits es.size = true)
  (hN : ∀ {A : Around} {E : Value → Shared → Prop} {Q : Option (Value × Nat) → Shared → Prop},Q none s → wpAny (model prog w) A (setNext a sl i ep) Q E s)
  (hQ : ∀ h',Heap.ExtBut I s.heap h' → Q none { s with heap:=h' }) : wpAny (model prog w) A (pyNext (.ref I)) Q E s:=by
 obtain ⟨oi,hoi,hc,hdi⟩:=id hit
 unfold pyNext
 refine wpAny_bind (wpAny_attempt (wpAny_callSpecial?_slot (name:=Str.ofString "__next__") hit.typeIs s_next
  (wpAny_call_entry s_next hit.typeIs n_next ?_ (a_next _))))
 unfold Builtin.«set_iterator.__next__»
 refine wpAny_bind (wpAny_of_eq (a:=(Value.ref I,[])) rfl ?_)
 dsimp only
 refine wpAny_bind (wpAny_fieldsOf hoi hdi ?_)
 show wpAny _ _ (setEntries a >>= _) _ _ s
 refine wpAny_bind (wpAny_setEntries_of ho hd hf ?_)
 rw [if_neg (by simp [hn])]
 show wpAny _ _ (setNext a sl i ep >>= _) _ _ s
 refine wpAny_bind (hN ?_)
 exact wpAny_mono (zig (i:=i) hh hoi hdi (by simp) rfl hQ) (fun _ _ ⟨_,_,z⟩=>z.elim) fun _ _ z=>z
theorem zor {a : Addr} {o : Obj} {es : Array (Int × Value)} {ep j : Nat} {t : SetTable} {e : Int × Value} {Q : Value → Shared → Prop} (ho : s.heap.get? a = some o) (hd : o.data = .set es ep t) (hf : t.fits es.size = true) (he : es[j]? = some e)
  (hQ : Q e.2 s) : wpAny (model prog w) A (setNextDrawn a j ep) Q E s:=by
 unfold setNextDrawn
 refine wpAny_bind (wpAny_setState_of ho hd hf ?_)
 dsimp only
 rw [if_neg (by simp),he]
 exact wpAny_pure hQ
theorem zlm {I a tp : Addr} {o ot : Obj} {es : Array (Int × Value)} {ep i n j c : Nat} {t : SetTable} {e : Int × Value} {ps : Array Value} {Q : Option Value → Shared → Prop} (hit : IsIt s.heap I (.ref tp) i a n ep) (hn : es.size = n) (ho : s.heap.get? a = some o) (hd : o.data = .set es ep t) (hf : t.fits es.size = true)
  (hot : s.heap.get? tp = some ot) (hdt : ot.data = .seq ps c) (hp : ps[i]? = some (rawInt (j : Nat))) (he : es[j]? = some e)
  (hQ : ∀ h',IsIt h' I (.ref tp) (i + 1) a n ep → Heap.SameBut I s.heap h' → Q (some e.2) { s with heap:=h' }) : wpAny (model prog w) A (pyNext (.ref I)) Q E s:=by
 obtain ⟨oi,hoi,hc,hdi⟩:=id hit
 unfold pyNext
 refine wpAny_bind (wpAny_attempt (wpAny_callSpecial?_slot (name:=Str.ofString "__next__") hit.typeIs s_next
  (wpAny_call_entry s_next hit.typeIs n_next ?_ (a_next _))))
 unfold Builtin.«set_iterator.__next__»
 refine wpAny_bind (wpAny_of_eq (a:=(Value.ref I,[])) rfl ?_)
 dsimp only
 refine wpAny_bind (wpAny_fieldsOf hoi hdi ?_)
 show wpAny _ _ (setEntries a >>= _) _ _ s
 refine wpAny_bind (wpAny_setEntries_of ho hd hf ?_)
 rw [if_neg (by simp [hn])]
 show wpAny _ _ ((load tp >>= _) >>= _) _ _ s
 refine wpAny_bind (wpAny_bind (wpAny_load hot ?_))
 rw [hdt]
 refine wpAny_pure ?_
 show wpAny _ _ (match ps[(i : Int).toNat]? with | some (Value.int place tok)=>_ | some val=>_ | none=>_) _ _ s
 rw [Int.toNat_natCast,hp]
 show wpAny _ _ (setNextDrawn a j ep >>= _) _ _ s
 refine wpAny_bind (zor ho hd hf he ?_)
 refine wpAny_bind (wpAny_setField hoi hdi (by simp) ?_)
 have ho1:=Heap.get?_update_self (Obj.mapFields (·.setIfInBounds 1 (rawInt ((i : Int) + 1)))) hoi (Obj.isFreed_of_fields (Obj.data_mapFields hdi _))
 have hd1:=Obj.data_mapFields hdi (·.setIfInBounds 1 (rawInt ((i : Int) + 1)))
 refine wpAny_pure ⟨e.2,rfl,wpAny_pure (hQ _ ⟨_,ho1,?_,?_⟩ (Heap.SameBut.update ..))⟩
 ·rw [Obj.cls_mapFields]; exact hc
 ·rw [hd1]; simp
theorem zln {I a tp : Addr} {o ot : Obj} {es : Array (Int × Value)} {ep i n c : Nat} {t : SetTable} {ps : Array Value} {Q : Option Value → Shared → Prop} (hh : A.handled = none) (hit : IsIt s.heap I (.ref tp) i a n ep) (hn : es.size = n) (ho : s.heap.get? a = some o) (hd : o.data = .set es ep t) (hf : t.fits es.size = true)
  (hot : s.heap.get? tp = some ot) (hdt : ot.data = .seq ps c) (hp : ps[i]? = none)
  (hQ : ∀ h',Heap.ExtBut I s.heap h' → Q none { s with heap:=h' }) : wpAny (model prog w) A (pyNext (.ref I)) Q E s:=by
 obtain ⟨oi,hoi,hc,hdi⟩:=id hit
 unfold pyNext
 refine wpAny_bind (wpAny_attempt (wpAny_callSpecial?_slot (name:=Str.ofString "__next__") hit.typeIs s_next
  (wpAny_call_entry s_next hit.typeIs n_next ?_ (a_next _))))
 unfold Builtin.«set_iterator.__next__»
 refine wpAny_bind (wpAny_of_eq (a:=(Value.ref I,[])) rfl ?_)
 dsimp only
 refine wpAny_bind (wpAny_fieldsOf hoi hdi ?_)
 show wpAny _ _ (setEntries a >>= _) _ _ s
 refine wpAny_bind (wpAny_setEntries_of ho hd hf ?_)
 rw [if_neg (by simp [hn])]
 show wpAny _ _ ((load tp >>= _) >>= _) _ _ s
 refine wpAny_bind (wpAny_bind (wpAny_load hot ?_))
 rw [hdt]
 refine wpAny_pure ?_
 show wpAny _ _ (match ps[(i : Int).toNat]? with | some (Value.int place tok)=>_ | some val=>_ | none=>_) _ _ s
 rw [Int.toNat_natCast,hp]
 refine wpAny_bind (wpAny_setField hoi hdi (by simp) ?_)
 have ho1:=Heap.get?_update_self (Obj.mapFields (·.setIfInBounds 0 (rawInt 0))) hoi (Obj.isFreed_of_fields (Obj.data_mapFields hdi _))
 have hd1:=Obj.data_mapFields hdi (·.setIfInBounds 0 (rawInt 0))
 refine wpAny_mono (zig (s:={ s with heap:=_ }) (i:=i) hh ho1 hd1 (by simp) rfl fun h' he=>hQ h' fun b ob hb e=>he b ob hb ((Heap.get?_update_other _ _ (Ne.symm hb)).trans e)) (fun _ _ ⟨_,_,z⟩=>z.elim) fun _ _ z=>z
end
end DSt

end
section
set_option Elab.async false
set_option linter.all false
set_option maxRecDepth 100000
set_option maxHeartbeats 4000000
namespace DSt
open PySem PySem.Spec PyProof.Rows
open Sem (wp)
open AutoSeq1 (wpAny_loadPart')
section
variable {prog : Program} {w : World} {A : Around} {E : Value → Shared → Prop} {s : Shared}
theorem l_len : typeLookup (.type "set") "__len__" = pure (some (.builtin "set.__len__")):=F.slot_set_len.lookup
theorem zgQ {a : Addr} {Q : Bool → Shared → Prop} (hT : s.TypeIs (.ref a) "set") (h : Q false s) : wpAny (model prog w) A (Builtin.List.listLengthHint (.ref a)) Q E s:=by
 unfold Builtin.List.listLengthHint
 refine wpAny_bind (wpAny_specialOf hT l_len ?_)
 dsimp only
 rw [show splitId "set.__len__" = some ("set","__len__") from by decide +kernel]
 dsimp only
 refine wpAny_bind (wpAny_isInstance (b:=true) hT (by rw [isSubtype_type]; kernel_rfl) ?_)
 rw [if_neg (by decide)]
 rw [if_pos (by decide +kernel)]
 refine wpAny_bind (wpAny_typeOf hT ?_)
 exact wpAny_pure h
theorem IsIt.at {h h' : Heap} {I a : Addr} {f : Value} {i n ep : Nat} (x : IsIt h I f i a n ep) (e : ∀ o,h.get? I = some o → h'.get? I = some o) : IsIt h' I f i a n ep:=let ⟨o,ho,r⟩:=x; ⟨o,e o ho,r⟩
noncomputable def slP (t : SetTable) : Nat → Nat
 | 0=>0
 | i + 1=>t.place.getD i 0 + 1
theorem zfM {t : SetTable} (h : Rise t.place) : ∀ i,i ≤ t.place.size → SetTable.below t.place (slP t i) = i
 | 0,_=>ziF h
 | i + 1,hi=>by
  have e : t.place[i]? = some (t.place.getD i 0):=by rw [Array.getD_eq_getD_getElem?,Array.getElem?_eq_getElem (by omega)]; rfl
  exact ziE h e
theorem zfN {t : SetTable} {n : Nat} (h : t.fits n = true) : t.place.size = n:=by
 unfold SetTable.fits at h
 simp at h
 exact h.1
theorem zmH {a I : Addr} {o : Obj} {es : Array (Int × Value)} {ep : Nat} {t : SetTable} (hh : A.handled = none) (hne : a ≠ I) (hT : w.params.followText "set-order" = false) (hd : o.data = .set es ep t) (hf : t.fits es.size = true) (T : Tab true t) (hp : t.plain = true ∨ es.size ≤ 1) :
  Walks prog w A I [I,a] [I] es.size (fun i v=>(es.toList.map fun e=>e.2)[i]? = some v) (fun i h=>i ≤ es.size ∧ h.get? a = some o ∧ IsIt h I (rawInt (slP t i)) i a es.size ep) where
 sub:=fun b hb=>by simp at hb; simp [hb]
 frame:=fun _ _ _ x hk=>⟨x.1,hk a (by simp) _ x.2.1,x.2.2.at fun o e=>hk I (by simp) o e⟩
 item:=fun i s Q E hi x hQ=>by
  obtain ⟨x1,x2,x3⟩:=x
  have ps:=zfN hf
  have e1 : es[i]? = some es[i]:=Array.getElem?_eq_getElem hi
  have e2 : t.place[i]? = some (t.place.getD i 0):=by rw [Array.getD_eq_getD_getElem?,Array.getElem?_eq_getElem (by omega)]; rfl
  refine zif (v:=es[i].2) (sl':=slP t (i + 1)) x3 rfl x2 hd hf (fun {A E Q} q=>zkc hT x2 hd hf T hp (zfM T.rise i (by omega)) (by rw [e1,e2]; exact q)) fun h' hit' sb=>?_
  refine hQ _ h' s.toks (by rw [List.getElem?_map,Array.getElem?_toList,e1]; rfl) ⟨hi,(sb.2 a hne).trans x2,hit'⟩ fun b ob hb eo=>(sb.2 b fun z=>hb (by simp [z])).trans eo
 done:=fun s Q E x hQ=>by
  obtain ⟨x1,x2,x3⟩:=x
  have ps:=zfN hf
  refine zih hh x3 rfl x2 hd hf (fun {A E Q} q=>zkc hT x2 hd hf T hp (zfM T.rise _ (by omega)) (by rw [Array.getElem?_eq_none (Nat.le_refl _)]; exact q)) fun h' he=>hQ h' s.toks fun b ob hb eo=>he b ob (fun z=>hb (by simp [z])) eo
 self:=fun _ _ _ _ x hQ=>iter_self x.2.2 hQ
theorem zmI {a I : Addr} {o : Obj} {es : Array (Int × Value)} {ep : Nat} {t : SetTable} (hh : A.handled = none) (hne : a ≠ I) (hT : w.params.followText "set-order" = true) (hd : o.data = .set es ep t) (hf : t.fits es.size = true) :
  Walks prog w A I [I,a] [I] es.size (fun i v=>((pickOrder (w.params.setOrder a ep) es).toList.map fun e=>e.2)[i]? = some v) (fun i h=>i ≤ es.size ∧ h.get? a = some o ∧ IsIt h I (rawInt ((0 : Nat) : Int)) i a es.size ep) where
 sub:=fun b hb=>by simp at hb; simp [hb]
 frame:=fun _ _ _ x hk=>⟨x.1,hk a (by simp) _ x.2.1,x.2.2.at fun o e=>hk I (by simp) o e⟩
 item:=fun i s Q E hi x hQ=>by
  obtain ⟨x1,x2,x3⟩:=x
  have sz : (pickOrder (w.params.setOrder a ep) es).size = es.size:=by rw [← Array.length_toList,(zdG _ es).length_eq,Array.length_toList]
  have e1:=Array.getElem?_eq_getElem (xs:=pickOrder (w.params.setOrder a ep) es) (i:=i) (by omega)
  refine zif (v:=((pickOrder (w.params.setOrder a ep) es)[i]'(by omega)).2) (sl:=0) (sl':=0) x3 rfl x2 hd hf (fun {A E Q} q=>zkd hT x2 hd hf (by rw [e1]; exact q)) fun h' hit' sb=>?_
  refine hQ _ h' s.toks (by rw [List.getElem?_map,Array.getElem?_toList,e1]; rfl) ⟨hi,(sb.2 a hne).trans x2,hit'⟩ fun b ob hb eo=>(sb.2 b fun z=>hb (by simp [z])).trans eo
 done:=fun s Q E x hQ=>by
  obtain ⟨x1,x2,x3⟩:=x
  have sz : (pickOrder (w.params.setOrder a ep) es).size = es.size:=by rw [← Array.length_toList,(zdG _ es).length_eq,Array.length_toList]
  refine zih (sl:=0) hh x3 rfl x2 hd hf (fun {A E Q} q=>zkd hT x2 hd hf (by rw [Array.getElem?_eq_none (by omega)]; exact q)) fun h' he=>hQ h' s.toks fun b ob hb eo=>he b ob (fun z=>hb (by simp [z])) eo
 self:=fun _ _ _ _ x hQ=>iter_self x.2.2 hQ
theorem zmJ {a I tp : Addr} {o ot : Obj} {es : Array (Int × Value)} {ep c : Nat} {t : SetTable} {l : List Nat} (hh : A.handled = none) (hne : a ≠ I) (hne2 : tp ≠ I) (hd : o.data = .set es ep t) (hf : t.fits es.size = true) (hl : l.Perm (List.range es.size)) (hdt : ot.data = .seq (l.map fun i=>rawInt (i : Nat)).toArray c) :
  Walks prog w A I [I,a,tp] [I] es.size (fun i v=>(l.map fun j=>(es.getD j (0,.none)).2)[i]? = some v) (fun i h=>i ≤ es.size ∧ h.get? a = some o ∧ h.get? tp = some ot ∧ IsIt h I (.ref tp) i a es.size ep) where
 sub:=fun b hb=>by simp at hb; simp [hb]
 frame:=fun _ _ _ x hk=>⟨x.1,hk a (by simp) _ x.2.1,hk tp (by simp) _ x.2.2.1,x.2.2.2.at fun o e=>hk I (by simp) o e⟩
 item:=fun i s Q E hi x hQ=>by
  obtain ⟨x1,x2,x3,x4⟩:=x
  have ll : l.length = es.size:=by rw [hl.length_eq,List.length_range]
  have e1 : l[i]? = some l[i]:=List.getElem?_eq_getElem (by omega)
  have hj : l[i] < es.size:=List.mem_range.mp (hl.mem_iff.mp (List.getElem_mem _))
  refine zlm (j:=l[i]) (e:=es[l[i]]) x4 rfl x2 hd hf x3 hdt (by rw [List.getElem?_toArray,List.getElem?_map,e1]; rfl) (Array.getElem?_eq_getElem hj) fun h' hit' sb=>?_
  refine hQ _ h' s.toks (by rw [List.getElem?_map,e1]; show some (es.getD l[i] (0,.none)).2 = _; rw [Array.getD_eq_getD_getElem?,Array.getElem?_eq_getElem hj]; rfl) ⟨hi,(sb.2 a hne).trans x2,(sb.2 tp hne2).trans x3,hit'⟩ fun b ob hb eo=>(sb.2 b fun z=>hb (by simp [z])).trans eo
 done:=fun s Q E x hQ=>by
  obtain ⟨x1,x2,x3,x4⟩:=x
  have ll : l.length = es.size:=by rw [hl.length_eq,List.length_range]
  exact zln hh x4 rfl x2 hd hf x3 hdt (by rw [List.getElem?_toArray,List.getElem?_map,List.getElem?_eq_none (by omega)]; rfl) fun h' he=>hQ h' s.toks fun b ob hb eo=>he b ob (fun z=>hb (by simp [z])) eo
 self:=fun _ _ _ _ x hQ=>iter_self x.2.2.2 hQ
theorem zke {es : Array (Int × Value)} {ns : List Int} (h : SetE es ns) {vs : List Value} (p : vs.Perm (es.toList.map fun e=>e.2)) : ∃ ms,IntsAre vs ms ∧ ms.Perm ns:=by
 have key : ∀ vs : List Value,(∀ v ∈ vs,∃ n t,v = Value.int n t) → IntsAre vs (vs.map valOf):=by
  intro vs
  induction vs with
  | nil=>intro _; exact .nil
  | cons v vs ih =>
   intro hv
   obtain ⟨n,t,rfl⟩:=hv v (by simp)
   exact .cons n t (ih fun u hu=>hv u (by simp [hu]))
 refine ⟨vs.map valOf,key vs fun v hv=>?_,?_⟩
 ·obtain ⟨e,he,rfl⟩:=List.mem_map.mp (p.mem_iff.mp hv)
  obtain ⟨n,t,e1,_⟩:=h.el e he
  exact ⟨n,t,e1⟩
 ·have:=p.map valOf
  rw [List.map_map] at this
  exact this.trans h.pm
theorem items_eq {acc : Array Value} {ord : List Value} {n : Nat} (h : ItemsOf (fun i v=>ord[i]? = some v) acc n) (hn : ord.length = n) : acc.toList = ord:=by
 obtain ⟨h1,h2⟩:=h
 apply List.ext_getElem?
 intro i
 rw [Array.getElem?_toList]
 by_cases hi : i < acc.size
 ·rw [Array.getElem?_eq_getElem hi,h2 i acc[i] (Array.getElem?_eq_getElem hi)]
 ·rw [Array.getElem?_eq_none (by omega),List.getElem?_eq_none (by omega)]
theorem ziH {es : Array (Int × Value)} {l : List Nat} (hl : l.Perm (List.range es.size)) : (l.map fun j=>(es.getD j (0,.none)).2).Perm (es.toList.map fun e=>e.2):=by
 refine (hl.map _).trans ?_
 have e : (List.range es.size).map (fun j=>(es.getD j (0,.none)).2) = es.toList.map fun e=>e.2:=by
  apply List.ext_getElem?
  intro i
  rw [List.getElem?_map,List.getElem?_map,Array.getElem?_toList (xs:=es)]
  by_cases hi : i < es.size
  ·rw [List.getElem?_range hi,Array.getElem?_eq_getElem hi]
   show some (es.getD i (0,.none)).2 = _
   rw [Array.getD_eq_getD_getElem?,Array.getElem?_eq_getElem hi]; rfl
  ·rw [List.getElem?_eq_none (by simp; omega),Array.getElem?_eq_none (by omega)]; rfl
 rw [e]

theorem gather {I a S : Addr} {fp : List Addr} {n : Nat} {ord : List Value} {St : Nat → Heap → Prop} {Q : List Value → Shared → Prop} (W : Walks prog w A.in1 I fp [I] n (fun i v=>ord[i]? = some v) St) (hn : ord.length = n) (hz : n ≤ sizeLine) (hS : S ∉ fp) (hSt : St 0 s.heap) {c : Nat} (hSo : s.heap.get? S = some { cls:=.type "list",data:=.seq #[] c })
  (hQ : ∀ h' tk,s.toks ≤ tk → (∀ b o,b ≠ S → b ≠ I → s.heap.get? b = some o → h'.get? b = some o) → S < h'.objs.size → Q ord { s with heap:=h',toks:=tk }) :
  codeAny (model prog w) A (.builtin "list.extend.loop" ⟨[.ref S,.ref I,.ref S],[]⟩) (fun r s'=>match r with
   | .ok (.ret v)=>wpAny (model prog w) A (match v with
    | .ref a=>do
     let o ← load a
     match o.data with
      | .seq xs _=>pure xs.toList
      | _=>unsupported "internal:collect"
    | _=>unsupported "internal:collect") Q E s'
   | .ok _=>False
   | .error e=>E e s') s:=by
 refine codeAny_extend_loopS W.toS hz S hS _ n 0 _ _ _ rfl (Nat.zero_le _) hSt hSo (ItemsOf.nil _) fun s' acc' c' hm hS' hacc=>?_
 show wpAny _ A (load S >>= _) _ _ s'
 refine wpAny_bind (wpAny_load hS' ?_)
 dsimp only
 rw [items_eq hacc hn]
 refine wpAny_pure ?_
 have hg : s'.gens = s.gens:=hm.gens
 have hd:=hm.drawn
 have ho:=hm.os
 have:=hQ s'.heap s'.toks hm.toks (fun b o h1 h2 e=>hm.heap b o (by simp [h1,h2]) e) (Heap.lt_size hS')
 rw [← hg,← hd,← ho] at this
 exact this
theorem zgR {S : Addr} {Q : Unit → Shared → Prop} (hS : s.heap.get? S = some { cls:=.type "list",data:=.seq #[] }) (hQ : ∀ h' c,Heap.SameBut S s.heap h' → h'.get? S = some { cls:=.type "list",data:=.seq #[] c } → Q () { s with heap:=h' }) : wpAny (model prog w) A (Builtin.List.listTouch (.ref S)) Q E s:=by
 show wpAny _ _ (updateSeq S (·.push .none) >>= fun _=>updateSeq S (·.pop)) _ _ _
 refine wpAny_bind (wpAny_updateSeq hS rfl ?_)
 have hS₂:=Heap.get?_update_self (Obj.mapSeq (·.push Value.none)) hS rfl
 refine wpAny_updateSeq hS₂ rfl ?_
 have hS₃:=Heap.get?_update_self (Obj.mapSeq (·.pop)) hS₂ rfl
 exact hQ _ _ ((Heap.SameBut.update ..).trans (Heap.SameBut.update ..)) hS₃
theorem zhq {a : Addr} {ns : List Int} {Q : List Value → Shared → Prop} (hh : A.handled = none) (hI : SetI (!w.params.followText "set-order") s.heap a ns) (hz : ns.length ≤ sizeLine)
  (hQ : ∀ h' tk d vs,(∀ b o,s.heap.get? b = some o → h'.get? b = some o) → s.heap.objs.size < h'.objs.size → (∃ ms,IntsAre vs ms ∧ ms.Perm ns) → Q vs { s with heap:=h',toks:=tk,drawn:=d }) : wpAny (model prog w) A (collect (.ref a)) Q E s:=by
 obtain ⟨o,es,ep,t,ho,x,hd,hf,ht,he⟩:=id hI
 have hzs : es.size ≤ sizeLine:=by rw [he.size]; exact hz
 have halt : a < s.heap.objs.size:=Heap.lt_size ho
 unfold collect
 refine wpAny_bind (wpAny_runValue (codeAny_builtin F.entry_proto_collect ?_))
 rw [Around.under_plainId F.plain_proto_collect _]
 show wpAny _ A.in1 (newList [] >>= fun l=>again (.builtin "list.__iadd__" ⟨[l,.ref a],[]⟩)) _ _ s
 refine wpAny_bind (wpAny_newObj_type ?_)
 refine wpAny_pure ⟨plainId_quiet F.plain_list_iadd _,codeAny_builtin F.entry_list_iadd ?_⟩
 rw [Around.under_plainId F.plain_list_iadd _]
 have hk1 : ∀ b ob,s.heap.get? b = some ob → (s.heap.push { cls:=.type "list",data:=.seq ([] : List Value).toArray }).get? b = some ob:=fun b ob e=>Heap.get?_push_of_some _ e
 have hS₁ : (s.heap.push { cls:=.type "list",data:=.seq ([] : List Value).toArray }).get? s.heap.objs.size = some { cls:=.type "list",data:=.seq ([] : List Value).toArray }:=Heap.get?_push_size _ rfl
 have sz1 : (s.heap.push { cls:=.type "list",data:=.seq ([] : List Value).toArray }).objs.size = s.heap.objs.size + 1:=Heap.size_push ..
 show wpAny _ A.in1 (Builtin.List.listExtendWith (.ref s.heap.objs.size) (.ref a) (.ref s.heap.objs.size)) _ _ _
 generalize hS : s.heap.objs.size = S at *
 generalize hh1 : s.heap.push { cls:=.type "list",data:=.seq ([] : List Value).toArray } = h1 at *
 have hSa : S ≠ a:=Nat.ne_of_gt halt
 have hT1 : Shared.TypeIs { s with heap:=h1 } (.ref a) "set":=⟨o,hk1 _ _ ho,x.1⟩
 unfold Builtin.List.listExtendWith
 refine wpAny_bind (wpAny_typeOf hT1 ?_)
 have g1 : Builtin.List.listSameRef (.ref S) (.ref a) = false:=by simp [Builtin.List.listSameRef,hSa]
 have g2 : (Value.type "set" == Value.type "list") = false:=by decide
 have g3 : (Value.type "set" == Value.type "tuple") = false:=by decide
 simp only [g1,g2,g3,Bool.or_false,Bool.false_eq_true,if_false]
 have fin : ∀ (vs : List Value) (s2 : Shared) (d : Drawn),vs.Perm (es.toList.map fun e=>e.2) → s2.gens = s.gens → s2.os = s.os → (∀ b ob,s.heap.get? b = some ob → s2.heap.get? b = some ob) → S < s2.heap.objs.size → Q vs s2:=fun vs s2 d p e1 e2 hk hlt=>by
  have:=hQ s2.heap s2.toks s2.drawn vs hk hlt (zke he p)
  rw [← e1,← e2] at this
  exact this
 refine wpAny_bind (zll (s:={ s with heap:=h1 }) (hk1 _ _ ho) x hd hf hzs (fun c=>?_) fun hT l d hl=>?_)
 ·have hT2 : Shared.TypeIs { s with heap:=h1.push (itObj (rawInt 0) 0 a es.size ep) } (.ref a) "set":=⟨o,Heap.get?_push_of_some _ (hk1 _ _ ho),x.1⟩
  refine wpAny_bind (wpAny_holding (zgQ hT2 ?_))
  rw [if_pos (by decide +kernel)]
  have hI1 : (h1.push (itObj (rawInt 0) 0 a es.size ep)).get? h1.objs.size = some (itObj (rawInt 0) 0 a es.size ep):=Heap.get?_push_size _ rfl
  have nI : ∀ b ob,s.heap.get? b = some ob → b ≠ h1.objs.size:=fun b ob e=>Nat.ne_of_lt (by rw [sz1]; exact Nat.lt_succ_of_lt (hS ▸ Heap.lt_size e))
  have nS : ∀ b ob,s.heap.get? b = some ob → b ≠ S:=fun b ob e=>Nat.ne_of_lt (hS ▸ Heap.lt_size e)
  have SI : S ≠ h1.objs.size:=Nat.ne_of_lt (by rw [sz1]; exact Nat.lt_succ_self _)
  refine wpAny_bind (wpAny_rule (wpAny_bind (zgR (s:={ s with heap:=h1.push (itObj (rawInt 0) 0 a es.size ep) }) (Heap.get?_push_of_some _ hS₁) fun h2 cc sb hS2=>?_)))
  have k2 : ∀ b ob,b ≠ S → (h1.push (itObj (rawInt 0) 0 a es.size ep)).get? b = some ob → h2.get? b = some ob:=fun b ob hb e=>(sb.2 b hb).trans e
  cases hT : w.params.followText "set-order" with
  | true =>
   have pz:=(zdG (w.params.setOrder a ep) es).map fun e : Int × Value=>e.2
   refine wpAny_pure ⟨plainId_quiet F.plain_extend_loop _,gather (I:=h1.objs.size) (a:=a) (zmI (A:=A.in1) hh (nI _ _ ho) hT hd hf) (by rw [pz.length_eq,List.length_map,Array.length_toList]) hzs (by simp [SI,hSa]) ⟨Nat.zero_le _,k2 _ _ hSa.symm (Heap.get?_push_of_some _ (hk1 _ _ ho)),⟨_,k2 _ _ SI.symm hI1,rfl,rfl⟩⟩ hS2 fun h' tk _ fr hlt=>?_⟩
   exact fin _ _ s.drawn pz rfl rfl (fun b ob e=>fr b ob (nS b ob e) (nI b ob e) (k2 b ob (nS b ob e) (Heap.get?_push_of_some _ (hk1 b ob e)))) hlt
  | false =>
   rw [hT] at ht
   have hp : t.plain = true ∨ es.size ≤ 1:=by
    rcases c with z | z
    ·rw [hT] at z; cases z
    ·exact z
   refine wpAny_pure ⟨plainId_quiet F.plain_extend_loop _,gather (I:=h1.objs.size) (a:=a) (zmH (A:=A.in1) hh (nI _ _ ho) hT hd hf ht hp) (by rw [List.length_map,Array.length_toList]) hzs (by simp [SI,hSa]) ⟨Nat.zero_le _,k2 _ _ hSa.symm (Heap.get?_push_of_some _ (hk1 _ _ ho)),⟨_,k2 _ _ SI.symm hI1,rfl,rfl⟩⟩ hS2 fun h' tk _ fr hlt=>?_⟩
   exact fin _ _ s.drawn (.refl _) rfl rfl (fun b ob e=>fr b ob (nS b ob e) (nI b ob e) (k2 b ob (nS b ob e) (Heap.get?_push_of_some _ (hk1 b ob e)))) hlt
 ·generalize hto : ({ cls:=.type "tuple",data:=.seq (l.map fun i=>rawInt (i : Nat)).toArray } : Obj) = ot
  have hdt : ot.data = .seq (l.map fun i=>rawInt (i : Nat)).toArray 0:=by rw [← hto]
  have htf : ot.isFreed = false:=by rw [← hto]; rfl
  have sz2 : (h1.push ot).objs.size = h1.objs.size + 1:=Heap.size_push ..
  have hT2 : Shared.TypeIs { s with heap:=(h1.push ot).push (itObj (.ref h1.objs.size) 0 a es.size ep),drawn:=d } (.ref a) "set":=⟨o,Heap.get?_push_of_some _ (Heap.get?_push_of_some _ (hk1 _ _ ho)),x.1⟩
  refine wpAny_bind (wpAny_holding (zgQ hT2 ?_))
  rw [if_pos (by decide +kernel)]
  have hI1 : ((h1.push ot).push (itObj (.ref h1.objs.size) 0 a es.size ep)).get? (h1.objs.size + 1) = some (itObj (.ref h1.objs.size) 0 a es.size ep):=by rw [← sz2]; exact Heap.get?_push_size _ rfl
  have lt1 : ∀ b ob,s.heap.get? b = some ob → b < S:=fun b ob e=>hS ▸ Heap.lt_size e
  have SI : S < h1.objs.size:=by rw [sz1]; exact Nat.lt_succ_self _
  have ord:=ziH hl
  refine wpAny_bind (wpAny_rule (wpAny_bind (zgR (s:={ s with heap:=(h1.push ot).push (itObj (.ref h1.objs.size) 0 a es.size ep),drawn:=d }) (Heap.get?_push_of_some _ (Heap.get?_push_of_some _ hS₁)) fun h2 cc sb hS2=>?_)))
  have k2 : ∀ b ob,b ≠ S → ((h1.push ot).push (itObj (.ref h1.objs.size) 0 a es.size ep)).get? b = some ob → h2.get? b = some ob:=fun b ob hb e=>(sb.2 b hb).trans e
  refine wpAny_pure ⟨plainId_quiet F.plain_extend_loop _,gather (I:=h1.objs.size + 1) (a:=a) (zmJ (A:=A.in1) (tp:=h1.objs.size) (ot:=ot) hh (Nat.ne_of_lt (Nat.lt_trans (lt1 _ _ ho) (Nat.lt_succ_of_lt SI))) (Nat.ne_of_lt (Nat.lt_succ_self _)) hd hf hl hdt) (by rw [ord.length_eq,List.length_map,Array.length_toList]) hzs ?_ ⟨Nat.zero_le _,k2 _ _ hSa.symm (Heap.get?_push_of_some _ (Heap.get?_push_of_some _ (hk1 _ _ ho))),k2 _ _ (Nat.ne_of_gt SI) (Heap.get?_push_of_some _ (Heap.get?_push_size _ htf)),⟨_,k2 _ _ (Nat.ne_of_gt (Nat.lt_succ_of_lt SI)) hI1,rfl,rfl⟩⟩ hS2 fun h' tk _ fr hlt=>?_⟩
  ·simp only [List.mem_cons,List.not_mem_nil,or_false,not_or]
   exact ⟨Nat.ne_of_lt (Nat.lt_succ_of_lt SI),hSa,Nat.ne_of_lt SI⟩
  ·exact fin _ _ d ord rfl rfl (fun b ob e=>fr b ob (Nat.ne_of_lt (lt1 b ob e)) (Nat.ne_of_lt (Nat.lt_trans (lt1 b ob e) (Nat.lt_succ_of_lt SI))) (k2 b ob (Nat.ne_of_lt (lt1 b ob e)) (Heap.get?_push_of_some _ (Heap.get?_push_of_some _ (hk1 b ob e))))) hlt
end
end DSt

end
section
set_option Elab.async false
set_option linter.all false
set_option maxRecDepth 100000
set_option maxHeartbeats 4000000
namespace DSt
open PySem PySem.Spec PyProof.Rows
section
variable {prog : Program} {w : World} {A : Around} {E : Value → Shared → Prop} {s : Shared}
theorem sorted_set {a : Addr} {ns : List Int} {Q : Value → Shared → Prop} (hh : A.handled = none) (hI : SetI (!w.params.followText "set-order") s.heap a ns) (hn : ns.length < 64)
  (h : ∀ h' tk d l (out : Array Value) (ns' : List Int) c,(∀ b o,s.heap.get? b = some o → h'.get? b = some o) → s.heap.objs.size ≤ l → h'.get? l = some (seqObj "list" out c) → IntsAre out.toList ns' → ns'.Perm ns → ns'.Pairwise (· ≤ ·) → Q (.ref l) { s with heap:=h',toks:=tk,drawn:=d }) :
  wpAny (model prog w) A (call (.builtin "sorted") [.ref a]) Q E s:=by
 refine Calls.call_function_entry kind_sorted plain_sorted entry_sorted (args_sorted1 _) ?_
 unfold Builtin.«sorted»
 refine wpAny_bind (m:=checkCount "sorted" 1 1 _) (wpAny_pure ?_)
 refine wpAny_bind (zhq hh hI (Nat.le_trans (Nat.le_of_lt hn) (by decide)) fun h1 tk d vs hk hlt hP77=>?_)
 obtain ⟨ms,hi,hp⟩:=hP77
 have vl : vs.length < 64:=by rw [hi.length,hp.length_eq]; exact hn
 refine wpAny_bind (wpAny_newList ?_ (Nat.le_trans (Nat.le_of_lt vl) (by decide)))
 have at1 : (h1.push (seqObj "list" vs.toArray 0)).get? h1.objs.size = some (seqObj "list" vs.toArray 0):=Heap.get?_push_size _ rfl
 show wpAny _ _ _ _ _ { s with heap:=h1.push (seqObj "list" vs.toArray 0),toks:=tk,drawn:=d }
 have le : s.heap.objs.size ≤ h1.objs.size:=Nat.le_of_lt hlt
 refine wpAny_bind (wpAny_holding (wpAny_call_entry slot_list_sort ⟨_,at1,rfl⟩ entry_list_sort (list_sort_tree at1 hi vl fun out ns' b1 b2 b3=>⟨_,rfl,?_⟩) (args_list_sort _)))
 obtain ⟨e,he⟩:=sortedHeap_at (out:=out) at1
 refine wpAny_pure ⟨_,rfl,h _ tk d h1.objs.size out ns' e (fun b o q=>?_) le he b1 (b2.trans hp) b3⟩
 have hb:=Heap.lt_size (hk b o q)
 rw [sortedHeap_old (Nat.ne_of_lt hb) (by rw [Heap.size_push]; exact Nat.lt_succ_of_lt hb)]
 exact Heap.get?_push_of_some _ (hk b o q)
end
end DSt
namespace Internal
open PySem PySem.Spec PyProof.Rows Internal.L2

noncomputable def uniqZ (ns : List Int) : List Int:=sortZ (DSt.met (fun i=>ns.getD i 0) ns.length)
theorem zkf {X : Cx} {pins : List (Addr × Obj)} {σ : Internal.L2.St} {H : Hp} {s : Shared} {d : Drawn} (I : Internal.L2.Inv X pins σ H s) : Internal.L2.Inv X pins σ H { s with drawn:=d }:=⟨I.ok,I.os,I.bare,I.base,I.loc,I.cell,I.free,I.freeC,I.pin,I.hok,I.len⟩
section
variable {S : Stat} {Γ : List Sl} {pos p pos2 p2 : Pos} {a : Expr}

theorem zkg {ns : List Int} (h : JE S Γ a (rowD ns)) (hl : ns.length < 64) (hm : S.mg "sorted" = none) (hm2 : S.mg "set" = none) (hg : S.sc.names.lookup ("sorted" : Str) = some .globalImplicit:=by ac_nf) (hg2 : S.sc.names.lookup ("set" : Str) = some .globalImplicit:=by ac_nf)
  (hs : ∀ env,starEach [a] env = [(false,eval a env)]:=by ac_rfl) : JF S Γ (.Call (.Name "sorted" p) [.Call (.Name "set" p2) [a] [] pos2] [] pos) ((uniqZ ns).map D.int):=.mk fun X o pins s σ H Q I hP=>by
 obtain ⟨χ,R,q⟩:=hP
 have hh : X.A.handled = none:=I.ok.hd o.calm
 refine wpAny_Call_Name_kw (zbl I (gl_of o hg) (by rw [o.mg]; exact hm) boot_sorted ?_ (by decide) (by decide))
 refine PyProof.Rows.callWith_builtin1 ?_ rfl rfl
 show wpAny _ _ (spliced ((false,eval (.Call (.Name "set" p2) [a] [] pos2) X.env) :: [])) _ _ s
 refine Calls.spliced_cons ?_
 refine wpAny_Call_Name_kw (zbl I (gl_of o hg2) (by rw [o.mg]; exact hm2) boot_set ?_ (by decide) (by decide))
 refine PyProof.Rows.callWith_type1 ?_ (hs X.env) rfl
 rw [hs]
 show wpAny _ _ (spliced ((false,eval a X.env) :: [])) _ _ s
 refine Calls.spliced_cons (thn (h X o pins s σ H (fun v H1=>Same H H1 ∧ Rep S.K (hidB χ H1) (rowD ns) v) I ⟨χ,R,fun v H1 e1 rv=>⟨e1,rv⟩⟩) fun u s1 hP2=>?_)
 obtain ⟨v,H1,I1,ru,e1,ad,vs,rfl,sq,rs⟩:=hP2
 cases (show u = Value.ref ad from ru)
 have ev : vs = ns.map V.int:=zbs rs
 subst ev
 refine Calls.spliced_nil ?_
 obtain ⟨its,rv,ht,hz⟩:=I1.tuple (SqT.of (zr sq).2)
 have hi : IntsAre its ns:=intsAre_of rv
 have il:=hi.length
 refine DSt.call_set_tup (items:=its.toArray) (ns:=ns) hh ht (by simpa using hi) (by have : scanBound = 4096:=rfl; simp; omega) fun h2 tk si hk=>?_
 refine Calls.spliced_nil ?_
 have I2 : Internal.L2.Inv X pins σ H1 { s1 with heap:=h2,toks:=tk }:=I1.kept (t':=tk) hk
 have ml:=DSt.met_len (fun i=>ns.getD i 0) its.toArray.size
 refine DSt.sorted_set (s:={ s1 with heap:=h2,toks:=tk }) hh si (by simp at ml ⊢; omega) fun h3 tk3 d l out ns' c hk3 hle hat b1 b2 b3=>?_
 have en : ns' = uniqZ ns:=by
  have e0 : its.toArray.size = ns.length:=by simpa using il
  rw [e0] at b2
  exact zcI (b2.trans (zbb _).symm) b3 (zbN _)
 subst en
 have hl1 : H1 l = none:=I2.hok.fresh hle
 refine ⟨.ref l,upd H1 l (.lst ((uniqZ ns).map V.int)),zkf (I2.laid (t':=tk3) (o:=.lst ((uniqZ ns).map V.int)) (fun b ob q=>hk3 b ob q) hle ?_),rfl,q l _ _ (same_none e1 hl1) (e1.trans (zH hl1 _)) zu (Reps.ints _)⟩
 exact ⟨by rw [List.length_map]; unfold uniqZ; rw [(zbb _).length_eq]; exact Nat.le_trans (DSt.met_len _ _) (Nat.le_trans (Nat.le_of_lt hl) (by decide)),out.toList,c,zcw b1,by simpa using hat⟩
end
end Internal

end
section
set_option Elab.async false
set_option linter.all false
set_option maxRecDepth 100000
set_option maxHeartbeats 4000000
namespace Internal
open PySem PySem.Spec PyProof.Rows Internal.L2 PySem.SeqAt

noncomputable def isI (m : Int) : Value → Bool
 | .int a _=>a == m
 | _=>false
theorem zcJ {m : Int} : ∀ {us : List Value} {ns : List Int},IntsAre us ns → us.countP (isI m) = ns.count m
 | _,_,.nil=>rfl
 | _,_,.cons _ _ h=>by
  rw [List.countP_cons,List.count_cons,zcJ h]; rfl
theorem zdH {m : Int} {t : Tok} {A : Around} {s : Shared} : ∀ {us : List Value} {ns : List Int},IntsAre us ns → ∀ y ∈ us,EqAt A s y (.int m t) (isI m y)
 | _,_,.nil,y,hy=>nomatch hy
 | _,_,.cons _ _ h,y,hy=>by
  rcases List.mem_cons.mp hy with rfl | hy
  ·exact EqAt.int_int _ _ _ _
  ·exact zdH h y hy
section
variable {X : Cx}
theorem zlo : MtR X "tuple.count" (fun x xs H Q=>∃ (p : Addr) (ns : List Int) (m : Int),x = .ref p ∧ xs = [.int m] ∧ SqT X.K H p (ns.map V.int) ∧ Q (.int ((ns.count m : Nat) : Int)) H):=by
 intro pins s σ H x vs v us Q I rx rv h
 obtain ⟨p,ns,m,rfl,rfl,hq,q⟩:=h
 cases rx
 obtain ⟨u,rfl,ru⟩:=rv.one
 obtain ⟨t,rfl⟩:=ru
 obtain ⟨its,r,pt,hz⟩:=I.tuple hq
 have hi : IntsAre its ns:=intsAre_of r
 obtain ⟨⟨cls,dd,data,sl⟩,ho,hc,n,hd⟩:=id pt
 simp only at hc hd
 subst hc hd
 refine call_meets PySem.F.slot_tuple_count pt.typeIs PySem.F.entry_tuple_count (PySem.F.args_tuple_count_2 _ _) (tuple_countAt p its.toArray n dd sl (.int m t) (isI m)) ?_
 refine ⟨ho,fun y hy=>zdH hi y (by simpa using hy),?_⟩
 have e : its.toArray.toList.countP (isI m) = ns.count m:=by simpa using zcJ hi
 rw [e]
 exact ⟨.int ((ns.count m : Nat) : Int),H,I.kept (t':=s.toks + 1) fun _ _ e=>e,⟨_,rfl⟩,q⟩
end
section
variable {S : Stat} {Γ : List Sl} {pos p apos cpos p1 p2 : Pos} {o e a b : Expr}
theorem zmK {ns : List Int} {m : Int} (ho : JE S Γ o (rowD ns)) (ha : JE S Γ e (.int m)) (hbase : ∀ env,attributeBase o "count" env (eval o env) = eval o env:=by ac_rfl)
  (hfew : ∀ env,((backTo cpos (starEach [e] env)).all (fun x=>!x.1) && (backToKw cpos (keywordEach [] env)).all (fun x=>x.1.isSome)
   && decide ([e].length + ([] : List Keyword).length + (if ([] : List Keyword).isEmpty then 0 else 1) < 30)) = true:=by ac_rfl)
  (hline : (apos.endLine == cpos.line) = true:=by rfl) (hs : ∀ env,starEach [e] env = [(false,eval e env)]:=by ac_rfl) : JE S Γ (.Call (.Attribute o "count" apos) [e] [] cpos) (.int ((ns.count m : Nat) : Int)):=.mk fun X oo =>
 zq (pe_bm PySem.F.plainAttrs_tuple PySem.F.slot_tuple_count PySem.F.type_tuple_count zlo (ho X oo) ((zb ha a_nil hs) X oo) (hbase X.env) (hfew X.env) hline (hs X.env)) fun σ H Q ⟨χ,R,q⟩=>⟨χ,R,fun v H1 e1 rv=>by
  obtain ⟨ad,vs,rfl,sq,rs⟩:=rv
  have ev : vs = ns.map V.int:=zbs rs
  subst ev
  refine ⟨.inr (.inr (.inr (.inr ⟨rfl,_,zm _ _ sq⟩))),χ,R.mono e1,fun ws H2 e2 rws=>?_⟩
  obtain ⟨v,rfl,rv'⟩:=reps1 rws
  cases (show v = _ from rv')
  exact ⟨ad,ns,m,rfl,rfl,SqT.of (e2 _ _ (zm _ _ sq)),q _ H2 (e1.trans e2) rfl⟩⟩
theorem zos {i j : Int} (ha : JE S Γ a (.int i)) (hb : JE S Γ b (.int j)) (hm : S.mg "min" = none) (hg : S.sc.names.lookup ("min" : Str) = some .globalImplicit:=by ac_nf)
  (hs1 : ∀ env,starEach [a,b] env = (false,eval a env) :: starEach [b] env:=by ac_rfl) (hs2 : ∀ env,starEach [b] env = [(false,eval b env)]:=by ac_rfl) : JE S Γ (.Call (.Name "min" p) [a,b] [] pos) (.int (if j < i then j else i)) :=
 zfc (fun X o=>zjh o.calm) (zb ha (zb hb a_nil hs2) hs1) (fun χ H vs Q fr rs q=>by
  obtain ⟨v,r',rfl,rv,rs'⟩:=rs
  obtain ⟨v',rfl,rv'⟩:=reps1 rs'
  cases (show v = _ from rv)
  cases (show v' = _ from rv')
  exact ⟨i,j,rfl,q _ H (Same.refl H) rfl⟩) hm boot_min hg (by decide) (by decide) hs1 (fun env=>by rw [hs2]; rfl)
end
section
variable {prog : Program} {w : World} {A : Around} {E : Value → Shared → Prop} {s : Shared}
theorem ziI {t b : Addr} {ws : List Value} {Q : Value → Shared → Prop} (ht : IsTup s.heap t ([] : List Value).toArray) (hb : IsTup s.heap b ws.toArray) (h : Q (.ref b) s) : wpAny (model prog w) A (binaryOp .Add (.ref t) (.ref b)) Q E s:=by
 obtain ⟨⟨cls,dd,data,sl⟩,ho,hc,n,hd⟩:=id ht
 obtain ⟨⟨cls2,dd2,data2,sl2⟩,ho2,hc2,n2,hd2⟩:=id hb
 simp only at hc hd hc2 hd2
 subst hc hd hc2 hd2
 exact concat_meets ⟨_,ho,rfl⟩ ⟨_,ho2,rfl⟩ noFill_tuple_add seq_tuple_add PySem.F.slot_tuple_add PySem.F.entry_tuple_add (PySem.F.args_tuple_add_2 _ _)
  (tuple_addW0 t b ([] : List Value).toArray ws.toArray n n2 dd dd2 sl sl2 (by simp)) ⟨ho,ho2,h⟩
end

noncomputable def rCatE (K : PySem.W.Frag) : R2:=fun x y H Q=>∃ a b xs ys,x = .ref a ∧ y = .ref b ∧ SqT K H a xs ∧ SqT K H b ys ∧ ys ≠ [] ∧ xs.length + ys.length ≤ sizeLine ∧
 (xs = [] → Q (.ref b) H) ∧ (xs ≠ [] → ∀ p,H p = none → Q (.ref p) (upd H p (.tup (xs ++ ys))))
theorem zmL {X : Cx} : OpR X (binaryOp .Add) (rCatE X.K):=by
 intro pins s σ H x y v u Q I rx ry h
 obtain ⟨a,b,xs,ys,rfl,rfl,ha,hb,hy,hz,q1,q2⟩:=h
 by_cases hx : xs = []
 ·subst hx
  cases rx
  cases ry
  obtain ⟨its,r1,p1,_⟩:=I.tuple ha
  obtain ⟨its2,r2,p2,_⟩:=I.tuple hb
  have e : its = []:=r1.nil_iff.mpr rfl
  subst e
  exact ziI p1 p2 ⟨.ref b,H,I,rfl,q1 rfl⟩
 ·exact zlS pins s σ H (.ref a) (.ref b) v u Q I rx ry ⟨a,b,xs,ys,rfl,rfl,ha,hb,hx,hz,fun z=>(hy z).elim,fun _=>q2 hx⟩
section
variable {S : Stat} {Γ : List Sl} {pos p pos' p' : Pos} {a b e : Expr}
theorem zot {ds es : List D} (ha : JE S Γ a (.tup ds)) (hb : JE S Γ b (.tup es)) (hne : es ≠ []) (hl : ds.length + es.length ≤ sizeLine) : JE S Γ (.BinOp a .Add b pos) (.tup (ds ++ es)) :=
 e_op (r:=rCatE S.K) (fun X o=>o.K ▸ zmL) ha hb fun χ H x y Q fr rx ry q=>by
  obtain ⟨ad,vs,rfl,sa,ra⟩:=rx
  obtain ⟨bd,ws,rfl,sb,rb⟩:=ry
  refine ⟨ad,bd,vs,ws,rfl,rfl,SqT.of (zm _ _ sa),SqT.of (zm _ _ sb),fun z=>hne (List.length_eq_zero_iff.mp (by rw [← rb.len,z]; rfl)),by rw [ra.len,rb.len]; exact hl,fun z=>?_,fun z p hp=>?_⟩
  ·have e : ds = []:=List.length_eq_zero_iff.mp (by rw [← ra.len,z]; rfl)
   subst e
   exact q _ H (Same.refl H) ⟨bd,ws,rfl,sb,rb⟩
  ·exact q _ _ (zH hp _) (zct hp (fr p hp) (ra.app rb))

theorem zmM {k v : Expr} {ks : List Int} {n : Int} (hk : JE S Γ k (rowD ks)) (hv : JE S Γ v (.int n)) : JE S Γ (.Dict [some k] [v] pos) (.dcI [(ks,n)]):=.mk fun X o pins s σ H Q I hP=>by
 obtain ⟨χ,R,q⟩:=hP
 have hn:=I.hok.fresh (Nat.le_refl s.heap.objs.size)
 have sm0 : Same H (upd H s.heap.objs.size (.dT [])):=zH hn _
 have I1:=I.laid (a:=s.heap.objs.size) (o:=.dT []) (h':=s.heap.push { cls:=.type "dict",data:=.dict #[] }) (t':=s.toks) (fun _ _ q=>Heap.get?_push_of_some _ q) (Nat.le_refl _) (zgE s.heap I.big)
 have hPP : PPs X pos [some k] [v] [(dE S.K Γ (rowD ks),dE S.K Γ (.int n))]:=zkZ (hk X o) (hv X o) zmv
 refine wpAny_Dict_any rfl rfl (by simp) (by simp) (thn (hPP pins _ σ _ (fun ps H2=>∃ b,ps = [(.ref b,.int n)] ∧ Same (upd H s.heap.objs.size (.dT [])) H2 ∧ hidB χ H2 b = some (.tup ((kK ks).map kV))) I1 ?_) fun vs s2 hP2=>?_)
 ·refine ⟨χ,R.mono sm0,fun y H1 e1 ry=>⟨χ,(R.mono sm0).mono e1,fun z H2 e2 rz=>?_⟩⟩
  cases (show z = .int n from rz)
  obtain ⟨b,rfl,hb⟩:=zdQ ry
  exact ⟨b,rfl,e1.trans e2,zA e2 _ _ hb⟩
 obtain ⟨ps,H2,I2,rel,b,rfl,sm,hb⟩:=hP2
 have eH2 : H2 s.heap.objs.size = some (.dT []):=sm _ _ zu
 have hbt:=zm _ _ hb
 cases rel with
 | @cons p1 q1 ps1 qs1 hr1 hr2 =>
 cases hr2
 obtain ⟨u,w2⟩:=q1
 obtain ⟨ru,rw2⟩:=hr1
 cases (show u = Value.ref b from ru)
 obtain ⟨z,hd,xs,rl,dd⟩:=dt_of I2.hok eH2
 cases rl
 unfold storeAll
 show wpAny _ _ (forIn [(Value.ref b,w2)] PUnit.unit _) _ _ s2
 rw [List.forIn_cons]
 refine wpAny_bind (wpAny_bind (wpAny_dictSet_heap (knd:=tupleKind (zL X.prog X.w)) (by have:=o.room.units; show X.A.units < cLine; omega) (zdE I2.hok hbt) dd (fun h' dd' hs=>?_) (by simp)))
 refine wpAny_pure ?_
 show wpAny _ _ (forIn ([] : List (Value × Value)) PUnit.unit _) _ _ _
 rw [List.forIn_nil]
 refine wpAny_pure ?_
 obtain ⟨qo,es,ep,hq,h2,h3,h4,_,h5⟩:=dd'
 have hne : b ≠ s.heap.objs.size:=fun z=>by rw [z,eH2] at hbt; cases hbt
 have I3 : Internal.L2.Inv X pins σ (upd H2 s.heap.objs.size (.dT (dcV [(ks,n)]))) { s2 with heap:=h',toks:=s2.toks + (tupleKind (zL X.prog X.w)).draws (kK ks) }:=by
  refine zdP I2 (by rw [eH2]; exact True.intro) hs ⟨_,hq⟩ ?_
  refine ⟨by show 1 ≤ sizeLine; rw [sizeLine_eq]; decide,hd,[(kK ks,b,w2)],.cons ⟨rfl,?_,rw2⟩ .nil,qo,es,ep,hq,h2,h3,h4,h5⟩
  show upd H2 _ _ b = _
  rw [zp hne]; exact hbt
 have I4:=zhV I3 zu hq
 refine ⟨.ref s.heap.objs.size,_,I4,rfl,q _ _ (fun c u hc=>?_) ?_⟩
 ·have hcn : c ≠ s.heap.objs.size:=zE hc hn
  rw [zp hcn,zp hcn]
  exact sm _ _ (sm0 _ _ hc)
 ·have hx : χ s.heap.objs.size = false:=R.fresh hn
  refine ⟨s.heap.objs.size,qo,rfl,zy hx zu,zhW (I3.hok _ _ zu) hq fun c xs hc=>?_⟩
  have hcn : c ≠ s.heap.objs.size:=fun z=>by rw [z,zu] at hc; cases hc
  refine zy ?_ (by rw [zp hcn]; exact hc)
  cases e : χ c with
  | false=>rfl
  | true =>
   obtain ⟨⟨u,nu⟩,hu⟩:=R.live c e
   have:=sm _ _ (sm0 _ _ hu)
   rw [zp hcn] at hc
   rw [hc] at this
   cases this
   exact (nu _ rfl).elim
end
end Internal
namespace DRl
open PySem PySem.Spec PyProof.Rows
section
variable {prog : Program} {w : World} {A : Around} {E : Value → Shared → Prop} {s : Shared} {I l : Addr} {items : Array Value}
end
end DRl
namespace Internal
open PySem PySem.Spec PyProof.Rows Internal.L2
section
variable {S : Stat} {Γ : List Sl} {pos p pos' p' : Pos} {e : Expr}
end
end Internal

end
section
set_option linter.all false
namespace Internal.BM
theorem zT {α β : Type} (l : List α) (f : α → List β) (n : Nat) (h : ∀ a,(f a).length = n) : (l.flatMap f).length = l.length * n:=by
 induction l with
 | nil=>simp
 | cons a l ih=>rw [List.flatMap_cons,List.length_append,ih,h,List.length_cons,Nat.succ_mul,Nat.add_comm]

structure Kin where
 h : Bool
 q : Bool
 m : Bool
 s : Bool
deriving DecidableEq
noncomputable def kinL (k : Kin) : List Nat:=(if k.h then [104] else []) ++ (if k.q then [113] else []) ++ (if k.m then [109] else []) ++ (if k.s then [115] else [])
theorem kin_h (k : Kin) : decide (104 ∈ kinL k) = k.h:=by obtain ⟨h,q,m,s⟩:=k; cases h <;> cases q <;> cases m <;> cases s <;> rfl
theorem kin_q (k : Kin) : decide (113 ∈ kinL k) = k.q:=by obtain ⟨h,q,m,s⟩:=k; cases h <;> cases q <;> cases m <;> cases s <;> rfl
theorem kin_m (k : Kin) : decide (109 ∈ kinL k) = k.m:=by obtain ⟨h,q,m,s⟩:=k; cases h <;> cases q <;> cases m <;> cases s <;> rfl
theorem kin_s (k : Kin) : decide (115 ∈ kinL k) = k.s:=by obtain ⟨h,q,m,s⟩:=k; cases h <;> cases q <;> cases m <;> cases s <;> rfl
theorem zfO (k : Kin) : [104,113,109,115].filter (fun c=>decide (c ∈ kinL k)) = kinL k:=by obtain ⟨h,q,m,s⟩:=k; cases h <;> cases q <;> cases m <;> cases s <;> rfl
noncomputable def kstep (k : Kin) : Nat:=if k.q then 1 else if k.h then 2 else 4
noncomputable def kend (k : Kin) : Nat:=if k.m then 8 else 4
noncomputable def turns (k : Kin) : List Nat:=(List.range (kend k / kstep k)).map fun i=>i * kstep k
noncomputable def zG (k : Kin) (w h : Nat) : List (Nat × Nat):=if k.s then (List.range w).flatMap fun a=>(List.range h).map fun b=>(a,b) else [(0,0)]
noncomputable def zg (k : Kin) (w h : Nat) : List Deed:=(turns k).flatMap fun t=>(zG k w h).map fun p=>⟨t,p.1,p.2⟩
theorem zlp (k : Kin) : ∀ t ∈ turns k,t < 8:=by obtain ⟨h,q,m,s⟩:=k; cases h <;> cases q <;> cases m <;> cases s <;> decide
theorem zdI {k : Kin} {w h : Nat} (hq : k.q = true → w = h) : ∀ t ∈ turns k,Fits t w h:=by
 intro t ht e
 apply hq
 obtain ⟨h',q,m,s⟩:=k
 cases q
 ·exfalso
  have key : ∀ h' m s,∀ t ∈ turns ⟨h',false,m,s⟩,t % 2 = 0:=by decide
  have:=key h' m s t ht
  omega
 ·rfl
end Internal.BM

end
section
set_option linter.all false
namespace Internal.BM

structure Sp4 where
 x : Int
 y : Int
 w : Nat
 h : Nat
end Internal.BM

end
section
set_option linter.all false
set_option maxRecDepth 100000
namespace Internal.BM

noncomputable def frc {α : Type} (n : Nat) (f : Nat → α) : α:=Nat.rec (f 0) (fun k _=>f (k + 1)) n
theorem zeK {α : Type} (n : Nat) (f : Nat → α) : frc n f = f n:=by cases n <;> rfl
noncomputable def frcL {α : Type} : List Nat → (List Nat → α) → α
 | [],k=>k []
 | a :: l,k=>frc a fun a'=>frcL l fun l'=>k (a' :: l')
theorem zdR {α : Type} : ∀ (l : List Nat) (k : List Nat → α),frcL l k = k l
 | [],k=>rfl
 | a :: l,k=>by unfold frcL; rw [zeK,zdR l]
end Internal.BM

end
section
set_option linter.all false
set_option Elab.async false
set_option maxRecDepth 100000
namespace Internal.BM

noncomputable def chs (n c : Nat) : Nat:=(List.range c).foldl (fun p t=>p * (n - t) / (t + 1)) 1
theorem zlq (n c : Nat) : chs n (c + 1) = chs n c * (n - c) / (c + 1):=by unfold chs; rw [List.range_succ,List.foldl_append]; rfl
theorem zou : ∀ n,n ≤ 16 → ∀ c,c ≤ n → chs n c ≤ 2 ^ n:=by decide +kernel

noncomputable abbrev Pk:=List Nat × Nat × Nat
noncomputable def pf (p : Pk) (f l : Nat) : List Pk:=(List.range (min f (p.2.1 / l) + 1)).map fun c=>(p.1 ++ [f - c],p.2.1 - c * l,p.2.2 * chs f c)
noncomputable def told (fr ul : List Nat) (num : Nat) : Nat → List Pk
 | 0=>[([],num,1)]
 | j + 1=>(told fr ul num j).flatMap fun p=>pf p (fr.getD j 0) (ul.getD j 1)
noncomputable def pks (fr ul : List Nat) (num : Nat) : List Pk:=(told fr ul num ul.length).filter fun p=>decide (p.2.1 = 0)

noncomputable abbrev Dc:=List (List Nat × Nat)
noncomputable def getN (m : Dc) (k : List Nat) : Option Nat:=(m.find? fun kv=>decide (kv.1 = k)).map (·.2)
noncomputable def putN (m : Dc) (k : List Nat) (v : Nat) : Dc:=if (m.any fun kv=>decide (kv.1 = k)) = true then m.map (fun kv=>if kv.1 = k then (kv.1,v) else kv) else m ++ [(k,v)]
noncomputable def addN (m : Dc) (k : List Nat) (v : Nat) : Dc:=putN m k ((getN m k).getD 0 + v)
noncomputable abbrev Ks (m : Dc) : List (List Nat):=m.map (·.1)

noncomputable def W (g : List Nat → Nat) (m : Dc) : Nat:=(m.map fun kv=>kv.2 * g kv.1).sum
theorem zdS (kv : List Nat × Nat) (m : Dc) : Ks (kv :: m) = kv.1 :: Ks m:=rfl
theorem zdT (m : Dc) (k : List Nat) : (m.any fun kv=>decide (kv.1 = k)) = true ↔ k ∈ Ks m:=by
 rw [List.any_eq_true,List.mem_map]
 exact ⟨fun ⟨x,h1,h2⟩=>⟨x,h1,of_decide_eq_true h2⟩,fun ⟨x,h1,h2⟩=>⟨x,h1,decide_eq_true h2⟩⟩
theorem zcF (kv : List Nat × Nat) (m : Dc) (k : List Nat) : getN (kv :: m) k = if kv.1 = k then some kv.2 else getN m k:=by
 unfold getN
 rw [List.find?_cons]
 by_cases h : kv.1 = k
 ·rw [if_pos h,decide_eq_true h]; rfl
 ·rw [if_neg h,decide_eq_false h]
theorem zgS {k : List Nat} : ∀ {m : Dc},k ∉ Ks m → getN m k = none
 | [],_=>rfl
 | kv :: m,h=>by
  rw [zcF,if_neg fun z=>h (by rw [zdS,z]; exact List.mem_cons_self),zgS fun z=>h (List.mem_cons_of_mem _ z)]
theorem zfk : ∀ {m : Dc} {kv : List Nat × Nat},(Ks m).Nodup → kv ∈ m → getN m kv.1 = some kv.2
 | [],kv,_,h=>nomatch h
 | x :: m,kv,hn,h=>by
  rw [zdS,List.nodup_cons] at hn
  rw [zcF]
  rcases List.mem_cons.mp h with e | h
  ·rw [e,if_pos rfl]
  ·rw [if_neg fun z=>hn.1 (by rw [z]; exact List.mem_map.mpr ⟨kv,h,rfl⟩),zfk hn.2 h]
theorem zlr (m : Dc) (k : List Nat) (v : Nat) : Ks (m.map fun kv=>if kv.1 = k then (kv.1,v) else kv) = Ks m:=by
 unfold Ks
 rw [List.map_map]
 apply List.map_congr_left
 intro kv _
 simp only [Function.comp]
 split <;> rfl
theorem zgT (m : Dc) (k : List Nat) (v : Nat) : Ks (putN m k v) = if k ∈ Ks m then Ks m else Ks m ++ [k]:=by
 unfold putN
 by_cases h : k ∈ Ks m
 ·rw [if_pos ((zdT m k).mpr h),if_pos h,zlr]
 ·rw [if_neg fun z=>h ((zdT m k).mp z),if_neg h]
  show List.map _ (m ++ _) = _
  rw [List.map_append]; rfl
theorem zcG {m : Dc} (k : List Nat) (v : Nat) (h : (Ks m).Nodup) : (Ks (putN m k v)).Nodup:=by
 rw [zgT]
 split
 ·exact h
 ·rename_i hk
  refine List.nodup_append.mpr ⟨h,by simp,fun a ha b hb=>?_⟩
  rw [List.mem_singleton.mp hb]
  exact fun z=>hk (z ▸ ha)
theorem zii {m : Dc} {k k' : List Nat} {v : Nat} (h : k' ∈ Ks (putN m k v)) : k' ∈ Ks m ∨ k' = k:=by
 rw [zgT] at h
 split at h
 ·exact .inl h
 ·rcases List.mem_append.mp h with h | h
  ·exact .inl h
  ·exact .inr (List.mem_singleton.mp h)
theorem zmN (m : Dc) (k : List Nat) (v : Nat) : (putN m k v).length ≤ m.length + 1:=by
 unfold putN
 split
 ·rw [List.length_map]; omega
 ·rw [List.length_append]; exact Nat.le_refl _
theorem zfP (g : List Nat → Nat) {k : List Nat} (v : Nat) : ∀ {m : Dc},k ∉ Ks m → m.map (fun kv=>if kv.1 = k then (kv.1,v) else kv) = m
 | [],_=>rfl
 | kv :: m,h=>by
  rw [List.map_cons,if_neg fun z=>h (by rw [zdS,z]; exact List.mem_cons_self),zfP g v fun z=>h (List.mem_cons_of_mem _ z)]
theorem zgU (g : List Nat → Nat) (kv : List Nat × Nat) (m : Dc) : W g (kv :: m) = kv.2 * g kv.1 + W g m:=rfl
theorem W_app (g : List Nat → Nat) (m m' : Dc) : W g (m ++ m') = W g m + W g m':=by unfold W; rw [List.map_append,List.sum_append]
theorem W_upd (g : List Nat → Nat) (k : List Nat) (v : Nat) : ∀ {m : Dc},(Ks m).Nodup → k ∈ Ks m → W g (m.map fun kv=>if kv.1 = k then (kv.1,(getN m k).getD 0 + v) else kv) = W g m + v * g k
 | [],_,h=>nomatch h
 | kv :: m,hn,h=>by
  rw [zdS,List.nodup_cons] at hn
  rw [List.map_cons,zgU,zgU,zcF]
  by_cases e : kv.1 = k
  ·subst e
   rw [if_pos rfl,if_pos rfl,zfP g _ hn.1]
   show (kv.2 + v) * g kv.1 + _ = _
   rw [Nat.add_mul]; omega
  ·rw [if_neg e,if_neg e]
   have hk : k ∈ Ks m:=by
    rcases List.mem_cons.mp h with z | z
    ·exact (e z.symm).elim
    ·exact z
   rw [W_upd g k v hn.2 hk]; omega
theorem W_add (g : List Nat → Nat) {m : Dc} (k : List Nat) (v : Nat) (hn : (Ks m).Nodup) : W g (addN m k v) = W g m + v * g k:=by
 unfold addN putN
 by_cases h : k ∈ Ks m
 ·rw [if_pos ((zdT m k).mpr h)]
  exact W_upd g k v hn h
 ·rw [if_neg fun z=>h ((zdT m k).mp z),zgS h,W_app]
  show _ + ((0 + v) * g k + 0) = _
  rw [Nat.zero_add,Nat.add_zero]

noncomputable def inn (v : Nat) (ps : List Pk) (m : Dc) : Dc:=ps.foldl (fun m p=>addN m p.1 (v * p.2.2)) m
noncomputable def wwc (ul : List Nat) (num : Nat) (ways : Dc) (m : Dc) : Dc:=ways.foldl (fun m kv=>inn kv.2 (pks kv.1 ul num) m) m
noncomputable def lwD (ul : List Nat) (row : List Nat) (ways : Dc) : Dc:=row.foldl (fun ways num=>wwc ul num ways []) ways
noncomputable def L (ul : List Nat) : List Nat → List Nat → Nat
 | [],_=>1
 | num :: rest,fr=>((pks fr ul num).map fun p=>p.2.2 * L ul rest p.1).sum
theorem zfQ (v : Nat) : ∀ (ps : List Pk) {m : Dc},(Ks m).Nodup → (Ks (inn v ps m)).Nodup
 | [],_,h=>h
 | p :: ps,m,h=>zfQ v ps (m:=addN m p.1 (v * p.2.2)) (zcG _ _ h)
theorem W_inn (g : List Nat → Nat) (v : Nat) : ∀ (ps : List Pk) {m : Dc},(Ks m).Nodup → W g (inn v ps m) = W g m + v * (ps.map fun p=>p.2.2 * g p.1).sum
 | [],_,h=>by simp [inn]
 | p :: ps,m,h=>by
  have:=W_inn g v ps (m:=addN m p.1 (v * p.2.2)) (zcG _ _ h)
  rw [W_add g _ _ h] at this
  refine this.trans ?_
  rw [List.map_cons,List.sum_cons,Nat.mul_add,Nat.mul_assoc]; omega
theorem W_wwc (g : List Nat → Nat) (ul : List Nat) (num : Nat) : ∀ (ways : Dc) {m : Dc},(Ks m).Nodup → W g (wwc ul num ways m) = W g m + W (fun fr=>((pks fr ul num).map fun p=>p.2.2 * g p.1).sum) ways
 | [],_,h=>by simp [wwc,W]
 | kv :: ways,m,h=>by
  have:=W_wwc g ul num ways (zfQ kv.2 (pks kv.1 ul num) h)
  rw [W_inn g _ _ h] at this
  refine this.trans ?_
  rw [zgU]; omega
theorem W_lwD (ul : List Nat) : ∀ (row : List Nat) (ways : Dc),W (fun _=>1) (lwD ul row ways) = W (L ul row) ways
 | [],ways=>rfl
 | num :: rest,ways=>by
  have:=W_lwD ul rest (wwc ul num ways [])
  rw [W_wwc _ _ _ _ (m:=[]) List.Pairwise.nil] at this
  refine this.trans ?_
  show 0 + _ = _
  rw [Nat.zero_add]; rfl

theorem lw_eq (ul cnt row : List Nat) : ((lwD ul row [(cnt,1)]).map (·.2)).sum = L ul row cnt:=by
 have:=W_lwD ul row [(cnt,1)]
 unfold W at this
 simp only [Nat.mul_one,List.map_cons,List.map_nil,List.sum_cons,List.sum_nil,Nat.one_mul,Nat.add_zero] at this
 exact this

noncomputable def shd (ts : List (List Nat)) : Dc:=ts.foldl (fun m t=>addN m t 1) []
theorem zgV (g : List Nat → Nat) : ∀ (ts : List (List Nat)) {m : Dc},(Ks m).Nodup → (Ks (ts.foldl (fun m t=>addN m t 1) m)).Nodup ∧ W g (ts.foldl (fun m t=>addN m t 1) m) = W g m + (ts.map g).sum ∧ (ts.foldl (fun m t=>addN m t 1) m).length ≤ m.length + ts.length
 | [],m,h=>⟨h,rfl,Nat.le_refl _⟩
 | t :: ts,m,h=>by
  obtain ⟨h1,h2,h3⟩:=zgV g ts (m:=addN m t 1) (zcG _ _ h)
  rw [W_add g _ _ h] at h2
  refine ⟨h1,h2.trans ?_,Nat.le_trans h3 ?_⟩
  ·rw [List.map_cons,List.sum_cons,Nat.one_mul,Nat.add_assoc]
  ·have : (addN m t 1).length ≤ m.length + 1:=zmN _ _ _
   rw [List.length_cons]; omega
theorem zij : ∀ (ts : List (List Nat)) {m : Dc} {k : List Nat},k ∈ Ks (ts.foldl (fun m t=>addN m t 1) m) → k ∈ Ks m ∨ k ∈ ts
 | [],m,k,h=>.inl h
 | t :: ts,m,k,h=>by
  rcases zij ts (m:=addN m t 1) h with h | h
  ·rcases zii h with h | h
   ·exact .inl h
   ·exact .inr (by rw [h]; exact List.mem_cons_self)
  ·exact .inr (List.mem_cons_of_mem _ h)
theorem zik : ∀ (ts : List (List Nat)) {m : Dc} {n : Nat},(∀ kv ∈ m,kv.2 ≤ n) → ∀ kv ∈ ts.foldl (fun m t=>addN m t 1) m,kv.2 ≤ n + ts.length
 | [],m,n,h=>h
 | t :: ts,m,n,h=>fun kv hk=>by
  have:=zik ts (m:=addN m t 1) (n:=n + 1) (fun x hx=>?_) kv hk
  ·rw [List.length_cons]; omega
  have hg : (getN m t).getD 0 ≤ n:=by
   unfold getN
   cases e : m.find? fun kv=>decide (kv.1 = t) with
   | none=>exact Nat.zero_le _
   | some x=>exact h x (List.mem_of_find?_eq_some e)
  unfold addN putN at hx
  split at hx
  ·obtain ⟨y,hy,rfl⟩:=List.mem_map.mp hx
   split
   ·show _ + 1 ≤ _; omega
   ·have:=h y hy; omega
  ·rcases List.mem_append.mp hx with hx | hx
   ·have:=h x hx; omega
   ·rw [List.mem_singleton.mp hx]; show _ + 1 ≤ _; omega

theorem zep {α : Type} [DecidableEq α] : ∀ {l m : List α},l.Nodup → (∀ x ∈ l,x ∈ m) → l.length ≤ m.length
 | [],m,_,_=>Nat.zero_le _
 | x :: l,m,hn,h=>by
  rw [List.nodup_cons] at hn
  have hx : x ∈ m:=h x List.mem_cons_self
  have:=zep (l:=l) (m:=m.erase x) hn.2 fun y hy=>(List.mem_erase_of_ne (fun (z : y = x)=>hn.1 (by rw [← z]; exact hy))).mpr (h y (List.mem_cons_of_mem _ hy))
  rw [List.length_erase_of_mem hx] at this
  have : 0 < m.length:=List.length_pos_of_mem hx
  rw [List.length_cons]; omega
noncomputable def box : List Nat → List (List Nat)
 | []=>[[]]
 | n :: ns=>(List.range (n + 1)).flatMap fun c=>(box ns).map (c :: ·)

noncomputable def Le (k fr : List Nat) : Prop:=k.length = fr.length ∧ ∀ i,k.getD i 0 ≤ fr.getD i 0
theorem zil : ∀ {k fr : List Nat},Le k fr → k ∈ box fr
 | [],[],_=>List.mem_singleton.mpr rfl
 | [],_ :: _,h=>nomatch h.1
 | _ :: _,[],h=>nomatch h.1
 | c :: k,n :: ns,h=>by
  refine List.mem_flatMap.mpr ⟨c,List.mem_range.mpr (by have:=h.2 0; simp at this; omega),List.mem_map.mpr ⟨k,zil ⟨by have:=h.1; simpa using this,fun i=>by have:=h.2 (i + 1); simpa using this⟩,rfl⟩⟩
theorem zdi : ∀ n : Nat,n + 1 ≤ 2 ^ n
 | 0=>Nat.le_refl _
 | n + 1=>by have:=zdi n; rw [Nat.pow_succ]; omega
theorem zim : ∀ fr : List Nat,(box fr).length ≤ 2 ^ fr.sum
 | []=>Nat.le_refl _
 | n :: ns=>by
  show ((List.range (n + 1)).flatMap _).length ≤ _
  rw [zT _ _ (box ns).length (fun a=>by rw [List.length_map]),List.length_range,List.sum_cons,Nat.pow_add]
  exact Nat.mul_le_mul (zdi n) (zim ns)
theorem Le.refl (k : List Nat) : Le k k:=⟨rfl,fun _=>Nat.le_refl _⟩
theorem Le.trans {a b c : List Nat} (h : Le a b) (h' : Le b c) : Le a c:=⟨h.1.trans h'.1,fun i=>Nat.le_trans (h.2 i) (h'.2 i)⟩
theorem Le.sum : ∀ {k fr : List Nat},Le k fr → k.sum ≤ fr.sum
 | [],[],_=>Nat.le_refl _
 | [],_ :: _,h=>nomatch h.1
 | _ :: _,[],h=>nomatch h.1
 | c :: k,n :: ns,h=>by
  have h0 : c ≤ n:=by have:=h.2 0; simpa using this
  have:=Le.sum (k:=k) (fr:=ns) ⟨by have:=h.1; simpa using this,fun i=>by have:=h.2 (i + 1); simpa using this⟩
  rw [List.sum_cons,List.sum_cons]; omega
theorem take_sum_succ {fr : List Nat} {j : Nat} : (fr.take (j + 1)).sum = (fr.take j).sum + fr.getD j 0:=by
 rw [List.take_add_one,List.sum_append]
 congr 1
 rw [List.getD_eq_getElem?_getD]
 cases fr[j]? <;> simp
theorem zdZ (fr : List Nat) (j : Nat) : (fr.take j).sum ≤ fr.sum:=by
 have e : fr.sum = (fr.take j).sum + (fr.drop j).sum:=by rw [← List.sum_append,List.take_append_drop]
 omega
theorem zcK : ∀ (fr : List Nat) (j : Nat),fr.getD j 0 ≤ fr.sum
 | [],j=>by simp
 | n :: ns,0=>by simp
 | n :: ns,j + 1=>by have:=zcK ns j; simp at this ⊢; omega
structure TOk (fr : List Nat) (j : Nat) (p : Pk) : Prop where
 len : p.1.length = j
 le : ∀ i,i < j → p.1.getD i 0 ≤ fr.getD i 0
 ways : p.2.2 ≤ 2 ^ (fr.take j).sum
theorem zcS {fr ul : List Nat} {num : Nat} (hs : fr.sum ≤ 16) : ∀ j,(told fr ul num j).length ≤ 2 ^ (fr.take j).sum ∧ ∀ p ∈ told fr ul num j,TOk fr j p
 | 0=>⟨by simp [told],fun p hp=>by
  rw [List.mem_singleton.mp hp]
  exact ⟨rfl,fun i hi=>by omega,by simp⟩⟩
 | j + 1=>by
  obtain ⟨h1,h2⟩:=zcS (ul:=ul) (num:=num) hs j
  have hf : fr.getD j 0 ≤ 16:=Nat.le_trans (zcK fr j) hs
  have hp : ∀ p : Pk,(pf p (fr.getD j 0) (ul.getD j 1)).length ≤ 2 ^ fr.getD j 0:=fun p=>by
   unfold pf
   rw [List.length_map,List.length_range]
   exact Nat.le_trans (by omega) (zdi _)
  have hm : ∀ (l : List Pk) (f : Pk → List Pk) (n : Nat),(∀ p,(f p).length ≤ n) → (l.flatMap f).length ≤ l.length * n:=fun l f n h=>by
   induction l with
   | nil=>simp
   | cons a l ih=>rw [List.flatMap_cons,List.length_append,List.length_cons,Nat.succ_mul]; have:=h a; omega
  refine ⟨?_,fun p hpm=>?_⟩
  ·rw [take_sum_succ,Nat.pow_add]
   exact Nat.le_trans (hm _ _ _ hp) (Nat.mul_le_mul_right _ h1)
  ·obtain ⟨p0,hp0,hpm⟩:=List.mem_flatMap.mp hpm
   obtain ⟨c,hc,rfl⟩:=List.mem_map.mp hpm
   obtain ⟨g1,g2,g3⟩:=h2 p0 hp0
   have hc':=List.mem_range.mp hc
   have hcf : c ≤ fr.getD j 0:=by omega
   refine ⟨by show (_ ++ [_]).length = _; rw [List.length_append,g1]; rfl,fun i hi=>?_,?_⟩
   ·show (p0.1 ++ [_]).getD i 0 ≤ _
    by_cases e : i < j
    ·rw [List.getD_eq_getElem?_getD,List.getElem?_append_left (by omega),← List.getD_eq_getElem?_getD]
     exact g2 i e
    ·have e2 : i = j:=by omega
     subst e2
     rw [List.getD_eq_getElem?_getD,List.getElem?_append_right (by omega),g1,Nat.sub_self]
     show _ - _ ≤ _; omega
   ·show p0.2.2 * chs _ c ≤ _
    rw [take_sum_succ,Nat.pow_add]
    exact Nat.mul_le_mul g3 (zou _ hf c hcf)
theorem zkh {fr ul : List Nat} {num : Nat} (hs : fr.sum ≤ 16) (hl : fr.length = ul.length) : (pks fr ul num).length ≤ 65536 ∧ ∀ p ∈ pks fr ul num,Le p.1 fr ∧ p.2.2 ≤ 65536:=by
 obtain ⟨h1,h2⟩:=zcS (ul:=ul) (num:=num) hs ul.length
 have h16 : 2 ^ (fr.take ul.length).sum ≤ 65536:=Nat.le_trans (Nat.pow_le_pow_right (by decide) (Nat.le_trans (zdZ _ _) hs)) (by decide)
 refine ⟨Nat.le_trans (List.length_filter_le _ _) (Nat.le_trans h1 h16),fun p hp=>?_⟩
 obtain ⟨g1,g2,g3⟩:=h2 p (List.mem_filter.mp hp).1
 refine ⟨⟨g1.trans hl.symm,fun i=>?_⟩,Nat.le_trans g3 h16⟩
 by_cases e : i < ul.length
 ·exact g2 i e
 ·rw [List.getD_eq_getElem?_getD,List.getElem?_eq_none (by omega)]; exact Nat.zero_le _

structure WOk (fr0 : List Nat) (m : Dc) : Prop where
 nd : (Ks m).Nodup
 le : ∀ k ∈ Ks m,Le k fr0
theorem WOk.len {fr0 : List Nat} {m : Dc} (h : WOk fr0 m) (hs : fr0.sum ≤ 16) : m.length ≤ 65536:=by
 have:=zep h.nd fun k hk=>zil (h.le k hk)
 rw [List.length_map] at this
 exact Nat.le_trans this (Nat.le_trans (zim fr0) (Nat.le_trans (Nat.pow_le_pow_right (by decide) hs) (by decide)))
theorem WOk.add {fr0 : List Nat} {m : Dc} (h : WOk fr0 m) {k : List Nat} {v : Nat} (hk : Le k fr0) : WOk fr0 (addN m k v) :=
 ⟨zcG _ _ h.nd,fun k' h'=>by
  rcases zii h' with h' | rfl
  ·exact h.le k' h'
  ·exact hk⟩
theorem WOk.inn {fr0 : List Nat} (v : Nat) : ∀ (ps : List Pk) {m : Dc},WOk fr0 m → (∀ p ∈ ps,Le p.1 fr0) → WOk fr0 (Internal.BM.inn v ps m)
 | [],_,h,_=>h
 | p :: ps,m,h,hp=>WOk.inn v ps (h.add (hp p List.mem_cons_self)) fun q hq=>hp q (List.mem_cons_of_mem _ hq)
theorem WOk.wwc {fr0 ul : List Nat} (num : Nat) (hs : fr0.sum ≤ 16) (hl : fr0.length = ul.length) : ∀ (ways : Dc) {m : Dc},WOk fr0 m → (∀ kv ∈ ways,Le kv.1 fr0) → WOk fr0 (Internal.BM.wwc ul num ways m)
 | [],_,h,_=>h
 | kv :: ways,m,h,hp=>by
  have hk:=hp kv List.mem_cons_self
  refine WOk.wwc num hs hl ways (h.inn kv.2 _ fun p hp'=>?_) fun q hq=>hp q (List.mem_cons_of_mem _ hq)
  exact ((zkh (ul:=ul) (num:=num) (Nat.le_trans hk.sum hs) (hk.1.trans hl)).2 p hp').1.trans hk
theorem WOk.start (fr0 : List Nat) : WOk fr0 [(fr0,1)]:=⟨by simp,fun k hk=>by rw [List.mem_singleton.mp hk]; exact Le.refl _⟩
theorem WOk.nil (fr0 : List Nat) : WOk fr0 []:=⟨List.Pairwise.nil,fun _ h=>nomatch h⟩
end Internal.BM

end
section
set_option linter.all false
set_option Elab.async false
set_option maxRecDepth 100000
namespace Internal.BM

noncomputable def insU (x : Nat) : List Nat → List Nat
 | []=>[x]
 | y :: r=>if x < y then x :: y :: r else if x = y then y :: r else y :: insU x r
noncomputable def uq (l : List Nat) : List Nat:=l.foldr insU []
noncomputable def cn (l : List Nat) : List Nat:=(uq l).map fun u=>l.count u
theorem zeq (x z : Nat) : ∀ l,z ∈ insU x l ↔ z = x ∨ z ∈ l
 | []=>by simp [insU]
 | y :: r=>by
  unfold insU
  split
  ·simp
  ·split
   ·rename_i _ h; subst h; simp
   ·rw [List.mem_cons,zeq x z r,List.mem_cons]
    exact ⟨fun h=>by rcases h with h | h | h <;> simp [h],fun h=>by rcases h with h | h | h <;> simp [h]⟩
theorem zea (x : Nat) : ∀ l : List Nat,l.Pairwise (· < ·) → (insU x l).Pairwise (· < ·)
 | [],_=>List.pairwise_singleton _ _
 | y :: r,h=>by
  obtain ⟨h1,h2⟩:=List.pairwise_cons.mp h
  unfold insU
  split
  ·rename_i hxy
   refine List.pairwise_cons.mpr ⟨fun z hz=>?_,h⟩
   rcases List.mem_cons.mp hz with rfl | hz
   ·exact hxy
   ·exact Nat.lt_trans hxy (h1 z hz)
  ·split
   ·exact h
   ·refine List.pairwise_cons.mpr ⟨fun z hz=>?_,zea x r h2⟩
    rcases (zeq x z r).mp hz with rfl | hz
    ·omega
    ·exact h1 z hz
theorem zcy (z : Nat) : ∀ l,z ∈ uq l ↔ z ∈ l
 | []=>Iff.rfl
 | x :: l=>by
  show z ∈ insU x (uq l) ↔ _
  rw [zeq,zcy z l,List.mem_cons]
theorem zbm : ∀ l,(uq l).Pairwise (· < ·)
 | []=>.nil
 | x :: l=>zea x _ (zbm l)

noncomputable def rwsK (n : Nat) : Nat → List (List Nat)
 | 0=>[[]]
 | j + 1=>(rwsK n j).flatMap fun r=>(List.range (n - r.sum + 1)).map fun m=>r ++ [m]
noncomputable def rws (c n : Nat) : List (List Nat):=(rwsK n (c - 1)).map fun r=>r ++ [n - r.sum]
noncomputable def TY : Nat → Nat → List (List Nat × List Nat)
 | 1,1=>[([1],[1])]
 | 1,2=>[([1],[2]),([2],[1])]
 | 1,3=>[([1],[3]),([3],[1]),([1,2],[1,1])]
 | 1,4=>[([1],[4]),([4],[1]),([2],[2]),([1,2],[2,1])]
 | 2,1=>[([1],[2]),([2],[1])]
 | 2,2=>[([1],[4]),([2],[2]),([4],[1]),([1,2],[2,1])]
 | 2,3=>[([1],[6]),([3],[2]),([2],[3]),([6],[1]),([1,2],[2,2])]
 | 2,4=>[([1],[8]),([4],[2]),([2],[4]),([1,2],[4,2])]
 | 3,1=>[([1],[3]),([3],[1]),([1,2],[1,1])]
 | 3,2=>[([1],[6]),([2],[3]),([3],[2]),([6],[1]),([1,2],[2,2])]
 | 3,3=>[([1],[9]),([3],[3]),([1,4],[1,2]),([1,2],[1,4]),([1,2],[3,3]),([3,6],[1,1])]
 | 3,4=>[([1],[12]),([4],[3]),([2],[6]),([3],[4]),([12],[1]),([6],[2]),([1,2],[2,5]),([1,2],[4,4]),([1,2],[6,3]),([3,6],[2,1])]
 | 4,1=>[([1],[4]),([4],[1]),([2],[2]),([1,2],[2,1])]
 | 4,2=>[([1],[8]),([2],[4]),([4],[2]),([1,2],[4,2])]
 | 4,3=>[([1],[12]),([3],[4]),([4],[3]),([12],[1]),([2],[6]),([6],[2]),([1,2],[2,5]),([1,2],[6,3]),([3,6],[2,1]),([1,2],[4,4])]
 | 4,4=>[([1],[16]),([4],[4]),([2],[8]),([1,2,4],[2,1,3]),([1,2],[4,6]),([1,2],[8,4]),([8],[2])]
 | _,_=>[]
noncomputable def TI : Nat → Nat → List (List (List Nat))
 | 1,1=>[[[0]],[[0]],[[0]],[[0]],[[0]],[[0]],[[0]],[[0]]]
 | 1,2=>[[[0,1]],[[0,0]],[[1,0]],[[0,0]],[[0,1]],[[0,0]],[[1,0]],[[0,0]]]
 | 1,3=>[[[0,1,1]],[[0,0,0]],[[2,2,2]],[[0,0,0]],[[0,1,1]],[[0,0,0]],[[2,2,2]],[[0,0,0]]]
 | 1,4=>[[[0,1,2,1]],[[0,0,0,0]],[[2,3,2,3]],[[0,0,0,0]],[[0,1,2,1]],[[0,0,0,0]],[[2,3,2,3]],[[0,0,0,0]]]
 | 2,1=>[[[0],[1]],[[0],[0]],[[1],[0]],[[0],[0]],[[1],[0]],[[0],[0]],[[0],[1]],[[0],[0]]]
 | 2,2=>[[[0,1],[1,1]],[[2,3],[3,2]],[[1,1],[1,0]],[[2,3],[3,2]],[[1,1],[0,1]],[[3,2],[2,3]],[[1,0],[1,1]],[[3,2],[2,3]]]
 | 2,3=>[[[0,1,1],[2,3,3]],[[0,0,0],[0,0,0]],[[2,2,2],[4,4,4]],[[0,0,0],[0,0,0]],[[2,3,3],[0,1,1]],[[0,0,0],[0,0,0]],[[4,4,4],[2,2,2]],[[0,0,0],[0,0,0]]]
 | 2,4=>[[[0,1,2,1],[2,1,2,1]],[[0,0,0,0],[0,0,0,0]],[[2,2,2,2],[2,3,2,3]],[[0,0,0,0],[0,0,0,0]],[[2,1,2,1],[0,1,2,1]],[[0,0,0,0],[0,0,0,0]],[[2,3,2,3],[2,2,2,2]],[[0,0,0,0],[0,0,0,0]]]
 | 3,1=>[[[0],[1],[1]],[[0],[0],[0]],[[2],[2],[2]],[[0],[0],[0]],[[2],[2],[2]],[[0],[0],[0]],[[0],[1],[1]],[[0],[0],[0]]]
 | 3,2=>[[[0,1],[2,3],[2,3]],[[0,0],[0,0],[0,0]],[[1,4],[1,4],[1,4]],[[0,0],[0,0],[0,0]],[[4,1],[4,1],[4,1]],[[0,0],[0,0],[0,0]],[[1,0],[3,2],[3,2]],[[0,0],[0,0],[0,0]]]
 | 3,3=>[[[0,1,1],[1,1,1],[1,1,1]],[[2,2,2],[2,2,2],[2,2,2]],[[3,3,3],[3,3,3],[3,3,3]],[[2,2,2],[2,2,2],[2,2,2]],[[4,5,5],[4,5,5],[4,5,5]],[[4,5,5],[5,4,5],[5,5,4]],[[4,4,4],[5,5,5],[5,5,5]],[[4,5,5],[5,5,4],[5,4,5]]]
 | 3,4=>[[[0,1,2,1],[3,4,5,4],[3,4,5,4]],[[0,0,0,0],[0,0,0,0],[0,0,0,0]],[[2,6,2,6],[2,6,2,6],[2,6,2,6]],[[0,0,0,0],[0,0,0,0],[0,0,0,0]],[[7,1,2,1],[7,1,2,1],[7,1,2,1]],[[0,0,0,0],[0,0,0,0],[0,0,0,0]],[[2,8,2,8],[5,9,5,9],[5,9,5,9]],[[0,0,0,0],[0,0,0,0],[0,0,0,0]]]
 | 4,1=>[[[0],[1],[2],[1]],[[0],[0],[0],[0]],[[2],[3],[2],[3]],[[0],[0],[0],[0]],[[2],[3],[2],[3]],[[0],[0],[0],[0]],[[0],[1],[2],[1]],[[0],[0],[0],[0]]]
 | 4,2=>[[[0,1],[2,2],[1,1],[2,2]],[[0,0],[0,0],[0,0],[0,0]],[[1,1],[1,3],[1,1],[1,3]],[[0,0],[0,0],[0,0],[0,0]],[[1,1],[3,1],[1,1],[3,1]],[[0,0],[0,0],[0,0],[0,0]],[[1,0],[2,2],[1,1],[2,2]],[[0,0],[0,0],[0,0],[0,0]]]
 | 4,3=>[[[0,1,1],[2,3,3],[4,5,5],[2,3,3]],[[0,0,0],[0,0,0],[0,0,0],[0,0,0]],[[4,4,4],[6,6,6],[4,4,4],[6,6,6]],[[0,0,0],[0,0,0],[0,0,0],[0,0,0]],[[4,5,5],[7,8,8],[4,5,5],[7,8,8]],[[0,0,0],[0,0,0],[0,0,0],[0,0,0]],[[9,9,9],[2,2,2],[4,4,4],[2,2,2]],[[0,0,0],[0,0,0],[0,0,0],[0,0,0]]]
 | 4,4=>[[[0,1,2,1],[1,1,1,1],[2,1,2,1],[1,1,1,1]],[[1,3,1,3],[3,1,3,1],[1,3,1,3],[3,1,3,1]],[[2,2,2,2],[2,4,2,4],[2,2,2,2],[2,4,2,4]],[[1,3,1,3],[3,1,3,1],[1,3,1,3],[3,1,3,1]],[[2,1,2,1],[5,1,2,1],[2,1,2,1],[5,1,2,1]],[[4,6,1,6],[6,4,6,1],[1,6,4,6],[6,1,6,4]],[[2,5,2,5],[1,1,1,1],[2,2,2,2],[1,1,1,1]],[[4,6,1,6],[6,1,6,4],[1,6,4,6],[6,4,6,1]]]
 | _,_=>[]

noncomputable def frcLL {α : Type} : List (List Nat) → (List (List Nat) → α) → α
 | [],k=>k []
 | a :: l,k=>frcL a fun a'=>frcLL l fun l'=>k (a' :: l')
theorem zcz {α : Type} : ∀ (l : List (List Nat)) (k : List (List Nat) → α),frcLL l k = k l
 | [],k=>rfl
 | a :: l,k=>by unfold frcLL; rw [zdR,zcz l]
noncomputable def tix (w h t a b : Nat) : Nat:=(((TI w h).getD t []).getD a []).getD b 0
noncomputable def chkY (w h : Nat) : Bool:=(List.range 8).all fun t=>(w != h && t % 2 == 1) || (List.range w).all fun a=>(List.range h).all fun b=>frcL (lens w h ⟨t,a,b⟩) fun l=>(uq l,cn l) == (TY w h).getD (tix w h t a b) ([],[]) && (decide (tix w h t a b < (TY w h).length) && l.length == (cn l).sum)
noncomputable def chkV (w h c : Nat) : Bool:=frcLL (rws c (w * h)) fun rs=>(TY w h).all fun y=>rs.all fun r=>frc (L y.1 r y.2) fun v=>L y.1 r.reverse y.2 == v && L y.1 (r ++ [0]) y.2 == v
noncomputable def idx (k : Kin) (w h : Nat) : List Nat:=(turns k).flatMap fun t=>(zG k w h).map fun p=>tix w h t p.1 p.2
noncomputable def zbO : List Bool:=[false,true]
noncomputable def tot (is vs : List Nat) : Nat:=(is.map fun i=>vs.getD i 0).sum
noncomputable def chkQ (w h c : Nat) : Bool:=frcLL (rws c (w * h)) fun rs=>frcLL (rs.map fun r=>(TY w h).map fun y=>L y.1 r y.2) fun V=>frcL ((TY w h).map fun y=>c ^ y.2.sum) fun P =>
 zbO.all fun a=>zbO.all fun b=>zbO.all fun c=>zbO.all fun d=>(b && w != h) || frcL (idx ⟨a,b,c,d⟩ w h) fun is=>frc is.length fun n=>(V.map fun v=>tot is v / n).sum == tot is P / n
end Internal.BM

end
section
set_option linter.all false
set_option Elab.async false
set_option maxRecDepth 100000
namespace Internal.BM
theorem n11 : chkY 1 1 = true ∧ chkV 1 1 1 = true ∧ chkQ 1 1 1 = true ∧ chkV 1 1 2 = true ∧ chkQ 1 1 2 = true ∧ chkV 1 1 3 = true ∧ chkQ 1 1 3 = true:=by decide +kernel
theorem n12 : chkY 1 2 = true ∧ chkV 1 2 1 = true ∧ chkQ 1 2 1 = true ∧ chkV 1 2 2 = true ∧ chkQ 1 2 2 = true ∧ chkV 1 2 3 = true ∧ chkQ 1 2 3 = true:=by decide +kernel
theorem n13 : chkY 1 3 = true ∧ chkV 1 3 1 = true ∧ chkQ 1 3 1 = true ∧ chkV 1 3 2 = true ∧ chkQ 1 3 2 = true ∧ chkV 1 3 3 = true ∧ chkQ 1 3 3 = true:=by decide +kernel
theorem n14 : chkY 1 4 = true ∧ chkV 1 4 1 = true ∧ chkQ 1 4 1 = true ∧ chkV 1 4 2 = true ∧ chkQ 1 4 2 = true ∧ chkV 1 4 3 = true ∧ chkQ 1 4 3 = true:=by decide +kernel
theorem n21 : chkY 2 1 = true ∧ chkV 2 1 1 = true ∧ chkQ 2 1 1 = true ∧ chkV 2 1 2 = true ∧ chkQ 2 1 2 = true ∧ chkV 2 1 3 = true ∧ chkQ 2 1 3 = true:=by decide +kernel
theorem n22 : chkY 2 2 = true ∧ chkV 2 2 1 = true ∧ chkQ 2 2 1 = true ∧ chkV 2 2 2 = true ∧ chkQ 2 2 2 = true ∧ chkV 2 2 3 = true ∧ chkQ 2 2 3 = true:=by decide +kernel
theorem n23 : chkY 2 3 = true ∧ chkV 2 3 1 = true ∧ chkQ 2 3 1 = true ∧ chkV 2 3 2 = true ∧ chkQ 2 3 2 = true ∧ chkV 2 3 3 = true ∧ chkQ 2 3 3 = true:=by decide +kernel
theorem n24 : chkY 2 4 = true ∧ chkV 2 4 1 = true ∧ chkQ 2 4 1 = true ∧ chkV 2 4 2 = true ∧ chkQ 2 4 2 = true ∧ chkV 2 4 3 = true ∧ chkQ 2 4 3 = true:=by decide +kernel
theorem n31 : chkY 3 1 = true ∧ chkV 3 1 1 = true ∧ chkQ 3 1 1 = true ∧ chkV 3 1 2 = true ∧ chkQ 3 1 2 = true ∧ chkV 3 1 3 = true ∧ chkQ 3 1 3 = true:=by decide +kernel
theorem n32 : chkY 3 2 = true ∧ chkV 3 2 1 = true ∧ chkQ 3 2 1 = true ∧ chkV 3 2 2 = true ∧ chkQ 3 2 2 = true ∧ chkV 3 2 3 = true ∧ chkQ 3 2 3 = true:=by decide +kernel
theorem n33 : chkY 3 3 = true ∧ chkV 3 3 1 = true ∧ chkQ 3 3 1 = true ∧ chkV 3 3 2 = true ∧ chkQ 3 3 2 = true ∧ chkV 3 3 3 = true ∧ chkQ 3 3 3 = true:=by decide +kernel
theorem n34 : chkY 3 4 = true ∧ chkV 3 4 1 = true ∧ chkQ 3 4 1 = true ∧ chkV 3 4 2 = true ∧ chkQ 3 4 2 = true ∧ True ∧ True:=by decide +kernel
theorem n41 : chkY 4 1 = true ∧ chkV 4 1 1 = true ∧ chkQ 4 1 1 = true ∧ chkV 4 1 2 = true ∧ chkQ 4 1 2 = true ∧ chkV 4 1 3 = true ∧ chkQ 4 1 3 = true:=by decide +kernel
theorem n42 : chkY 4 2 = true ∧ chkV 4 2 1 = true ∧ chkQ 4 2 1 = true ∧ chkV 4 2 2 = true ∧ chkQ 4 2 2 = true ∧ chkV 4 2 3 = true ∧ chkQ 4 2 3 = true:=by decide +kernel
theorem n43 : chkY 4 3 = true ∧ chkV 4 3 1 = true ∧ chkQ 4 3 1 = true ∧ chkV 4 3 2 = true ∧ chkQ 4 3 2 = true ∧ True ∧ True:=by decide +kernel
theorem n44 : chkY 4 4 = true ∧ chkV 4 4 1 = true ∧ chkQ 4 4 1 = true ∧ chkV 4 4 2 = true ∧ chkQ 4 4 2 = true ∧ True ∧ True:=by decide +kernel
theorem pick {w h c : Nat} {a b : Prop} (x : chkY w h = true ∧ chkV w h 1 = true ∧ chkQ w h 1 = true ∧ chkV w h 2 = true ∧ chkQ w h 2 = true ∧ a ∧ b) (c0 : 1 ≤ c) (c3 : c ≤ 3) (c2 : c = 3 → a → b → chkV w h 3 = true ∧ chkQ w h 3 = true) : chkY w h = true ∧ chkV w h c = true ∧ chkQ w h c = true:=by
 have e : c = 1 ∨ c = 2 ∨ c = 3:=by omega
 rcases e with rfl | rfl | rfl
 ·exact ⟨x.1,x.2.1,x.2.2.1⟩
 ·exact ⟨x.1,x.2.2.2.1,x.2.2.2.2.1⟩
 ·exact ⟨x.1,c2 rfl x.2.2.2.2.2.1 x.2.2.2.2.2.2⟩
theorem chk13 (w h c : Nat) (w0 : 1 ≤ w) (w4 : w ≤ 4) (h0 : 1 ≤ h) (h4 : h ≤ 4) (c0 : 1 ≤ c) (c3 : c ≤ 3) (c2 : 9 < w * h → c ≤ 2) : chkY w h = true ∧ chkV w h c = true ∧ chkQ w h c = true :=
 match w,h,w0,w4,h0,h4,c2 with
 | 1,1,_,_,_,_,_=>pick n11 c0 c3 fun _ a b=>⟨a,b⟩
 | 1,2,_,_,_,_,_=>pick n12 c0 c3 fun _ a b=>⟨a,b⟩
 | 1,3,_,_,_,_,_=>pick n13 c0 c3 fun _ a b=>⟨a,b⟩
 | 1,4,_,_,_,_,_=>pick n14 c0 c3 fun _ a b=>⟨a,b⟩
 | 2,1,_,_,_,_,_=>pick n21 c0 c3 fun _ a b=>⟨a,b⟩
 | 2,2,_,_,_,_,_=>pick n22 c0 c3 fun _ a b=>⟨a,b⟩
 | 2,3,_,_,_,_,_=>pick n23 c0 c3 fun _ a b=>⟨a,b⟩
 | 2,4,_,_,_,_,_=>pick n24 c0 c3 fun _ a b=>⟨a,b⟩
 | 3,1,_,_,_,_,_=>pick n31 c0 c3 fun _ a b=>⟨a,b⟩
 | 3,2,_,_,_,_,_=>pick n32 c0 c3 fun _ a b=>⟨a,b⟩
 | 3,3,_,_,_,_,_=>pick n33 c0 c3 fun _ a b=>⟨a,b⟩
 | 3,4,_,_,_,_,c2=>pick n34 c0 c3 fun e _ _=>by have:=c2 (by decide); omega
 | 4,1,_,_,_,_,_=>pick n41 c0 c3 fun _ a b=>⟨a,b⟩
 | 4,2,_,_,_,_,_=>pick n42 c0 c3 fun _ a b=>⟨a,b⟩
 | 4,3,_,_,_,_,c2=>pick n43 c0 c3 fun e _ _=>by have:=c2 (by decide); omega
 | 4,4,_,_,_,_,c2=>pick n44 c0 c3 fun e _ _=>by have:=c2 (by decide); omega
 | 0,_,w0,_,_,_,_=>by omega
 | _,0,_,_,h0,_,_=>by omega
 | _ + 5,_,_,w4,_,_,_=>by omega
 | _,_ + 5,_,_,_,h4,_=>by omega
section
variable {k : Kin} {w h c : Nat}
theorem ty_at {t a b : Nat} (y : chkY w h = true) (ht : t < 8) (f : Fits t w h) (ha : a < w) (hb : b < h) : (uq (lens w h ⟨t,a,b⟩),cn (lens w h ⟨t,a,b⟩)) = (TY w h).getD (tix w h t a b) ([],[]) ∧ tix w h t a b < (TY w h).length ∧ (lens w h ⟨t,a,b⟩).length = (cn (lens w h ⟨t,a,b⟩)).sum:=by
 unfold chkY at y
 have h2:=List.all_eq_true.mp y t (List.mem_range.mpr ht)
 have hn : (w != h && t % 2 == 1) = false:=by
  by_cases e : t % 2 = 1
  ·have:=f e
   simp [this]
  ·have : (t % 2 == 1) = false:=beq_eq_false_iff_ne.mpr e
   rw [this,Bool.and_false]
 rw [hn,Bool.false_or] at h2
 have h3:=List.all_eq_true.mp h2 a (List.mem_range.mpr ha)
 have h4:=List.all_eq_true.mp h3 b (List.mem_range.mpr hb)
 rw [zdR] at h4
 obtain ⟨h5,h6⟩:=(Bool.and_eq_true _ _).mp h4
 obtain ⟨h7,h8⟩:=(Bool.and_eq_true _ _).mp h6
 exact ⟨eq_of_beq h5,of_decide_eq_true h7,eq_of_beq h8⟩
theorem zki (y : chkY w h = true) (w0 : 1 ≤ w) (h0 : 1 ≤ h) (hq : k.q = true → w = h) (G : List Nat × List Nat → Nat) (g : List Nat → Nat) (hg : ∀ d ∈ zg k w h,(lens w h d).length = (cn (lens w h d)).sum → g (lens w h d) = G (uq (lens w h d),cn (lens w h d))) : ((zg k w h).map fun d=>g (lens w h d)) = (idx k w h).map fun i=>((TY w h).map G).getD i 0:=by
 have key : ∀ t ∈ turns k,∀ p ∈ zG k w h,g (lens w h ⟨t,p.1,p.2⟩) = ((TY w h).map G).getD (tix w h t p.1 p.2) 0:=by
  intro t ht p hp
  have hp' : p.1 < w ∧ p.2 < h:=by
   unfold zG at hp
   split at hp
   ·obtain ⟨a,ha,hp⟩:=List.mem_flatMap.mp hp
    obtain ⟨b,hb,rfl⟩:=List.mem_map.mp hp
    exact ⟨List.mem_range.mp ha,List.mem_range.mp hb⟩
   ·rw [List.mem_singleton.mp hp]; exact ⟨w0,h0⟩
  obtain ⟨e1,e2,e3⟩:=ty_at y (zlp k t ht) (zdI hq t ht) hp'.1 hp'.2
  rw [hg _ (List.mem_flatMap.mpr ⟨t,ht,List.mem_map.mpr ⟨p,hp,rfl⟩⟩) e3,e1]
  rw [List.getD_eq_getElem?_getD,List.getD_eq_getElem?_getD,List.getElem?_map,List.getElem?_eq_getElem e2]; rfl
 unfold zg idx
 rw [List.map_flatMap,List.map_flatMap]
 have cg : ∀ {α β : Type} {f g : α → List β} {l : List α},(∀ a ∈ l,f a = g a) → l.flatMap f = l.flatMap g:=by
  intro α β f g l h
  induction l with
  | nil=>rfl
  | cons a l ih=>rw [List.flatMap_cons,List.flatMap_cons,h a (by simp),ih fun a ha=>h a (by simp [ha])]
 apply cg
 intro t ht
 rw [List.map_map,List.map_map]
 apply List.map_congr_left
 intro p hp
 exact key t ht p hp

noncomputable def FF (k : Kin) (w h : Nat) (row : List Nat) : Nat:=((zg k w h).map fun d=>L (uq (lens w h d)) row (cn (lens w h d))).sum
theorem zov (y : chkY w h = true) (w0 : 1 ≤ w) (h0 : 1 ≤ h) (hq : k.q = true → w = h) (row : List Nat) : FF k w h row = tot (idx k w h) ((TY w h).map fun y=>L y.1 row y.2):=by
 unfold FF tot
 rw [zki (k:=k) y w0 h0 hq (fun y=>L y.1 row y.2) (fun l=>L (uq l) row (cn l)) fun d _ _=>rfl]
theorem zmO : (idx k w h).length = (zg k w h).length:=by
 unfold idx zg
 rw [List.length_flatMap,List.length_flatMap]
 simp only [List.length_map]
end

end Internal.BM

end
section
set_option Elab.async false
set_option linter.all false
set_option maxRecDepth 100000
set_option maxHeartbeats 4000000
namespace Internal
open PySem PySem.Spec PyProof.Rows Internal.L2 Internal.BM

noncomputable abbrev cI (k : List Nat) : List Int:=k.map fun n : Nat=>(n : Int)
noncomputable abbrev dN (m : Dc) : List (List Int × Int):=m.map fun kv=>(cI kv.1,(kv.2 : Int))
theorem zcT {a b : List Nat} : cI a = cI b ↔ a = b:=⟨fun h=>List.map_inj_right (fun _ _ e=>Int.ofNat.inj e) |>.mp h,fun h=>by rw [h]⟩
theorem cI_D (k : List Nat) : (cI k).map D.int = k.map natD:=by rw [List.map_map]; rfl
theorem zdU (k : List Nat) : ∀ (m : Dc),getI (dN m) (cI k) = (getN m k).map fun n : Nat=>(n : Int)
 | []=>rfl
 | kv :: m=>by
  rw [zcF]
  have e : getI (dN (kv :: m)) (cI k) = if cI kv.1 = cI k then some (kv.2 : Int) else getI (dN m) (cI k):=by
   unfold getI
   show Option.map _ (List.find? _ ((cI kv.1,(kv.2 : Int)) :: dN m)) = _
   rw [List.find?_cons]
   by_cases h : cI kv.1 = cI k
   ·rw [if_pos h,decide_eq_true h]; rfl
   ·rw [if_neg h,decide_eq_false h]
  rw [e,zdU k m]
  by_cases h : kv.1 = k
  ·rw [if_pos (zcT.mpr h),if_pos h]; rfl
  ·rw [if_neg fun z=>h (zcT.mp z),if_neg h]
theorem zmP (m : Dc) (k : List Nat) (v : Nat) : putI (dN m) (cI k) (v : Int) = dN (putN m k v):=by
 unfold putI putN dN
 rw [List.any_map]
 have e : ((fun kv : List Int × Int=>decide (kv.1 = cI k)) ∘ fun kv : List Nat × Nat=>(cI kv.1,(kv.2 : Int))) = fun kv=>decide (kv.1 = k):=by
  funext kv
  show decide (cI kv.1 = cI k) = _
  exact decide_eq_decide.mpr zcT
 rw [e]
 split
 ·rw [List.map_map,List.map_map]
  apply List.map_congr_left
  intro kv _
  show (if cI kv.1 = cI k then (cI kv.1,(v : Int)) else (cI kv.1,(kv.2 : Int))) = _
  simp only [Function.comp]
  by_cases h : kv.1 = k
  ·rw [if_pos (zcT.mpr h),if_pos h]
  ·rw [if_neg fun z=>h (zcT.mp z),if_neg h]
 ·rw [List.map_append]; rfl
theorem zin (m : Dc) (k : List Nat) (v : Nat) : putI (dN m) (cI k) ((getI (dN m) (cI k)).getD 0 + (v : Int)) = dN (addN m k v):=by
 unfold addN
 rw [← zmP,zdU]
 congr 1
 cases getN m k with
 | none=>rfl
 | some n=>rfl

theorem zio (val : Nat → Int) (z : Int) : ∀ n,z ∈ DSt.met val n ↔ ∃ i,i < n ∧ val i = z
 | 0=>⟨(nomatch ·),fun ⟨i,h,_⟩=>by omega⟩
 | n + 1=>by
  unfold DSt.met
  have ih:=zio val z n
  split
  ·rename_i h
   rw [ih]
   refine ⟨fun ⟨i,hi,e⟩=>⟨i,by omega,e⟩,fun hP78=>?_⟩
   obtain ⟨i,hi,e⟩:=hP78
   by_cases hn : i = n
   ·subst hn
    exact ih.mp (e ▸ h)
   ·exact ⟨i,by omega,e⟩
  ·rw [List.mem_cons,ih]
   refine ⟨fun h=>?_,fun ⟨i,hi,e⟩=>?_⟩
   ·rcases h with h | ⟨i,hi,e⟩
    ·exact ⟨n,by omega,h.symm⟩
    ·exact ⟨i,by omega,e⟩
   ·by_cases hn : i = n
    ·subst hn; exact .inl e.symm
    ·exact .inr ⟨i,by omega,e⟩
theorem zdJ (val : Nat → Int) : ∀ n,(DSt.met val n).Nodup
 | 0=>List.Pairwise.nil
 | n + 1=>by
  unfold DSt.met
  split
  ·exact zdJ val n
  ·rename_i h
   exact List.nodup_cons.mpr ⟨h,zdJ val n⟩
theorem zkj (ns : List Int) (z : Int) : z ∈ uniqZ ns ↔ z ∈ ns:=by
 unfold uniqZ
 rw [(zbb _).mem_iff,zio]
 refine ⟨fun ⟨i,hi,e⟩=>?_,fun h=>?_⟩
 ·rw [List.getD_eq_getElem?_getD,List.getElem?_eq_getElem hi] at e
  rw [← e]; exact List.getElem_mem hi
 ·obtain ⟨i,hi,e⟩:=List.getElem_of_mem h
  exact ⟨i,hi,by rw [List.getD_eq_getElem?_getD,List.getElem?_eq_getElem hi]; exact e⟩
theorem zcA {l : List Nat} (h : l.Pairwise (· < ·)) : l.Nodup:=h.imp fun h=>Nat.ne_of_lt h
theorem zls (l : List Nat) : uniqZ (cI l) = cI (uq l):=by
 have s2 : (cI (uq l)).Pairwise (· ≤ ·):=by
  rw [List.pairwise_map]
  exact (zbm l).imp fun h=>by omega
 have n2 : (cI (uq l)).Nodup:=by
  unfold List.Nodup
  rw [List.pairwise_map]
  exact (zcA (zbm l)).imp fun h z=>h (by omega)
 have n1 : (uniqZ (cI l)).Nodup:=(zbb _).nodup_iff.mpr (zdJ _ _)
 refine zcI ((List.perm_ext_iff_of_nodup n1 n2).mpr fun z=>?_) (zbN _) s2
 rw [zkj,List.mem_map,List.mem_map]
 exact ⟨fun ⟨a,ha,e⟩=>⟨a,(zcy a l).mpr ha,e⟩,fun ⟨a,ha,e⟩=>⟨a,(zcy a l).mp ha,e⟩⟩
theorem zlt {l l' : List Nat} (h : ∀ z,z ∈ l ↔ z ∈ l') : uq l = uq l' :=
 ((List.perm_ext_iff_of_nodup (zcA (zbm l)) (zcA (zbm l'))).mpr fun z=>by rw [zcy,zcy,h]).eq_of_pairwise (le:=(· < ·)) (fun a b _ _ h1 h2=>by omega) (zbm l) (zbm l')

noncomputable def srt (l : List Nat) : List Nat:=(sortZ (cI l)).map Int.toNat
theorem zow (l : List Nat) : cI (srt l) = sortZ (cI l):=by
 unfold srt cI
 rw [List.map_map]
 have : ∀ x ∈ sortZ (cI l),0 ≤ x:=fun x hx=>by
  obtain ⟨n,_,rfl⟩:=List.mem_map.mp ((zbb _).mem_iff.mp hx)
  omega
 refine (List.map_congr_left fun x hx=>?_).trans (List.map_id _)
 show ((x.toNat : Nat) : Int) = id x
 rw [Int.toNat_of_nonneg (this x hx)]; rfl
theorem zdj (l : List Nat) : (srt l).Perm l:=by
 have h:=(zbb (cI l)).map Int.toNat
 have e : (cI l).map Int.toNat = l:=by
  rw [List.map_map]
  exact (List.map_congr_left fun x _=>by simp).trans (List.map_id _)
 rw [e] at h
 exact h
theorem zkk (l : List Nat) : uq (srt l) = uq l:=zlt fun z=>(zdj l).mem_iff
theorem zox (l : List Nat) : cn (srt l) = cn l:=by
 unfold cn
 rw [zkk]
 exact List.map_congr_left fun u _=>(zdj l).count_eq u
theorem zlu (l : List Nat) (u : Nat) : (cI l).count (u : Int) = l.count u:=by
 unfold cI
 induction l with
 | nil=>rfl
 | cons a l ih =>
  rw [List.map_cons,List.count_cons,List.count_cons,ih]
  congr 1
  by_cases h : a = u
  ·subst h; simp
  ·have : ¬ ((a : Int) = (u : Int)):=by omega
   simp [h,this]

theorem zoy (l : List Nat) : (cn l).sum ≤ l.length:=by
 have key : ∀ (U : List Nat),U.Nodup → ∀ l : List Nat,(U.map fun u=>l.count u).sum ≤ l.length:=by
  intro U hU l
  induction l with
  | nil =>
   have : (U.map fun u=>([] : List Nat).count u) = U.map fun _=>0:=List.map_congr_left fun u _=>rfl
   rw [this]
   have z : ∀ U : List Nat,(U.map fun _=>0).sum = 0:=fun U=>by induction U with
    | nil=>rfl
    | cons a U ih=>rw [List.map_cons,List.sum_cons,ih]
   rw [z]; exact Nat.le_refl _
  | cons a l ih =>
   have e : ∀ U : List Nat,U.Nodup → (U.map fun u=>(a :: l).count u).sum ≤ (U.map fun u=>l.count u).sum + 1 ∧ (a ∉ U → (U.map fun u=>(a :: l).count u).sum = (U.map fun u=>l.count u).sum):=by
    intro U hU
    induction U with
    | nil=>exact ⟨Nat.zero_le _,fun _=>rfl⟩
    | cons u U ihU =>
     rw [List.nodup_cons] at hU
     obtain ⟨i1,i2⟩:=ihU hU.2
     simp only [List.map_cons,List.sum_cons] at i1 i2 ⊢
     rw [List.count_cons]
     by_cases h : a = u
     ·subst h
      have:=i2 hU.1
      simp only [beq_self_eq_true,if_true]
      exact ⟨by omega,fun z=>(z List.mem_cons_self).elim⟩
     ·have hb : (a == u) = false:=beq_eq_false_iff_ne.mpr h
      rw [hb]
      simp only [Bool.false_eq_true,if_false]
      exact ⟨by omega,fun z=>by rw [i2 fun y=>z (List.mem_cons_of_mem _ y)]; rfl⟩
   have:=(e U hU).1
   rw [List.length_cons]; omega
 exact key _ (zcA (zbm l)) l
theorem zeL : ∀ l : List Nat,(cI l).sum = ((l.sum : Nat) : Int)
 | []=>rfl
 | a :: l=>by
  rw [List.sum_cons,Int.natCast_add,← zeL l]; rfl
theorem zer {α : Type} (f : α → Nat) : ∀ l : List α,(l.map fun a=>((f a : Nat) : Int)).sum = (((l.map f).sum : Nat) : Int)
 | []=>rfl
 | a :: l=>by
  rw [List.map_cons,List.map_cons,List.sum_cons,List.sum_cons,Int.natCast_add,zer f l]
theorem zgW : ∀ {l : List Nat} {x : Nat},x ∈ l → x ≤ l.sum
 | a :: l,x,h=>by
  rw [List.sum_cons]
  rcases List.mem_cons.mp h with rfl | h
  ·omega
  ·have:=zgW h; omega

noncomputable abbrev pkD (p : Pk) : D:=.tup [rowD (cI p.1),natD p.2.1,natD p.2.2]
end Internal

end
section
set_option linter.all false
namespace Internal.BM

noncomputable def nbRow (c k n num : Nat) : List Int:=(List.range n).map fun x=>((num / c ^ (k + x) % c : Nat) : Int)
noncomputable def nb (c w h num : Nat) : Bd:=(List.range h).map fun y=>nbRow c (y * w) w num
noncomputable def allB (c w h : Nat) : List Bd:=(List.range (c ^ (w * h))).map (nb c w h)
theorem zcU (c w h num : Nat) : Rect w h (nb c w h num):=by
 refine ⟨by unfold nb; rw [List.length_map,List.length_range],fun r hr=>?_⟩
 obtain ⟨y,_,rfl⟩:=List.mem_map.mp hr
 unfold nbRow; rw [List.length_map,List.length_range]

theorem zfl : ∀ {w : Nat} {b : Bd},(∀ r ∈ b,r.length = w) → ∀ {x y : Nat},x < w → b.flatten.getD (y * w + x) 0 = (b.getD y []).getD x 0
 | w,[],_,x,y,_=>by simp
 | w,r :: b,h,x,0,hx=>by
  have hr:=h r (by simp)
  rw [Nat.zero_mul,Nat.zero_add,List.flatten_cons,List.getD_eq_getElem?_getD,List.getElem?_append_left (by rw [hr]; exact hx)]
  simp
 | w,r :: b,h,x,y + 1,hx=>by
  have hr:=h r (by simp)
  have ih:=zfl (w:=w) (b:=b) (fun r hr=>h r (by simp [hr])) (x:=x) (y:=y) hx
  rw [List.flatten_cons,List.getD_eq_getElem?_getD,List.getElem?_append_right (by rw [hr,Nat.succ_mul]; omega),hr,show (y + 1) * w + x - w = y * w + x by rw [Nat.succ_mul]; omega,← List.getD_eq_getElem?_getD,ih]
  simp
theorem zcb {w h : Nat} {b : Bd} (r : Rect w h b) (hw : 0 < w) (hh : 0 < h) (x y : Int) : b.flatten.getD ((y % (h : Int)).toNat * w + (x % (w : Int)).toNat) 0 = cell w h b x y:=by
 rw [zfl r.row (zB hw)]; rfl
theorem zlv {w h : Nat} {b b' : Bd} (r : Rect w h b) (r' : Rect w h b') (hw : 0 < w) (hh : 0 < h) (e : b.flatten = b'.flatten) : b = b' :=
 znS r r' fun x y=>by rw [← zcb r hw hh,← zcb r' hw hh,e]
theorem zlw {w h : Nat} (hw : 0 < w) (hh : 0 < h) (x y : Int) : cell w h (numB w h) x y = (((y % (h : Int)).toNat * w + (x % (w : Int)).toNat : Nat) : Int):=by
 unfold cell numB
 have hj:=zB (k:=y) hh
 have hi:=zB (k:=x) hw
 rw [getD_lt _ (y % (h : Int)).toNat [] (by rw [List.length_map,List.length_range]; exact hj),List.getElem_map,List.getElem_range,getD_lt _ (x % (w : Int)).toNat 0 (by rw [List.length_map,List.length_range]; exact hi),List.getElem_map,List.getElem_range]
theorem zmQ {w h : Nat} {b : Bd} {d : Deed} (f : Fits d.t w h) (r : Rect w h b) (hw : 0 < w) (hh : 0 < h) : (dn w h b d).flatten = (origins w h d).map fun o=>b.flatten.getD o.toNat 0:=by
 have rd:=zcp f r hh
 have rn:=zcp f (zbY w h) hh
 have l1:=zbS rd
 have l2:=zbS rn
 apply List.ext_getElem
 ·rw [List.length_map]; unfold origins; rw [l1,l2]
 ·intro k h1 h2
  rw [l1] at h1
  rw [List.getElem_map]
  have ek : k = k / w * w + k % w:=by have:=Nat.div_add_mod k w; rw [Nat.mul_comm] at this; omega
  have hx : k % w < w:=Nat.mod_lt _ hw
  have hy : k / w < h:=Nat.div_lt_of_lt_mul (by rw [Nat.mul_comm]; exact h1)
  have gx : (((k % w : Nat) : Int) % (w : Int)).toNat = k % w:=zco hx
  have gy : (((k / w : Nat) : Int) % (h : Int)).toNat = k / w:=zco hy
  have a1:=zcb rd hw hh ((k % w : Nat) : Int) ((k / w : Nat) : Int)
  have a2:=zcb rn hw hh ((k % w : Nat) : Int) ((k / w : Nat) : Int)
  rw [gx,gy,← ek] at a1 a2
  rw [getD_lt _ k 0 (by rw [l1]; exact h1)] at a1
  rw [getD_lt _ k 0 (by rw [l2]; exact h1)] at a2
  unfold origins
  rw [a1,a2,zfg f r hw hh,zfg f (zbY w h) hw hh,zlw hw hh,Int.toNat_natCast,zcb r hw hh]
theorem zcV (c w h num : Nat) : (nb c w h num).flatten = (List.range (w * h)).map fun k=>((num / c ^ k % c : Nat) : Int):=by
 have l:=zbS (zcU c w h num)
 apply List.ext_getElem
 ·rw [l,List.length_map,List.length_range,Nat.mul_comm]
 ·intro k h1 h2
  rw [l] at h1
  have hw : 0 < w:=by
   rcases Nat.eq_zero_or_pos w with e | e
   ·rw [e,Nat.mul_zero] at h1; omega
   ·exact e
  have ek : k = k / w * w + k % w:=by have:=Nat.div_add_mod k w; rw [Nat.mul_comm] at this; omega
  have hx : k % w < w:=Nat.mod_lt _ hw
  have hy : k / w < h:=Nat.div_lt_of_lt_mul (by rw [Nat.mul_comm]; exact h1)
  have a:=zfl (zcU c w h num).row (x:=k % w) (y:=k / w) hx
  rw [← ek,getD_lt _ k 0 (by rw [l]; exact h1)] at a
  rw [a,List.getElem_map,List.getElem_range]
  unfold nb nbRow
  rw [getD_lt _ (k / w) [] (by rw [List.length_map,List.length_range]; exact hy),List.getElem_map,List.getElem_range,getD_lt _ (k % w) 0 (by rw [List.length_map,List.length_range]; exact hx),List.getElem_map,List.getElem_range,← ek]
end Internal.BM

end
section
set_option linter.all false
namespace Internal.BM
noncomputable def sizes : List (Nat × Nat × Nat):=[(1,1,3),(2,1,4),(1,3,4),(3,1,3),(2,2,4),(2,2,3),(2,3,2),(3,2,3),(3,3,2),(4,2,2)]
set_option maxRecDepth 100000 in
theorem zgX : ∀ s ∈ sizes,0 < s.1 ∧ 0 < s.2.1 ∧ s.1 ≤ 4 ∧ s.2.1 ≤ 3 ∧ 0 < s.2.2 ∧ s.2.2 ≤ 4 ∧ (s.1 * s.2.1 ≤ 6 → s.2.2 ^ (s.1 * s.2.1) ≤ 729) ∧ s.1 * s.2.1 ≤ 9:=by decide +kernel
end Internal.BM

end
section
set_option linter.all false
set_option Elab.async false
set_option maxRecDepth 100000
namespace Internal.BM

noncomputable def enc (c : Nat) : List Nat → Nat
 | []=>0
 | x :: r=>x + c * enc c r
noncomputable def dig (c m k : Nat) : Nat:=m / c ^ k % c
noncomputable def digs (c N m : Nat) : List Nat:=(List.range N).map (dig c m)
noncomputable def pmN (c : Nat) (os : List Nat) (m : Nat) : Nat:=enc c (os.map (dig c m))
theorem ziq {c : Nat} (c0 : 0 < c) : ∀ (ds : List Nat) (k : Nat),(∀ x ∈ ds,x < c) → k < ds.length → dig c (enc c ds) k = ds.getD k 0
 | [],k,_,h=>by simp at h
 | x :: r,0,hx,_=>by
  have:=hx x List.mem_cons_self
  unfold dig enc
  rw [Nat.pow_zero,Nat.div_one,Nat.add_mul_mod_self_left,Nat.mod_eq_of_lt this]; rfl
 | x :: r,k + 1,hx,h=>by
  have h1:=hx x List.mem_cons_self
  have ih:=ziq c0 r k (fun y hy=>hx y (List.mem_cons_of_mem _ hy)) (by simpa using h)
  unfold dig at ih ⊢
  have e : enc c (x :: r) / c ^ (k + 1) = enc c r / c ^ k:=by
   show (x + c * enc c r) / c ^ (k + 1) = _
   rw [Nat.pow_succ',← Nat.div_div_eq_div_mul,Nat.add_mul_div_left _ _ c0,Nat.div_eq_of_lt h1,Nat.zero_add]
  rw [e,ih]; simp
theorem zkl {c : Nat} (c0 : 0 < c) : ∀ (ds : List Nat),(∀ x ∈ ds,x < c) → enc c ds < c ^ ds.length
 | [],_=>Nat.one_pos
 | x :: r,hx=>by
  have h1:=hx x List.mem_cons_self
  have ih:=zkl c0 r (fun y hy=>hx y (List.mem_cons_of_mem _ hy))
  show x + c * enc c r < c ^ (r.length + 1)
  rw [Nat.pow_succ,Nat.mul_comm (c ^ r.length)]
  have : c * (enc c r + 1) ≤ c * c ^ r.length:=Nat.mul_le_mul_left c ih
  rw [Nat.mul_add,Nat.mul_one] at this
  omega
theorem zes {c : Nat} (c0 : 0 < c) : ∀ (N m : Nat),m < c ^ N → enc c (digs c N m) = m
 | 0,m,h=>by rw [Nat.pow_zero] at h; show 0 = m; omega
 | N + 1,m,h=>by
  have e : digs c (N + 1) m = m % c :: digs c N (m / c):=by
   unfold digs
   rw [List.range_succ_eq_map,List.map_cons,List.map_map]
   congr 1
   ·unfold dig; rw [Nat.pow_zero,Nat.div_one]
   ·apply List.map_congr_left
    intro k _
    show dig c m (k + 1) = dig c (m / c) k
    unfold dig
    rw [Nat.div_div_eq_div_mul,Nat.pow_succ,Nat.mul_comm]
  rw [e]
  show m % c + c * enc c (digs c N (m / c)) = m
  rw [zes c0 N (m / c) (Nat.div_lt_of_lt_mul (by rw [Nat.mul_comm,← Nat.pow_succ]; exact h)),Nat.mod_add_div]
theorem zoz {c : Nat} (c0 : 0 < c) (m k : Nat) : dig c m k < c:=Nat.mod_lt _ c0
theorem zoA {c w h m m' : Nat} (c0 : 0 < c) (hm : m < c ^ (w * h)) (hm' : m' < c ^ (w * h)) (e : nb c w h m = nb c w h m') : m = m':=by
 have e2:=congrArg List.flatten e
 rw [zcV,zcV] at e2
 rw [← zes c0 (w * h) m hm,← zes c0 (w * h) m' hm']
 congr 1
 unfold digs
 apply List.map_congr_left
 intro k hk
 have:=congrArg (fun l=>l[k]?) e2
 simp only [List.getElem?_map,List.getElem?_range (List.mem_range.mp hk),Option.map_some,Option.some.injEq] at this
 unfold dig
 omega
theorem dn_nb {c w h m : Nat} {d : Deed} (c0 : 0 < c) (f : Fits d.t w h) (hw : 0 < w) (hh : 0 < h) : dn w h (nb c w h m) d = nb c w h (pmN c ((origins w h d).map Int.toNat) m) ∧ pmN c ((origins w h d).map Int.toNat) m < c ^ (w * h):=by
 have r:=zcU c w h m
 have ok:=zdc (d:=d) f hw hh
 have lt : ∀ x ∈ ((origins w h d).map Int.toNat).map (dig c m),x < c:=fun x hx=>by
  obtain ⟨o,_,rfl⟩:=List.mem_map.mp hx
  exact zoz c0 _ _
 have ln : (((origins w h d).map Int.toNat).map (dig c m)).length = w * h:=by rw [List.length_map,List.length_map,ok.len]
 have l2:=zkl c0 _ lt
 rw [ln] at l2
 refine ⟨zlv (zcp f r hh) (zcU _ _ _ _) hw hh ?_,l2⟩
 rw [zmQ f r hw hh,zcV c w h (pmN c ((origins w h d).map Int.toNat) m)]
 apply List.ext_getElem
 ·rw [List.length_map,List.length_map,List.length_range,ok.len]
 ·intro k h1 h2
  rw [List.length_map,List.length_range] at h2
  rw [List.getElem_map,List.getElem_map,List.getElem_range]
  have hm:=ok.mem _ (List.getElem_mem (l:=origins w h d) (by rw [ok.len]; exact h2))
  have ho : ((origins w h d)[k]'(by rw [ok.len]; exact h2)).toNat < w * h:=by omega
  have g : (nb c w h m).flatten.getD ((origins w h d)[k]'(by rw [ok.len]; exact h2)).toNat 0 = ((dig c m ((origins w h d)[k]'(by rw [ok.len]; exact h2)).toNat : Nat) : Int):=by
   rw [zcV,getD_lt _ _ 0 (by rw [List.length_map,List.length_range]; exact ho),List.getElem_map,List.getElem_range]; rfl
  rw [g]
  have ed:=ziq c0 _ k lt (by rw [ln]; exact h2)
  unfold dig at ed
  show _ = ((enc c (((origins w h d).map Int.toNat).map (dig c m)) / c ^ k % c : Nat) : Int)
  unfold dig
  rw [ed,getD_lt _ k 0 (by rw [List.length_map,List.length_map,ok.len]; exact h2),List.getElem_map,List.getElem_map]

noncomputable def insK (ks : List Bd) (k : Bd) : List Bd:=if k ∈ ks then ks else ks ++ [k]
theorem zlx (ks : List Bd) (k x : Bd) : x ∈ insK ks k ↔ x ∈ ks ∨ x = k:=by
 unfold insK
 split
 ·rename_i h
  exact ⟨.inl,fun z=>by rcases z with z | rfl <;> assumption⟩
 ·rw [List.mem_append,List.mem_singleton]
noncomputable def dstep (w h : Nat) (ds : List Deed) (p : Bd → Bool) (st : List Bd × Nat) (b : Bd) : List Bd × Nat:=if (!decide (b ∈ st.1) && p b) = true then (ds.foldl (fun ks d=>insK ks (dn w h b d)) st.1,st.2 + 1) else st
noncomputable def due (w h : Nat) (ds : List Deed) (p : Bd → Bool) (bs : List Bd) : List Bd × Nat:=bs.foldl (dstep w h ds p) ([],0)
noncomputable def marks (c : Nat) : List (List Nat) → Nat → Nat → Nat
 | [],_,M=>M
 | os :: r,m,M=>frc (M ||| (1 <<< pmN c os m)) fun M'=>marks c r m M'
noncomputable def dueF (c : Nat) (oss : List (List Nat)) : List Nat → Nat → Nat → Nat
 | [],_,n=>n
 | m :: ms,M,n=>if M.testBit m then dueF c oss ms M n else frc (marks c oss m M) fun M'=>frc (n + 1) fun n'=>dueF c oss ms M' n'
noncomputable def Rl (c w h : Nat) (ks : List Bd) (M : Nat) : Prop:=∀ m,m < c ^ (w * h) → (nb c w h m ∈ ks ↔ M.testBit m = true)
theorem zoB (M j m : Nat) : (M ||| (1 <<< j)).testBit m = (M.testBit m || decide (m = j)):=by
 rw [Nat.testBit_or,Nat.testBit_shiftLeft]
 congr 1
 by_cases e : m = j
 ·subst e; simp
 ·rw [decide_eq_false e]
  by_cases g : j ≤ m
  ·have : (1 : Nat).testBit (m - j) = false:=by
    obtain ⟨i,hi⟩ : ∃ i,m - j = i + 1:=⟨m - j - 1,by omega⟩
    rw [hi,Nat.testBit_succ]; simp
   rw [this,Bool.and_false]
  ·rw [decide_eq_false g,Bool.false_and]
theorem zgY {c w h : Nat} (c0 : 0 < c) (hw : 0 < w) (hh : 0 < h) (m : Nat) : ∀ (ds : List Deed) {ks : List Bd} {M : Nat},(∀ d ∈ ds,Fits d.t w h) → Rl c w h ks M → Rl c w h (ds.foldl (fun ks d=>insK ks (dn w h (nb c w h m) d)) ks) (marks c (ds.map fun d=>(origins w h d).map Int.toNat) m M)
 | [],_,_,_,h=>h
 | d :: ds,ks,M,f,h=>by
  obtain ⟨e1,e2⟩:=dn_nb (m:=m) c0 (f d List.mem_cons_self) hw hh
  rw [List.foldl_cons,List.map_cons]
  show Rl c w _ _ (frc _ _)
  rw [zeK]
  refine zgY c0 hw hh m ds (fun d' hd=>f d' (List.mem_cons_of_mem _ hd)) fun j hj=>?_
  rw [zlx,zoB,Bool.or_eq_true,decide_eq_true_eq,h j hj,e1]
  exact ⟨fun z=>by
   rcases z with z | z
   ·exact .inl z
   ·exact .inr (zoA c0 hj e2 z),fun z=>by
   rcases z with z | z
   ·exact .inl z
   ·exact .inr (by rw [z])⟩
theorem zeM {c w h : Nat} (c0 : 0 < c) (hw : 0 < w) (hh : 0 < h) {ds : List Deed} (f : ∀ d ∈ ds,Fits d.t w h) {p : Bd → Bool} {q : Nat → Bool} : ∀ (ms : List Nat) {ks : List Bd} {M n : Nat},(∀ m ∈ ms,m < c ^ (w * h) ∧ p (nb c w h m) = q m) → Rl c w h ks M →
  ((ms.map (nb c w h)).foldl (dstep w h ds p) (ks,n)).2 = dueF c (ds.map fun d=>(origins w h d).map Int.toNat) (ms.filter q) M n
 | [],_,_,_,_,_=>rfl
 | m :: ms,ks,M,n,hm,r=>by
  obtain ⟨h1,h2⟩:=hm m List.mem_cons_self
  have hm' : ∀ m ∈ ms,m < c ^ (w * h) ∧ p (nb c w h m) = q m:=fun m hx=>hm m (List.mem_cons_of_mem _ hx)
  rw [List.map_cons,List.foldl_cons,List.filter_cons]
  unfold dstep
  dsimp only
  rw [h2]
  cases hq : q m with
  | false =>
   rw [Bool.and_false,if_neg Bool.false_ne_true,if_neg Bool.false_ne_true]
   exact zeM c0 hw hh f ms hm' r
  | true =>
   rw [Bool.and_true,if_pos rfl]
   have hr:=r m h1
   unfold dueF
   by_cases hb : nb c w h m ∈ ks
   ·rw [decide_eq_true hb,if_neg (by decide),hr.mp hb,if_pos rfl]
    exact zeM c0 hw hh f ms hm' r
   ·have hf : M.testBit m = false:=by
     cases z : M.testBit m with
     | false=>rfl
     | true=>exact (hb (hr.mpr z)).elim
    rw [decide_eq_false hb,if_pos (by decide),hf,if_neg Bool.false_ne_true,zeK,zeK]
    exact zeM c0 hw hh f ms hm' (zgY c0 hw hh m ds f r)

noncomputable def cntB (b : Bd) (c : Nat) : List Nat:=(List.range c).map fun k : Nat=>b.flatten.count (k : Int)
noncomputable def cntN (c N m : Nat) : List Nat:=(List.range c).map fun k=>(digs c N m).count k
theorem zoC (c w h m : Nat) : cntB (nb c w h m) c = cntN c (w * h) m:=by
 unfold cntB cntN
 apply List.map_congr_left
 intro k _
 rw [zcV]
 unfold digs
 have : ∀ l : List Nat,(l.map fun j=>((m / c ^ j % c : Nat) : Int)).count (k : Int) = (l.map (dig c m)).count k:=by
  intro l
  induction l with
  | nil=>rfl
  | cons a l ih =>
   rw [List.map_cons,List.map_cons,List.count_cons,List.count_cons,ih]
   congr 1
   unfold dig
   by_cases h : m / c ^ a % c = k
   ·rw [h]; simp
   ·have : ¬ (((m / c ^ a % c : Nat) : Int) = (k : Int)):=by omega
    rw [beq_eq_false_iff_ne.mpr this,beq_eq_false_iff_ne.mpr h]
 exact this _
noncomputable def oss (k : Kin) (w h : Nat) : List (List Nat):=(zg k w h).map fun d=>(origins w h d).map Int.toNat
noncomputable def all2 (f : List Nat → List Nat → Bool) : List (List Nat) → List (List Nat) → Bool
 | a :: r,b :: s=>f a b && all2 f r s
 | [],[]=>true
 | _,_=>false
noncomputable def chkD (w h c : Nat) : Bool:=frcLL (rws c (w * h)) fun rs=>frcLL (rs.map fun r=>(List.range (c ^ (w * h))).filter fun m=>cntN c (w * h) m == r) fun MS=>frcLL (rs.map fun r=>(TY w h).map fun y=>L y.1 r y.2) fun V =>
 zbO.all fun a=>zbO.all fun b=>zbO.all fun cc=>zbO.all fun d=>(b && w != h) || frcL (idx ⟨a,b,cc,d⟩ w h) fun is=>frcLL (oss ⟨a,b,cc,d⟩ w h) fun os=>all2 (fun ms v=>dueF c os ms 0 0 == tot is v / is.length) MS V
end Internal.BM

end
section
set_option linter.all false
set_option Elab.async false
set_option maxRecDepth 100000
namespace Internal.BM
theorem zgZ {n : Nat} : ∀ (j : Nat) (r : List Nat),r.length = j → r.sum ≤ n → r ∈ rwsK n j
 | 0,r,hl,_=>by rw [List.length_eq_zero_iff.mp hl]; exact List.mem_singleton.mpr rfl
 | j + 1,r,hl,hs=>by
  have hne : r ≠ []:=fun z=>by rw [z] at hl; cases hl
  have e:=List.dropLast_concat_getLast hne
  have es : r.dropLast.sum + r.getLast hne = r.sum:=by
   conv=>rhs; rw [← e,List.sum_append]
   simp
  refine List.mem_flatMap.mpr ⟨r.dropLast,zgZ j _ (by rw [List.length_dropLast,hl]; rfl) (by omega),List.mem_map.mpr ⟨r.getLast hne,List.mem_range.mpr (by omega),e⟩⟩
theorem zmR {c n : Nat} {r : List Nat} (c0 : 1 ≤ c) (hl : r.length = c) (hs : r.sum = n) : r ∈ rws c n:=by
 have hne : r ≠ []:=fun z=>by rw [z] at hl; simp at hl; omega
 have e:=List.dropLast_concat_getLast hne
 have es : r.dropLast.sum + r.getLast hne = r.sum:=by
  conv=>rhs; rw [← e,List.sum_append]
  simp
 refine List.mem_map.mpr ⟨r.dropLast,zgZ _ _ (by rw [List.length_dropLast,hl]) (by omega),?_⟩
 have : n - r.dropLast.sum = r.getLast hne:=by omega
 rw [this]; exact e
theorem zir {α : Type} {f : List Nat → List Nat → Bool} {A B : α → List Nat} : ∀ {l : List α},all2 f (l.map A) (l.map B) = true → ∀ a ∈ l,f (A a) (B a) = true
 | a :: l,h,x,hx=>by
  obtain ⟨h1,h2⟩:=(Bool.and_eq_true _ _).mp (show (f (A a) (B a) && all2 f (l.map A) (l.map B)) = true from h)
  rcases List.mem_cons.mp hx with rfl | hx
  ·exact h1
  ·exact zir h2 x hx
theorem o111 : chkD 1 1 1 = true:=by decide +kernel
theorem o112 : chkD 1 1 2 = true:=by decide +kernel
theorem o113 : chkD 1 1 3 = true:=by decide +kernel
theorem o211 : chkD 2 1 1 = true:=by decide +kernel
theorem o212 : chkD 2 1 2 = true:=by decide +kernel
theorem o213 : chkD 2 1 3 = true:=by decide +kernel
theorem o131 : chkD 1 3 1 = true:=by decide +kernel
theorem o132 : chkD 1 3 2 = true:=by decide +kernel
theorem o133 : chkD 1 3 3 = true:=by decide +kernel
theorem o311 : chkD 3 1 1 = true:=by decide +kernel
theorem o312 : chkD 3 1 2 = true:=by decide +kernel
theorem o313 : chkD 3 1 3 = true:=by decide +kernel
theorem o221 : chkD 2 2 1 = true:=by decide +kernel
theorem o222 : chkD 2 2 2 = true:=by decide +kernel
theorem o223 : chkD 2 2 3 = true:=by decide +kernel
theorem o231 : chkD 2 3 1 = true:=by decide +kernel
theorem o232 : chkD 2 3 2 = true:=by decide +kernel
theorem o233 : chkD 2 3 3 = true:=by decide +kernel
theorem o321 : chkD 3 2 1 = true:=by decide +kernel
theorem o322 : chkD 3 2 2 = true:=by decide +kernel
theorem o323 : chkD 3 2 3 = true:=by decide +kernel
theorem o331 : chkD 3 3 1 = true:=by decide +kernel
theorem o332 : chkD 3 3 2 = true:=by decide +kernel
theorem o421 : chkD 4 2 1 = true:=by decide +kernel
theorem o422 : chkD 4 2 2 = true:=by decide +kernel
theorem zly : ∀ s ∈ sizes,∀ c,1 ≤ c → c ≤ 3 → (6 < s.1 * s.2.1 → c ≤ 2) → chkD s.1 s.2.1 c = true:=by
 intro s hs c c0 c3 c2
 have e : c = 1 ∨ c = 2 ∨ c = 3:=by omega
 simp only [sizes,List.mem_cons,List.not_mem_nil,or_false] at hs
 rcases hs with rfl | rfl | rfl | rfl | rfl | rfl | rfl | rfl | rfl | rfl
 ·rcases e with rfl | rfl | rfl
  ·exact o111
  ·exact o112
  ·exact o113
 ·rcases e with rfl | rfl | rfl
  ·exact o211
  ·exact o212
  ·exact o213
 ·rcases e with rfl | rfl | rfl
  ·exact o131
  ·exact o132
  ·exact o133
 ·rcases e with rfl | rfl | rfl
  ·exact o311
  ·exact o312
  ·exact o313
 ·rcases e with rfl | rfl | rfl
  ·exact o221
  ·exact o222
  ·exact o223
 ·rcases e with rfl | rfl | rfl
  ·exact o221
  ·exact o222
  ·exact o223
 ·rcases e with rfl | rfl | rfl
  ·exact o231
  ·exact o232
  ·exact o233
 ·rcases e with rfl | rfl | rfl
  ·exact o321
  ·exact o322
  ·exact o323
 ·rcases e with rfl | rfl | rfl
  ·exact o331
  ·exact o332
  ·exact absurd (c2 (by decide)) (by decide)
 ·rcases e with rfl | rfl | rfl
  ·exact o421
  ·exact o422
  ·exact absurd (c2 (by decide)) (by decide)
theorem zoD {s : Nat × Nat × Nat} (hs : s ∈ sizes) {k : Kin} (hq : k.q = true → s.1 = s.2.1) {row : List Nat} (r0 : 1 ≤ row.length) (r3 : row.length ≤ 3) (r2 : 6 < s.1 * s.2.1 → row.length ≤ 2) (hr : row.sum = s.1 * s.2.1) :
  (due s.1 s.2.1 (zg k s.1 s.2.1) (fun b=>decide (cntB b row.length = row)) (allB row.length s.1 s.2.1)).2 = FF k s.1 s.2.1 row / (zg k s.1 s.2.1).length:=by
 have c:=zly s hs row.length r0 r3 r2
 obtain ⟨w0,h0,w4,h3,_⟩:=zgX s hs
 have y:=(chk13 s.1 s.2.1 1 w0 w4 h0 (by omega) (by decide) (by decide) (fun _=>by decide)).1
 unfold chkD at c
 rw [zcz,zcz,zcz] at c
 obtain ⟨kh,kq,km,ks⟩:=k
 have bm : ∀ b : Bool,b ∈ zbO:=by decide
 have s1:=List.all_eq_true.mp (List.all_eq_true.mp (List.all_eq_true.mp (List.all_eq_true.mp c kh (bm _)) kq (bm _)) km (bm _)) ks (bm _)
 have hn : (kq && s.1 != s.2.1) = false:=by
  cases kq with
  | false=>rfl
  | true=>have:=hq rfl; simp [this]
 rw [hn,Bool.false_or,zdR,zcz] at s1
 have s2:=zir s1 row (zmR r0 rfl hr)
 have s3:=eq_of_beq s2
 rw [zov y w0 h0 hq,← zmO,← s3]
 have ft : ∀ d ∈ zg ⟨kh,kq,km,ks⟩ s.1 s.2.1,Fits d.t s.1 s.2.1:=fun d hd=>by
  obtain ⟨t,ht,hd⟩:=List.mem_flatMap.mp hd
  obtain ⟨p,_,rfl⟩:=List.mem_map.mp hd
  exact zdI hq t ht
 unfold due allB
 refine zeM (by omega) w0 h0 ft (q:=fun m=>cntN row.length (s.1 * s.2.1) m == row) _ (fun m hm=>⟨List.mem_range.mp hm,?_⟩) (fun m _=>?_)
 ·rw [zoC,Bool.eq_iff_iff,decide_eq_true_iff,beq_iff_eq]
 ·exact ⟨(fun z=>nomatch z),fun z=>by rw [Nat.zero_testBit] at z; cases z⟩
end Internal.BM

end
section
set_option Elab.async false
set_option linter.all false
set_option maxRecDepth 100000
set_option maxHeartbeats 4000000

namespace DBk
open PySem
open Sem (wp)
section
variable {prog : Program} {w : World} {K : Type} [DecidableEq K] (knd : HeapKind prog w K)
inductive Its (h : Heap) : List K → List Value → Prop
 | nil : Its h [] []
 | cons {k : K} {a : Addr} {ks : List K} {vs : List Value} : knd.is h k a → Its h ks vs → Its h (k :: ks) (.ref a :: vs)
noncomputable def IsK (h : Heap) (ks : List K) (a : Addr) : Prop:=∃ o items n,h.get? a = some o ∧ o.cls = .type "tuple" ∧ o.data = .seq items n ∧ Its knd h ks items.toList
noncomputable def hashK (ks : List K) : Int:=reduceHash (Builtin.Tuple.tupleHashOf (ks.map knd.hash))
noncomputable def zha (ks : List K) : Nat:=(ks.map knd.draws).sum + 1
variable {knd}
theorem Its.inj {h : Heap} {x y : List K} {vs : List Value} (hx : Its knd h x vs) (hy : Its knd h y vs) : x = y:=by
 induction hx generalizing y with
 | nil=>cases hy; rfl
 | cons h1 _ ih =>
  cases hy with
  | cons h2 t2=>rw [knd.inj h1 h2,ih t2]
theorem Its.keeps {h h' : Heap} {d : Addr} {o : Obj} {es ep} {x : List K} {vs : List Value} (hx : Its knd h x vs) (ho : h.get? d = some o) (hd : o.data = .dict es ep) (hs : Heap.SameBut d h h') : Its knd h' x vs:=by
 induction hx with
 | nil=>exact .nil
 | cons h1 _ ih=>exact .cons (knd.keeps h1 ho hd hs) ih
theorem IsK.typeIs {s : Shared} {ks : List K} {a : Addr} (x : IsK knd s.heap ks a) : s.TypeIs (.ref a) "tuple":=let ⟨o,_,_,ho,hc,_⟩:=x; ⟨o,ho,hc⟩
theorem IsK.inj {h : Heap} {a : Addr} {x y : List K} (hx : IsK knd h x a) (hy : IsK knd h y a) : x = y:=by
 obtain ⟨o,items,n,ho,_,hd,hi⟩:=hx
 obtain ⟨o',items',n',ho',_,hd',hi'⟩:=hy
 obtain rfl : o = o':=Option.some.inj (ho.symm.trans ho')
 rw [hd] at hd'
 injection hd' with h1 _
 subst h1
 exact hi.inj hi'
theorem IsK.keeps {h h' : Heap} {ks : List K} {a d : Addr} {o : Obj} {es ep} (x : IsK knd h ks a) (ho : h.get? d = some o) (hd : o.data = .dict es ep) (hs : Heap.SameBut d h h') : IsK knd h' ks a:=by
 obtain ⟨o',items,n,ho',hc,hd',hi⟩:=x
 have hne : a ≠ d:=by
  rintro rfl
  obtain rfl : o' = o:=Option.some.inj (ho'.symm.trans ho)
  rw [hd] at hd'; exact nomatch hd'
 exact ⟨o',items,n,(hs.2 a hne).trans ho',hc,hd',hi.keeps ho hd hs⟩
variable {A : Around} {E : Value → Shared → Prop} {s : Shared}
theorem zmS (hr : ∀ B : Around,B.units + 3 < cLine → knd.room B) {ks : List K} {a : Addr} {Q : Int → Shared → Prop} (hu : A.units + 9 < cLine) (hk : IsK knd s.heap ks a) (h : Q (hashK knd ks) { s with toks:=s.toks + zha knd ks }) :
  wpAny (model prog w) A (pyHash (.ref a)) Q E s:=by
 have hT:=hk.typeIs
 obtain ⟨o,items,n,ho,_,hd,hi⟩:=hk
 unfold pyHash
 first | unfold pyHashByItsType | skip
 first | refine wpAny_bind (wpAny_cRoomFor_or (.inr (by omega)) ?_) | skip
 refine wpAny_bind (wpAny_specialOf hT F.slot_tuple_hash.lookup ?_)
 show wpAny _ _ (if (some (Value.builtin "tuple.__hash__") == some Value.none) = true then _ else _) Q E s
 rw [if_neg (by rw [beq_builtin_none]; exact Bool.false_ne_true)]
 refine wpAny_bind (wpAny_specialOf hT F.slot_tuple_hash.lookup ?_)
 show wpAny _ _ (callSpecialIfBoundUnlessNone? (.ref a) "__hash__" _ >>= _) Q E s
 refine wpAny_bind (wpAny_callSpecialIfBoundUnlessNone?_slot hT F.slot_tuple_hash (wpAny_call_entry F.slot_tuple_hash hT F.entry_tuple_hash ?_ (F.args_tuple_hash_1 _)))
 show wpAny _ _ (Builtin.Tuple.tupleItemsOf (.ref a) >>= _) _ _ s
 refine wpAny_bind (wpAny_tupleItemsOf ho hd ?_)
 refine wpAny_bind ?_
 rw [← Array.forIn_toList]
 refine wpAny_forIn_list _
  (fun rest (b : Array Int) s'=>∃ done left,ks = done ++ left ∧ Its knd s.heap left rest ∧ b.toList = done.map knd.hash ∧ s' = { s with toks:=s.toks + (done.map knd.draws).sum })
  _ ?_ ?_ _ _ ⟨[],ks,rfl,hi,rfl,rfl⟩
 ·rintro x rest b s' ⟨done,left,rfl,hl,hb,rfl⟩
  cases hl with
  | @cons k _ ks' _ h1 hl' =>
   refine wpAny_bind (knd.pyHash (hr _ (by show A.units + 1 + 3 < cLine; omega)) h1 ?_)
   first
    | exact wpAny_pure ⟨done ++ [k],ks',by simp,hl',by simp [hb],by simp [Nat.add_assoc]⟩
    | exact wpAny_bind (wpAny_pure (wpAny_pure ⟨done ++ [k],ks',by simp,hl',by simp [hb],by simp [Nat.add_assoc]⟩))
 ·rintro b s' ⟨done,left,rfl,hl,hb,rfl⟩
  cases hl
  rw [List.append_nil] at h
  show wpAny _ _ (retInt (Builtin.Tuple.tupleHashOf b.toList)) _ _ _
  rw [hb]
  refine wpAny_ret_mkInt ?_
  show wpAny _ _ (if (decide (-(2 : Int) ^ 63 ≤ Builtin.Tuple.tupleHashOf (done.map knd.hash)) && decide (Builtin.Tuple.tupleHashOf (done.map knd.hash) < 2 ^ 63)) = true then _ else _) Q E _
  unfold hashK reduceHash zha at h
  by_cases hr : (decide (-(2 : Int) ^ 63 ≤ Builtin.Tuple.tupleHashOf (done.map knd.hash)) && decide (Builtin.Tuple.tupleHashOf (done.map knd.hash) < 2 ^ 63)) = true
  ·rw [if_pos hr]
   rw [if_pos hr] at h
   exact wpAny_pure (by simpa [Nat.add_assoc] using h)
  ·rw [if_neg hr]
   rw [if_neg hr] at h
   exact wpAny_bind (wpAny_rule (wpAny_pure (by simpa [Nat.add_assoc] using h)))
theorem zmT (hr : ∀ B : Around,B.units + 3 < cLine → knd.room B) {x y : List K} {a b : Addr} {P : Fin → Shared → Prop} (hu : A.units + 3 < cLine) (hx : IsK knd s.heap x a) (hy : IsK knd s.heap y b) (h : P (.done (.ret (.bool (decide (x = y))))) s) :
  wpAny (model prog w) A (Builtin.«tuple.__eq__» ⟨[.ref a,.ref b],[]⟩) P E s:=by
 have hTb:=hy.typeIs
 obtain ⟨oa,xs,na,hoa,_,hda,hia⟩:=hx
 obtain ⟨ob,ys,nb,hob,_,hdb,hib⟩:=hy
 show wpAny _ _ (isInstance (.ref b) (.type "tuple") >>= _) _ _ s
 refine wpAny_bind (wpAny_isInstance hTb isSubtype_tuple_tuple ?_)
 simp only [Bool.not_true,Bool.false_eq_true,if_false]
 refine wpAny_bind (wpAny_tupleItemsOf hoa hda ?_)
 refine wpAny_bind (wpAny_tupleItemsOf hob hdb ?_)
 refine wpAny_bind ?_
 refine wpAny_forIn_list _
  (fun rest r s'=>r.1 = none ∧ s' = s ∧ ∃ x' y' xs' ys',rest = List.zip xs' ys' ∧ Its knd s.heap x' xs' ∧ Its knd s.heap y' ys' ∧ decide (x' = y') = decide (x = y) ∧ (xs'.length == ys'.length) = (xs.size == ys.size))
  _ ?_ ?_ _ _ ⟨rfl,rfl,x,y,xs.toList,ys.toList,rfl,hia,hib,rfl,by simp⟩
 ·rintro ⟨u,v⟩ rest r s' ⟨hr1,rfl,x',y',xs',ys',hz,hx',hy',hdec,hlen⟩
  cases hx' with
  | nil=>simp at hz
  | @cons k1 u' x'' xs'' h1 hx'' =>
   cases hy' with
   | nil=>simp at hz
   | @cons k2 v' y'' ys'' h2 hy'' =>
    simp only [List.zip_cons_cons,List.cons.injEq,Prod.mk.injEq] at hz
    obtain ⟨⟨rfl,rfl⟩,rfl⟩:=hz
    refine wpAny_bind (knd.eqBool (x:=k1) (y:=k2) (hr _ (by first | exact hu | (show A.units + 1 + 3 < cLine; omega))) h1 h2 ?_)
    by_cases hk : k1 = k2
    ·subst hk
     rw [decide_eq_true rfl]
     simp only [Bool.not_true,Bool.false_eq_true,if_false]
     refine wpAny_pure ⟨rfl,rfl,x'',y'',xs'',ys'',rfl,hx'',hy'',?_,by simpa using hlen⟩
     rw [← hdec]
     by_cases hxy : x'' = y''
     ·simp [hxy]
     ·simp [hxy]
    ·rw [decide_eq_false hk]
     simp only [Bool.not_false,if_true]
     have hf : decide (x = y) = false:=by rw [← hdec]; simp [hk]
     rw [hf] at h
     exact wpAny_bind (wpAny_pure (wpAny_pure (wpAny_pure h)))
 ·rintro ⟨r1,r2⟩ s' ⟨hr1,rfl,x',y',xs',ys',hz,hx',hy',hdec,hlen⟩
  simp only at hr1
  subst hr1
  refine wpAny_pure ?_
  have hfin : (xs.size == ys.size) = decide (x = y):=by
   rw [← hdec,← hlen]
   cases hx' with
   | nil =>
    cases hy' with
    | nil=>simp
    | cons _ _=>simp
   | cons _ _ =>
    cases hy' with
    | nil=>simp
    | cons _ _=>simp at hz
  show P (.done (.ret (.bool (xs.size == ys.size)))) s'
  rw [hfin]; exact h
theorem eq_ok (hr : ∀ B : Around,B.units + 3 < cLine → knd.room B) {x y : List K} {a b : Addr} {Q : Bool → Shared → Prop} (hu : A.units + 9 < cLine) (hx : IsK knd s.heap x a) (hy : IsK knd s.heap y b) (h : Q (decide (x = y)) s) :
  wpAny (model prog w) A (eqBool (.ref a) (.ref b)) Q E s:=by
 unfold eqBool
 try with_reducible refine wpAny_holding ?_
 show wpAny _ _ (if (Value.ref a == Value.ref b) = true then _ else _) Q E s
 by_cases hab : (Value.ref a == Value.ref b) = true
 ·rw [if_pos hab]
  have e : a = b:=by have:=eq_of_beq hab; injection this
  subst e
  obtain rfl:=hx.inj hy
  exact wpAny_bind (wpAny_rule (wpAny_pure (by simpa using h)))
 ·rw [if_neg hab]
  exact wpAny_bind (wpAny_richCompare_same_room (op:=.Eq) hx.typeIs hy.typeIs F.slot_tuple_eq
   (wpAny_call_entry F.slot_tuple_eq hx.typeIs F.entry_tuple_eq (zmT hr (by show A.units + 1 + 3 < cLine; omega) hx hy ⟨_,rfl,(fun e=>nomatch e),wpAny_truthy_bool h⟩) (F.args_tuple_eq_2 _ _)) (by omega))
theorem zkm {K : Type} [DecidableEq K] {knd : KeyKind prog w K} {ks : List K} {a : Addr} {Q : Bool → Shared → Prop} (hk : IsTupleKey knd s.heap ks a) (h : Q true s) : wpAny (model prog w) A (eqIsQuiet 7 (.ref a)) Q E s:=by
 have hT:=hk.typeIs
 obtain ⟨o,items,n,ho,_,hd,hi⟩:=hk
 unfold eqIsQuiet
 refine wpAny_bind (wpAny_specialOf hT F.slot_tuple_eq.lookup ?_)
 show wpAny _ _ (isInstance (.ref a) (.type "tuple") >>= _) _ _ s
 refine wpAny_bind (wpAny_isInstance hT isSubtype_tuple_tuple ?_)
 simp only [Bool.not_true,Bool.false_eq_true,if_false]
 refine wpAny_bind (wpAny_seqItems ho hd ?_)
 refine wpAny_bind ?_
 show wpAny _ _ (forIn items _ _) _ _ s
 rw [← Array.forIn_toList]
 refine wpAny_forIn_list _ (fun rest r s'=>r.1 = none ∧ s' = s ∧ ∀ v ∈ rest,carriedByValue v = true) _ ?_ ?_ _ _ ⟨rfl,rfl,hi.byValue⟩
 ·rintro v rest r s' ⟨hr,rfl,hall⟩
  rw [eqIsQuiet_byValue _ (hall v List.mem_cons_self)]
  refine wpAny_bind (wpAny_pure ?_)
  simp only [Bool.not_true,Bool.false_eq_true,if_false]
  exact wpAny_pure ⟨rfl,rfl,fun u hu'=>hall u (List.mem_cons_of_mem _ hu')⟩
 ·rintro ⟨r1,r2⟩ s' ⟨hr,rfl,_⟩
  simp only at hr
  subst hr
  exact wpAny_pure h
theorem zlz (hq : ∀ {A : Around} {E : Value → Shared → Prop} {s : Shared} {k : K} {a : Addr} {Q : Bool → Shared → Prop},knd.is s.heap k a → Q true s → wpAny (model prog w) A (eqIsQuiet 7 (.ref a)) Q E s)
  {ks : List K} {a : Addr} {Q : Bool → Shared → Prop} (hk : IsK knd s.heap ks a) (h : Q true s) : wpAny (model prog w) A (eqIsQuiet 8 (.ref a)) Q E s:=by
 have hT:=hk.typeIs
 obtain ⟨o,items,n,ho,_,hd,hi⟩:=hk
 unfold eqIsQuiet
 refine wpAny_bind (wpAny_specialOf hT F.slot_tuple_eq.lookup ?_)
 show wpAny _ _ (isInstance (.ref a) (.type "tuple") >>= _) _ _ s
 refine wpAny_bind (wpAny_isInstance hT isSubtype_tuple_tuple ?_)
 simp only [Bool.not_true,Bool.false_eq_true,if_false]
 refine wpAny_bind (wpAny_seqItems ho hd ?_)
 refine wpAny_bind ?_
 show wpAny _ _ (forIn items _ _) _ _ s
 rw [← Array.forIn_toList]
 refine wpAny_forIn_list _ (fun rest r s'=>r.1 = none ∧ s' = s ∧ ∃ left,Its knd s.heap left rest) _ ?_ ?_ _ _ ⟨rfl,rfl,ks,hi⟩
 ·rintro v rest r s' ⟨hr,rfl,left,hl⟩
  cases hl with
  | cons h1 hl' =>
   refine wpAny_bind (hq h1 ?_)
   simp only [Bool.not_true,Bool.false_eq_true,if_false]
   exact wpAny_pure ⟨rfl,rfl,_,hl'⟩
 ·rintro ⟨r1,r2⟩ s' ⟨hr,rfl,_⟩
  simp only at hr
  subst hr
  exact wpAny_pure h
end

noncomputable def boardKind (prog : Program) (w : World) : HeapKind prog w (List (List Int)) where
 is:=IsK (tupleKind (intKind prog w))
 hash:=hashK (tupleKind (intKind prog w))
 draws:=zha (tupleKind (intKind prog w))
 room:=fun A=>A.units + 9 < cLine
 inj:=fun hx hy=>hx.inj hy
 keeps:=fun x ho hd hs=>x.keeps ho hd hs
 pyHash:=fun hu hk h=>zmS (fun B hB=>by show B.units < cLine; omega) hu hk h
 eqBool:=fun hu hx hy h=>eq_ok (fun B hB=>by show B.units < cLine; omega) hu hx hy h
 quiet:=fun hk h=>zlz (fun hk h=>zkm hk h) hk h
end DBk

end
section
set_option Elab.async false
set_option linter.all false
set_option maxRecDepth 100000
set_option maxHeartbeats 4000000

namespace Internal
open PySem PySem.Spec PyProof.Rows Internal.L2

noncomputable def insB (ks : List (List (List Int))) (k : List (List Int)) : List (List (List Int)):=if k ∈ ks then ks else ks ++ [k]
noncomputable abbrev EK:=List (List Int) × Addr × Value
noncomputable abbrev enB (x : EK) : DictEntry:=⟨bHash x.1,.ref x.2.1,x.2.2⟩
section
variable {K : PySem.W.Frag} {H : Hp} {P : Program} {w : World} {h : Heap}
theorem zmU {r : List Int} {v : V} {a : Addr} (ok : HOk P w H h) (rp : Rep K H (.tup (r.map D.int)) v) (ev : v = .ref a) : (tupleKind (intKind P w)).is h r a:=by
 obtain ⟨a',vs,e,ha,rs⟩:=rp
 rw [ev] at e; cases e
 have e2 : vs = r.map V.int:=zbs rs
 subst e2
 obtain ⟨_,its,rv,⟨o,h1,h2,n,h3⟩,_⟩:=ok a _ ha
 refine ⟨o,its.toArray,n,h1,h2,h3,?_⟩
 have key : ∀ {r : List Int} {us : List Value},Vals (r.map V.int) us → ItemsAre (intKind P w) r us:=by
  intro r
  induction r with
  | nil=>intro us hv; cases hv; exact .nil
  | cons i r ih =>
   intro us hv
   cases hv with
   | cons q t =>
    obtain ⟨tk,rfl⟩:=q
    exact .cons (by simp [intKind,Value.isInt]) (ih t)
 simpa using key rv
theorem zdK {k : List (List Int)} {a : Addr} (ok : HOk P w H h) (rp : Rep K H (.tup (k.map fun x=>.tup (x.map D.int))) (.ref a)) : (DBk.boardKind P w).is h k a:=by
 obtain ⟨a',vs,e,ha,rs⟩:=rp
 cases e
 obtain ⟨_,its,rv,⟨o,h1,h2,n,h3⟩,_⟩:=ok a _ ha
 refine ⟨o,its.toArray,n,h1,h2,h3,?_⟩
 have key : ∀ {k : List (List Int)} {vs : List V} {us : List Value},Reps K H (k.map fun x=>.tup (x.map D.int)) vs → Vals vs us → DBk.Its (tupleKind (intKind P w)) h k us:=by
  intro k
  induction k with
  | nil=>intro vs us hr hv; cases (show vs = [] from hr); cases hv; exact .nil
  | cons r k ih =>
   intro vs us hr hv
   obtain ⟨v,vs',e,h1,h2⟩:=hr
   subst e
   cases hv with
   | cons q t =>
    obtain ⟨b,ws,eb,hb,hw⟩:=id h1
    subst eb
    cases q
    exact .cons (zmU ok h1 rfl) (ih h2 t)
 simpa using key rs rv

theorem BReps.xs : ∀ {ks : List (List (List Int))} {es : List DictEntry},BReps K H ks es → ∃ xs : List EK,xs.map (·.1) = ks ∧ es = xs.map enB ∧ ∀ x ∈ xs,Rep K H (.tup (x.1.map fun x=>.tup (x.map D.int))) (.ref x.2.1)
 | [],_,h=>⟨[],rfl,h,fun _ hx=>nomatch hx⟩
 | k :: r,_,⟨b,v,r',e,h1,h2⟩=>by
  obtain ⟨xs,e1,e2,h3⟩:=BReps.xs h2
  refine ⟨(k,b,v) :: xs,by rw [List.map_cons,e1],by rw [e,e2]; rfl,fun x hx=>?_⟩
  rcases List.mem_cons.mp hx with rfl | hx
  ·exact h1
  ·exact h3 x hx
theorem BReps.of : ∀ {xs : List EK},(∀ x ∈ xs,Rep K H (.tup (x.1.map fun x=>.tup (x.map D.int))) (.ref x.2.1)) → BReps K H (xs.map (·.1)) (xs.map enB)
 | [],_=>rfl
 | x :: xs,h=>⟨x.2.1,x.2.2,_,rfl,h x List.mem_cons_self,BReps.of fun y hy=>h y (List.mem_cons_of_mem _ hy)⟩
theorem dictOf {a : Addr} {ks : List (List (List Int))} {es : List DictEntry} (ok : HOk P w H h) {Hh : Hp} (hh : Same Hh H) (ha : H a = some (.dE es)) (r : BReps K Hh ks es) (nd : ks.Nodup) :
  (a == sysModules) = false ∧ ∃ xs : List EK,xs.map (·.1) = ks ∧ es = xs.map enB ∧ (∀ x ∈ xs,Rep K Hh (.tup (x.1.map fun x=>.tup (x.map D.int))) (.ref x.2.1)) ∧ h.DictOfH (DBk.boardKind P w) a xs:=by
 obtain ⟨xs,e1,e2,h3⟩:=r.xs
 obtain ⟨hd,hz,o,es',ep,g1,g2,g3,g4⟩:=ok a _ ha
 refine ⟨hd,xs,e1,e2,h3,o,es',ep,g1,g2,g3,by rw [g4,e2]; rfl,fun x hx=>zdK ok ((h3 x hx).mono hh _),by rw [e1]; exact nd⟩
end
theorem zcj {xs : List EK} {k : List (List Int)} : (atKey xs k).isSome = true ↔ k ∈ xs.map (·.1):=by
 unfold atKey
 rw [Option.isSome_map,List.find?_isSome,List.mem_map]
 exact ⟨fun ⟨x,h1,h2⟩=>⟨x,h1,of_decide_eq_true h2⟩,fun ⟨x,h1,h2⟩=>⟨x,h1,decide_eq_true h2⟩⟩

theorem zhr {xs : List EK} {k : List (List Int)} {a : Addr} {v : Value} : (storedH xs k a v).map (·.1) = insB (xs.map (·.1)) k:=by
 unfold storedH insB
 by_cases h : k ∈ xs.map (·.1)
 ·rw [if_pos (zcj.mpr h),if_pos h,List.map_map]
  apply List.map_congr_left
  intro x _
  simp only [Function.comp,putAt]
  split <;> rfl
 ·rw [if_neg (fun z=>h (zcj.mp z)),if_neg h,List.map_append]; rfl
theorem ziJ {xs : List EK} {k : List (List Int)} {a : Addr} {v : Value} : (storedH xs k a v).length ≤ xs.length + 1:=by
 unfold storedH
 split
 ·rw [List.length_map]; omega
 ·rw [List.length_append]; exact Nat.le_refl _
theorem ziK {xs : List EK} {k : List (List Int)} {a : Addr} {v : Value} {x : EK} (h : x ∈ storedH xs k a v) : (∃ y ∈ xs,x.1 = y.1 ∧ x.2.1 = y.2.1) ∨ (x.1 = k ∧ x.2.1 = a):=by
 unfold storedH at h
 split at h
 ·obtain ⟨y,hy,rfl⟩:=List.mem_map.mp h
  refine .inl ⟨y,hy,?_⟩
  unfold putAt
  split <;> exact ⟨rfl,rfl⟩
 ·rcases List.mem_append.mp h with h | h
  ·exact .inl ⟨x,h,rfl,rfl⟩
  ·rw [List.mem_singleton.mp h]; exact .inr ⟨rfl,rfl⟩
theorem ziL {ks : List (List (List Int))} {k : List (List Int)} (h : ks.Nodup) : (insB ks k).Nodup:=by
 unfold insB
 split
 ·exact h
 ·rename_i hk
  refine List.nodup_append.mpr ⟨h,by simp,fun a ha b hb=>?_⟩
  rw [List.mem_singleton.mp hb]
  exact fun z=>hk (z ▸ ha)
theorem zlA (ks : List (List (List Int))) (k : List (List Int)) : (insB ks k).length ≤ ks.length + 1:=by
 unfold insB
 split
 ·omega
 ·rw [List.length_append]; exact Nat.le_refl _
noncomputable abbrev bKD (k : List (List Int)) : D:=.tup (k.map fun x=>.tup (x.map D.int))
noncomputable def zoE : TE:=fun _ H Q=>∀ p,H p = none → Q (.ref p) (upd H p (.dE []))

noncomputable def BAt (K : PySem.W.Frag) (χ : Addr → Bool) (H : Hp) (x y : V) (ks : List (List (List Int))) (es : List DictEntry) (a b : Addr) (k : List (List Int)) : Prop :=
 x = .ref a ∧ y = .ref b ∧ H a = some (.dE es) ∧ BReps K (hidB χ H) ks es ∧ ks.Nodup ∧ Rep K (hidB χ H) (bKD k) (.ref b)
noncomputable def zmV (ty td : TE) : TE:=fun σ H Q=>ty σ H fun y H1=>td σ H1 fun x H2=>∃ K χ ks es a b k,BAt K χ H2 x y ks es a b k ∧ Q (.bl (!decide (k ∈ ks))) H2
noncomputable def sBPut (td ty tv : TE) : TS:=fun D σ H=>tv σ H fun v H1=>td σ H1 fun x H2=>ty σ H2 fun y H3=>∃ K χ ks es a b k,BAt K χ H3 x y ks es a b k ∧ es.length < sizeLine ∧ ∀ es',BReps K (hidB χ H3) (insB ks k) es' → D.nx σ (upd H3 a (.dE es'))
section
variable {X : Cx} {o i e value : Expr} {pos pos' tpos : Pos} {td ty tv : TE}
theorem zlB : PE X (.Dict [] [] pos) zoE:=fun pins s σ H Q I h =>
 wpAny_Dict_empty ⟨.ref s.heap.objs.size,_,I.laid (a:=s.heap.objs.size) (o:=.dE []) (t':=s.toks) (fun _ _ q=>Heap.get?_push_of_some _ q) (Nat.le_refl _) ⟨beq_eq_false_iff_ne.mpr (Ne.symm (Nat.ne_of_lt I.big)),Nat.zero_le _,_,#[],0,Heap.get?_push_size _ rfl,⟨rfl,rfl,rfl⟩,rfl,rfl⟩,rfl,h _ (I.hok.fresh (Nat.le_refl _))⟩
theorem zkn (hu : X.A.units + 12 < cLine) (hi : PE X i ty) (ho : PE X o td) : PC X .NotIn i o (zmV ty td):=by
 intro pins s σ H Q I h
 refine thn (hi pins s σ H _ I h) fun iv s1 ⟨y,H1,I1,ry,q1⟩=>thn (ho pins s1 σ H1 _ I1 q1) fun u s2 hP79=>?_
 obtain ⟨x,H2,I2,rx,K,χ,ks,es,a,b,k,⟨ex,ey,ha,hb,nd,hk⟩,q2⟩:=hP79
 subst ex ey
 obtain rfl : u = Value.ref a:=rx
 obtain rfl : iv = Value.ref b:=ry
 obtain ⟨hd,xs,e1,e2,h3,dd⟩:=dictOf I2.hok zm ha hb nd
 refine wpAny_notIn_heap (knd:=DBk.boardKind X.prog X.w) (by show X.A.units + 1 + 9 < cLine; omega) (zdK I2.hok (hk.mono zm _)) hd dd ?_
 have e : (atKey xs k).isSome = decide (k ∈ ks):=by
  rw [← e1]
  by_cases h : k ∈ xs.map (·.1)
  ·rw [decide_eq_true h]; exact zcj.mpr h
  ·rw [decide_eq_false h]
   cases q : (atKey xs k).isSome with
   | false=>rfl
   | true=>exact (h (zcj.mp q)).elim
 rw [e]
 exact ⟨.bl (!decide (k ∈ ks)),H2,I2.tok _,rfl,q2⟩
theorem zmW (hu : X.A.units + 12 < cLine) (ho : PE X o td) (hi : PE X i ty) (hv : PE X value tv) (hs : swapsWith value (some (.Subscript o i pos')) pos.line X.env = pure false) :
  PS X (.Assign [.Subscript o i pos'] value pos) (sBPut td ty tv):=by
 intro pins s σ H D I h
 refine wpAny_Assign_Subscript (thn (hv pins s σ H _ I h) fun r s1 ⟨v,H1,I1,rv,q1⟩=>thn (ho pins s1 σ H1 _ I1 q1) fun u s2 ⟨x,H2,I2,rx,q2⟩=>thn (hi pins s2 σ H2 _ I2 q2) fun iv s3 hP80=>?_) hs
 obtain ⟨y,H3,I3,ry,K,χ,ks,es,a,b,k,⟨ex,ey,ha,hb,nd,hk⟩,hl,q3⟩:=hP80
 subst ex ey
 obtain rfl : u = Value.ref a:=rx
 obtain rfl : iv = Value.ref b:=ry
 obtain ⟨hd,xs,e1,e2,h3,dd⟩:=dictOf I3.hok zm ha hb nd
 have hz : xs.length < sizeLine:=by rw [e2,List.length_map] at hl; exact hl
 refine wpAny_setItem_heap (hsz:=Nat.le_of_lt hz) (knd:=DBk.boardKind X.prog X.w) (by show X.A.units + 1 + 9 < cLine; omega) (zdK I3.hok (hk.mono zm _)) dd fun h' dd' hs'=>?_
 obtain ⟨q,es',ep,hq,g2,g3,g4,_,g5⟩:=dd'
 refine ⟨σ,upd H3 a (.dE ((storedH xs k b r).map enB)),zdP I3 (by rw [ha]; exact True.intro) hs' ⟨q,hq⟩ ⟨hd,?_,q,es',ep,hq,g2,g3,g4⟩,q3 _ ?_⟩
 ·rw [List.length_map]
  have:=ziJ (xs:=xs) (k:=k) (a:=b) (v:=r)
  omega
 ·have:=BReps.of (K:=K) (H:=hidB χ H3) (xs:=storedH xs k b r) fun x hx=>by
   rcases ziK hx with ⟨y,hy,z1,z2⟩ | ⟨z1,z2⟩
   ·rw [z1,z2]; exact h3 y hy
   ·rw [z1,z2]; exact hk
  rw [zhr,e1] at this
  exact this
end
section
variable {S : Stat} {Γ : List Sl} {E : DEnds} {pos p pos' : Pos} {e value : Expr} {x : Str}
theorem RS.ownB {K : PySem.W.Frag} {φ : Addr → Bool} {ω : Addr → Option (Bool × Nat)} {H : Hp} {σ : Internal.L2.St} (r : RS K φ ω H σ Γ) (i : Nat) (ks : List (List (List Int))) (h : Γ[i]? = some (.bds ks)) : ∃ p es,σ[i]? = some (some (.ref p)) ∧ ω p = some (false,i) ∧ φ p = false ∧ H p = some (.dE es) ∧ BReps K (hidB (both φ ω) H) ks es ∧ ks.Nodup:=by
 obtain ⟨p,ho,h1,h2,h3,h4,es,rfl,h5,h6⟩:=r.own i false _ h
 exact ⟨p,es,h1,h2,h3,h4,h5,h6⟩
theorem RE.ownB {K : PySem.W.Frag} {χ : Addr → Bool} {H : Hp} {σ : Internal.L2.St} (r : RE K χ H σ Γ) (i : Nat) (ks : List (List (List Int))) (h : Γ[i]? = some (.bds ks)) : ∃ p es,σ[i]? = some (some (.ref p)) ∧ χ p = true ∧ H p = some (.dE es) ∧ BReps K (hidB χ H) ks es ∧ ks.Nodup:=by
 obtain ⟨p,ho,h1,h2,h3,es,rfl,h4,h5⟩:=r.own i false _ h
 exact ⟨p,es,h1,h2,h3,h4,h5⟩

theorem zoF (i : Nat) (h : E.nx (Γ.set i (.bds []))) (hiΓ : i < Γ.length:=by exact Nat.le_of_ble_eq_true rfl) (hN : S.N.Nodup:=by ac_nf) (hi : S.N[i]? = some x:=by ac_nf) (hx : Loc S.sc x:=by ac_nf)
  (hs : ∀ X : Cx,S.Of X → swapsWith (.Dict [] [] p) (some (.Name x pos')) pos.line X.env = pure false:=by ac_rfl) (htop : S.top = true:=by rfl) : JS S Γ (.Assign [.Name x pos'] (.Dict [] [] p) pos) E:=.mk fun X o =>
 zN (zdt (i:=i) (by rw [o.N]; exact hN) (by rw [o.N]; exact hi) (by rw [o.sc]; exact hx) zlB (hs X o) (.inl (o.fn htop x))) fun Z σ H ⟨φ,ω,r,c⟩=>fun l hl=>by
  obtain ⟨r',k⟩:=r.takeC (ds:=.bdc []) hiΓ hl (zH hl _) zu ⟨[],rfl,rfl,List.Pairwise.nil⟩
  exact c.n _ _ _ _ h r' k
theorem zlC (i : Nat) {ks : List (List (List Int))} {k : List (List Int)} (hi : Γ[i]? = some (.bds ks)) (he : JE S Γ e (bKD k)) (hN : S.N[i]? = some x:=by ac_nf) (hv : Vis S.sc x:=by ac_nf)
  (h1 : (x == ("__debug__" : Str)) = false:=by ac_nf) (h2 : (x == ("__classdict__" : Str)) = false:=by ac_nf) (hm : behindInMarks .NotIn (.Name x p) = false:=by rfl) : JT S Γ (.Compare e [.NotIn] [.Name x p] pos) (!decide (k ∈ ks)):=.mk fun X o =>
 zeA (zni (zkn (by have:=o.room.units; omega) (he X o) (zbk (i:=i) (by rw [o.N]; exact hN) (by rw [o.sc]; exact hv) h1 h2)) hm) fun σ H Q ⟨χ,R,q⟩=>⟨χ,R,fun y H1 e1 ry=>by
  obtain ⟨pa,es,hσ,_,hH,hr,nd⟩:=R.ownB i ks hi
  obtain ⟨b,vs,rfl,hb⟩:=id ry
  exact ⟨.ref pa,hσ,S.K,χ,ks,es,pa,b,k,⟨rfl,rfl,e1 _ _ hH,BReps.mono (zA e1) _ hr,nd,ry⟩,_,rfl,q H1 e1⟩⟩

theorem zoG (i : Nat) {ks : List (List (List Int))} {k : List (List Int)} {d : D} {px : Pos} (hi : Γ[i]? = some (.bds ks)) (he : JE S Γ e (bKD k)) (hd : JE S Γ value d) (hl : ks.length < sizeLine) (h : E.nx (Γ.set i (.bds (insB ks k)))) (hN : S.N[i]? = some x:=by ac_nf) (hv : Vis S.sc x:=by ac_nf)
  (h1 : (x == ("__debug__" : Str)) = false:=by ac_nf) (h2 : (x == ("__classdict__" : Str)) = false:=by ac_nf) (hs : ∀ X : Cx,swapsWith value (some (.Subscript (.Name x px) e pos')) pos.line X.env = pure false:=by ac_rfl) : JS S Γ (.Assign [.Subscript (.Name x px) e pos'] value pos) E:=.mk fun X o =>
 zN (zmW (by have:=o.room.units; omega) (zbk (i:=i) (by rw [o.N]; exact hN) (by rw [o.sc]; exact hv) h1 h2) (he X o) (hd X o) (hs X)) fun Z σ H ⟨φ,ω,r,c⟩=>⟨both φ ω,r.re,fun v H1 e1 rv=>by
  obtain ⟨pa,es,hσ,hω,φl,hH,hr,nd⟩:=r.ownB i ks hi
  refine ⟨.ref pa,hσ,both φ ω,(r.mono e1).re,fun y H2 e2 ry=>?_⟩
  obtain ⟨b,vs,rfl,hb⟩:=id ry
  have hl' : es.length < sizeLine:=by
   obtain ⟨xs,z1,z2,_⟩:=hr.xs
   rw [z2,List.length_map,← List.length_map (f:=(·.1)),z1]; exact hl
  refine ⟨S.K,both φ ω,ks,es,pa,b,k,⟨rfl,rfl,e2 _ _ (e1 _ _ hH),BReps.mono (zA (e1.trans e2)) _ hr,nd,ry⟩,hl',fun es' hes=>?_⟩
  obtain ⟨r',k'⟩:=(r.mono (e1.trans e2)).putC (ds':=.bdc (insB ks k)) (vs':=.dE es') hi hω hσ ⟨_,rfl,hes,ziL nd⟩ φl
  exact c.n ω σ _ _ h r' ((Kp.of (e1.trans e2)).trans k')⟩
end
end Internal

end
section
set_option Elab.async false
set_option linter.all false
set_option maxRecDepth 100000
set_option maxHeartbeats 4000000
namespace Internal
open PySem PySem.Spec PyProof.Rows Internal.L2 PySem.SeqAt
section
variable {X : Cx}
theorem zko : MtR X "list.count" (fun x xs H Q=>∃ (p : Addr) (ns : List Int) (m : Int),x = .ref p ∧ xs = [.int m] ∧ SqL X.K H p (ns.map V.int) ∧ Q (.int ((ns.count m : Nat) : Int)) H):=by
 intro pins s σ H x vs v us Q I rx rv h
 obtain ⟨p,ns,m,rfl,rfl,hq,q⟩:=h
 cases rx
 obtain ⟨u,rfl,ru⟩:=rv.one
 obtain ⟨t,rfl⟩:=ru
 obtain ⟨its,r,pt,hz⟩:=I.list hq
 have hi : IntsAre its ns:=intsAre_of r
 obtain ⟨⟨cls,dd,data,sl⟩,ho,hc,n,hd⟩:=id pt.isList
 simp only at hc hd
 subst hc hd
 refine call_meets PySem.F.slot_list_count pt.isList.typeIs PySem.F.entry_list_count (PySem.F.args_list_count_2 _ _) (list_countAt p its.toArray n dd sl (.int m t) (isI m)) ?_
 refine ⟨ho,fun y hy=>zdH hi y (by simpa using hy),?_⟩
 have e : its.toArray.toList.countP (isI m) = ns.count m:=by simpa using zcJ hi
 rw [e]
 exact ⟨.int ((ns.count m : Nat) : Int),H,I.kept (t':=s.toks + 1) fun _ _ e=>e,⟨_,rfl⟩,q⟩
end
section
variable {S : Stat} {Γ : List Sl} {pos p apos cpos p1 p2 : Pos} {o e a b : Expr}
theorem zlD {ns : List Int} {m : Int} (ho : JE S Γ o (intsD ns)) (ha : JE S Γ e (.int m)) (hbase : ∀ env,attributeBase o "count" env (eval o env) = eval o env:=by ac_rfl)
  (hfew : ∀ env,((backTo cpos (starEach [e] env)).all (fun x=>!x.1) && (backToKw cpos (keywordEach [] env)).all (fun x=>x.1.isSome)
   && decide ([e].length + ([] : List Keyword).length + (if ([] : List Keyword).isEmpty then 0 else 1) < 30)) = true:=by ac_rfl)
  (hline : (apos.endLine == cpos.line) = true:=by rfl) (hs : ∀ env,starEach [e] env = [(false,eval e env)]:=by ac_rfl) : JE S Γ (.Call (.Attribute o "count" apos) [e] [] cpos) (.int ((ns.count m : Nat) : Int)):=.mk fun X oo =>
 zq (pe_bm PySem.F.plainAttrs_list PySem.F.slot_list_count PySem.F.type_list_count zko (ho X oo) ((zb ha a_nil hs) X oo) (hbase X.env) (hfew X.env) hline (hs X.env)) fun σ H Q ⟨χ,R,q⟩=>⟨χ,R,fun v H1 e1 rv=>by
  obtain ⟨ad,vs,rfl,sq,rs⟩:=rv
  have ev : vs = ns.map V.int:=zbs rs
  subst ev
  have sq1 : SqL X.K H1 ad (ns.map V.int):=by rw [oo.K]; exact Same.seq zm sq
  refine ⟨.inl ⟨rfl,_,sq1⟩,χ,R.mono e1,fun ws H2 e2 rws=>?_⟩
  obtain ⟨v,rfl,rv'⟩:=reps1 rws
  cases (show v = _ from rv')
  exact ⟨ad,ns,m,rfl,rfl,Same.seq e2 sq1,q _ H2 (e1.trans e2) rfl⟩⟩
end
end Internal

end
section
set_option maxRecDepth 100000
set_option maxHeartbeats 4000000
namespace Internal.k12
open PySem Internal.L2 Internal
noncomputable def top (i : Nat) : Stmt:=PySem.Challenge.pw_boardkin_k12_so_many_of_each_colour.main.body.getD i (.Pass ⟨0,0,0,0⟩)
noncomputable abbrev zO : Stmt:=top 9
noncomputable abbrev zck : List Str:=["kinship","step","end"]
theorem zhs : FnScope zck ["kinship"] (zc zO):=⟨rfl,rfl,rfl,by decide +kernel,rfl,by decide +kernel,by decide +kernel⟩
noncomputable abbrev zU : Stmt:=top 10
noncomputable abbrev zbP : List Str:=["kinship","in_order"]
theorem zet : FnScope zbP ["kinship"] (zc zU):=⟨rfl,rfl,rfl,by decide +kernel,rfl,by decide +kernel,by decide +kernel⟩
noncomputable abbrev zbG : Stmt:=top 11
noncomputable abbrev zis : List Str:=["kinship","width","height","kinship_turnings","slides","told","turning"]
theorem zlE : FnScope zis ["kinship","width","height"] (zc zbG):=⟨rfl,rfl,rfl,by decide +kernel,rfl,by decide +kernel,by decide +kernel⟩
noncomputable abbrev zbq : Stmt:=top 12
noncomputable abbrev zhb : List Str:=["width","height","slides","a"]
theorem zfV : FnScope zhb ["width","height"] (zc zbq):=⟨rfl,rfl,rfl,by decide +kernel,rfl,by decide +kernel,by decide +kernel⟩
noncomputable abbrev zcW : Stmt:=top 13
noncomputable abbrev zoH : List Str:=["board","deed"]
theorem zmX : FnScope zoH ["board","deed"] (zc zcW):=⟨rfl,rfl,rfl,by decide +kernel,rfl,by decide +kernel,by decide +kernel⟩
noncomputable abbrev zby : Stmt:=top 14
noncomputable abbrev zhc : List Str:=["board","turning","count"]
theorem zkp : FnScope zhc ["board","turning"] (zc zby):=⟨rfl,rfl,rfl,by decide +kernel,rfl,by decide +kernel,by decide +kernel⟩
noncomputable abbrev zbz : Stmt:=top 15
noncomputable abbrev ziM : List Str:=["board"]
theorem zht : FnScope ziM ["board"] (zc zbz):=⟨rfl,rfl,rfl,by decide +kernel,rfl,by decide +kernel,by decide +kernel⟩
noncomputable abbrev zW : Stmt:=top 16
noncomputable abbrev zeu : List Str:=["board"]
theorem zdV : FnScope zeu ["board"] (zc zW):=⟨rfl,rfl,rfl,by decide +kernel,rfl,by decide +kernel,by decide +kernel⟩
noncomputable abbrev zM : Stmt:=top 17
noncomputable abbrev zdq : List Str:=["board","x"]
theorem zdk : FnScope zdq ["board","x"] (zc zM):=⟨rfl,rfl,rfl,by decide +kernel,rfl,by decide +kernel,by decide +kernel⟩
noncomputable abbrev zcX : Stmt:=top 18
noncomputable abbrev zoI : List Str:=["board","a","b","height","rows"]
theorem zmY : FnScope zoI ["board","a","b"] (zc zcX):=⟨rfl,rfl,rfl,by decide +kernel,rfl,by decide +kernel,by decide +kernel⟩
noncomputable abbrev zbA : Stmt:=top 19
noncomputable abbrev ziN : List Str:=["row","a","width"]
theorem zhu : FnScope ziN ["row","a"] (zc zbA):=⟨rfl,rfl,rfl,by decide +kernel,rfl,by decide +kernel,by decide +kernel⟩
noncomputable abbrev zbT : Stmt:=top 21
noncomputable abbrev zlF : List Str:=["deed","width","height","origins","met","lengths","cell"]
theorem zkq : FnScope zlF ["deed","width","height"] (zc zbT):=⟨rfl,rfl,rfl,by decide +kernel,rfl,by decide +kernel,by decide +kernel⟩
noncomputable abbrev zbd : Stmt:=top 22
noncomputable abbrev zfm : List Str:=["deed","width","height","numbered","origins","row"]
theorem zeN : FnScope zfm ["deed","width","height"] (zc zbd):=⟨rfl,rfl,rfl,by decide +kernel,rfl,by decide +kernel,by decide +kernel⟩
noncomputable abbrev zP : Stmt:=top 23
noncomputable abbrev zcY : List Str:=["start","origins","met","length","cell"]
theorem zeO : FnScope zcY ["start","origins","met"] (zc zP):=⟨rfl,rfl,rfl,by decide +kernel,rfl,by decide +kernel,by decide +kernel⟩
noncomputable abbrev zY : Stmt:=top 24
noncomputable abbrev zeP : List Str:=["numbers","kinship","width","height","kinship_deeds","shared","boards_left"]
theorem zcB : FnScope zeP ["numbers","kinship","width","height"] (zc zY):=⟨rfl,rfl,rfl,by decide +kernel,rfl,by decide +kernel,by decide +kernel⟩
noncomputable abbrev zZ : Stmt:=top 25
noncomputable abbrev zeQ : List Str:=["numbers","cells","number","together"]
theorem zcC : FnScope zeQ ["numbers","cells"] (zc zZ):=⟨rfl,rfl,rfl,by decide +kernel,rfl,by decide +kernel,by decide +kernel⟩
noncomputable abbrev zJ : Stmt:=top 26
noncomputable abbrev zcL : List Str:=["kinship_deeds","width","height","shared","deed","lengths"]
theorem zcD : FnScope zcL ["kinship_deeds","width","height"] (zc zJ):=⟨rfl,rfl,rfl,by decide +kernel,rfl,by decide +kernel,by decide +kernel⟩
noncomputable abbrev zbv : Stmt:=top 27
noncomputable abbrev zhv : List Str:=["numbers","lengths","unlike_lengths","ways","number"]
theorem zhd : FnScope zhv ["numbers","lengths"] (zc zbv):=⟨rfl,rfl,rfl,by decide +kernel,rfl,by decide +kernel,by decide +kernel⟩
noncomputable abbrev zQ : Stmt:=top 28
noncomputable abbrev zdL : List Str:=["ways","unlike_lengths","number","further","free","pick","still_free"]
theorem zdr : FnScope zdL ["ways","unlike_lengths","number"] (zc zQ):=⟨rfl,rfl,rfl,by decide +kernel,rfl,by decide +kernel,by decide +kernel⟩
noncomputable abbrev zcq : Stmt:=top 29
noncomputable abbrev zmZ : List Str:=["free","unlike_lengths","number","told","place","longer","pick"]
theorem zlG : FnScope zmZ ["free","unlike_lengths","number"] (zc zcq):=⟨rfl,rfl,rfl,by decide +kernel,rfl,by decide +kernel,by decide +kernel⟩
noncomputable abbrev zba : Stmt:=top 30
noncomputable abbrev zeR : List Str:=["pick","free","length","most"]
theorem zew : FnScope zeR ["pick","free","length"] (zc zba):=⟨rfl,rfl,rfl,by decide +kernel,rfl,by decide +kernel,by decide +kernel⟩
noncomputable abbrev zbH : Stmt:=top 31
noncomputable abbrev zkr : List Str:=["of_many","count","product","taken"]
theorem ziO : FnScope zkr ["of_many","count"] (zc zbH):=⟨rfl,rfl,rfl,by decide +kernel,rfl,by decide +kernel,by decide +kernel⟩
noncomputable abbrev zbh : Stmt:=top 33
noncomputable abbrev zfW : List Str:=["script","k"]
theorem zfn : FnScope zfW ["script","k"] (zc zbh):=⟨rfl,rfl,rfl,by decide +kernel,rfl,by decide +kernel,by decide +kernel⟩
noncomputable abbrev zbw : Stmt:=top 34
noncomputable abbrev zhw : List Str:=["found"]
theorem zhe : FnScope zhw ["found"] (zc zbw):=⟨rfl,rfl,rfl,by decide +kernel,rfl,by decide +kernel,by decide +kernel⟩
noncomputable abbrev zK : Stmt:=top 35
noncomputable abbrev zce : List Str:=["cell","width","height","found","k"]
theorem zfo : FnScope zce ["cell","width","height"] (zc zK):=⟨rfl,rfl,rfl,by decide +kernel,rfl,by decide +kernel,by decide +kernel⟩
noncomputable abbrev zR : Stmt:=top 36
noncomputable abbrev zbU : List Str:=["kinship","found","turning","quarter","half"]
theorem zeS : FnScope zbU ["kinship"] (zc zR):=⟨rfl,rfl,rfl,by decide +kernel,rfl,by decide +kernel,by decide +kernel⟩
noncomputable abbrev zbc : Stmt:=top 37
noncomputable abbrev zcM : List Str:=["kinship","width","height","found","turning","a","b"]
theorem zhf : FnScope zcM ["kinship","width","height"] (zc zbc):=⟨rfl,rfl,rfl,by decide +kernel,rfl,by decide +kernel,by decide +kernel⟩
noncomputable abbrev zbi : Stmt:=top 38
noncomputable abbrev zfX : List Str:=["board","height"]
theorem zfp : FnScope zfX ["board"] (zc zbi):=⟨rfl,rfl,rfl,by decide +kernel,rfl,by decide +kernel,by decide +kernel⟩
noncomputable abbrev zbn : Stmt:=top 39
noncomputable abbrev zeT : List Str:=["board","deed","k","height","width","rows","y","row"]
theorem zhx : FnScope zeT ["board","deed"] (zc zbn):=⟨rfl,rfl,rfl,by decide +kernel,rfl,by decide +kernel,by decide +kernel⟩
noncomputable abbrev zbI : Stmt:=top 40
noncomputable abbrev zks : List Str:=["colours","width","height","many","k","boards","number","rest","rows","y","row","x"]
theorem ziP : FnScope zks ["colours","width","height"] (zc zbI):=⟨rfl,rfl,rfl,by decide +kernel,rfl,by decide +kernel,by decide +kernel⟩
noncomputable abbrev zbx : Stmt:=top 41
noncomputable abbrev zhy : List Str:=["cell","sizes"]
theorem zhg : FnScope zhy ["cell"] (zc zbx):=⟨rfl,rfl,rfl,by decide +kernel,rfl,by decide +kernel,by decide +kernel⟩
noncomputable abbrev zV : Stmt:=top 42
noncomputable abbrev zdn : List Str:=["cell","cells","many","found","k","at"]
theorem zfq : FnScope zdn ["cell","cells"] (zc zV):=⟨rfl,rfl,rfl,by decide +kernel,rfl,by decide +kernel,by decide +kernel⟩
noncomputable abbrev zbj : Stmt:=top 43
noncomputable abbrev zdo : List Str:=["numbers","kinship","width","height","marks","e"]
theorem zfr : FnScope zdo ["numbers","kinship","width","height"] (zc zbj):=⟨rfl,rfl,rfl,by decide +kernel,rfl,by decide +kernel,by decide +kernel⟩
noncomputable abbrev zbJ : Stmt:=top 44
noncomputable abbrev zkt : List Str:=["numbers","kinship","width","height","some","seen","count","board","cells","row","deed"]
theorem ziQ : FnScope zkt ["numbers","kinship","width","height"] (zc zbJ):=⟨rfl,rfl,rfl,by decide +kernel,rfl,by decide +kernel,by decide +kernel⟩
noncomputable abbrev s_law : Stmt:=top 45
noncomputable abbrev N_law : List Str:=["script","width","height","most","kinship","numbers","cell","at","way","handed","found"]
theorem zoJ : FnScope N_law ["script"] (zc s_law):=⟨rfl,rfl,rfl,by decide +kernel,rfl,by decide +kernel,by decide +kernel⟩
structure Exs (K : PySem.W.Frag) (mg : Str → Option Value) (c_KinError c_NotSquare c_BadNumbers : Addr) : Prop where
 m_KinError : mg "KinError" = some (.ref c_KinError)
 m_NotSquare : mg "NotSquare" = some (.ref c_NotSquare)
 m_BadNumbers : mg "BadNumbers" = some (.ref c_BadNumbers)
 x_NotSquare : ExLook K c_NotSquare
 s_NotSquare : PySem.W.subIn K (.ref c_NotSquare) (.ref c_KinError) = some true
 w_NotSquare : PySem.W.subIn K (.ref c_NotSquare) (.ref c_NotSquare) = some true
 v_NotSquare : PySem.W.kitOne K (.ref c_NotSquare) (.type "ValueError") = some true
 k_NotSquare_NotSquare : PySem.W.kitOne K (.ref c_NotSquare) (.ref c_NotSquare) = some true
 k_NotSquare_BadNumbers : PySem.W.kitOne K (.ref c_NotSquare) (.ref c_BadNumbers) = some false
 x_BadNumbers : ExLook K c_BadNumbers
 s_BadNumbers : PySem.W.subIn K (.ref c_BadNumbers) (.ref c_KinError) = some true
 w_BadNumbers : PySem.W.subIn K (.ref c_BadNumbers) (.ref c_BadNumbers) = some true
 v_BadNumbers : PySem.W.kitOne K (.ref c_BadNumbers) (.type "ValueError") = some true
 k_BadNumbers_NotSquare : PySem.W.kitOne K (.ref c_BadNumbers) (.ref c_NotSquare) = some false
 k_BadNumbers_BadNumbers : PySem.W.kitOne K (.ref c_BadNumbers) (.ref c_BadNumbers) = some true
 e_KinError : PySem.W.excIn K c_KinError bmV "ValueError.__new__" = true
structure Txt (K : PySem.W.Frag) (mg : Str → Option Value) : Prop where
 d_turnings : Def K mg "turnings" zO ["kinship"]
 d_check_kinship : Def K mg "check_kinship" zU ["kinship"]
 d_deeds : Def K mg "deeds" zbG ["kinship","width","height"]
 d_all_slides : Def K mg "all_slides" zbq ["width","height"]
 d_done : Def K mg "done" zcW ["board","deed"]
 d_turned : Def K mg "turned" zby ["board","turning"]
 d_mirrored : Def K mg "mirrored" zbz ["board"]
 d_quarter_turned : Def K mg "quarter_turned" zW ["board"]
 d_column_from_below : Def K mg "column_from_below" zM ["board","x"]
 d_slid : Def K mg "slid" zcX ["board","a","b"]
 d_row_slid : Def K mg "row_slid" zbA ["row","a"]
 d_rounds : Def K mg "rounds" zbT ["deed","width","height"]
 d_cell_origins : Def K mg "cell_origins" zbd ["deed","width","height"]
 d_round_length : Def K mg "round_length" zP ["start","origins","met"]
 d_how_many_with : Def K mg "how_many_with" zY ["numbers","kinship","width","height"]
 d_check_numbers : Def K mg "check_numbers" zZ ["numbers","cells"]
 d_deeds_sharing_rounds : Def K mg "deeds_sharing_rounds" zJ ["kinship_deeds","width","height"]
 d_left_with : Def K mg "left_with" zbv ["numbers","lengths"]
 d_ways_with_colour : Def K mg "ways_with_colour" zQ ["ways","unlike_lengths","number"]
 d_picks : Def K mg "picks" zcq ["free","unlike_lengths","number"]
 d_picks_further : Def K mg "picks_further" zba ["pick","free","length"]
 d_choices : Def K mg "choices" zbH ["of_many","count"]
 d_law_cell_at : Def K mg "_law_cell_at" zbh ["script","k"]
 d_law_whole : Def K mg "_law_whole" zbw ["found"]
 d_law_kinship : Def K mg "_law_kinship" zK ["cell","width","height"]
 d_law_turnings : Def K mg "_law_turnings" zR ["kinship"]
 d_law_deeds : Def K mg "_law_deeds" zbc ["kinship","width","height"]
 d_law_quarter : Def K mg "_law_quarter" zbi ["board"]
 d_law_done : Def K mg "_law_done" zbn ["board","deed"]
 d_law_all : Def K mg "_law_all" zbI ["colours","width","height"]
 d_law_small : Def K mg "_law_small" zbx ["cell"]
 d_law_numbers : Def K mg "_law_numbers" zV ["cell","cells"]
 d_law_refused : Def K mg "_law_refused" zbj ["numbers","kinship","width","height"]
 d_law_due : Def K mg "_law_due" zbJ ["numbers","kinship","width","height"]
 d_law : Def K mg "law" s_law ["script"]
 n_ValueError : mg "ValueError" = none
 n_bool : mg "bool" = none
 n_int : mg "int" = none
 n_isinstance : mg "isinstance" = none
 n_len : mg "len" = none
 n_list : mg "list" = none
 n_min : mg "min" = none
 n_range : mg "range" = none
 n_reversed : mg "reversed" = none
 n_set : mg "set" = none
 n_sorted : mg "sorted" = none
 n_sum : mg "sum" = none
 n_tuple : mg "tuple" = none
 c_LETTERS : ∃ t,mg "LETTERS" = some (.str (Str.ofString "hqms") t)
 c_QUARTERS : ∃ t,mg "QUARTERS" = some (.int 4 t)
 c_FIRST_MIRRORING : ∃ t,mg "FIRST_MIRRORING" = some (.int 4 t)
 cl : ∃ c_KinError c_NotSquare c_BadNumbers : Addr,Exs K mg c_KinError c_NotSquare c_BadNumbers
end Internal.k12
namespace Internal.k12
open PySem PySem.Spec PyProof.Rows Internal.L2 Internal Internal.BM
section
variable {P : Program} {wd : World} {K : PySem.W.Frag} {mg : Str → Option Value} {base : Heap}
theorem ziR (T : Txt K mg) : FnAt P wd K mg base 1 "row_slid" ["row","a"] (spF (fun u : List Int × Int=>[rowD u.1,.int u.2]) (fun u=>u.1.length ≤ 1000) (fun u=>rowD (zbp u.1 u.2)) K):=by
 refine fn_at T.d_row_slid zhu (fun _ _=>rfl) ?_
 rintro ⟨r,a⟩ h1
 dsimp only
 replace h1 : r.length ≤ 1000:=h1
 refine za (s_set 2 (zbR (e_var 0) T.n_len) ?_)
 refine za (s_ret (zbe (f_map (us:=List.range r.length) (fun x : Nat=>D.int (r.getD (((x : Int) - a) % (r.length : Int)).toNat 0)) (zF (e_var 2) T.n_range (by omega)) (by rw [List.length_range]; exact Nat.le_trans h1 (by decide)) fun x hx=>?_).je T.n_tuple) ?_)
 ·have hx' : x < r.length:=List.mem_range.mp hx
  exact zbC 0 (e_var 0) (e_mod (e_sub (e_var 3) (e_var 1)) (e_var 2) (by omega)) (Int.emod_nonneg _ (by omega)) (Int.emod_lt_of_pos _ (by omega))
 ·show _ = _
  simp only [rowD,zbp,List.map_map]; rfl
theorem zoK (T : Txt K mg) : FnAt P wd K mg base 2 "slid" ["board","a","b"] (spF (fun u : Bd × Int × Int=>[bdD u.1,.int u.2.1,.int u.2.2]) (fun u=>u.1.length ≤ 1000 ∧ ∀ r ∈ u.1,r.length ≤ 1000) (fun u=>bdD (slid u.1 u.2.1 u.2.2)) K):=by
 refine fn_at T.d_slid zmY (fun _ _=>rfl) ?_
 rintro ⟨bd,a,b⟩ h
 dsimp only
 obtain ⟨h1,h2⟩ : bd.length ≤ 1000 ∧ ∀ r ∈ bd,r.length ≤ 1000:=h
 refine za (s_set 3 (zbR (e_var 0) T.n_len) ?_)
 refine za (s_own 4 (f_map (fun r : List Int=>rowD (zbp r a)) (zdA (e_var 0)) (Nat.le_trans h1 (by decide)) (fun r hr=>e_fn (ziR T) (r,a) (zb (e_var 5) (zb (e_var 1) a_nil)) (h2 r hr))) ?_)
 refine b_frz 4 rfl ?_
 refine za (s_ret (zbe (f_map (us:=List.range bd.length) (fun y : Nat=>rowD ((bd.map (zbp · a)).getD (((y : Int) - b) % (bd.length : Int)).toNat [])) (zF (e_var 3) T.n_range (by omega)) (by rw [List.length_range]; exact Nat.le_trans h1 (by decide)) fun y hy=>?_).je T.n_tuple) ?_)
 ·have hy' : y < bd.length:=List.mem_range.mp hy
  refine zbM (l:=bd.map (zbp · a)) (f:=rowD) [] (e_var 4 (hd:=?_)) (e_mod (e_sub (e_var 5) (e_var 2)) (e_var 3) (by omega)) (Int.emod_nonneg _ (by omega)) (by rw [List.length_map]; exact Int.emod_lt_of_pos _ (by omega))
  show some _ = some _
  rw [List.map_map]; rfl
 ·show _ = _
  simp only [bdD,slid,List.map_map]; rfl
theorem ziS (T : Txt K mg) : FnAt P wd K mg base 1 "mirrored" ["board"] (spF (fun b : Bd=>[bdD b]) (fun b=>b.length ≤ 1000 ∧ ∀ r ∈ b,r ≠ []) (fun b=>bdD (mir b)) K):=by
 refine fn_at T.d_mirrored zht (fun _ _=>rfl) ?_
 rintro bd h
 obtain ⟨h1,h2⟩ : bd.length ≤ 1000 ∧ ∀ r ∈ bd,r ≠ []:=h
 refine za (s_ret (zbe (f_map (fun r : List Int=>rowD r.reverse) (zdA (e_var 0)) (Nat.le_trans h1 (by decide)) fun r hr=>?_).je T.n_tuple) ?_)
 ·exact (zgr (e_var 1) (by intro z; exact h2 r hr (List.map_eq_nil_iff.mp z)) T.n_reversed T.n_tuple).cast (by rw [← List.map_reverse])
 ·show _ = _
  simp only [bdD,mir,List.map_map]; rfl
theorem zds (T : Txt K mg) : FnAt P wd K mg base 1 "column_from_below" ["board","x"] (spF (fun u : Bd × Nat=>[bdD u.1,natD u.2]) (fun u=>u.1.length ≤ 1000 ∧ ∀ r ∈ u.1,u.2 < r.length) (fun u=>rowD (col u.1 u.2)) K):=by
 refine fn_at T.d_column_from_below zdk (fun _ _=>rfl) ?_
 rintro ⟨bd,x⟩ h
 dsimp only
 obtain ⟨h1,h2⟩ : bd.length ≤ 1000 ∧ ∀ r ∈ bd,x < r.length:=h
 refine za (s_ret (zbe (f_map (fun r : List Int=>D.int (r.getD x 0)) (znT (e_var 0) T.n_reversed) (by rw [List.length_reverse]; exact Nat.le_trans h1 (by decide)) fun r hr=>?_).je T.n_tuple) ?_)
 ·have:=h2 r (List.mem_reverse.mp hr)
  exact zbC (i:=(x : Int)) 0 (e_var 2) (e_var 1) (by omega) (by omega)
 ·show _ = _
  simp only [rowD,col,List.map_map]; rfl
theorem zex (T : Txt K mg) : FnAt P wd K mg base 2 "quarter_turned" ["board"] (spF (fun u : Bd × Nat × Nat=>[bdD u.1]) (fun u=>BdIn u.2.1 u.2.2 u.1) (fun u=>bdD (qt u.2.1 u.1)) K):=by
 refine fn_at T.d_quarter_turned zdV (fun _ _=>rfl) ?_
 rintro ⟨bd,w,h⟩ q
 dsimp only
 replace q : BdIn w h bd:=q
 have hl:=q.r.len
 have h0:=q.h0
 have w1:=q.w1
 refine za (s_ret (zbe (f_map (us:=List.range w) (fun x : Nat=>rowD (col bd x)) (zF ((zbR (zbC (l:=bd) (i:=0) (f:=rowD) [] (e_var 0) e_int (by omega) (by omega)) T.n_len).cast (by rw [show (0 : Int).toNat = 0 from rfl,q.row0])) T.n_range (by omega)) (by rw [List.length_range]; exact Nat.le_trans w1 (by decide)) fun x hx=>?_).je T.n_tuple) ?_)
 ·exact e_fn (zds T) (bd,x) (zb (e_var 0) (zb (e_var 1) a_nil)) ⟨by rw [hl]; exact q.h1,fun r hr=>by rw [q.r.row r hr]; exact List.mem_range.mp hx⟩
 ·show _ = _
  simp only [bdD,qt,List.map_map]; rfl
theorem zlH (T : Txt K mg) : FnAt P wd K mg base 3 "turned" ["board","turning"] (spF (fun u : Bd × Nat × Nat × Nat=>[bdD u.1,natD u.2.2.2]) (fun u=>BdIn u.2.1 u.2.2.1 u.1) (fun u=>bdD (turn u.2.1 u.2.2.1 u.2.2.2 u.1)) K):=by
 refine fn_at T.d_turned zkp (fun _ _=>rfl) ?_
 rintro ⟨bd,w,h,t⟩ q
 dsimp only
 replace q : BdIn w h bd:=q
 obtain ⟨t4,hc⟩:=T.c_FIRST_MIRRORING
 obtain ⟨t5,hq⟩:=T.c_QUARTERS
 have h1 : bd.length ≤ 1000:=by rw [q.r.len]; exact q.h1
 have key : ∀ bd',BdIn w h bd' → qts (t % 4) w h bd' = turn w h t bd → ∀ c,JB ⟨P,wd,K,mg,base,2,zhc,zc zby,true⟩ [.val (bdD bd'),.val (natD t),c] (zf zby).tail { nx:=fun _=>bdD (turn w h t bd) = .non,rt:=fun d _=>d = bdD (turn w h t bd) }:=by
  intro bd' q' eq c
  refine za (s_for 2 (us:=List.range (t % 4)) (g:=natD) (zF (n:=t % 4) (e_mod (i:=(t : Nat)) (j:=4) (e_var 1) (zcm hq) (by omega)) T.n_range (by omega)) (fun k Γ'=>∃ c,Γ' = [.val (bdD (qts k w h bd')),.val (natD t),c]) ⟨c,rfl⟩ ?_ ?_)
  ·rintro k u Γ' hu ⟨c,rfl⟩
   refine za (s_set 0 (e_fn (zex T) (qts k w h bd',curW k w h,curW k h w) (zb (e_var 0) a_nil) (zjA k q')) (b_nil ?_))
   refine ⟨.val (natD u),?_⟩
   rw [zek]; rfl
  ·rintro Γ' ⟨c,rfl⟩
   rw [List.length_range,eq]
   exact za (s_ret (e_var 0) rfl)
 refine za (s_if (t_ge (e_var 1) (zcm hc)) (fun ht=>?_) (fun ht=>?_))
 ·have ht' : 4 ≤ t:=by have:=of_decide_eq_true ht; omega
  refine za (s_set 0 (e_fn (ziS T) bd (zb (e_var 0) a_nil) ⟨h1,fun r hr z=>?_⟩) (b_nil ?_))
  ·have:=q.r.row r hr
   have:=q.w0
   rw [z] at *
   simp at *
   omega
  ·exact key (mir bd) (zjz q) (by unfold turn; rw [if_pos ht']) _
 ·have ht' : ¬ 4 ≤ t:=by have:=of_decide_eq_false ht; omega
  exact b_nil (key bd q (by unfold turn; rw [if_neg ht']) _)
theorem zoL (T : Txt K mg) : FnAt P wd K mg base 4 "done" ["board","deed"] (spF (fun u : Bd × Nat × Nat × Deed=>[bdD u.1,deedD u.2.2.2]) (fun u=>BdIn u.2.1 u.2.2.1 u.1) (fun u=>bdD (dn u.2.1 u.2.2.1 u.1 u.2.2.2)) K):=by
 refine fn_at T.d_done zmX (fun _ _=>rfl) ?_
 rintro ⟨bd,w,h,⟨t,a,b⟩⟩ q
 dsimp only at q ⊢
 have q2:=zhP t q
 refine za (s_ret (e_fn (zoK T) (turn w h t bd,a,b) (zb (e_fn (zlH T) (bd,w,h,t) (zb (e_var 0) (zb (e_ixT (i:=0) (e_var 1) e_int rfl) a_nil)) q) (zb (e_ixT (i:=1) (e_var 1) e_int rfl) (zb (e_ixT (i:=2) (e_var 1) e_int rfl) a_nil))) ⟨by rw [q2.r.len]; exact q2.h1,fun r hr=>by rw [q2.r.row r hr]; exact q2.w1⟩) rfl)
theorem zna (w h : Nat) : bdD (numB w h) = .tup ((List.range h).map fun y : Nat=>rowD ((List.range (((y : Int) + 1) * (w : Int) - (y : Int) * (w : Int)).toNat).map fun k : Nat=>(y : Int) * (w : Int) + (k : Int))):=by
 unfold numB
 rw [bdD,List.map_map]
 congr 1
 apply List.map_congr_left
 intro y _
 show rowD _ = rowD _
 have e : (((y : Int) + 1) * (w : Int) - (y : Int) * (w : Int)).toNat = w:=by
  rw [Int.add_mul,Int.one_mul]; omega
 rw [e]
 congr 1
theorem zfs (T : Txt K mg) : FnAt P wd K mg base 5 "cell_origins" ["deed","width","height"] (spFr (fun u : Deed × Nat × Nat=>[deedD u.1,natD u.2.1,natD u.2.2]) (fun u=>Fits u.1.t u.2.1 u.2.2 ∧ 0 < u.2.1 ∧ 0 < u.2.2 ∧ u.2.1 ≤ 100 ∧ u.2.2 ≤ 100) (fun u=>(origins u.2.1 u.2.2 u.1).map D.int) K):=by
 refine zbX T.d_cell_origins zeN (fun _ _=>rfl) ?_
 rintro ⟨d,w,h⟩ hu
 obtain ⟨f,hw,hh,w1,h1⟩ : Fits d.t w h ∧ 0 < w ∧ 0 < h ∧ w ≤ 100 ∧ h ≤ 100:=hu
 dsimp only
 have q : BdIn w h (numB w h):=⟨zbY w h,hw,hh,by omega,by omega⟩
 refine za (s_set 3 (d:=bdD (numB w h)) (JE.cast (zbe (f_map (us:=List.range h) (fun y : Nat=>rowD ((List.range (((y : Int) + 1) * (w : Int) - (y : Int) * (w : Int)).toNat).map fun k : Nat=>(y : Int) * (w : Int) + (k : Int))) (zF (e_var 2) T.n_range (by omega)) (by rw [List.length_range]; exact Nat.le_trans h1 (by decide)) fun y hy=>?_).je T.n_tuple) (zna w h).symm) ?_)
 ·have hy':=List.mem_range.mp hy
  have b1 : (y : Int) * (w : Int) ≤ 10000:=by
   have : y * w ≤ 100 * 100:=Nat.mul_le_mul (by omega) w1
   rw [← Int.natCast_mul]; omega
  have b0 : 0 ≤ (y : Int) * (w : Int):=by rw [← Int.natCast_mul]; omega
  have e1 : ((y : Int) + 1) * (w : Int) = (y : Int) * (w : Int) + w:=by rw [Int.add_mul,Int.one_mul]
  exact zkS (e_mul (e_var 6) (e_var 1) (.inr ⟨by omega,by omega⟩)) (e_mul (e_add (e_var 6) e_int) (e_var 1) (.inr ⟨by omega,by omega⟩)) T.n_range T.n_tuple ⟨by omega,by omega,by omega,by omega⟩ (by omega)
 refine za (s_own 4 (f_lst a_nil) ?_)
 have q2:=dn_in (d:=d) f q
 refine za (s_for 5 (us:=dn w h (numB w h) d) (g:=rowD) (zdA (e_fn (zoL T) (numB w h,w,h,d) (zb (e_var 3) (zb (e_var 0) a_nil)) q)) (fun k Γ'=>∃ x,Γ' = [.val (deedD d),.val (natD w),.val (natD h),.val (bdD (numB w h)),.own ((((dn w h (numB w h) d).take k).flatten).map D.int),x]) ⟨.no,rfl⟩ ?_ ?_)
 ·rintro k r Γ' hk ⟨x,rfl⟩
  refine za (s_ext 4 rfl (.inr (e_var 5)) ?_ (b_nil ⟨.val (rowD r),?_⟩))
  ·have hr:=q2.r.row r (List.mem_of_getElem? hk)
   rw [List.length_map,List.length_map,hr]
   have r3 : Rect w ((dn w h (numB w h) d).take k).length ((dn w h (numB w h) d).take k):=⟨rfl,fun r hr=>q2.r.row r (List.mem_of_mem_take hr)⟩
   rw [zbS r3,List.length_take,q2.r.len]
   have : min k h * w ≤ 100 * 100:=Nat.mul_le_mul (by omega) w1
   exact Nat.le_trans (show _ ≤ 20000 by omega) (by decide)
  ·show [_,_,_,_,_,_] = _
   rw [List.take_add_one,hk]
   simp
 ·rintro Γ' ⟨x,rfl⟩
  rw [List.take_length]
  exact za (zeG 4 rfl rfl)
theorem zft (T : Txt K mg) : FnAt P wd K mg base 1 "round_length" ["start","origins","met"] (spM (fun u : Nat × List Int × List Bool=>[natD u.1,intsD u.2.1]) (fun u=>u.2.2.map D.bl) (fun u=>u.1 < u.2.2.length ∧ OrOk u.2.2.length u.2.1) (fun u=>(rl u.2.1 (free u.2.2) u.2.2 u.1 0).1.map D.bl) (fun u=>natD (rl u.2.1 (free u.2.2) u.2.2 u.1 0).2) K):=by
 refine znY T.d_round_length zeO (fun _ _=>rfl) (by decide) ?_
 rintro ⟨s,os,met⟩ hu
 obtain ⟨hs,ok⟩ : s < met.length ∧ OrOk met.length os:=hu
 dsimp only
 refine za (s_set 3 e_int ?_)
 refine za (s_set 4 (e_var 0) ?_)
 refine za (zmd (fun m Γ'=>∃ met' c n,Γ' = [.val (natD s),.val (intsD os),.arg (met'.map D.bl),.val (natD n),.val (natD c)] ∧ m = free met' ∧ met'.length = met.length ∧ c < met.length ∧ rl os m met' c n = rl os (free met) met s 0) (m0:=free met) ⟨met,s,0,rfl,rfl,rfl,hs,rfl⟩ ?_)
 rintro m Γ' ⟨met',c,n,rfl,rfl,hl,hc,e⟩
 have hc' : c < met'.length:=by omega
 have it : JT ⟨P,wd,K,mg,base,0,zcY,zc zP,true⟩ [.val (natD s),.val (intsD os),.arg (met'.map D.bl),.val (natD n),.val (natD c)] (zjC ((zf zP).getD 2 (.Pass ⟨0,0,0,0⟩))) (!met'.getD c true) :=
  t_not (t_val (e_bor 2 rfl (zbM (l:=met') (f:=D.bl) (i:=(c : Int)) true (e_var 2) (e_var 4) (by omega) (by omega)) rfl))
 refine ⟨!met'.getD c true,it,fun hq=>?_,fun hq=>?_⟩
 ·have hq' : met'.getD c true = false:=by simpa using hq
  refine za (zdB 2 (n:=c) rfl (e_var 4) e_bl ?_ ?_)
  ·unfold ixN; rw [List.length_map,if_pos (by omega),if_pos (by omega)]; rfl
  refine za (s_set 4 (zbM (l:=os) (f:=D.int) (i:=(c : Int)) 0 (e_var 1) (e_var 4) (by omega) (by rw [ok.len]; omega)) ?_)
  refine za (s_set 3 (e_add (e_var 3) e_int) (b_nil ?_))
  have hm:=ok.mem (os.getD c 0) (by rw [getD_lt os c 0 (by rw [ok.len]; omega)]; exact List.getElem_mem _)
  have hf:=zgA hc' hq'
  refine ⟨free (met'.set c true),by omega,met'.set c true,(os.getD c 0).toNat,n + 1,?_,rfl,by rw [List.length_set]; exact hl,by omega,?_⟩
  ·show [_,_,_,_,_] = [_,_,_,_,_]
   have e1 : ((os.getD c 0).toNat : Int) = os.getD c 0:=Int.toNat_of_nonneg hm.1
   rw [List.map_set]
   unfold natD
   rw [e1]; rfl
  ·rw [← e,hf]
   show _ = if met'.getD c true then _ else _
   rw [hq']; rfl
 ·have hq' : met'.getD c true = true:=by simpa using hq
  have e2 : rl os (free met') met' c n = (met',n):=by
   cases hm : free met' with
   | zero=>rfl
   | succ m=>show (if met'.getD c true then _ else _) = _; rw [hq']; rfl
  rw [e2] at e
  refine za (s_ret (e_var 3) ?_)
  rw [← e]
  exact ⟨rfl,rfl⟩
theorem zlI (T : Txt K mg) : FnAt P wd K mg base 6 "rounds" ["deed","width","height"] (spFr (fun u : Deed × Nat × Nat=>[deedD u.1,natD u.2.1,natD u.2.2]) (fun u=>Fits u.1.t u.2.1 u.2.2 ∧ 0 < u.2.1 ∧ 0 < u.2.2 ∧ u.2.1 ≤ 100 ∧ u.2.2 ≤ 100 ∧ u.2.1 * u.2.2 ≤ 63) (fun u=>(sortZ ((lens u.2.1 u.2.2 u.1).map fun n : Nat=>(n : Int))).map D.int) K):=by
 refine zbX T.d_rounds zkq (fun _ _=>rfl) ?_
 rintro ⟨d,w,h⟩ hu
 obtain ⟨f,hw,hh,w1,h1,h64⟩ : Fits d.t w h ∧ 0 < w ∧ 0 < h ∧ w ≤ 100 ∧ h ≤ 100 ∧ w * h ≤ 63:=hu
 dsimp only
 have ok:=zdc (d:=d) f hw hh
 refine za (s_set 3 (e_fnr (zfs T) (d,w,h) (zb (e_var 0) (zb (e_var 1) (zb (e_var 2) a_nil))) ⟨f,hw,hh,w1,h1⟩) ?_)
 have hl:=ok.len
 have el : lens w h d = (rall (origins w h d) (w * h)).2:=rfl
 dsimp only
 rw [el]
 generalize origins w h d = os at ok hl
 generalize hn : w * h = n at ok hl h64
 refine za (s_own 4 (f_rep (n:=(n : Int)) (f_lst (zb e_bl a_nil)) ((zbF (e_var 3) T.n_len).cast (by rw [hl])) (by omega) (by omega) (by show 1 * _ ≤ _; rw [Int.toNat_natCast]; exact Nat.le_trans (show 1 * n ≤ 64 by omega) (by decide))) ?_)
 refine za (s_own 5 (f_lst a_nil) ?_)
 refine za (s_for 6 (us:=List.range n) (g:=natD) (zF ((zbF (e_var 3) T.n_len).cast (by rw [hl])) T.n_range (by omega)) (fun k Γ'=>∃ x,Γ' = [.val (deedD d),.val (natD w),.val (natD h),.val (intsD os),.own ((rall os k).1.map D.bl),.own (((rall os k).2.map fun n : Nat=>(n : Int)).map D.int),x]) ⟨.no,?_⟩ ?_ ?_)
 ·show [_,_,_,_,_,_,_] = [_,_,_,_,_,_,_]
  have e1 : (List.replicate (n : Int).toNat [D.bl false]).flatten = ((rall os 0).1).map D.bl:=by
   rw [Int.toNat_natCast]
   show _ = (List.replicate os.length false).map D.bl
   rw [hl,List.map_replicate]
   induction n with
   | zero=>rfl
   | succ n ih=>simp [List.replicate_succ]
  rw [e1]; rfl
 ·rintro k u Γ' hu ⟨x,rfl⟩
  have hk : k < n ∧ u = k:=by
   obtain ⟨a1,a2⟩:=List.getElem?_eq_some_iff.mp hu
   rw [List.length_range] at a1
   rw [List.getElem_range] at a2
   exact ⟨a1,a2.symm⟩
  obtain ⟨hk,rfl⟩:=hk
  obtain ⟨l1,l2⟩:=zcx os u
  have es:=zdD os u
  have hkl : u < (rall os u).1.length:=by omega
  refine za (s_if (t_not (t_val (e_bor 4 rfl (zbM (l:=(rall os u).1) (f:=D.bl) (i:=(u : Int)) true (e_var 4) (e_var 6) (by omega) (by omega)) rfl))) (fun hq=>?_) (fun hq=>b_nil (b_nil ⟨.val (natD u),?_⟩)))
  ·have hq' : (rall os u).1.getD u true = false:=by
    have e0 : ((u : Int)).toNat = u:=Int.toNat_natCast u
    rw [e0] at hq; simpa using hq
   refine za (znZ 5 (j:=4) (al:=false) (aj:=false) (ds:=((rall os u).2.map fun n : Nat=>(n : Int)).map D.int) rfl rfl (by decide) (e_fnM (zft T) (u,os,(rall os u).1) rfl (zhT (e_var 6) (zhT (e_var 3) (zml rfl))) ⟨hkl,by rw [l1,hl]; exact ok⟩) ?_ (b_nil (b_nil ⟨.val (natD u),?_⟩)))
   ·rw [List.length_map,List.length_map]; exact Nat.lt_of_lt_of_le (show _ < 100 by omega) (by decide)
   ·show [_,_,_,_,_,_,_] = [_,_,_,_,_,_,_]
    rw [es]
    unfold rstep
    rw [hq',if_neg Bool.false_ne_true,List.map_append,List.map_append]; rfl
  ·have hq' : (rall os u).1.getD u true = true:=by
    have e0 : ((u : Int)).toNat = u:=Int.toNat_natCast u
    rw [e0] at hq; simpa using hq
   show [_,_,_,_,_,_,_] = [_,_,_,_,_,_,_]
   rw [es]
   unfold rstep
   rw [hq',if_pos rfl]
 ·rintro Γ' ⟨x,rfl⟩
  rw [List.length_range]
  obtain ⟨l1,l2⟩:=zcx os n
  refine b_frz 5 rfl ?_
  refine za (zeF (zkU (ns:=(rall os n).2.map fun n : Nat=>(n : Int)) (e_var 5) (by rw [List.length_map]; omega) T.n_sorted) rfl)
noncomputable abbrev kinD (k : Kin) : D:=.str (sl (kinL k))
theorem t_let {S : Stat} {Γ : List Sl} {a : Expr} {pos pc : Pos} {j : Nat} {x : Str} {c : Nat} {k : Kin} {b : Bool} (hx : x = ⟨#[c]⟩) (hb : JE S Γ a (kinD k)) (e : decide (c ∈ kinL k) = b) (hm : behindInMarks .In a = false:=by rfl) : JT S Γ (.Compare (.Constant (.str x) j pc) [.In] [a] pos) b:=by
 subst hx
 exact (t_inS (c:=c) e_str hb hm).cast (by rw [zeI]; exact e)
theorem zeU (T : Txt K mg) : FnAt P wd K mg base 1 "check_kinship" ["kinship"] (spF (fun k : Kin=>[kinD k]) (fun _=>True) (fun _=>.non) K):=by
 refine fn_at T.d_check_kinship zet (fun _ _=>rfl) ?_
 rintro k _
 obtain ⟨t,hL⟩:=T.c_LETTERS
 have el : (Str.ofString "hqms").cps.toList = [104,113,109,115]:=by decide +kernel
 have ej : Str.join (sl []) (([104,113,109,115].filter fun c=>decide (c ∈ kinL k)).map fun c=>sl [c]) = sl (kinL k):=by
  rw [zfO]
  have:=joinE ((kinL k).map fun c=>[c])
  rw [List.map_map] at this
  rw [show ((kinL k).map fun c=>sl [c]) = (kinL k).map (sl ∘ fun c : Nat=>[c]) from rfl,this]
  congr 1
  generalize kinL k = l
  induction l with
  | nil=>rfl
  | cons a l ih=>simp at ih ⊢; exact ih
 have ji : JI ⟨P,wd,K,mg,base,0,zbP,zc zU,true⟩ (startΓ zbP [kinD k]) (.Name "letter" ⟨0,0,0,0⟩) (.Name "LETTERS" ⟨0,0,0,0⟩) ([104,113,109,115].map chD):=el ▸ i_str (zhJ hL)
 refine za (s_set 1 ((znW (sep:=sl []) (ts:=([104,113,109,115].filter fun c=>decide (c ∈ kinL k)).map fun c=>sl [c]) e_str (JE.cast (zgo (us:=[104,113,109,115]) (g:=chD) (fun c : Nat=>D.str (sl [c])) (fun c=>decide (c ∈ kinL k)) (el ▸ i_str (zhJ hL)) (by decide) (fun c _=>zhM ((t_inS (c:=c) (e_var 2) (e_var 0)).cast (by rw [zeI]))) (fun c _ _=>e_var 2)).je (by rw [List.map_map]; rfl)) (zmi (B:=1) (fun y hy=>?_) ?_)).cast (by rw [ej])) ?_)
 ·obtain ⟨c,_,rfl⟩:=List.mem_map.mp hy
  exact Nat.le_refl _
 ·rw [zfO,List.length_map,zgw]
  have : (kinL k).length ≤ 4:=by obtain ⟨h,q,m,s⟩:=k; cases h <;> cases q <;> cases m <;> cases s <;> decide
  simp; omega
 refine za (s_if (q:=false) ((t_neS (e_var 0) (e_var 1)).cast (by simp)) (fun z=>(nomatch z)) fun _=>b_nil (b_nil rfl))
theorem ziT (T : Txt K mg) : FnAt P wd K mg base 2 "turnings" ["kinship"] (spFr (fun k : Kin=>[kinD k]) (fun _=>True) (fun k=>(turns k).map natD) K):=by
 refine zbX T.d_turnings zhs (fun _ _=>rfl) ?_
 rintro k _
 obtain ⟨t4,hc⟩:=T.c_FIRST_MIRRORING
 obtain ⟨t5,hq⟩:=T.c_QUARTERS
 refine za (zjp (e_fn (zeU T) k (zb (e_var 0) a_nil) trivial) ?_)
 refine za (s_set 1 (zcm hq) ?_)
 have fin : ∀ st en : Nat,st = kstep k → en = kend k → JB ⟨P,wd,K,mg,base,1,zck,zc zO,true⟩ [.val (kinD k),.val (natD st),.val (natD en)] ((zf zO).drop 6) { nx:=fun _=>False,rt:=fun _ _=>False,rf:=fun ds _=>ds = (turns k).map natD }:=by
  rintro st en rfl rfl
  have hk : 0 < kstep k ∧ kstep k ≤ 4 ∧ kend k ≤ 8:=by obtain ⟨h,q,m,s⟩:=k; cases h <;> cases q <;> cases m <;> cases s <;> decide
  refine za (zeF (zjI (kend k / kstep k) e_int (e_var 2) (e_var 1) T.n_range T.n_list (by omega) (by omega) ?_ ?_ ?_) ?_)
  ·obtain ⟨h,q,m,s⟩:=k; cases h <;> cases q <;> cases m <;> cases s <;> decide
  ·obtain ⟨h,q,m,s⟩:=k; cases h <;> cases q <;> cases m <;> cases s <;> decide
  ·obtain ⟨h,q,m,s⟩:=k; cases h <;> cases q <;> cases m <;> cases s <;> decide
  ·show _ = _
   unfold turns
   rw [List.map_map]
   apply List.map_congr_left
   intro i _
   show D.int _ = natD _
   rw [Int.zero_add,natD,Int.natCast_mul]
 have mid : ∀ st : Nat,st = kstep k → JB ⟨P,wd,K,mg,base,1,zck,zc zO,true⟩ [.val (kinD k),.val (natD st),.no] ((zf zO).drop 4) { nx:=fun _=>False,rt:=fun _ _=>False,rf:=fun ds _=>ds = (turns k).map natD }:=by
  intro st hst
  refine za (s_set 2 (zcm hc) ?_)
  refine za (s_if (t_let (c:=109) (by decide +kernel) (e_var 0) (kin_m k)) (fun z=>?_) (fun z=>b_nil (fin st 4 hst (by unfold kend; rw [z]; rfl))))
  refine za (s_set 2 (e_add (zcm hc) (zcm hq)) (b_nil ?_))
  exact fin st 8 hst (by unfold kend; rw [z]; rfl)
 have aft : ∀ st : Nat,st = (if k.h then 2 else 4) → JB ⟨P,wd,K,mg,base,1,zck,zc zO,true⟩ [.val (kinD k),.val (natD st),.no] ((zf zO).drop 3) { nx:=fun _=>False,rt:=fun _ _=>False,rf:=fun ds _=>ds = (turns k).map natD }:=by
  intro st hst
  refine za (s_if (t_let (c:=113) (by decide +kernel) (e_var 0) (kin_q k)) (fun z=>?_) (fun z=>b_nil (mid st (by unfold kstep; rw [z]; exact hst))))
  refine za (s_set 1 e_int (b_nil ?_))
  exact mid 1 (by unfold kstep; rw [z]; rfl)
 refine za (s_if (t_let (c:=104) (by decide +kernel) (e_var 0) (kin_h k)) (fun z=>?_) (fun z=>b_nil (aft 4 (by rw [z]; rfl))))
 refine za (s_set 1 e_int (b_nil ?_))
 exact aft 2 (by rw [z]; rfl)
noncomputable abbrev slD (p : Nat × Nat) : D:=.tup [natD p.1,natD p.2]
theorem zhh (T : Txt K mg) : FnAt P wd K mg base 1 "all_slides" ["width","height"] (spFr (fun u : Nat × Nat=>[natD u.1,natD u.2]) (fun u=>u.1 ≤ 100 ∧ u.2 ≤ 100) (fun u=>((List.range u.1).flatMap fun a=>(List.range u.2).map fun b=>(a,b)).map slD) K):=by
 refine zbX T.d_all_slides zfV (fun _ _=>rfl) ?_
 rintro ⟨w,h⟩ ⟨hw,hh⟩
 dsimp only at hw hh ⊢
 refine za (s_own 2 (f_lst a_nil) ?_)
 refine za (s_for 3 (us:=List.range w) (g:=natD) (zF (e_var 0) T.n_range (by omega)) (fun k Γ'=>∃ x,Γ' = [.val (natD w),.val (natD h),.own (((List.range k).flatMap fun a=>(List.range h).map fun b=>(a,b)).map slD),x]) ⟨.no,rfl⟩ ?_ ?_)
 ·rintro k u Γ' hu ⟨x,rfl⟩
  have hk : k < w ∧ u = k:=by
   obtain ⟨a1,a2⟩:=List.getElem?_eq_some_iff.mp hu
   rw [List.length_range] at a1
   rw [List.getElem_range] at a2
   exact ⟨a1,a2.symm⟩
  obtain ⟨hk,rfl⟩:=hk
  refine za (s_ext 2 rfl (.inl (f_map (us:=List.range h) (fun b : Nat=>slD (u,b)) (zF (e_var 1) T.n_range (by omega)) (by rw [List.length_range]; exact Nat.le_trans hh (by decide)) fun b _=>e_tup (zb (e_var 3) (zb (e_var 4) a_nil))).je) ?_ (b_nil ⟨.val (natD u),?_⟩))
  ·rw [List.length_map,List.length_map,List.length_range,zT _ _ h (fun a=>by rw [List.length_map,List.length_range]),List.length_range]
   have : u * h ≤ 100 * 100:=Nat.mul_le_mul (by omega) hh
   exact Nat.le_trans (show _ ≤ 20000 by omega) (by decide)
  ·show [_,_,_,_] = _
   rw [List.range_succ,List.flatMap_append,List.map_append]
   simp
 ·rintro Γ' ⟨x,rfl⟩
  rw [List.length_range]
  exact za (zeG 2 rfl rfl)
theorem zdl (k : Kin) (w h : Nat) : (zG k w h).length ≤ w * h + 1:=by
 unfold zG
 split
 ·rw [zT _ _ h (fun a=>by rw [List.length_map,List.length_range]),List.length_range]; omega
 ·simp
theorem zit (T : Txt K mg) : FnAt P wd K mg base 3 "deeds" ["kinship","width","height"] (spFr (fun u : Kin × Nat × Nat=>[kinD u.1,natD u.2.1,natD u.2.2]) (fun u=>u.2.1 ≤ 100 ∧ u.2.2 ≤ 100 ∧ (u.1.q = true → u.2.1 = u.2.2)) (fun u=>(zg u.1 u.2.1 u.2.2).map deedD) K):=by
 refine zbX T.d_deeds zlE (fun _ _=>rfl) ?_
 rintro ⟨k,w,h⟩ hu
 obtain ⟨hw,hh,hq⟩ : w ≤ 100 ∧ h ≤ 100 ∧ (k.q = true → w = h):=hu
 dsimp only
 refine za (s_set 3 (e_fnr (ziT T) k (zb (e_var 0) a_nil) trivial) ?_)
 refine za (s_if (q:=false) (JW.t (JW.cast (w_and (t_let (c:=113) (by decide +kernel) (e_var 0) (kin_q k)) (p':=!decide ((w : Int) = (h : Int))) fun _=>zeD (t_neI (e_var 1) (e_var 2))) ?_)) (fun z=>(nomatch z)) fun _=>b_nil ?_)
 ·cases e : k.q with
  | false=>rfl
  | true=>rw [hq e]; simp
 refine za (s_own 4 (f_lst (zb (e_tup (zb e_int (zb e_int a_nil))) a_nil)) ?_)
 have fin : JB ⟨P,wd,K,mg,base,2,zis,zc zbG,true⟩ [.val (kinD k),.val (natD w),.val (natD h),.val (.lst ((turns k).map natD)),.val (.lst ((zG k w h).map slD)),.no,.no] ((zf zbG).drop 4) { nx:=fun _=>False,rt:=fun _ _=>False,rf:=fun ds _=>ds = (zg k w h).map deedD }:=by
  refine za (s_own 5 (f_lst a_nil) ?_)
  have sl1:=zdl k w h
  have hwh : w * h ≤ 10000:=Nat.mul_le_mul hw hh
  have tl : (turns k).length ≤ 8:=by obtain ⟨h,q,m,s⟩:=k; cases h <;> cases q <;> cases m <;> cases s <;> decide
  refine za (s_for 6 (us:=turns k) (g:=natD) (i_lst (e_var 3)) (fun j Γ'=>∃ x,Γ' = [.val (kinD k),.val (natD w),.val (natD h),.val (.lst ((turns k).map natD)),.val (.lst ((zG k w h).map slD)),.own ((((turns k).take j).flatMap fun t=>(zG k w h).map fun p=>(⟨t,p.1,p.2⟩ : Deed)).map deedD),x]) ⟨.no,rfl⟩ ?_ ?_)
  ·rintro j t Γ' hj ⟨x,rfl⟩
   refine za (s_ext 5 rfl (.inl (f_map (us:=zG k w h) (g:=slD) (fun p : Nat × Nat=>deedD ⟨t,p.1,p.2⟩) (i_lst (e_var 4)) (Nat.le_trans (show _ ≤ 20000 by omega) (by decide)) fun p _=>e_tup (zb (e_var 6) (zb (e_ixT (i:=0) (e_var 7) e_int rfl) (zb (e_ixT (i:=1) (e_var 7) e_int rfl) a_nil)))).je) ?_ (b_nil ⟨.val (natD t),?_⟩))
   ·rw [List.length_map,List.length_map,zT _ _ (zG k w h).length (fun a=>by rw [List.length_map]),List.length_take]
    have : min j (turns k).length * (zG k w h).length ≤ 8 * 10001:=Nat.mul_le_mul (by omega) (by omega)
    exact Nat.le_trans (show _ ≤ 100000 by omega) (by decide)
   ·show [_,_,_,_,_,_,_] = _
    rw [List.take_add_one,hj]
    simp
  ·rintro Γ' ⟨x,rfl⟩
   rw [List.take_length]
   exact za (zeG 5 rfl rfl)
 refine za (s_if (t_let (c:=115) (by decide +kernel) (e_var 0) (kin_s k)) (fun z=>?_) (fun z=>?_))
 ·refine za (s_own 4 (f_fn (zhh T) (w,h) (zb (e_var 1) (zb (e_var 2) a_nil)) ⟨hw,hh⟩) (b_nil ?_))
  refine b_frz 4 rfl ?_
  have e : zG k w h = (List.range w).flatMap fun a=>(List.range h).map fun b=>(a,b):=by unfold zG; rw [z]; rfl
  rw [← e]
  exact fin
 ·refine b_nil (b_frz 4 rfl ?_)
  have e : zG k w h = [(0,0)]:=by unfold zG; rw [z]; rfl
  rw [e] at fin
  exact fin
theorem zku (T : Txt K mg) : FnAt P wd K mg base 1 "choices" ["of_many","count"] (spF (fun u : Nat × Nat=>[natD u.1,natD u.2]) (fun u=>u.2 ≤ u.1 ∧ u.1 ≤ 16) (fun u=>natD (chs u.1 u.2)) K):=by
 refine fn_at T.d_choices ziO (fun _ _=>rfl) ?_
 rintro ⟨n,c⟩ hu
 obtain ⟨hc,hn⟩ : c ≤ n ∧ n ≤ 16:=hu
 dsimp only
 refine za (s_set 2 (d:=natD 1) e_int ?_)
 refine za (s_for 3 (us:=List.range c) (g:=natD) (zF (e_var 1) T.n_range (by omega)) (fun k Γ'=>∃ x,Γ' = [.val (natD n),.val (natD c),.val (natD (chs n k)),x]) ⟨.no,rfl⟩ ?_ ?_)
 ·rintro k u Γ' hu ⟨x,rfl⟩
  have hk : k < c ∧ u = k:=by
   obtain ⟨a1,a2⟩:=List.getElem?_eq_some_iff.mp hu
   rw [List.length_range] at a1
   rw [List.getElem_range] at a2
   exact ⟨a1,a2.symm⟩
  obtain ⟨hk,rfl⟩:=hk
  refine za (s_set 2 (d:=natD (chs n (u + 1))) ((zbB (i:=(chs n u : Int) * ((n : Int) - (u : Int))) (j:=(u : Int) + 1) (e_mul (e_var 2) (e_sub (e_var 0) (e_var 3)) (.inr ⟨by omega,by omega⟩)) (e_add (e_var 3) e_int) ⟨by omega,by omega⟩).cast ?_) (b_nil ⟨.val (natD u),rfl⟩))
  rw [zlq]
  have e1 : (n : Int) - (u : Int) = ((n - u : Nat) : Int):=by omega
  have e2 : (u : Int) + 1 = ((u + 1 : Nat) : Int):=by omega
  rw [e1,e2,← Int.natCast_mul,← Int.natCast_ediv]
 ·rintro Γ' ⟨x,rfl⟩
  rw [List.length_range]
  exact za (s_ret (e_var 2) rfl)
theorem zeV (T : Txt K mg) : FnAt P wd K mg base 2 "picks_further" ["pick","free","length"] (spFr (fun u : Pk × Nat × Nat=>[pkD u.1,natD u.2.1,natD u.2.2]) (fun u=>u.2.1 ≤ 16 ∧ 0 < u.2.2 ∧ u.2.2 ≤ 1000 ∧ u.1.1.length ≤ 1000 ∧ u.1.2.2 < 2 ^ 60) (fun u=>(pf u.1 u.2.1 u.2.2).map pkD) K):=by
 refine zbX T.d_picks_further zew (fun _ _=>rfl) ?_
 rintro ⟨⟨ks,num,ways⟩,f,l⟩ hu
 obtain ⟨hf,l0,l1,hk,hw⟩ : f ≤ 16 ∧ 0 < l ∧ l ≤ 1000 ∧ ks.length ≤ 1000 ∧ ways < 2 ^ 60:=hu
 dsimp only
 refine za (s_set 3 (d:=natD (min f (num / l))) ((zos (i:=(f : Int)) (j:=(num : Int) / (l : Int)) (e_var 1) (zbB (e_ixT (i:=1) (e_var 0) e_int rfl) (e_var 2) ⟨by omega,by omega⟩) T.n_min).cast ?_) ?_)
 ·rw [← Int.natCast_ediv]
  show D.int _ = D.int _
  congr 1
  split <;> omega
 refine za (zeF (f_map (us:=List.range (min f (num / l) + 1)) (g:=natD) (fun c : Nat=>pkD (ks ++ [f - c],num - c * l,ways * chs f c)) (zF ((e_add (e_var 3) e_int).cast (by show D.int _ = D.int _; congr 1)) T.n_range (by omega)) (by rw [List.length_range]; exact Nat.le_trans (show _ ≤ 100 by omega) (by decide)) fun c hc=>?_) ?_)
 ·have hc':=List.mem_range.mp hc
  have hcf : c ≤ f:=by omega
  have hcl : c * l ≤ num:=Nat.le_trans (Nat.mul_le_mul_right l (show c ≤ num / l by omega)) (Nat.div_mul_le_self num l)
  refine e_tup (zb ((zot (ds:=(cI ks).map D.int) (es:=[natD (f - c)]) (e_ixT (i:=0) (e_var 0) e_int rfl) (e_tup (zb ((e_sub (e_var 1) (e_var 4)).cast ?_) a_nil)) (by simp) ?_).cast ?_) (zb ((e_sub (e_ixT (i:=1) (e_var 0) e_int rfl) (e_mul (e_var 4) (e_var 2) (.inr ⟨by omega,by omega⟩))).cast ?_) (zb ((e_mul (e_ixT (i:=2) (e_var 0) e_int rfl) (e_fn (zku T) (f,c) (zb (e_var 1) (zb (e_var 4) a_nil)) ⟨hcf,hf⟩) (.inl ⟨by dsimp only; omega,by dsimp only; omega⟩)).cast ?_) a_nil)))
  ·show D.int _ = D.int _
   congr 1; omega
  ·rw [List.length_map,List.length_map]; exact Nat.le_trans (show _ ≤ 1002 by simp only [List.length_cons,List.length_nil]; omega) (by decide)
  ·show D.tup ((cI ks).map D.int ++ [natD (f - c)]) = D.tup ((cI (ks ++ [f - c])).map D.int)
   unfold cI
   rw [List.map_append,List.map_append]; rfl
  ·show D.int ((num : Int) - (c : Int) * (l : Int)) = D.int ((num - c * l : Nat) : Int)
   congr 1
   rw [← Int.natCast_mul]; omega
  ·show D.int ((ways : Int) * (chs f c : Int)) = D.int ((ways * chs f c : Nat) : Int)
   rw [Int.natCast_mul]
 ·show _ = List.map pkD (pf _ _ _)
  unfold pf
  rw [List.map_map]; rfl
theorem znb (T : Txt K mg) : FnAt P wd K mg base 3 "picks" ["free","unlike_lengths","number"] (spFr (fun u : List Nat × List Nat × Nat=>[rowD (cI u.1),intsD (cI u.2.1),natD u.2.2]) (fun u=>u.1.sum ≤ 16 ∧ u.1.length = u.2.1.length ∧ u.2.1.length ≤ 100 ∧ ∀ l ∈ u.2.1,0 < l ∧ l ≤ 1000) (fun u=>(pks u.1 u.2.1 u.2.2).map pkD) K):=by
 refine zbX T.d_picks zlG (fun _ _=>rfl) ?_
 rintro ⟨fr,ul,num⟩ hu
 obtain ⟨hs,hl,hul,hpos⟩ : fr.sum ≤ 16 ∧ fr.length = ul.length ∧ ul.length ≤ 100 ∧ ∀ l ∈ ul,0 < l ∧ l ≤ 1000:=hu
 dsimp only
 have p16 : ∀ j,2 ^ (fr.take j).sum ≤ 65536:=fun j=>Nat.le_trans (Nat.pow_le_pow_right (by decide) (Nat.le_trans (zdZ _ _) hs)) (by decide)
 refine za (s_set 3 (d:=.lst ((told fr ul num 0).map pkD)) (f_lst (zb (e_tup (zb (e_tup a_nil) (zb (e_var 2) (zb e_int a_nil)))) a_nil)).je ?_)
 refine za (s_for 4 (us:=List.range ul.length) (g:=natD) (zF ((zbF (l:=cI ul) (f:=D.int) (e_var 1) T.n_len).cast (by rw [List.length_map])) T.n_range (by omega)) (fun j Γ'=>∃ x y z,Γ' = [.val (rowD (cI fr)),.val (intsD (cI ul)),.val (natD num),.val (.lst ((told fr ul num j).map pkD)),x,y,z]) ⟨.no,.no,.no,rfl⟩ ?_ ?_)
 ·rintro j u Γ' hu ⟨x,y,z,rfl⟩
  have hj : j < ul.length ∧ u = j:=by
   obtain ⟨a1,a2⟩:=List.getElem?_eq_some_iff.mp hu
   rw [List.length_range] at a1
   rw [List.getElem_range] at a2
   exact ⟨a1,a2.symm⟩
  obtain ⟨hj,rfl⟩:=hj
  obtain ⟨t1,t2⟩:=zcS (ul:=ul) (num:=num) hs u
  obtain ⟨t3,_⟩:=zcS (ul:=ul) (num:=num) hs (u + 1)
  have hf : fr.getD u 0 ≤ 16:=Nat.le_trans (zcK fr u) hs
  have hlu : 0 < ul.getD u 1 ∧ ul.getD u 1 ≤ 1000:=by
   rw [List.getD_eq_getElem?_getD,List.getElem?_eq_getElem hj]
   exact hpos _ (List.getElem_mem hj)
  have p17:=p16 u
  have p18:=p16 (u + 1)
  have et : told fr ul num (u + 1) = (told fr ul num u).flatMap fun p=>pf p (fr.getD u 0) (ul.getD u 1):=rfl
  refine za (s_own 5 (f_lst a_nil) ?_)
  refine za (s_for 6 (us:=told fr ul num u) (g:=pkD) (i_lst (e_var 3)) (fun i Γ'=>∃ z,Γ' = [.val (rowD (cI fr)),.val (intsD (cI ul)),.val (natD num),.val (.lst ((told fr ul num u).map pkD)),.val (natD u),.own ((((told fr ul num u).take i).flatMap fun p=>pf p (fr.getD u 0) (ul.getD u 1)).map pkD),z]) ⟨z,rfl⟩ ?_ ?_)
  ·rintro i p Γ' hi ⟨z,rfl⟩
   have hp:=t2 p (List.mem_of_getElem? hi)
   have hpw:=hp.ways
   have es : ((told fr ul num u).take (i + 1)).flatMap (fun p=>pf p (fr.getD u 0) (ul.getD u 1)) = ((told fr ul num u).take i).flatMap (fun p=>pf p (fr.getD u 0) (ul.getD u 1)) ++ pf p (fr.getD u 0) (ul.getD u 1):=by
    rw [List.take_add_one,hi,List.flatMap_append]; simp
   have el : (((told fr ul num u).take (i + 1)).flatMap (fun p=>pf p (fr.getD u 0) (ul.getD u 1))).length ≤ (told fr ul num (u + 1)).length:=by
    rw [et]
    conv=>rhs; rw [← List.take_append_drop (i + 1) (told fr ul num u),List.flatMap_append,List.length_append]
    omega
   rw [es,List.length_append] at el
   refine za (s_ext 5 (ds:=((((told fr ul num u).take i).flatMap fun p=>pf p (fr.getD u 0) (ul.getD u 1)).map pkD)) (es:=(pf p (fr.getD u 0) (ul.getD u 1)).map pkD) rfl (.inl (e_fnr (zeV T) (p,fr.getD u 0,ul.getD u 1) (zb (e_var 6) (zb ((zbC (l:=cI fr) (f:=D.int) (i:=(u : Int)) 0 (e_var 0) (e_var 4) (by omega) (by rw [List.length_map]; omega)).cast ?_) (zb ((zbM (l:=cI ul) (f:=D.int) (i:=(u : Int)) 1 (e_var 1) (e_var 4) (by omega) (by rw [List.length_map]; omega)).cast ?_) a_nil))) ⟨hf,hlu.1,hlu.2,by have:=hp.len; dsimp only; omega,by dsimp only; omega⟩)) ?_ (b_nil ⟨.val (pkD p),?_⟩))
   ·show D.int ((cI fr).getD (u : Int).toNat 0) = D.int ((fr.getD u 0 : Nat) : Int)
    rw [Int.toNat_natCast,List.getD_eq_getElem?_getD,List.getD_eq_getElem?_getD,List.getElem?_map]
    cases fr[u]? <;> rfl
   ·show D.int ((cI ul).getD (u : Int).toNat 1) = D.int ((ul.getD u 1 : Nat) : Int)
    rw [Int.toNat_natCast,List.getD_eq_getElem?_getD,List.getD_eq_getElem?_getD,List.getElem?_map]
    cases ul[u]? <;> rfl
   ·rw [List.length_map,List.length_map]; exact Nat.le_trans (show _ ≤ 65536 by omega) (by decide)
   ·show [_,_,_,_,_,_,_] = [_,_,_,_,_,_,_]
    rw [es,List.map_append]
  ·rintro Γ' ⟨z,rfl⟩
   rw [List.take_length,← et]
   refine b_frz 5 rfl ?_
   exact za (s_set 3 (e_var 5) (b_nil ⟨_,_,_,rfl⟩))
 ·rintro Γ' ⟨x,y,z,rfl⟩
  rw [List.length_range]
  obtain ⟨t1,t2⟩:=zcS (ul:=ul) (num:=num) hs ul.length
  refine za (zeF (zgo (us:=told fr ul num ul.length) (g:=pkD) pkD (fun p=>decide (p.2.1 = 0)) (i_lst (e_var 3)) (Nat.le_trans t1 (Nat.le_trans (p16 _) (by decide))) (fun p hp=>zhM ((t_eqI (e_ixT (i:=1) (e_var 7) e_int rfl) e_int).cast ?_)) fun p hp _=>e_var 7) rfl)
  exact decide_eq_decide.mpr (by omega)
theorem zdM (T : Txt K mg) : FnAt P wd K mg base 4 "ways_with_colour" ["ways","unlike_lengths","number"] (spF (fun u : List Nat × Dc × List Nat × Nat=>[.dcI (dN u.2.1),intsD (cI u.2.2.1),natD u.2.2.2]) (fun u=>u.1.sum ≤ 16 ∧ u.1.length = u.2.2.1.length ∧ u.2.2.1.length ≤ 100 ∧ (∀ l ∈ u.2.2.1,0 < l ∧ l ≤ 1000) ∧ WOk u.1 u.2.1) (fun u=>.dcI (dN (wwc u.2.2.1 u.2.2.2 u.2.1 []))) K):=by
 refine fn_at T.d_ways_with_colour zdr (fun _ _=>rfl) ?_
 rintro ⟨fr0,ways,ul,num⟩ hu
 obtain ⟨hs,hl,hul,hpos,wok⟩ : fr0.sum ≤ 16 ∧ fr0.length = ul.length ∧ ul.length ≤ 100 ∧ (∀ l ∈ ul,0 < l ∧ l ≤ 1000) ∧ WOk fr0 ways:=hu
 dsimp only
 refine za (zjM 3 ?_)
 refine za (s_for 4 (us:=dN ways) (g:=fun kv=>rowD kv.1) (i_dct (e_var 0)) (fun j Γ'=>∃ x y z,Γ' = [.val (.dcI (dN ways)),.val (intsD (cI ul)),.val (natD num),.dic (dcD (dN (wwc ul num (ways.take j) []))),x,y,z]) ⟨.no,.no,.no,rfl⟩ ?_ ?_)
 ·rintro j kv' Γ' hj ⟨x,y,z,rfl⟩
  rw [List.getElem?_map] at hj
  obtain ⟨⟨k,v⟩,hkv,rfl⟩:=Option.map_eq_some_iff.mp hj
  have hm:=List.mem_of_getElem? hkv
  have hle : Le k fr0:=wok.le k (List.mem_map.mpr ⟨(k,v),hm,rfl⟩)
  have hget : getI (dN ways) (cI k) = some (v : Int):=by rw [zdU,zfk wok.nd hm]; rfl
  have ks:=hle.sum
  obtain ⟨p1,p2⟩:=zkh (fr:=k) (ul:=ul) (num:=num) (by omega) (hle.1.trans hl)
  have wj : WOk fr0 (wwc ul num (ways.take j) []):=WOk.wwc num hs hl _ (WOk.nil fr0) fun kv hkv=>wok.le _ (List.mem_map.mpr ⟨kv,List.mem_of_mem_take hkv,rfl⟩)
  have es : wwc ul num (ways.take (j + 1)) [] = inn v (pks k ul num) (wwc ul num (ways.take j) []):=by
   unfold wwc
   rw [List.take_add_one,hkv,List.foldl_append]; rfl
  rw [es]
  generalize wwc ul num (ways.take j) [] = m0 at wj
  refine za (s_for 5 (us:=pks k ul num) (g:=pkD) (i_lst (e_fnr (znb T) (k,ul,num) (zb (e_var 4) (zb (e_var 1) (zb (e_var 2) a_nil))) ⟨by dsimp only; omega,hle.1.trans hl,hul,hpos⟩)) (fun i Γ'=>∃ y z,Γ' = [.val (.dcI (dN ways)),.val (intsD (cI ul)),.val (natD num),.dic (dcD (dN (inn v ((pks k ul num).take i) m0))),.val (rowD (cI k)),y,z]) ⟨y,z,rfl⟩ ?_ ?_)
  ·rintro i p Γ' hi ⟨y,z,rfl⟩
   have hpm:=List.mem_of_getElem? hi
   obtain ⟨hpl,hpw⟩:=p2 p hpm
   have wi : WOk fr0 (inn v ((pks k ul num).take i) m0):=wj.inn v _ fun q hq=>(p2 q (List.mem_of_mem_take hq)).1.trans hle
   have es2 : inn v ((pks k ul num).take (i + 1)) m0 = addN (inn v ((pks k ul num).take i) m0) p.1 (v * p.2.2):=by
    unfold inn
    rw [List.take_add_one,hi,List.foldl_append]; rfl
   rw [es2]
   generalize inn v ((pks k ul num).take i) m0 = m1 at wi
   have hlen:=wi.len hs
   refine za (s_set 6 (d:=rowD (cI p.1)) (e_ixT (i:=0) (e_var 5) e_int rfl) ?_)
   refine za (zhY 3 (kvs:=dN m1) (k:=cI p.1) (v:=(getI (dN m1) (cI p.1)).getD 0 + (v : Int) * (p.2.2 : Int)) rfl (e_var 6) (e_add (zhX 3 (kvs:=dN m1) (k:=cI p.1) (n:=0) rfl (e_var 6) e_int) (e_mul (e_dix (kvs:=dN ways) (k:=cI k) (v:=(v : Int)) (e_var 0) (e_var 4) hget) (e_ixT (i:=2) (e_var 5) e_int rfl) (.inr ⟨by omega,by omega⟩))) (by rw [List.length_map]; exact Nat.lt_of_le_of_lt hlen (by decide)) (b_nil ⟨.val (pkD p),.val (rowD (cI p.1)),?_⟩))
   show [_,_,_,_,_,_,_] = [_,_,_,_,_,_,_]
   rw [← Int.natCast_mul,zin]
  ·rintro Γ' ⟨y,z,rfl⟩
   rw [List.take_length]
   exact b_nil ⟨_,_,_,rfl⟩
 ·rintro Γ' ⟨x,y,z,rfl⟩
  have e : ways.take (dN ways).length = ways:=by rw [List.length_map,List.take_length]
  rw [e]
  refine zjP 3 rfl ?_
  exact za (s_ret (e_var 3) rfl)
theorem zhz (T : Txt K mg) : FnAt P wd K mg base 5 "left_with" ["numbers","lengths"] (spF (fun u : List Nat × List Nat=>[.lst (u.1.map natD),rowD (cI u.2)]) (fun u=>u.2.length ≤ 16 ∧ ∀ l ∈ u.2,0 < l ∧ l ≤ 1000) (fun u=>natD (L (uq u.2) u.1 (cn u.2))) K):=by
 refine fn_at T.d_left_with zhd (fun _ _=>rfl) ?_
 rintro ⟨row,ls⟩ hu
 obtain ⟨hl,hpos⟩ : ls.length ≤ 16 ∧ ∀ l ∈ ls,0 < l ∧ l ≤ 1000:=hu
 dsimp only
 have cs : (cn ls).sum ≤ 16:=Nat.le_trans (zoy ls) hl
 have ul : (uq ls).length ≤ 100:=by
  have:=zep (zcA (zbm ls)) fun x hx=>(zcy x ls).mp hx
  omega
 have up : ∀ l ∈ uq ls,0 < l ∧ l ≤ 1000:=fun l h=>hpos l ((zcy l ls).mp h)
 have cl : (cn ls).length = (uq ls).length:=by unfold cn; rw [List.length_map]
 refine za (s_set 2 (d:=intsD (cI (uq ls))) ((zkg (ns:=cI ls) (e_var 1) (by rw [List.length_map]; omega) T.n_sorted T.n_set).je.cast (by rw [zls])) ?_)
 refine za (s_set 3 (d:=.dcI (dN [(cn ls,1)])) (zmM (ks:=cI (cn ls)) (n:=1) (JE.cast (zbe (f_map (us:=cI (uq ls)) (g:=D.int) (fun x : Int=>.int (((cI ls).count x : Nat) : Int)) (i_lst (e_var 2)) (by rw [List.length_map]; exact Nat.le_trans ul (by decide)) fun x hx=>zmK (ns:=cI ls) (e_var 1) (e_var 5)).je T.n_tuple) ?_) e_int) ?_)
 ·show D.tup _ = D.tup _
  unfold cn
  simp only [List.map_map]
  congr 1
  apply List.map_congr_left
  intro u _
  show D.int _ = D.int _
  have:=zlu ls u
  simp only [Function.comp]
  rw [this]
 refine za (s_for 4 (us:=row) (g:=natD) (i_lst (e_var 0)) (fun j Γ'=>∃ x,Γ' = [.val (.lst (row.map natD)),.val (rowD (cI ls)),.val (intsD (cI (uq ls))),.val (.dcI (dN (lwD (uq ls) (row.take j) [(cn ls,1)]))),x] ∧ WOk (cn ls) (lwD (uq ls) (row.take j) [(cn ls,1)])) ⟨.no,rfl,WOk.start _⟩ ?_ ?_)
 ·rintro j num Γ' hj ⟨x,rfl,wok⟩
  have es : lwD (uq ls) (row.take (j + 1)) [(cn ls,1)] = wwc (uq ls) num (lwD (uq ls) (row.take j) [(cn ls,1)]) []:=by
   unfold lwD
   rw [List.take_add_one,hj,List.foldl_append]; rfl
  rw [es]
  generalize lwD (uq ls) (row.take j) [(cn ls,1)] = m0 at wok
  refine za (s_set 3 (e_fn (zdM T) (cn ls,m0,uq ls,num) (zb (e_var 3) (zb (e_var 2) (zb (e_var 4) a_nil))) ⟨cs,cl,ul,up,wok⟩) (b_nil ⟨_,rfl,?_⟩))
  exact WOk.wwc num cs cl _ (WOk.nil _) fun kv hkv=>wok.le _ (List.mem_map.mpr ⟨kv,hkv,rfl⟩)
 ·rintro Γ' ⟨x,rfl,wok⟩
  rw [List.take_length] at wok ⊢
  have hlen:=wok.len cs
  refine za (s_ret (zom (kvs:=dN (lwD (uq ls) row [(cn ls,1)])) (e_var 3) T.n_sum) ?_)
  show D.int _ = D.int _
  rw [← lw_eq]
  congr 1
  generalize lwD (uq ls) row [(cn ls,1)] = m0
  unfold dN
  rw [List.map_map]
  exact zer (fun kv : List Nat × Nat=>kv.2) m0
theorem zcN (T : Txt K mg) : FnAt P wd K mg base 7 "deeds_sharing_rounds" ["kinship_deeds","width","height"] (spF (fun u : List Deed × Nat × Nat=>[.lst (u.1.map deedD),natD u.2.1,natD u.2.2]) (fun u=>(∀ d ∈ u.1,Fits d.t u.2.1 u.2.2) ∧ u.1.length ≤ 100000 ∧ 0 < u.2.1 ∧ 0 < u.2.2 ∧ u.2.1 ≤ 100 ∧ u.2.2 ≤ 100 ∧ u.2.1 * u.2.2 ≤ 63) (fun u=>.dcI (dN (shd (u.1.map fun d=>srt (lens u.2.1 u.2.2 d))))) K):=by
 refine fn_at T.d_deeds_sharing_rounds zcD (fun _ _=>rfl) ?_
 rintro ⟨ds,w,h⟩ hu
 obtain ⟨hf,dl,w0,h0,hw,hh,h64⟩ : (∀ d ∈ ds,Fits d.t w h) ∧ ds.length ≤ 100000 ∧ 0 < w ∧ 0 < h ∧ w ≤ 100 ∧ h ≤ 100 ∧ w * h ≤ 63:=hu
 dsimp only
 refine za (zjM 3 ?_)
 refine za (s_for 4 (us:=ds) (g:=deedD) (i_lst (e_var 0)) (fun j Γ'=>∃ x y,Γ' = [.val (.lst (ds.map deedD)),.val (natD w),.val (natD h),.dic (dcD (dN (shd ((ds.take j).map fun d=>srt (lens w h d))))),x,y]) ⟨.no,.no,rfl⟩ ?_ ?_)
 ·rintro j d Γ' hj ⟨x,y,rfl⟩
  have es : shd ((ds.take (j + 1)).map fun d=>srt (lens w h d)) = addN (shd ((ds.take j).map fun d=>srt (lens w h d))) (srt (lens w h d)) 1:=by
   unfold shd
   rw [List.take_add_one,hj,List.map_append,List.foldl_append]; rfl
  have hlen:=(zgV (fun _=>0) ((ds.take j).map fun d=>srt (lens w h d)) (m:=[]) List.Pairwise.nil).2.2
  rw [List.length_map,List.length_take] at hlen
  rw [es]
  have hlen' : (shd ((ds.take j).map fun d=>srt (lens w h d))).length ≤ 100000:=by
   refine Nat.le_trans hlen ?_
   show 0 + _ ≤ _; omega
  generalize shd ((ds.take j).map fun d=>srt (lens w h d)) = m0 at hlen'
  refine za (s_set 5 (d:=rowD (cI (srt (lens w h d)))) ((zbe (e_fnr (zlI T) (d,w,h) (zb (e_var 4) (zb (e_var 1) (zb (e_var 2) a_nil))) ⟨hf d (List.mem_of_getElem? hj),w0,h0,hw,hh,h64⟩) T.n_tuple).cast (by rw [zow])) ?_)
  refine za (zhY 3 (kvs:=dN m0) (k:=cI (srt (lens w h d))) (v:=(getI (dN m0) (cI (srt (lens w h d)))).getD 0 + 1) rfl (e_var 5) (e_add (zhX 3 (kvs:=dN m0) (k:=cI (srt (lens w h d))) (n:=0) rfl (e_var 5) e_int) e_int) (by rw [List.length_map]; exact Nat.lt_of_le_of_lt hlen' (by decide)) (b_nil ⟨.val (deedD d),.val (rowD (cI (srt (lens w h d)))),?_⟩))
  show [_,_,_,_,_,_] = [_,_,_,_,_,_]
  have:=zin m0 (srt (lens w h d)) 1
  rw [← this]; rfl
 ·rintro Γ' ⟨x,y,rfl⟩
  rw [List.take_length]
  refine zjP 3 rfl ?_
  exact za (s_ret (e_var 3) rfl)
theorem zeW (T : Txt K mg) : FnAt P wd K mg base 1 "check_numbers" ["numbers","cells"] (spF (fun u : List Nat × Nat=>[.lst (u.1.map natD),natD u.2]) (fun u=>u.1.sum = u.2) (fun _=>.non) K):=by
 refine fn_at T.d_check_numbers zcC (fun _ _=>rfl) ?_
 rintro ⟨row,n⟩ hu
 have hn : row.sum = n:=hu
 dsimp only
 refine za (s_for 2 (us:=row) (g:=natD) (i_lst (e_var 0)) (fun j Γ'=>∃ x,Γ' = [.val (.lst (row.map natD)),.val (natD n),x,.no]) ⟨.no,rfl⟩ ?_ ?_)
 ·rintro j m Γ' hj ⟨x,rfl⟩
  refine za (s_if (q:=false) ((t_lt (e_var 2) e_int).cast ?_) (fun z=>nomatch z) fun _=>b_nil (b_nil ⟨_,rfl⟩))
  exact decide_eq_false (by omega)
 ·rintro Γ' ⟨x,rfl⟩
  refine za (s_set 3 (d:=natD n) ((e_sum (ns:=cI row) (JE.cast (e_var 0) (by rw [intsD,cI_D])) T.n_sum).cast ?_) ?_)
  ·show D.int _ = D.int _
   rw [← hn]
   congr 1
   exact zeL row
  refine za (s_if (q:=false) ((t_neI (e_var 3) (e_var 1)).cast ?_) (fun z=>nomatch z) fun _=>b_nil (b_nil rfl))
  simp
theorem zeX (T : Txt K mg) : FnAt P wd K mg base 8 "how_many_with" ["numbers","kinship","width","height"] (spF (fun u : List Nat × Kin × Nat × Nat=>[.lst (u.1.map natD),kinD u.2.1,natD u.2.2.1,natD u.2.2.2]) (fun u=>u.1.sum = u.2.2.1 * u.2.2.2 ∧ 0 < u.2.2.1 ∧ 0 < u.2.2.2 ∧ u.2.2.1 * u.2.2.2 ≤ 16 ∧ u.2.2.1 ≤ 100 ∧ u.2.2.2 ≤ 100 ∧ (u.2.1.q = true → u.2.2.1 = u.2.2.2)) (fun u=>natD (FF u.2.1 u.2.2.1 u.2.2.2 u.1 / (zg u.2.1 u.2.2.1 u.2.2.2).length)) K):=by
 refine fn_at T.d_how_many_with zcB (fun _ _=>rfl) ?_
 rintro ⟨row,k,w,h⟩ hu
 obtain ⟨hr,w0,h0,h16,hw,hh,hq⟩ : row.sum = w * h ∧ 0 < w ∧ 0 < h ∧ w * h ≤ 16 ∧ w ≤ 100 ∧ h ≤ 100 ∧ (k.q = true → w = h):=hu
 dsimp only
 have dl : (zg k w h).length ≤ 100000 ∧ 0 < (zg k w h).length:=by
  have tl : (turns k).length ≤ 8 ∧ 0 < (turns k).length:=by obtain ⟨h,q,m,s⟩:=k; cases h <;> cases q <;> cases m <;> cases s <;> decide
  have e1 : (zg k w h).length = (turns k).length * (zG k w h).length:=by unfold zg; rw [zT _ _ (zG k w h).length (fun a=>by rw [List.length_map])]
  have sl1:=zdl k w h
  have s0 : 0 < (zG k w h).length:=by
   unfold zG
   split
   ·rw [zT _ _ h (fun a=>by rw [List.length_map,List.length_range]),List.length_range]; exact Nat.mul_pos w0 h0
   ·decide
  rw [e1]
  exact ⟨Nat.le_trans (Nat.mul_le_mul tl.1 (show _ ≤ 65 by omega)) (by decide),Nat.mul_pos tl.2 s0⟩
 have ft : ∀ d ∈ zg k w h,Fits d.t w h:=fun d hd=>by
  obtain ⟨t,ht,hd⟩:=List.mem_flatMap.mp hd
  obtain ⟨p,_,rfl⟩:=List.mem_map.mp hd
  exact zdI hq t ht
 have wh : ((w : Int) * (h : Int)) = ((w * h : Nat) : Int):=(Int.natCast_mul w h).symm
 refine za (s_set 4 (e_fnr (zit T) (k,w,h) (zb (e_var 1) (zb (e_var 2) (zb (e_var 3) a_nil))) ⟨hw,hh,hq⟩) ?_)
 dsimp only
 refine za (zjp (e_fn (zeW T) (row,w * h) (zb (e_var 0) (zb ((e_mul (e_var 2) (e_var 3) (.inr ⟨by omega,by omega⟩)).cast (by rw [wh])) a_nil)) hr) ?_)
 refine za (s_set 5 (e_fn (zcN T) (zg k w h,w,h) (zb (e_var 4) (zb (e_var 2) (zb (e_var 3) a_nil))) ⟨ft,dl.1,w0,h0,hw,hh,by dsimp only; omega⟩) ?_)
 dsimp only
 have ok:=zgV (fun ls=>L (uq ls) row (cn ls)) ((zg k w h).map fun d=>srt (lens w h d)) (m:=[]) List.Pairwise.nil
 have vs:=zik ((zg k w h).map fun d=>srt (lens w h d)) (m:=[]) (n:=0) (fun _ hx=>nomatch hx)
 have ms : ∀ x,x ∈ Ks (shd ((zg k w h).map fun d=>srt (lens w h d))) → x ∈ (zg k w h).map fun d=>srt (lens w h d):=fun x hx=>by
  rcases zij _ (m:=[]) hx with hx | hx
  ·exact nomatch hx
  ·exact hx
 have eW : W (fun ls=>L (uq ls) row (cn ls)) (shd ((zg k w h).map fun d=>srt (lens w h d))) = FF k w h row:=by
  refine ok.2.1.trans ?_
  show 0 + _ = _
  rw [Nat.zero_add,List.map_map]
  unfold FF
  congr 1
  apply List.map_congr_left
  intro d _
  show L (uq (srt (lens w h d))) row (cn (srt (lens w h d))) = _
  rw [zkk,zox]
 have oks : ∀ kv ∈ shd ((zg k w h).map fun d=>srt (lens w h d)),(kv.1.length ≤ 16 ∧ ∀ l ∈ kv.1,0 < l ∧ l ≤ 1000) ∧ kv.2 ≤ 100000:=fun kv hkv=>by
  obtain ⟨d,hd,e⟩:=List.mem_map.mp (ms kv.1 (List.mem_map.mpr ⟨kv,hkv,rfl⟩))
  have hv:=vs kv hkv
  rw [List.length_map] at hv
  have os:=zdc (d:=d) (ft d hd) w0 h0
  obtain ⟨s1,s2⟩:=zgB os (w * h) (Nat.le_refl _)
  have hlen : (lens w h d).length ≤ w * h:=(zcx _ _).2
  refine ⟨⟨?_,fun l hl=>?_⟩,by omega⟩
  ·rw [← e,(zdj _).length_eq]; omega
  ·rw [← e,(zdj _).mem_iff] at hl
   refine ⟨s2 l hl,?_⟩
   have : l ≤ (lens w h d).sum:=zgW hl
   have s3 : (lens w h d).sum + _ = w * h:=s1
   omega
 have hlen:=ok.2.2
 rw [List.length_map] at hlen
 have hlen' : (shd ((zg k w h).map fun d=>srt (lens w h d))).length ≤ 100000:=by
  refine Nat.le_trans hlen ?_
  show 0 + _ ≤ _; omega
 have nd:=ok.1
 generalize hsh : shd ((zg k w h).map fun d=>srt (lens w h d)) = sh at *
 have nd' : (Ks sh).Nodup:=by rw [← hsh]; exact nd
 refine za (s_set 6 (d:=natD (FF k w h row)) ((e_sum (ns:=(dN sh).map fun kv=>kv.2 * ((L (uq (kv.1.map Int.toNat)) row (cn (kv.1.map Int.toNat)) : Nat) : Int)) (JE.cast (f_map (us:=dN sh) (g:=fun kv=>rowD kv.1) (fun kv=>.int (kv.2 * ((L (uq (kv.1.map Int.toNat)) row (cn (kv.1.map Int.toNat)) : Nat) : Int))) (i_dct (e_var 5)) (by rw [List.length_map]; exact Nat.le_trans hlen' (by decide)) fun kv hkv=>?_).je (congrArg D.lst List.map_map.symm)) T.n_sum).cast ?_) ?_)
 ·obtain ⟨⟨ls,v⟩,hm,rfl⟩:=List.mem_map.mp hkv
  have hget : getI (dN sh) (cI ls) = some (v : Int):=by rw [zdU,zfk nd' hm]; rfl
  obtain ⟨o1,o2⟩:=oks _ hm
  have e : (cI ls).map Int.toNat = ls:=by
   rw [List.map_map]
   exact (List.map_congr_left fun x _=>by simp).trans (List.map_id _)
  dsimp only
  rw [e]
  exact e_mul (e_dix (kvs:=dN sh) (k:=cI ls) (v:=(v : Int)) (e_var 5) (e_var 7) hget) (e_fn (zhz T) (row,ls) (zb (e_var 0) (zb (e_var 7) a_nil)) o1) (.inl ⟨by dsimp only at o2; omega,by dsimp only at o2; omega⟩)
 ·show D.int _ = D.int _
  rw [← eW]
  unfold W
  rw [← zer]
  congr 2
  rw [List.map_map]
  apply List.map_congr_left
  intro kv _
  show (kv.2 : Int) * _ = _
  have e : (cI kv.1).map Int.toNat = kv.1:=by
   rw [List.map_map]
   exact (List.map_congr_left fun x _=>by simp).trans (List.map_id _)
  rw [e,Int.natCast_mul]
 refine za (s_ret ((zbB (e_var 6) (zbF (e_var 4) T.n_len) ⟨by omega,by omega⟩).cast ?_) rfl)
 show D.int _ = D.int _
 rw [← Int.natCast_ediv]
theorem zfY (T : Txt K mg) : FnAt P wd K mg base 1 "_law_cell_at" ["script","k"] (spF (fun u : List Int × Nat=>[intsD u.1,natD u.2]) (fun _=>True) (fun u=>.int (u.1.getD u.2 0)) K):=by
 refine fn_at T.d_law_cell_at zfn (fun _ _=>rfl) ?_
 rintro ⟨ns,k⟩ _
 dsimp only
 refine za (s_if (t_lt (e_var 1) (zbF (e_var 0) T.n_len)) (fun ht=>?_) (fun ht=>?_))
 ·have ht' : k < ns.length:=by have:=of_decide_eq_true ht; omega
  exact za (s_ret (zbM (i:=(k : Int)) 0 (e_var 0) (e_var 1) (by omega) (by omega)) rfl)
 ·have ht' : ¬ k < ns.length:=by have:=of_decide_eq_false ht; omega
  refine b_nil (za (s_ret e_int ?_))
  show _ = _
  rw [List.getD_eq_getElem?_getD,List.getElem?_eq_none (by omega)]; rfl
theorem zhA (T : Txt K mg) : FnAt P wd K mg base 1 "_law_whole" ["found"] (spF (fun u : Int=>[.int u]) (fun _=>True) (fun u=>.bl true) K):=by
 refine fn_at T.d_law_whole zhe (fun _ _=>rfl) ?_
 rintro i _
 refine za (s_ret (e_and (p:=true) (e_isi (T:="int") (e_var 0) (by with_unfolding_all rfl) T.n_isinstance T.n_int rfl) fun _=>e_one (e_not (e_isi (T:="bool") (k:=false) (e_var 0) (by with_unfolding_all rfl) T.n_isinstance T.n_bool rfl))) rfl)
noncomputable def lk (c : Int) (w h : Nat) : Kin:=⟨decide (c / 1 % 2 = 1),decide (c / 2 % 2 = 1) && decide (w = h),decide (c / 4 % 2 = 1),decide (c / 8 % 2 = 1)⟩
noncomputable def kinT (k : Kin) (j : Nat) : List Nat:=([if k.h then [104] else [],if k.q then [113] else [],if k.m then [109] else [],if k.s then [115] else []].take j).flatten
theorem zfZ (T : Txt K mg) : FnAt P wd K mg base 1 "_law_kinship" ["cell","width","height"] (spF (fun u : Int × Nat × Nat=>[.int u.1,natD u.2.1,natD u.2.2]) (fun _=>True) (fun u=>kinD (lk u.1 u.2.1 u.2.2)) K):=by
 refine fn_at T.d_law_kinship zfo (fun _ _=>rfl) ?_
 rintro ⟨c,w,h⟩ _
 dsimp only
 refine za (s_set 3 (d:=.str (sl [])) e_str ?_)
 have tl : ∀ j,j ≤ 4 → (kinT (lk c w h) j).length ≤ 4:=fun j hj=>by
  obtain ⟨a,b,d,e⟩:=lk c w h
  have : ∀ a b d e : Bool,∀ j ≤ 4,(kinT ⟨a,b,d,e⟩ j).length ≤ 4:=by decide
  exact this a b d e j hj
 refine za (s_for 4 (us:=List.range 4) (g:=natD) (zF (n:=4) e_int T.n_range (by decide)) (fun k Γ'=>∃ x,Γ' = [.val (.int c),.val (natD w),.val (natD h),.val (.str (sl (kinT (lk c w h) k))),x]) ⟨.no,rfl⟩ ?_ ?_)
 ·rintro j u Γ' hu ⟨x,rfl⟩
  have hj : j < 4 ∧ u = j:=by
   obtain ⟨a1,a2⟩:=List.getElem?_eq_some_iff.mp hu
   rw [List.length_range] at a1
   rw [List.getElem_range] at a2
   exact ⟨a1,a2.symm⟩
  obtain ⟨hj,rfl⟩:=hj
  have go : ∀ (dv : Int) (ch : Nat) (bit : Bool),atI [D.int 1,D.int 2,D.int 4,D.int 8] (u : Int) = some (.int dv) → 0 < dv → dv < 100 → atI (Str.ofString "hqms").cps.toList (u : Int) = some ch →
    (decide (c / dv % 2 = 1) && (!decide ((u : Int) = 1) || decide ((w : Int) = (h : Int)))) = bit → kinT (lk c w h) (u + 1) = kinT (lk c w h) u ++ (if bit then [ch] else []) →
    JB ⟨P,wd,K,mg,base,0,zce,zc zK,true⟩ [.val (.int c),.val (natD w),.val (natD h),.val (.str (sl (kinT (lk c w h) u))),.val (natD u)] (zmj ((zf zK).getD 1 (.Pass ⟨0,0,0,0⟩))) { nx:=fun Γ'=>∃ x,Γ' = [.val (.int c),.val (natD w),.val (natD h),.val (.str (sl (kinT (lk c w h) (u + 1)))),x],rt:=fun d _=>d = kinD (lk c w h),bk:=fun Γ'=>JB ⟨P,wd,K,mg,base,0,zce,zc zK,true⟩ Γ' ((zf zK).drop 2) { nx:=fun _=>kinD (lk c w h) = .non,rt:=fun d _=>d = kinD (lk c w h) },ct:=fun Γ'=>∃ x,Γ' = [.val (.int c),.val (natD w),.val (natD h),.val (.str (sl (kinT (lk c w h) (u + 1)))),x] }:=by
   intro dv ch bit h1 h2 h3 h4 h5 h6
   refine za (s_if (q:=bit) (JW.t (JW.cast' (w_and (t_eqI (e_mod (zbB (e_var 0) (e_ixL (i:=(u : Int)) (f_lst (zb e_int (zb e_int (zb e_int (zb e_int a_nil))))).je (e_var 4) h1) ⟨h2,by omega⟩) e_int (by decide)) e_int) (p':=(!decide ((u : Int) = 1) || decide ((w : Int) = (h : Int)))) fun _=>zeD (JW.t (w_or (t_neI (e_var 4) e_int) fun _=>w_or1 (t_eqI (e_var 1) (e_var 2))))) h5)) (fun hb=>?_) (fun hb=>b_nil (b_nil ⟨.val (natD u),?_⟩)))
   ·rw [hb,if_pos rfl] at h6
    refine za (s_set 3 ((znV (j:=sl [ch]) (e_var 3) (e_ixS e_str (e_var 4) h4 (by decide)) ?_).cast (by rw [zgx])) (b_nil (b_nil ⟨.val (natD u),?_⟩)))
    ·rw [zgw,zgw]
     have:=tl u (by omega)
     exact Nat.le_trans (show _ ≤ 10 by simp only [List.length_singleton]; omega) (by decide)
    ·show [_,_,_,_,_] = _
     rw [h6]
   ·rw [hb,if_neg Bool.false_ne_true,List.append_nil] at h6
    rw [h6]
  have ea : ∀ x : Int,decide ((w : Int) = (h : Int)) = decide (w = h):=fun _=>decide_eq_decide.mpr (by omega)
  have four : u = 0 ∨ u = 1 ∨ u = 2 ∨ u = 3:=by omega
  rcases four with rfl | rfl | rfl | rfl
  ·exact go 1 104 (lk c w h).h rfl (by decide) (by decide) (by decide +kernel) (by simp [lk]) (by simp [kinT])
  ·exact go 2 113 (lk c w h).q rfl (by decide) (by decide) (by decide +kernel) (by simp [lk,ea c]) (by simp [kinT])
  ·exact go 4 109 (lk c w h).m rfl (by decide) (by decide) (by decide +kernel) (by simp [lk]) (by simp [kinT])
  ·exact go 8 115 (lk c w h).s rfl (by decide) (by decide) (by decide +kernel) (by simp [lk]) (by simp [kinT])
 ·rintro Γ' ⟨x,rfl⟩
  refine za (s_ret (e_var 3) ?_)
  show _ = kinD _
  simp [kinT,kinL]
noncomputable def lcond (k : Kin) (t : Nat) : Bool:=decide (0 < t) && (!(decide (t % 2 = 1) && !k.q) && (!(decide (t % 4 = 2) && (!k.h && !k.q)) && (decide (t < 4) || k.m)))
noncomputable def lturn (k : Kin) (j : Nat) : List Nat:=0 :: (List.range j).filter (lcond k)
theorem zlJ (k : Kin) : lturn k 8 = turns k:=by obtain ⟨h,q,m,s⟩:=k; cases h <;> cases q <;> cases m <;> cases s <;> decide
theorem zfu (T : Txt K mg) : FnAt P wd K mg base 1 "_law_turnings" ["kinship"] (spF (fun k : Kin=>[kinD k]) (fun _=>True) (fun k=>.lst ((turns k).map natD)) K):=by
 refine fn_at T.d_law_turnings zeS (fun _ _=>rfl) ?_
 rintro k _
 refine za (s_own 1 (f_lst (zb e_int a_nil)) ?_)
 have nq : ∀ {Γ : List Sl} {pc ps pos : Pos} {j : Nat},Γ[0]? = some (.val (kinD k)) → JE ⟨P,wd,K,mg,base,0,zbU,zc zR,true⟩ Γ (.Compare (.Constant (.str (Str.ofString "q")) j pc) [.NotIn] [.Name "kinship" ps] pos) (.bl (!k.q)):=fun h=>(zgG (c:=113) e_str (e_var 0 (hd:=h))).cast (by rw [zeI,kin_q])
 have nh : ∀ {Γ : List Sl} {pc ps pos : Pos} {j : Nat},Γ[0]? = some (.val (kinD k)) → JE ⟨P,wd,K,mg,base,0,zbU,zc zR,true⟩ Γ (.Compare (.Constant (.str (Str.ofString "h")) j pc) [.NotIn] [.Name "kinship" ps] pos) (.bl (!k.h)):=fun h=>(zgG (c:=104) e_str (e_var 0 (hd:=h))).cast (by rw [zeI,kin_h])
 refine za (s_for 2 (us:=List.range 8) (g:=natD) (zF (n:=8) e_int T.n_range (by decide)) (fun j Γ'=>∃ x y z,Γ' = [.val (kinD k),.own ((lturn k j).map natD),x,y,z]) ⟨.no,.no,.no,rfl⟩ ?_ ?_)
 ·rintro j u Γ' hu ⟨x,y,z,rfl⟩
  have hj : j < 8 ∧ u = j:=by
   obtain ⟨a1,a2⟩:=List.getElem?_eq_some_iff.mp hu
   rw [List.length_range] at a1
   rw [List.getElem_range] at a2
   exact ⟨a1,a2.symm⟩
  obtain ⟨hj,rfl⟩:=hj
  have c1 : decide ((u : Int) % 2 = 1) = decide (u % 2 = 1):=decide_eq_decide.mpr (by omega)
  have c2 : decide ((u : Int) % 4 = 2) = decide (u % 4 = 2):=decide_eq_decide.mpr (by omega)
  have c3 : decide ((0 : Int) < (u : Int)) = decide (0 < u):=decide_eq_decide.mpr (by omega)
  have c4 : decide ((u : Int) < 4) = decide (u < 4):=decide_eq_decide.mpr (by omega)
  refine za (s_set 3 (e_and (e_eqI (e_mod (e_var 2) e_int (by decide)) e_int) (p':=!k.q) fun _=>e_one (nq rfl)) ?_)
  refine za (s_set 4 (e_and (e_eqI (e_mod (e_var 2) e_int (by decide)) e_int) (p':=!k.h && !k.q) fun _=>e_and (nh rfl) (p':=!k.q) fun _=>e_one (nq rfl)) ?_)
  have hl : (lturn k u).length ≤ 9:=by
   unfold lturn
   have:=List.length_filter_le (lcond k) (List.range u)
   rw [List.length_range] at this
   rw [List.length_cons]; omega
  have es : lturn k (u + 1) = lturn k u ++ (if lcond k u then [u] else []):=by
   unfold lturn
   rw [List.range_succ,List.filter_append,List.cons_append]
   congr 2
   rw [List.filter_cons]
   split <;> rfl
  refine za (s_if (q:=lcond k u) (JW.t (JW.cast' (w_and (t_gt (e_var 2) e_int) (p':=(!(decide (u % 2 = 1) && !k.q) && (!(decide (u % 4 = 2) && (!k.h && !k.q)) && (decide (u < 4) || k.m)))) fun _=>w_and ((t_not (t_val (e_var 3))).cast (by rw [c1])) (p':=(!(decide (u % 4 = 2) && (!k.h && !k.q)) && (decide (u < 4) || k.m))) fun _=>w_and ((t_not (t_val (e_var 4))).cast (by rw [c2])) (p':=(decide (u < 4) || k.m)) fun _=>zeD (JW.t (JW.cast' (w_or (t_lt (e_var 2) e_int) (p':=k.m) fun _=>w_or1 (t_let (c:=109) (by decide +kernel) (e_var 0) (kin_m k))) (by rw [c4])))) (by rw [c3]; rfl))) (fun hc=>?_) (fun hc=>b_nil (b_nil ⟨.val (natD u),.val (.bl (decide ((u : Int) % 2 = 1) && !k.q)),.val (.bl (decide ((u : Int) % 4 = 2) && (!k.h && !k.q))),?_⟩)))
  ·rw [hc,if_pos rfl] at es
   refine za (s_app 1 rfl (e_var 2) (by rw [List.length_map]; exact Nat.lt_of_lt_of_le (show _ < 100 by omega) (by decide)) (b_nil (b_nil ⟨.val (natD u),.val (.bl (decide ((u : Int) % 2 = 1) && !k.q)),.val (.bl (decide ((u : Int) % 4 = 2) && (!k.h && !k.q))),?_⟩)))
   show [_,_,_,_,_] = _
   rw [es,List.map_append]; rfl
  ·rw [hc,if_neg Bool.false_ne_true,List.append_nil] at es
   rw [es]; rfl
 ·rintro Γ' ⟨x,y,z,rfl⟩
  rw [List.length_range,zlJ]
  refine b_frz 1 rfl ?_
  exact za (s_ret (e_var 1) rfl)
theorem zkv (k : Kin) (w h : Nat) : zG k w h = (List.range (if k.s then w else 1)).flatMap fun a=>(List.range (if k.s then h else 1)).map fun b=>(a,b):=by
 unfold zG
 cases k.s <;> rfl
theorem zhB (T : Txt K mg) : FnAt P wd K mg base 2 "_law_deeds" ["kinship","width","height"] (spF (fun u : Kin × Nat × Nat=>[kinD u.1,natD u.2.1,natD u.2.2]) (fun u=>u.2.1 ≤ 100 ∧ u.2.2 ≤ 100) (fun u=>.lst ((zg u.1 u.2.1 u.2.2).map deedD)) K):=by
 refine fn_at T.d_law_deeds zhf (fun _ _=>rfl) ?_
 rintro ⟨k,w,h⟩ ⟨hw,hh⟩
 dsimp only at hw hh ⊢
 have nd : ∀ {Γ : List Sl} {i : Nat} {x : Str} {pb p1 p2 p3 ps pp : Pos} {j1 j2 : Nat} {n : Nat},Γ[0]? = some (.val (kinD k)) → JE ⟨P,wd,K,mg,base,1,zcM,zc zbc,true⟩ Γ (.Name x pb) (natD n) → JE ⟨P,wd,K,mg,base,1,zcM,zc zbc,true⟩ Γ (.IfExp (.Compare (.Constant (.str (Str.ofString "s")) j1 p1) [.In] [.Name "kinship" ps] p2) (.Name x pb) (.Constant (.int 1) j2 p3) pp) (natD (if k.s then n else 1)):=by
  intro Γ i x pb p1 p2 p3 ps pp j1 j2 n h0 hn
  refine e_if (t_let (c:=115) (by decide +kernel) (e_var 0 (hd:=h0)) (kin_s k)) (fun z=>?_) (fun z=>?_)
  ·rw [z]; exact hn
  ·rw [z]; exact e_int
 have hW : (if k.s then w else 1) ≤ 100:=by split <;> omega
 have hH : (if k.s then h else 1) ≤ 100:=by split <;> omega
 have edl : zg k w h = (turns k).flatMap fun t=>(List.range (if k.s then w else 1)).flatMap fun a=>(List.range (if k.s then h else 1)).map fun b=>(⟨t,(a : Nat),(b : Nat)⟩ : Deed):=by
  unfold zg
  rw [zkv]
  congr 1
  funext t
  rw [List.map_flatMap]
  congr 1
  funext a
  rw [List.map_map]; rfl
 rw [edl]
 generalize hWe : (if k.s then w else 1) = W at hW
 generalize hHe : (if k.s then h else 1) = V at hH
 have tl : (turns k).length ≤ 8:=by obtain ⟨h,q,m,s⟩:=k; cases h <;> cases q <;> cases m <;> cases s <;> decide
 have lenF : ∀ t,((List.range W).flatMap fun a=>(List.range V).map fun b=>(⟨t,(a : Nat),(b : Nat)⟩ : Deed)).length = W * V:=fun t=>by
  rw [zT _ _ V (fun a=>by rw [List.length_map,List.length_range]),List.length_range]
 have hWV : W * V ≤ 10000:=Nat.mul_le_mul hW hH
 refine za (s_own 3 (f_lst a_nil) ?_)
 refine za (s_for 4 (us:=turns k) (g:=natD) (i_lst (e_fn (zfu T) k (zb (e_var 0) a_nil) trivial)) (fun j Γ'=>∃ x y z,Γ' = [.val (kinD k),.val (natD w),.val (natD h),.own ((((turns k).take j).flatMap fun t=>(List.range W).flatMap fun a=>(List.range V).map fun b=>(⟨t,(a : Nat),(b : Nat)⟩ : Deed)).map deedD),x,y,z]) ⟨.no,.no,.no,rfl⟩ ?_ ?_)
 ·rintro j t Γ' hj ⟨x,y,z,rfl⟩
  have hl1 : (((turns k).take j).flatMap fun t=>(List.range W).flatMap fun a=>(List.range V).map fun b=>(⟨t,(a : Nat),(b : Nat)⟩ : Deed)).length ≤ 80000:=by
   rw [zT _ _ (W * V) lenF,List.length_take]
   exact Nat.le_trans (Nat.mul_le_mul (show min j (turns k).length ≤ 8 by omega) hWV) (by decide)
  generalize hLe : (((turns k).take j).flatMap fun t=>(List.range W).flatMap fun a=>(List.range V).map fun b=>(⟨t,(a : Nat),(b : Nat)⟩ : Deed)) = L at hl1
  refine za (s_for 5 (us:=List.range W) (g:=natD) (zF (hWe ▸ nd (i:=1) rfl (e_var 1)) T.n_range (by omega)) (fun i Γ'=>∃ y z,Γ' = [.val (kinD k),.val (natD w),.val (natD h),.own ((L ++ ((List.range i).flatMap fun a=>(List.range V).map fun b=>(⟨t,(a : Nat),(b : Nat)⟩ : Deed))).map deedD),.val (natD t),y,z]) ⟨y,z,by show _ = [_,_,_,Sl.own ((L ++ []).map deedD),_,_,_]; rw [List.append_nil]; rfl⟩ ?_ ?_)
  ·rintro i u Γ' hu ⟨y,z,rfl⟩
   have hi : i < W ∧ u = i:=by
    obtain ⟨a1,a2⟩:=List.getElem?_eq_some_iff.mp hu
    rw [List.length_range] at a1
    rw [List.getElem_range] at a2
    exact ⟨a1,a2.symm⟩
   obtain ⟨hi,rfl⟩:=hi
   have hl2 : ((List.range u).flatMap fun a=>(List.range V).map fun b=>(⟨t,(a : Nat),(b : Nat)⟩ : Deed)).length ≤ 10000:=by
    rw [zT _ _ V (fun a=>by rw [List.length_map,List.length_range]),List.length_range]
    have : u * V ≤ 100 * 100:=Nat.mul_le_mul (by omega) hH
    omega
   have esu : (List.range (u + 1)).flatMap (fun a=>(List.range V).map fun b=>(⟨t,(a : Nat),(b : Nat)⟩ : Deed)) = (List.range u).flatMap (fun a=>(List.range V).map fun b=>(⟨t,(a : Nat),(b : Nat)⟩ : Deed)) ++ (List.range V).map fun b=>(⟨t,(u : Nat),(b : Nat)⟩ : Deed):=by
    rw [List.range_succ,List.flatMap_append]; simp
   rw [esu]
   generalize ((List.range u).flatMap fun a=>(List.range V).map fun b=>(⟨t,(a : Nat),(b : Nat)⟩ : Deed)) = M at hl2
   refine za (s_for 6 (us:=List.range V) (g:=natD) (zF (hHe ▸ nd (i:=2) rfl (e_var 2)) T.n_range (by omega)) (fun i Γ'=>∃ z,Γ' = [.val (kinD k),.val (natD w),.val (natD h),.own ((L ++ (M ++ (List.range i).map fun b=>(⟨t,(u : Nat),(b : Nat)⟩ : Deed))).map deedD),.val (natD t),.val (natD u),z]) ⟨z,by show _ = [_,_,_,Sl.own ((L ++ (M ++ [])).map deedD),_,_,_]; rw [List.append_nil]; rfl⟩ ?_ ?_)
   ·rintro i v Γ' hv ⟨z,rfl⟩
    have hb : i < V ∧ v = i:=by
     obtain ⟨a1,a2⟩:=List.getElem?_eq_some_iff.mp hv
     rw [List.length_range] at a1
     rw [List.getElem_range] at a2
     exact ⟨a1,a2.symm⟩
    obtain ⟨hb,rfl⟩:=hb
    refine za (s_app 3 rfl (e_tup (zb (e_var 4) (zb (e_var 5) (zb (e_var 6) a_nil)))) ?_ (b_nil ⟨.val (natD v),?_⟩))
    ·rw [List.length_map,List.length_append,List.length_append,List.length_map,List.length_range]
     exact Nat.lt_of_lt_of_le (show _ < 200000 by omega) (by decide)
    ·show [_,_,_,_,_,_,_] = [_,_,_,_,_,_,_]
     rw [List.range_succ]
     simp [List.append_assoc]
   ·rintro Γ' ⟨z,rfl⟩
    rw [List.length_range]
    exact b_nil ⟨_,_,rfl⟩
  ·rintro Γ' ⟨y,z,rfl⟩
   rw [List.length_range]
   refine b_nil ⟨.val (natD t),y,z,?_⟩
   rw [List.take_add_one,hj,List.flatMap_append,hLe]
   simp
 ·rintro Γ' ⟨x,y,z,rfl⟩
  rw [List.take_length]
  refine b_frz 3 rfl ?_
  exact za (s_ret (e_var 3) rfl)
theorem zga (T : Txt K mg) : FnAt P wd K mg base 1 "_law_quarter" ["board"] (spF (fun u : Bd × Nat × Nat=>[bdD u.1]) (fun u=>BdIn u.2.1 u.2.2 u.1) (fun u=>bdD (qt u.2.1 u.1)) K):=by
 refine fn_at T.d_law_quarter zfp (fun _ _=>rfl) ?_
 rintro ⟨bd,w,h⟩ q
 dsimp only at q ⊢
 have hl:=q.r.len
 have h0:=q.h0
 have h1:=q.h1
 have w1:=q.w1
 refine za (s_set 1 (zbR (e_var 0) T.n_len) ?_)
 refine za (s_ret (zbe (f_map (us:=List.range w) (fun x : Nat=>rowD ((List.range bd.length).map fun y=>(bd.getD (bd.length - 1 - y) []).getD x 0)) (zF ((zbR (zbC (l:=bd) (i:=0) (f:=rowD) [] (e_var 0) e_int (by omega) (by omega)) T.n_len).cast (by rw [show (0 : Int).toNat = 0 from rfl,q.row0])) T.n_range (by omega)) (by rw [List.length_range]; exact Nat.le_trans w1 (by decide)) fun x hx=>?_).je T.n_tuple) ?_)
 ·have hx' : x < w:=List.mem_range.mp hx
  refine (zbe (f_map (us:=List.range bd.length) (fun y : Nat=>D.int ((bd.getD (bd.length - 1 - y) []).getD x 0)) (zF (e_var 1) T.n_range (by omega)) (by rw [List.length_range,hl]; exact Nat.le_trans h1 (by decide)) fun y hy=>?_).je T.n_tuple).cast (by rw [rowD,List.map_map]; rfl)
  have hy' : y < bd.length:=List.mem_range.mp hy
  have hk : bd.length - 1 - y < bd.length:=by omega
  have e1 : (((bd.length : Int) - 1 - (y : Int))).toNat = bd.length - 1 - y:=by omega
  refine zbC (l:=bd.getD (bd.length - 1 - y) []) (f:=D.int) (i:=(x : Int)) 0 ?_ (e_var 2) (by omega) ?_
  ·refine (zbC (l:=bd) (f:=rowD) (i:=(bd.length : Int) - 1 - (y : Int)) [] (e_var 0) (e_sub (e_sub (e_var 1) e_int) (e_var 3)) (by omega) (by omega)).cast ?_
   rw [e1]
  ·rw [getD_lt bd _ [] hk,q.r.row _ (List.getElem_mem hk)]; omega
 ·show _ = _
  rw [← znQ]
  simp only [bdD,lqt,List.map_map]; rfl
theorem ziU (T : Txt K mg) : FnAt P wd K mg base 2 "_law_done" ["board","deed"] (spF (fun u : Bd × Nat × Nat × Deed=>[bdD u.1,deedD u.2.2.2]) (fun u=>BdIn u.2.1 u.2.2.1 u.1) (fun u=>bdD (dn u.2.1 u.2.2.1 u.1 u.2.2.2)) K):=by
 refine fn_at T.d_law_done zhx (fun _ _=>rfl) ?_
 rintro ⟨bd,w,h,⟨t,a,b⟩⟩ q
 dsimp only at q ⊢
 have edn : dn w h bd ⟨t,a,b⟩ = slid (turn w h t bd) a b:=rfl
 have edd : deedD ⟨t,a,b⟩ = .tup [natD t,.int a,.int b]:=rfl
 rw [edn,edd]
 have h1 : bd.length ≤ 1000:=by rw [q.r.len]; exact q.h1
 have key : ∀ bd',BdIn w h bd' → qts (t % 4) w h bd' = turn w h t bd → JB ⟨P,wd,K,mg,base,1,zeT,zc zbn,true⟩ [.val (bdD bd'),.val (.tup [natD t,.int a,.int b]),.no,.no,.no,.no,.no,.no] (zf zbn).tail { nx:=fun _=>bdD (slid (turn w h t bd) a b) = .non,rt:=fun d _=>d = bdD (slid (turn w h t bd) a b) }:=by
  intro bd' q' eq
  refine za (s_for 2 (us:=List.range (t % 4)) (g:=natD) (zF (n:=t % 4) (e_mod (i:=(t : Nat)) (j:=4) (e_ixT (i:=0) (e_var 1) e_int rfl) e_int (by omega)) T.n_range (by omega)) (fun k Γ'=>∃ c,Γ' = [.val (bdD (qts k w h bd')),.val (.tup [natD t,.int a,.int b]),c,.no,.no,.no,.no,.no]) ⟨.no,rfl⟩ ?_ ?_)
  ·rintro k u Γ' hu ⟨c,rfl⟩
   refine za (s_set 0 (e_fn (zga T) (qts k w h bd',curW k w h,curW k h w) (zb (e_var 0) a_nil) (zjA k q')) (b_nil ?_))
   refine ⟨.val (natD u),?_⟩
   rw [zek]; rfl
  ·rintro Γ' ⟨c,rfl⟩
   rw [List.length_range,eq]
   have q2:=zhP t q
   generalize turn w h t bd = B at q2
   generalize curW (t % 4) w h = w' at q2
   generalize curW (t % 4) h w = h' at q2
   have hl:=q2.r.len
   have hh0:=q2.h0
   have hh1:=q2.h1
   have hw0:=q2.w0
   have hw1:=q2.w1
   refine za (s_set 3 (zbR (e_var 0) T.n_len) ?_)
   refine za (s_set 4 ((zbR (zbC (l:=B) (i:=0) (f:=rowD) [] (e_var 0) e_int (by omega) (by omega)) T.n_len).cast (by rw [show (0 : Int).toNat = 0 from rfl,q2.row0])) ?_)
   refine za (s_own 5 (f_lst a_nil) ?_)
   refine za (s_for 6 (us:=List.range B.length) (g:=natD) (zF (e_var 3) T.n_range (by omega)) (fun k Γ'=>∃ y r,Γ' = [.val (bdD B),.val (.tup [natD t,.int a,.int b]),c,.val (natD B.length),.val (natD w'),.own (((List.range k).map fun y : Nat=>(List.range w').map fun x : Nat=>(B.getD (((y : Int) - b) % (B.length : Int)).toNat []).getD (((x : Int) - a) % (w' : Int)).toNat 0).map rowD),y,r]) ⟨.no,.no,rfl⟩ ?_ ?_)
   ·rintro k u Γ' hu ⟨y,r,rfl⟩
    have hk : k < B.length ∧ u = k:=by
     obtain ⟨h1,h2⟩:=List.getElem?_eq_some_iff.mp hu
     rw [List.length_range] at h1
     rw [List.getElem_range] at h2
     exact ⟨h1,h2.symm⟩
    obtain ⟨hk,rfl⟩:=hk
    have hm:=zB (k:=(u : Int) - b) (show 0 < B.length by omega)
    have hr : (B.getD (((u : Int) - b) % (B.length : Int)).toNat []).length = w':=by
     rw [getD_lt B _ [] hm]; exact q2.r.row _ (List.getElem_mem hm)
    refine za (s_set 7 (zbC (l:=B) (f:=rowD) [] (e_var 0) (e_mod (e_sub (e_var 6) (e_ixT (i:=2) (e_var 1) e_int rfl)) (e_var 3) (by omega)) (Int.emod_nonneg _ (by omega)) (Int.emod_lt_of_pos _ (by omega))) ?_)
    generalize hrw : B.getD (((u : Int) - b) % (B.length : Int)).toNat [] = rw' at hr
    refine za (s_app 5 rfl (zbe (f_map (us:=List.range w') (fun x : Nat=>D.int (rw'.getD (((x : Int) - a) % (w' : Int)).toNat 0)) (zF (e_var 4) T.n_range (by omega)) (by rw [List.length_range]; exact Nat.le_trans hw1 (by decide)) fun x hx=>?_).je T.n_tuple) ?_ (b_nil ⟨.val (natD u),.val (rowD rw'),?_⟩))
    ·exact zbC (l:=rw') (f:=D.int) 0 (e_var 7) (e_mod (e_sub (e_var 8) (e_ixT (i:=1) (e_var 1) e_int rfl)) (e_var 4) (by omega)) (Int.emod_nonneg _ (by omega)) (by rw [hr]; exact Int.emod_lt_of_pos _ (by omega))
    ·rw [List.length_map,List.length_map,List.length_range]
     exact Nat.lt_of_lt_of_le (show u < 1001 by omega) (by decide)
    ·show [_,_,_,_,_,_,_,_] = _
     rw [List.range_succ,List.map_append,List.map_append,List.map_singleton,List.map_singleton,hrw,zkQ]
   ·rintro Γ' ⟨y,r,rfl⟩
    rw [List.length_range]
    refine b_frz 5 rfl ?_
    refine za (s_ret (zbe (e_var 5) T.n_tuple) ?_)
    show _ = _
    rw [← zkO q2.r]; rfl
 refine za (s_if (t_gt (e_ixT (i:=0) (e_var 1) e_int rfl) e_int) (fun ht=>?_) (fun ht=>?_))
 ·have ht' : 4 ≤ t:=by have:=of_decide_eq_true ht; omega
  refine za (s_set 0 (zbe (f_map (fun r : List Int=>rowD r.reverse) (zdA (e_var 0)) (Nat.le_trans h1 (by decide)) fun r hr=>?_).je T.n_tuple) (b_nil ?_))
  ·refine (zgr (e_var 8) (by intro z; have:=q.r.row r hr; have:=q.w0; rw [List.map_eq_nil_iff.mp z] at *; simp at *; omega) T.n_reversed T.n_tuple).cast (by rw [← List.map_reverse])
  ·have e : (bd.map fun r : List Int=>rowD r.reverse) = (mir bd).map rowD:=by unfold mir; rw [List.map_map]; rfl
   rw [e]
   exact key (mir bd) (zjz q) (by unfold turn; rw [if_pos ht'])
 ·have ht' : ¬ 4 ≤ t:=by have:=of_decide_eq_false ht; omega
  exact b_nil (key bd q (by unfold turn; rw [if_neg ht']))
noncomputable def sz3 (t : Nat × Nat × Nat) : D:=.tup [natD t.1,natD t.2.1,natD t.2.2]
theorem zhC (T : Txt K mg) : FnAt P wd K mg base 1 "_law_small" ["cell"] (spF (fun c : Int=>[.int c]) (fun _=>True) (fun c=>sz3 (sizes.getD (c % 10).toNat (1,1,3))) K):=by
 refine fn_at T.d_law_small zhg (fun _ _=>rfl) ?_
 rintro c _
 have t3 : ∀ {S : Stat} {Γ : List Sl} {i j k n : Nat} {p1 p2 p3 p4 : Pos} {k1 k2 k3 : Nat},JE S Γ (.Tuple [.Constant (.int (i : Nat)) k1 p1,.Constant (.int (j : Nat)) k2 p2,.Constant (.int (k : Nat)) k3 p3] n p4) (sz3 (i,j,k)):=e_tup (zb e_int (zb e_int (zb e_int a_nil)))
 refine za (s_own 1 (f_lst (zb (t3 (i:=1) (j:=1) (k:=3)) (zb (t3 (i:=2) (j:=1) (k:=4)) (zb (t3 (i:=1) (j:=3) (k:=4)) (zb (t3 (i:=3) (j:=1) (k:=3)) (zb (t3 (i:=2) (j:=2) (k:=4)) a_nil)))))) ?_)
 refine za (s_own 1 (zmo 1 rfl (f_lst (zb (t3 (i:=2) (j:=2) (k:=3)) (zb (t3 (i:=2) (j:=3) (k:=2)) (zb (t3 (i:=3) (j:=2) (k:=3)) (zb (t3 (i:=3) (j:=3) (k:=2)) (zb (t3 (i:=4) (j:=2) (k:=2)) a_nil)))))) (by decide)) ?_)
 have h1:=Int.emod_nonneg c (show (10 : Int) ≠ 0 by decide)
 have h2:=Int.emod_lt_of_pos c (show (0 : Int) < 10 by decide)
 refine za (s_ret (e_bor 1 rfl (zbM (l:=sizes) (f:=sz3) (1,1,3) (e_var 1) (e_mod (e_var 0) e_int (by decide)) h1 h2) rfl) rfl)
theorem zkw (T : Txt K mg) : FnAt P wd K mg base 1 "_law_all" ["colours","width","height"] (spF (fun u : Nat × Nat × Nat=>[natD u.1,natD u.2.1,natD u.2.2]) (fun u=>1 ≤ u.1 ∧ u.1 ≤ 1000 ∧ u.2.1 ≤ 100 ∧ u.2.2 ≤ 100 ∧ u.1 ^ (u.2.1 * u.2.2) ≤ 100000) (fun u=>.lst ((Internal.BM.allB u.1 u.2.1 u.2.2).map bdD)) K):=by
 refine fn_at T.d_law_all ziP (fun _ _=>rfl) ?_
 rintro ⟨c,w,h⟩ hu
 obtain ⟨c0,c1,w1,h1,hp⟩ : 1 ≤ c ∧ c ≤ 1000 ∧ w ≤ 100 ∧ h ≤ 100 ∧ c ^ (w * h) ≤ 100000:=hu
 dsimp only
 have hwh : w * h ≤ 10000:=Nat.mul_le_mul w1 h1
 refine za (s_set 3 e_int ?_)
 refine za (s_for 4 (us:=List.range (w * h)) (g:=natD) (zF ((e_mul (e_var 1) (e_var 2) (.inr ⟨by omega,by omega⟩)).cast (by rw [← Int.natCast_mul])) T.n_range (by omega)) (fun k Γ'=>∃ x,Γ' = [.val (natD c),.val (natD w),.val (natD h),.val (natD (c ^ k)),x,.no,.no,.no,.no,.no,.no,.no]) ⟨.no,rfl⟩ ?_ ?_)
 ·rintro k u Γ' _ ⟨x,rfl⟩
  refine za (s_set 3 (e_mul (e_var 3) (e_var 0) (.inr ⟨by omega,by omega⟩)) (b_nil ⟨.val (natD u),?_⟩))
  show [_,_,_,_,_,_,_,_,_,_,_,_] = _
  rw [Nat.pow_succ]; rfl
 ·rintro Γ' ⟨x0,rfl⟩
  rw [List.length_range]
  refine za (s_own 5 (f_lst a_nil) ?_)
  refine za (s_for 6 (us:=List.range (c ^ (w * h))) (g:=natD) (zF (e_var 3) T.n_range (by omega)) (fun m Γ'=>∃ x1 x2 x3 x4 x5 x6,Γ' = [.val (natD c),.val (natD w),.val (natD h),.val (natD (c ^ (w * h))),x0,.own (((List.range m).map (nb c w h)).map bdD),x1,x2,x3,x4,x5,x6]) ⟨.no,.no,.no,.no,.no,.no,rfl⟩ ?_ ?_)
  ·rintro m u Γ' hu ⟨x1,x2,x3,x4,x5,x6,rfl⟩
   have hm : m < c ^ (w * h) ∧ u = m:=by
    obtain ⟨a1,a2⟩:=List.getElem?_eq_some_iff.mp hu
    rw [List.length_range] at a1
    rw [List.getElem_range] at a2
    exact ⟨a1,a2.symm⟩
   obtain ⟨hm,rfl⟩:=hm
   refine za (s_set 7 (e_var 6) ?_)
   refine za (s_own 8 (f_lst a_nil) ?_)
   refine za (s_for 9 (us:=List.range h) (g:=natD) (zF (e_var 2) T.n_range (by omega)) (fun k Γ'=>∃ x4 x5 x6,Γ' = [.val (natD c),.val (natD w),.val (natD h),.val (natD (c ^ (w * h))),x0,.own (((List.range u).map (nb c w h)).map bdD),.val (natD u),.val (natD (u / c ^ (k * w))),.own (((List.range k).map fun y=>nbRow c (y * w) w u).map rowD),x4,x5,x6]) ⟨x4,x5,x6,?_⟩ ?_ ?_)
   ·rw [Nat.zero_mul,Nat.pow_zero,Nat.div_one]; rfl
   ·rintro k v Γ' hv ⟨x4,x5,x6,rfl⟩
    have hk : k < h:=by have:=(List.getElem?_eq_some_iff.mp hv).1; rwa [List.length_range] at this
    refine za (s_own 10 (f_lst a_nil) ?_)
    refine za (s_for 11 (us:=List.range w) (g:=natD) (zF (e_var 1) T.n_range (by omega)) (fun j Γ'=>∃ x6,Γ' = [.val (natD c),.val (natD w),.val (natD h),.val (natD (c ^ (w * h))),x0,.own (((List.range u).map (nb c w h)).map bdD),.val (natD u),.val (natD (u / c ^ (k * w + j))),.own (((List.range k).map fun y=>nbRow c (y * w) w u).map rowD),.val (natD v),.own ((nbRow c (k * w) j u).map D.int),x6]) ⟨x6,rfl⟩ ?_ ?_)
    ·rintro j z Γ' hz ⟨x6,rfl⟩
     have hj : j < w:=by have:=(List.getElem?_eq_some_iff.mp hz).1; rwa [List.length_range] at this
     refine za (s_app 10 rfl (e_mod (e_var 7) (e_var 0) (by omega)) ?_ ?_)
     ·unfold nbRow; rw [List.length_map,List.length_map,List.length_range]; exact Nat.lt_of_lt_of_le (show j < 1001 by omega) (by decide)
     refine za (s_set 7 (zbB (e_var 7) (e_var 0) ⟨by omega,by omega⟩) (b_nil ⟨.val (natD z),?_⟩))
     show [_,_,_,_,_,_,_,_,_,_,_,_] = [_,_,_,_,_,_,_,_,_,_,_,_]
     have e : nbRow c (k * w) (j + 1) u = nbRow c (k * w) j u ++ [((u / c ^ (k * w + j) % c : Nat) : Int)]:=by unfold nbRow; rw [List.range_succ,List.map_append]; rfl
     have e2 : u / c ^ (k * w + (j + 1)) = u / c ^ (k * w + j) / c:=by rw [← Nat.add_assoc,Nat.pow_succ,Nat.div_div_eq_div_mul]
     rw [e,List.map_append,e2]; rfl
    ·rintro Γ' ⟨x6,rfl⟩
     rw [List.length_range]
     refine b_frz 10 rfl ?_
     refine za (s_app 8 rfl (zbe (e_var 10) T.n_tuple) ?_ (b_nil ⟨.val (natD v),.val (.lst ((nbRow c (k * w) w u).map D.int)),x6,?_⟩))
     ·rw [List.length_map,List.length_map,List.length_range]; exact Nat.lt_of_lt_of_le (show k < 1001 by omega) (by decide)
     ·show [_,_,_,_,_,_,_,_,_,_,_,_] = _
      rw [List.range_succ,List.map_append,List.map_append,Nat.succ_mul]; rfl
   ·rintro Γ' ⟨x4,x5,x6,rfl⟩
    rw [List.length_range]
    refine b_frz 8 rfl ?_
    refine za (s_app 5 rfl (zbe (e_var 8) T.n_tuple) ?_ (b_nil ⟨.val (natD u),.val (natD (u / c ^ (h * w))),.val (.lst (((List.range h).map fun y=>nbRow c (y * w) w u).map rowD)),x4,x5,x6,?_⟩))
    ·rw [List.length_map,List.length_map,List.length_range]; exact Nat.lt_of_lt_of_le (show u < 100001 by omega) (by decide)
    ·show [_,_,_,_,_,_,_,_,_,_,_,_] = _
     rw [List.range_succ,List.map_append,List.map_append]; rfl
  ·rintro Γ' ⟨x1,x2,x3,x4,x5,x6,rfl⟩
   rw [List.length_range]
   refine b_frz 5 rfl ?_
   exact za (s_ret (e_var 5) rfl)
theorem zkx {b1 b2 b3 c1 c2 c3 : Bool} : CmpOk 1 (.lst [.bl b1,.bl b2,.bl b3]) (.lst [.bl c1,.bl c2,.bl c3]):=.inr (.inr ⟨_,_,rfl,rfl,fun j x y hx hy=>by
 have h3 : ∀ {d1 d2 d3 : Bool} {j : Nat} {x : D},[D.bl d1,D.bl d2,D.bl d3][j]? = some x → flatD x = true:=by
  intro d1 d2 d3 j x h
  match j,h with
  | 0,h=>cases h; rfl
  | 1,h=>cases h; rfl
  | 2,h=>cases h; rfl
  | j + 3,h=>simp at h
 exact ⟨h3 hx,h3 hy⟩⟩)

noncomputable def lnC (c : Int) : Int:=(c * 48271 + 11) % 2147483647
noncomputable def lnA (many : Nat) (c : Int) : Nat:=(lnC c / 7 % (many : Int)).toNat
noncomputable def lnK (many : Nat) : Nat → Int → Int × List Nat
 | 0,c=>(c,List.replicate many 0)
 | j + 1,c=>(lnC (lnK many j c).1,(lnK many j c).2.set (lnA many (lnK many j c).1) ((lnK many j c).2.getD (lnA many (lnK many j c).1) 0 + 1))
noncomputable def lnM (c : Int) (cells : Nat) : Nat:=if 6 < cells then (1 + c % 2).toNat else (1 + c % 3).toNat
noncomputable def lnR (c : Int) (cells : Nat) : List Nat:=(lnK (lnM c cells) cells c).2
theorem zky (c : Int) (cells : Nat) : 1 ≤ lnM c cells ∧ lnM c cells ≤ 3 ∧ (6 < cells → lnM c cells ≤ 2):=by
 unfold lnM
 split <;> omega
theorem ziu : ∀ (l : List Nat) (i : Nat),i < l.length → (l.set i (l.getD i 0 + 1)).sum = l.sum + 1
 | [],i,h=>by simp at h
 | a :: l,0,_=>by simp; omega
 | a :: l,i + 1,h=>by
  have:=ziu l i (by simpa using h)
  simp at this ⊢; omega
theorem zkz {many : Nat} (m0 : 1 ≤ many) (c : Int) : lnA many c < many:=by
 have h0:=Int.emod_nonneg (lnC c / 7) (b:=(many : Int)) (by omega)
 have h1:=Int.emod_lt_of_pos (lnC c / 7) (b:=(many : Int)) (by omega)
 unfold lnA; omega
theorem zhi {many : Nat} (m0 : 1 ≤ many) (c : Int) : ∀ j,(lnK many j c).2.length = many ∧ (lnK many j c).2.sum = j
 | 0=>⟨by simp [lnK],by simp [lnK]⟩
 | j + 1=>by
  obtain ⟨h1,h2⟩:=zhi m0 c j
  refine ⟨by show (List.set _ _ _).length = _; rw [List.length_set]; exact h1,?_⟩
  show (List.set _ _ _).sum = _
  rw [ziu _ _ (by rw [h1]; exact zkz m0 _),h2]
theorem zgb (T : Txt K mg) : FnAt P wd K mg base 1 "_law_numbers" ["cell","cells"] (spFr (fun u : Int × Nat=>[.int u.1,natD u.2]) (fun u=>u.2 ≤ 100) (fun u=>(lnR u.1 u.2).map natD) K):=by
 refine zbX T.d_law_numbers zfq (fun _ _=>rfl) ?_
 rintro ⟨c,n⟩ hn
 have hn' : n ≤ 100:=hn
 dsimp only
 obtain ⟨m1,m2,m3⟩:=zky c n
 have key : JB ⟨P,wd,K,mg,base,0,zdn,zc zV,true⟩ [.val (.int c),.val (natD n),.val (natD (lnM c n)),.no,.no,.no] ((zf zV).drop 2) { nx:=fun _=>False,rt:=fun _ _=>False,rf:=fun ds _=>ds = (lnR c n).map natD }:=by
  refine za (zjq 3 (us:=List.range (lnM c n)) (g:=natD) (fun _=>natD 0) (fun _=>true) (zF (e_var 2) T.n_range (by omega)) (by rw [List.length_range]; exact Nat.le_trans m2 (by decide)) (fun _ _=>zhL) (fun k hk _=>e_int) ?_ (hsw:=fun X o=>Internal.sw_loc o (by with_unfolding_all rfl)))
  refine za (s_for 4 (us:=List.range n) (g:=natD) (zF (e_var 1) T.n_range (by omega)) (fun j Γ'=>∃ x y,Γ' = [.val (.int (lnK (lnM c n) j c).1),.val (natD n),.val (natD (lnM c n)),.own ((lnK (lnM c n) j c).2.map natD),x,y]) ⟨.no,.no,?_⟩ ?_ ?_)
  ·show [_,_,_,_,_,_] = [_,_,_,_,_,_]
   have : ((List.range (lnM c n)).filter fun _=>true).map (fun _=>natD 0) = (List.replicate (lnM c n) 0).map natD:=by
    rw [List.filter_eq_self.mpr fun _ _=>rfl,List.map_replicate,List.map_const',List.length_range]
   rw [this]; rfl
  ·rintro j u Γ' hu ⟨x,y,rfl⟩
   obtain ⟨k1,k2⟩:=zhi m1 c j
   have es : lnK (lnM c n) (j + 1) c = (lnC (lnK (lnM c n) j c).1,(lnK (lnM c n) j c).2.set (lnA (lnM c n) (lnK (lnM c n) j c).1) ((lnK (lnM c n) j c).2.getD (lnA (lnM c n) (lnK (lnM c n) j c).1) 0 + 1)):=rfl
   rw [es]
   dsimp only
   generalize (lnK (lnM c n) j c).1 = cc
   generalize (lnK (lnM c n) j c).2 = rr at k1
   have hA:=zkz m1 cc
   have hA0 : lnC cc / 7 % (lnM c n : Int) = (lnA (lnM c n) cc : Int):=by
    have h0:=Int.emod_nonneg (lnC cc / 7) (b:=(lnM c n : Int)) (by omega)
    unfold lnA; omega
   refine za (s_set 0 (d:=.int (lnC cc)) (e_mod (e_add (e_mul (e_var 0) e_int (.inr ⟨by decide,by decide⟩)) e_int) e_int (by decide)) ?_)
   refine za (s_set 5 (d:=natD (lnA (lnM c n) cc)) ((e_mod (zbB (e_var 0) e_int ⟨by decide,by decide⟩) (e_var 2) (by omega)).cast (congrArg D.int hA0)) ?_)
   refine za (zdB 3 (n:=lnA (lnM c n) cc) rfl (e_var 5) (JE.cast (d:=.int ((rr.getD (lnA (lnM c n) cc) 0 : Nat) + 1)) (e_add (e_bor 3 rfl ((zbM (l:=rr) (f:=natD) (i:=(lnA (lnM c n) cc : Int)) 0 (e_var 3) (e_var 5) (by omega) (by omega)).cast (by rw [Int.toNat_natCast])) rfl) e_int) rfl) ?_ (b_nil ⟨.val (natD u),.val (natD (lnA (lnM c n) cc)),?_⟩))
   ·unfold ixN; rw [List.length_map,if_pos (by omega),if_pos (by omega)]; rfl
   ·show [_,_,_,_,_,_] = [_,_,_,_,_,_]
    rw [List.map_set]; rfl
  ·rintro Γ' ⟨x,y,rfl⟩
   rw [List.length_range]
   exact za (zeG 3 rfl rfl)
 obtain ⟨a,ha,a0,a1⟩:=m8 c 3 (by decide)
 refine za (s_set 2 ((e_add e_int (e_mod (e_var 0) e_int (by decide))).cast (congrArg D.int ha)) ?_)
 refine za (s_if (q:=decide (6 < n)) ((t_gt (e_var 1) e_int).cast (decide_eq_decide.mpr (by omega))) (fun z=>?_) (fun z=>b_nil ?_))
 ·obtain ⟨b,hb,b0,b1⟩:=m8 c 2 (by decide)
  have e : b = lnM c n:=by unfold lnM; rw [if_pos (of_decide_eq_true z)]; omega
  subst e
  exact za (s_set 2 ((e_add e_int (e_mod (e_var 0) e_int (by decide))).cast (congrArg D.int hb)) (b_nil key))
 ·have e : a = lnM c n:=by unfold lnM; rw [if_neg (of_decide_eq_false z)]; omega
  subst e
  exact key

noncomputable def badN (u : List Int × Nat) : Prop:=((∃ n ∈ u.1,n < 0) ∨ u.1.sum ≠ (u.2 : Int)) ∧ u.1.length ≤ 10 ∧ (∀ n ∈ u.1,-(2 ^ 100) < n ∧ n < 2 ^ 100) ∧ u.2 ≤ 1000
theorem zcH {i : Int} (h0 : -(2 ^ 110) < i) (h1 : i < 2 ^ 110) : i.natAbs.log2 < 1920:=by
 by_cases z : i.natAbs = 0
 ·rw [z]; decide
 ·refine Nat.lt_of_lt_of_le ((Nat.log2_lt (k:=110) z).mpr ?_) (by decide)
  have : (2 ^ 110 : Nat) = 1298074214633706907132624082305024:=by decide
  have : (2 ^ 110 : Int) = 1298074214633706907132624082305024:=by decide
  omega
theorem zfv {i : Int} (h : i.natAbs.log2 < 1920) : (toString i : Str).length ≤ 1000000:=Nat.le_trans (int_text_len_1921 h) (by decide)
theorem zfR : ∀ (l : List Int),(∀ n ∈ l,-(2 ^ 100) < n ∧ n < 2 ^ 100) → -((l.length : Int) * 2 ^ 100) ≤ l.sum ∧ l.sum ≤ (l.length : Int) * 2 ^ 100
 | [],_=>by simp
 | a :: l,h=>by
  have h1:=h a List.mem_cons_self
  have ih:=zfR l fun n hn=>h n (List.mem_cons_of_mem _ hn)
  rw [List.sum_cons,List.length_cons,Int.natCast_add,Int.add_mul]
  omega
theorem zeY {c1 c2 c3 : Addr} (T : Txt K mg) (C : Exs K mg c1 c2 c3) : FnX P wd K mg base 1 "check_numbers" ["numbers","cells"] (spX (fun u : List Int × Nat=>[intsD u.1,natD u.2]) badN (.ref c3,true) K):=by
 refine fx_at T.d_check_numbers zcC (fun _ _=>rfl) ?_
 rintro ⟨ns,n⟩ ⟨hb,hl,hs,hn⟩
 dsimp only at hb hl hs hn ⊢
 by_cases hneg : ∃ i,∃ h : i < ns.length,ns[i] < 0 ∧ ∀ j,j < i → ∀ h' : j < ns.length,0 ≤ ns[j]
 ·obtain ⟨i,hi,hi0,hi1⟩:=hneg
  refine x_head (x_for 2 i (us:=ns) (g:=D.int) (i_lst (e_var 0)) (fun j Γ'=>∃ x,Γ' = [.val (intsD ns),.val (natD n),x,.no]) ⟨.no,rfl⟩ hi ?_ ?_)
  ·rintro j m Γ' hj hm ⟨x,rfl⟩
   obtain ⟨a1,a2⟩:=List.getElem?_eq_some_iff.mp hm
   have:=hi1 j hj a1
   refine za (s_if (q:=false) ((t_lt (e_var 2) e_int).cast ?_) (fun z=>nomatch z) fun _=>b_nil (b_nil ⟨_,rfl⟩))
   exact decide_eq_false (by rw [a2] at this; omega)
  ·rintro m Γ' hm ⟨x,rfl⟩
   obtain ⟨a1,a2⟩:=List.getElem?_eq_some_iff.mp hm
   have hm0 : m < 0:=by rw [← a2]; exact hi0
   have hms:=hs m (by rw [← a2]; exact List.getElem_mem a1)
   have lg : m.natAbs.log2 < 1920:=zcH (by omega) (by omega)
   refine x_head (x_if (q:=true) ((t_lt (e_var 2) e_int).cast (decide_eq_true hm0)) (fun _=>?_) (fun z=>nomatch z))
   exact x_head (x_raise ⟨C.m_BadNumbers,C.x_BadNumbers.exc⟩ (zjU (zca e_str (by decide +kernel) (zca (zgJ (e_var 2) lg) (zfv lg) (zca e_str (by decide +kernel) p_nil))) (by decide)))
 ·have pos : ∀ (j : Nat) (h : j < ns.length),0 ≤ ns[j]:=by
   intro j
   induction j using Nat.strongRecOn with
   | ind j ih =>
    intro h
    by_cases z : ns[j] < 0
    ·exact (hneg ⟨j,h,z,fun i hi h'=>ih i hi h'⟩).elim
    ·omega
  have hsum : ns.sum ≠ (n : Int):=by
   rcases hb with ⟨m,hm,hm0⟩ | hb
   ·obtain ⟨j,hj,rfl⟩:=List.getElem_of_mem hm
    have:=pos j hj
    omega
   ·exact hb
  refine zgI (s_for 2 (us:=ns) (g:=D.int) (i_lst (e_var 0)) (fun j Γ'=>∃ x,Γ' = [.val (intsD ns),.val (natD n),x,.no]) ⟨.no,rfl⟩ ?_ ?_)
  ·rintro j m Γ' hm ⟨x,rfl⟩
   obtain ⟨a1,a2⟩:=List.getElem?_eq_some_iff.mp hm
   have:=pos j a1
   refine za (s_if (q:=false) ((t_lt (e_var 2) e_int).cast ?_) (fun z=>nomatch z) fun _=>b_nil (b_nil ⟨_,rfl⟩))
   exact decide_eq_false (by rw [a2] at this; omega)
  ·rintro Γ' ⟨x,rfl⟩
   refine zgI (s_set 3 (e_sum (ns:=ns) (e_var 0) T.n_sum) ?_)
   have ss:=zfR ns hs
   have lg : ns.sum.natAbs.log2 < 1920:=zcH (by omega) (by omega)
   refine x_head (x_if (q:=true) ((t_neI (e_var 3) (e_var 1)).cast (by rw [decide_eq_false hsum]; rfl)) (fun _=>?_) (fun z=>nomatch z))
   exact x_head (x_raise ⟨C.m_BadNumbers,C.x_BadNumbers.exc⟩ (zjU (zca e_str (by decide +kernel) (zca (zgJ (e_var 3) lg) (zfv lg) (zca e_str (by decide +kernel) (zca (zgJ (e_var 1) (zcH (by omega) (by omega))) (zfv (zcH (by omega) (by omega))) (zca e_str (by decide +kernel) p_nil))))) (by decide)))
theorem zeZ {c1 c2 c3 : Addr} (T : Txt K mg) (C : Exs K mg c1 c2 c3) : FnX P wd K mg base 4 "how_many_with" ["numbers","kinship","width","height"] (spX (fun u : List Int × Kin × Nat × Nat=>[intsD u.1,kinD u.2.1,natD u.2.2.1,natD u.2.2.2]) (fun u=>badN (u.1,u.2.2.1 * u.2.2.2) ∧ u.2.2.1 ≤ 10 ∧ u.2.2.2 ≤ 10 ∧ (u.2.1.q = true → u.2.2.1 = u.2.2.2)) (.ref c3,true) K):=by
 refine fx_at T.d_how_many_with zcB (fun _ _=>rfl) ?_
 rintro ⟨ns,k,w,h⟩ ⟨hb,hw,hh,hq⟩
 dsimp only at hb hw hh hq ⊢
 have wh : ((w : Int) * (h : Int)) = ((w * h : Nat) : Int):=(Int.natCast_mul w h).symm
 refine zgI (s_set 4 (e_fnr (zit T) (k,w,h) (zb (e_var 1) (zb (e_var 2) (zb (e_var 3) a_nil))) ⟨by dsimp only; omega,by dsimp only; omega,hq⟩) ?_)
 exact x_head (zoi (e_fnx (zeY T C) (ns,w * h) (zb (e_var 0) (zb ((e_mul (e_var 2) (e_var 3) (.inr ⟨by omega,by omega⟩)).cast (congrArg D.int wh)) a_nil)) hb))
theorem zgc {c1 c2 c3 : Addr} (T : Txt K mg) (C : Exs K mg c1 c2 c3) : FnAt P wd K mg base 5 "_law_refused" ["numbers","kinship","width","height"] (spF (fun u : List Int × Kin × Nat × Nat=>[intsD u.1,kinD u.2.1,natD u.2.2.1,natD u.2.2.2]) (fun u=>badN (u.1,u.2.2.1 * u.2.2.2) ∧ u.2.2.1 ≤ 10 ∧ u.2.2.2 ≤ 10 ∧ (u.2.1.q = true → u.2.2.1 = u.2.2.2)) (fun _=>.bl true) K):=by
 refine fn_at T.d_law_refused zfr (fun _ _=>rfl) ?_
 rintro ⟨ns,k,w,h⟩ hu
 show JB _ (startΓ zdo [intsD ns,kinD k,natD w,natD h]) _ _
 refine za (s_own 4 (f_lst a_nil) ?_)
 refine za (zol 5 4 (b1:=true) (b2:=false) (b3:=true) (C:=c3) (D:=c1) (e_fnx (zeZ T C) (ns,k,w,h) (zb (e_var 0) (zb (e_var 1) (zb (e_var 2) (zb (e_var 3) a_nil)))) hu)
  C.x_BadNumbers C.m_KinError C.e_KinError C.s_BadNumbers (.inl ⟨c3,C.m_BadNumbers,C.k_BadNumbers_BadNumbers⟩) (.inl ⟨c2,C.m_NotSquare,C.k_BadNumbers_NotSquare⟩) (.inr ⟨"ValueError",T.n_ValueError,by with_unfolding_all rfl,C.v_BadNumbers⟩) T.n_isinstance rfl ?_)
 refine b_frz 4 rfl ?_
 exact za (s_ret (e_eqD (n:=0) (d:=.lst [.bl true,.bl false,.bl true]) (d':=.lst [.bl true,.bl false,.bl true]) (e_var 4) (f_lst (zb e_bl (zb e_bl (zb e_bl a_nil)))).je trivial zkx) rfl)
theorem zcf (f : Deed → Bd) : ∀ (ds : List Deed) (ks : List Bd),(ds.foldl (fun ks d=>insK ks (f d)) ks).length ≤ ks.length + ds.length
 | [],ks=>Nat.le_refl _
 | d :: ds,ks=>by
  have:=zcf f ds (insK ks (f d))
  have h2 : (insK ks (f d)).length ≤ ks.length + 1:=zlA ks (f d)
  rw [List.foldl_cons,List.length_cons]; omega
theorem zkA (w h : Nat) (ds : List Deed) (p : Bd → Bool) (st : List Bd × Nat) (b : Bd) : (dstep w h ds p st b).1.length ≤ st.1.length + ds.length:=by
 unfold dstep
 split
 ·exact zcf _ _ _
 ·omega
theorem ziv (w h : Nat) (ds : List Deed) (p : Bd → Bool) : ∀ (bs : List Bd) (st : List Bd × Nat),(bs.foldl (dstep w h ds p) st).1.length ≤ st.1.length + bs.length * ds.length
 | [],st=>by simp
 | b :: bs,st=>by
  have:=ziv w h ds p bs (dstep w h ds p st b)
  have h2:=zkA w h ds p st b
  rw [List.foldl_cons,List.length_cons,Nat.succ_mul]; omega
theorem nb_in {c w h m : Nat} (w0 : 0 < w) (h0 : 0 < h) (hw : w ≤ 100) (hh : h ≤ 100) : BdIn w h (nb c w h m):=⟨zcU c w h m,w0,h0,by omega,by omega⟩
theorem zkB (T : Txt K mg) : FnAt P wd K mg base 3 "_law_due" ["numbers","kinship","width","height"] (spF (fun u : List Nat × Kin × Nat × Nat=>[.lst (u.1.map natD),kinD u.2.1,natD u.2.2.1,natD u.2.2.2]) (fun u=>1 ≤ u.1.length ∧ u.1.length ≤ 3 ∧ 0 < u.2.2.1 ∧ 0 < u.2.2.2 ∧ u.2.2.1 ≤ 10 ∧ u.2.2.2 ≤ 10 ∧ (u.2.1.q = true → u.2.2.1 = u.2.2.2) ∧ u.1.length ^ (u.2.2.1 * u.2.2.2) ≤ 1000 ∧ (zg u.2.1 u.2.2.1 u.2.2.2).length ≤ 1000) (fun u=>natD (due u.2.2.1 u.2.2.2 (zg u.2.1 u.2.2.1 u.2.2.2) (fun b=>decide (cntB b u.1.length = u.1)) (allB u.1.length u.2.2.1 u.2.2.2)).2) K):=by
 refine fn_at T.d_law_due ziQ (fun _ _=>rfl) ?_
 rintro ⟨row,k,w,h⟩ hu
 obtain ⟨r0,r3,w0,h0,hw,hh,hq,h1000,hd⟩ : 1 ≤ row.length ∧ row.length ≤ 3 ∧ 0 < w ∧ 0 < h ∧ w ≤ 10 ∧ h ≤ 10 ∧ (k.q = true → w = h) ∧ row.length ^ (w * h) ≤ 1000 ∧ (zg k w h).length ≤ 1000:=hu
 dsimp only
 refine za (s_set 4 (e_fn (zhB T) (k,w,h) (zb (e_var 1) (zb (e_var 2) (zb (e_var 3) a_nil))) ⟨by dsimp only; omega,by dsimp only; omega⟩) ?_)
 dsimp only
 refine za (zoF 5 ?_)
 refine za (s_set 6 (d:=natD 0) e_int ?_)
 have al : (allB row.length w h).length ≤ 1000:=by unfold Internal.BM.allB; rw [List.length_map,List.length_range]; exact h1000
 refine za (s_for 7 (us:=allB row.length w h) (g:=bdD) (i_lst (e_fn (zkw T) (row.length,w,h) (zb (zbF (e_var 0) T.n_len) (zb (e_var 2) (zb (e_var 3) a_nil))) ⟨r0,by dsimp only; omega,by dsimp only; omega,by dsimp only; omega,by dsimp only; omega⟩)) (fun j Γ'=>∃ x y z u,Γ' = [.val (.lst (row.map natD)),.val (kinD k),.val (natD w),.val (natD h),.val (.lst ((zg k w h).map deedD)),.bds (due w h (zg k w h) (fun b=>decide (cntB b row.length = row)) ((allB row.length w h).take j)).1,.val (natD (due w h (zg k w h) (fun b=>decide (cntB b row.length = row)) ((allB row.length w h).take j)).2),x,y,z,u]) ⟨.no,.no,.no,.no,rfl⟩ ?_ ?_)
 ·rintro j b Γ' hj ⟨x,y,z,u,rfl⟩
  have hjl : j < (allB row.length w h).length:=(List.getElem?_eq_some_iff.mp hj).1
  obtain ⟨m,_,rfl⟩:=List.mem_map.mp (List.mem_of_getElem? hj)
  have q : BdIn w h (nb row.length w h m):=nb_in w0 h0 (by omega) (by omega)
  have es : due w h (zg k w h) (fun b=>decide (cntB b row.length = row)) ((allB row.length w h).take (j + 1)) = dstep w h (zg k w h) (fun b=>decide (cntB b row.length = row)) (due w h (zg k w h) (fun b=>decide (cntB b row.length = row)) ((allB row.length w h).take j)) (nb row.length w h m):=by
   unfold due
   rw [List.take_add_one,hj,List.foldl_append]; rfl
  have ln:=ziv w h (zg k w h) (fun b=>decide (cntB b row.length = row)) ((allB row.length w h).take j) ([],0)
  rw [es]
  have ln' : (due w h (zg k w h) (fun b=>decide (cntB b row.length = row)) ((allB row.length w h).take j)).1.length ≤ 1000000:=by
   refine Nat.le_trans ln ?_
   rw [List.length_take]
   show 0 + _ ≤ _
   have : min j (allB row.length w h).length * (zg k w h).length ≤ 1000 * 1000:=Nat.mul_le_mul (by omega) hd
   omega
  generalize hst : due w h (zg k w h) (fun b=>decide (cntB b row.length = row)) ((allB row.length w h).take j) = st at ln'
  obtain ⟨ks,n⟩:=st
  dsimp only at ln' ⊢
  have hb:=q.r.len
  generalize hB : nb row.length w h m = B at q hb
  refine za (s_set 8 (d:=intsD []) (f_lst a_nil).je ?_)
  refine za (s_for 9 (us:=B) (g:=rowD) (zdA (e_var 7)) (fun i Γ'=>∃ z,Γ' = [.val (.lst (row.map natD)),.val (kinD k),.val (natD w),.val (natD h),.val (.lst ((zg k w h).map deedD)),.bds ks,.val (natD n),.val (bdD B),.val (intsD (B.take i).flatten),z,u]) ⟨z,rfl⟩ ?_ ?_)
  ·rintro i r Γ' hi ⟨z,rfl⟩
   have hr:=q.r.row r (List.mem_of_getElem? hi)
   have r3 : Rect w (B.take i).length (B.take i):=⟨rfl,fun r hr=>q.r.row r (List.mem_of_mem_take hr)⟩
   refine za (s_set 8 (d:=intsD (B.take (i + 1)).flatten) ((f_cat (e_var 8) (f_list (.inl (e_var 9)) T.n_list).je ?_).je.cast ?_) (b_nil ⟨_,rfl⟩))
   ·rw [List.length_map,List.length_map,zbS r3,List.length_take,hr]
    have : min i B.length * w ≤ 10 * 10:=Nat.mul_le_mul (by omega) hw
    exact Nat.le_trans (show _ ≤ 200 by omega) (by decide)
   ·show D.lst _ = D.lst _
    rw [List.take_add_one,hi]
    simp
  ·rintro Γ' ⟨z,rfl⟩
   rw [List.take_length]
   have ec : (List.range row.length).map (fun k : Nat=>natD (B.flatten.count (k : Int))) = (cI (cntB B row.length)).map D.int:=by
    unfold cntB cI
    rw [List.map_map,List.map_map]; rfl
   refine za (s_if (q:=!decide (B ∈ ks) && decide (cntB B row.length = row)) (JW.t (w_and (zlC 5 rfl (e_var 7)) (p':=decide (cntB B row.length = row)) fun _=>zeD ((t_eqD (n:=0) (d:=intsD (cI (cntB B row.length))) (d':=intsD (cI row)) (JE.cast (f_map (us:=List.range row.length) (g:=natD) (fun k : Nat=>natD (B.flatten.count (k : Int))) (zF (zbF (e_var 0) T.n_len) T.n_range (by omega)) (by rw [List.length_range]; exact Nat.le_trans r3 (by decide)) fun i hi=>zlD (ns:=B.flatten) (e_var 8) (e_var 11)).je (congrArg D.lst ec)) (JE.cast (e_var 0) (congrArg D.lst (cI_D row).symm)) trivial (zgu 0 _ _)).cast (by rw [zfH]; exact decide_eq_decide.mpr zcT)))) (fun hc=>?_) (fun hc=>b_nil (b_nil ⟨.val (bdD B),.val (intsD B.flatten),z,u,?_⟩)))
   ·refine za (s_set 6 (d:=natD (n + 1)) ((e_add (e_var 6) e_int).cast rfl) ?_)
    refine za (s_for 10 (us:=zg k w h) (g:=deedD) (i_lst (e_var 4)) (fun i Γ'=>∃ u,Γ' = [.val (.lst (row.map natD)),.val (kinD k),.val (natD w),.val (natD h),.val (.lst ((zg k w h).map deedD)),.bds (((zg k w h).take i).foldl (fun ks d=>insK ks (dn w h B d)) ks),.val (natD (n + 1)),.val (bdD B),.val (intsD B.flatten),z,u]) ⟨u,rfl⟩ ?_ ?_)
    ·rintro i d Γ' hi ⟨u,rfl⟩
     have fl:=zcf (fun d=>dn w h B d) ((zg k w h).take i) ks
     rw [List.length_take] at fl
     have es2 : ((zg k w h).take (i + 1)).foldl (fun ks d=>insK ks (dn w h B d)) ks = insK (((zg k w h).take i).foldl (fun ks d=>insK ks (dn w h B d)) ks) (dn w h B d):=by
      rw [List.take_add_one,hi,List.foldl_append]; rfl
     rw [es2]
     refine za (zoG 5 (k:=dn w h B d) rfl (e_fn (ziU T) (B,w,h,d) (zb (e_var 7) (zb (e_var 10) a_nil)) q) e_bl (Nat.lt_of_le_of_lt (Nat.le_trans fl (show _ ≤ 1001000 by omega)) (by decide)) (b_nil ⟨.val (deedD d),rfl⟩))
    ·rintro Γ' ⟨u,rfl⟩
     rw [List.take_length]
     refine b_nil (b_nil ⟨.val (bdD B),.val (intsD B.flatten),z,u,?_⟩)
     unfold dstep
     dsimp only
     rw [if_pos hc]
   ·unfold dstep
    dsimp only
    rw [if_neg (by rw [hc]; exact Bool.false_ne_true)]
 ·rintro Γ' ⟨x,y,z,u,rfl⟩
  rw [List.take_length]
  exact za (s_ret (e_var 6) rfl)
theorem zhj : ∀ (l : List Int) (i : Nat) (v : Int),i < l.length → (l.set i v).sum = l.sum - l.getD i 0 + v
 | [],i,v,h=>by simp at h
 | a :: l,0,v,_=>by simp; omega
 | a :: l,i + 1,v,h=>by
  have:=zhj l i v (by simpa using h)
  simp at this ⊢; omega
noncomputable def zoM : Stmt → List Stmt
 | .If _ b _ _=>b
 | _=>[]
theorem law_ok {l : PySem.W.OpenLaw} {f : Addr} {fd : FuncData} (T : Txt K mg) (F : Fun K "law" "law" s_law f fd) : FnOk l.prog wd K mg base CX0 40 f fd ["script"] (spLaw K):=by
 refine fn_D F zoJ (fun _ _=>rfl) ?_
 rintro ns hns
 have cell : ∀ {Γ : List Sl} {p pos pc ps : Pos} {j : Nat} (i : Nat),Γ[0]? = some (.val (intsD ns)) → JE ⟨l.prog,wd,K,mg,base,39,N_law,zc s_law,true⟩ Γ (.Call (.Name "_law_cell_at" p) [.Name "script" ps,.Constant (.int (i : Nat)) j pc] [] pos) (.int (ns.getD i 0)):=fun i h =>
  e_fn (zfY T) (ns,i) (zb (e_var 0 (hd:=h)) (zb e_int a_nil)) trivial
 obtain ⟨c1,c2,c3,C⟩:=T.cl
 have hs : sizes.getD (ns.getD 0 0 % 10).toNat (1,1,3) ∈ sizes:=by
  have h1:=Int.emod_nonneg (ns.getD 0 0) (show (10 : Int) ≠ 0 by decide)
  have h2:=Int.emod_lt_of_pos (ns.getD 0 0) (show (0 : Int) < 10 by decide)
  have h3 : (ns.getD 0 0 % 10).toNat < sizes.length:=by show _ < 10; omega
  rw [List.getD_eq_getElem?_getD,List.getElem?_eq_getElem h3]
  exact List.getElem_mem h3
 refine za (zoa 1 2 3 (e_fn (zhC T) (ns.getD 0 0) (zb (cell 0 rfl) a_nil) trivial) ?_)
 generalize sizes.getD (ns.getD 0 0 % 10).toNat (1,1,3) = sz at hs
 obtain ⟨w0,h0,w4,h3,_,_,_,h9⟩:=zgX sz hs
 have kk:=@zoD sz hs
 have dlen : ∀ k : Kin,(zg k sz.1 sz.2.1).length ≤ 1000:=fun k=>by
  have tl : (turns k).length ≤ 8:=by obtain ⟨h,q,m,s⟩:=k; cases h <;> cases q <;> cases m <;> cases s <;> decide
  have e1 : (zg k sz.1 sz.2.1).length = (turns k).length * (zG k sz.1 sz.2.1).length:=by unfold zg; rw [zT _ _ (zG k sz.1 sz.2.1).length (fun a=>by rw [List.length_map])]
  have sl1:=zdl k sz.1 sz.2.1
  rw [e1]
  exact Nat.le_trans (Nat.mul_le_mul tl (show _ ≤ 65 by omega)) (by decide)
 obtain ⟨w,h,mo⟩:=sz
 dsimp only at w0 h0 w4 h3 h9 kk dlen
 show JB _ [.val (intsD ns),.val (natD w),.val (natD h),.val (natD mo),.no,.no,.no,.no,.no,.no,.no] _ _
 refine za (s_set 4 (e_fn (zfZ T) (ns.getD 1 0,w,h) (zb (cell 1 rfl) (zb (e_var 1) (zb (e_var 2) a_nil))) trivial) ?_)
 dsimp only
 have hq : (lk (ns.getD 1 0) w h).q = true → w = h:=fun e=>of_decide_eq_true ((Bool.and_eq_true _ _).mp e).2
 generalize lk (ns.getD 1 0) w h = k at hq
 have wh : ((w : Int) * (h : Int)) = ((w * h : Nat) : Int):=(Int.natCast_mul w h).symm
 refine za (s_own 5 (f_fn (zgb T) (ns.getD 2 0,w * h) (zb (cell 2 rfl) (zb ((e_mul (e_var 1) (e_var 2) (.inr ⟨by omega,by omega⟩)).cast (congrArg D.int wh)) a_nil)) (show w * h ≤ 100 by omega)) ?_)
 dsimp only
 obtain ⟨m1,m2,m3⟩:=zky (ns.getD 2 0) (w * h)
 obtain ⟨rl,rs⟩:=zhi m1 (ns.getD 2 0) (w * h)
 have er : lnR (ns.getD 2 0) (w * h) = (lnK (lnM (ns.getD 2 0) (w * h)) (w * h) (ns.getD 2 0)).2:=rfl
 rw [← er] at rl rs
 generalize lnR (ns.getD 2 0) (w * h) = row at rl rs
 have r1 : 1 ≤ row.length:=by omega
 have r3 : row.length ≤ 3:=by omega
 have r2 : 6 < w * h → row.length ≤ 2:=fun z=>by have:=m3 z; omega
 have rle : ∀ x ∈ row,x ≤ 9:=fun x hx=>by have:=zgW hx; omega
 refine za (s_set 6 (cell 3 rfl) ?_)
 generalize ns.getD 3 0 = ce
 refine za (s_if (t_eqI (e_mod (e_var 6) e_int (by decide)) e_int) (fun hc=>?_) (fun hc=>b_nil ?_))
 ·obtain ⟨at',hat,atl⟩ : ∃ a : Nat,ce / 16 % (row.length : Int) = (a : Int) ∧ a < row.length:=by
   have a1:=Int.emod_nonneg (ce / 16) (b:=(row.length : Int)) (by omega)
   have a2:=Int.emod_lt_of_pos (ce / 16) (b:=(row.length : Int)) (by omega)
   exact ⟨(ce / 16 % (row.length : Int)).toNat,by omega,by omega⟩
  refine za (s_set 7 (d:=natD at') ((e_mod (zbB (e_var 6) e_int ⟨by decide,by decide⟩) (e_bor 5 rfl (zbF (l:=row) (f:=natD) (e_var 5) T.n_len) rfl) (by omega)).cast (congrArg D.int hat)) ?_)
  refine za (s_set 8 (e_mod (zbB (e_var 6) e_int ⟨by decide,by decide⟩) e_int (by decide)) ?_)
  have fin : ∀ (z : List Int) (a b : Sl),badN (z,w * h) → JB ⟨l.prog,wd,K,mg,base,39,N_law,zc s_law,true⟩ [.val (intsD ns),.val (natD w),.val (natD h),.val (natD mo),.val (kinD k),.own (z.map D.int),.val (.int ce),a,b,.no,.no] ((zoM ((zf s_law).getD 4 (.Pass ⟨0,0,0,0⟩))).drop 3) { nx:=fun Γ'=>JB ⟨l.prog,wd,K,mg,base,39,N_law,zc s_law,true⟩ Γ' ((zf s_law).drop 5) { nx:=fun _=>D.bl true = .non,rt:=fun d _=>d = D.bl true },rt:=fun d _=>d = D.bl true }:=by
   intro z a b hb
   refine b_frz 5 rfl ?_
   exact za (s_ret (e_fn (zgc T C) (z,k,w,h) (zb (e_var 5) (zb (e_var 4) (zb (e_var 1) (zb (e_var 2) a_nil)))) ⟨hb,by dsimp only; omega,by dsimp only; omega,hq⟩) rfl)
  have e0 : (cI row).getD at' 0 = ((row.getD at' 0 : Nat) : Int):=by
   rw [List.getD_eq_getElem?_getD,List.getD_eq_getElem?_getD,List.getElem?_map]
   cases row[at']? <;> rfl
  have sm : ∀ v : Int,((cI row).set at' v).sum = ((w * h : Nat) : Int) - ((row.getD at' 0 : Nat) : Int) + v:=fun v=>by
   rw [zhj _ _ _ (by rw [List.length_map]; exact atl),e0,zeL,rs]
  have ma : row.getD at' 0 ≤ 9:=by
   rw [List.getD_eq_getElem?_getD,List.getElem?_eq_getElem atl]
   exact rle _ (List.getElem_mem atl)
  have mr : ∀ n ∈ cI row,0 ≤ n ∧ n ≤ 9:=fun n hn=>by
   obtain ⟨x,hx,rfl⟩:=List.mem_map.mp hn
   have:=rle x hx
   omega
  have mm : ∀ (v n : Int),n ∈ (cI row).set at' v → (0 ≤ n ∧ n ≤ 9) ∨ n = v:=fun v n hn=>by
   rcases List.mem_or_eq_of_mem_set hn with hn | hn
   ·exact .inl (mr n hn)
   ·exact .inr hn
  have ll : ∀ v : Int,((cI row).set at' v).length = row.length:=fun v=>by rw [List.length_set,List.length_map]
  have p100 : (2 ^ 100 : Int) = 1267650600228229401496703205376:=by decide
  have rd : ∀ {Γ : List Sl} {p1 p2 pos : Pos},Γ[5]? = some (.own (row.map natD)) → Γ[7]? = some (.val (natD at')) → (Γ.set 5 (.val (.lst (row.map natD))))[7]? = some (.val (natD at')) → (Γ.set 5 (.val (.lst (row.map natD))))[5]? = some (.val (.lst (row.map natD))) → JE ⟨l.prog,wd,K,mg,base,39,N_law,zc s_law,true⟩ Γ (.Subscript (.Name "numbers" p1) (.Name "at" p2) pos) (natD (row.getD at' 0)):=fun g5 g7 g7' g5' =>
   e_bor 5 g5 ((zbM (l:=row) (f:=natD) (i:=(at' : Int)) 0 (e_var 5 (hd:=g5')) (e_var 7 (hd:=g7')) (by omega) (by omega)).cast (by rw [Int.toNat_natCast])) rfl
  have ix : ixN (row.map natD).length (at' : Int) = some at':=by unfold ixN; rw [List.length_map,if_pos (by omega),if_pos (by omega)]; rfl
  have eset : ∀ v : Int,(row.map natD).set at' (.int v) = ((cI row).set at' v).map D.int:=fun v=>by rw [List.map_set,cI_D]
  refine za (s_if (t_eqI (e_var 8) e_int) (fun _=>?_) (fun _=>za (s_if (t_eqI (e_var 8) e_int) (fun _=>?_) (fun _=>za (s_if (t_eqI (e_var 8) e_int) (fun _=>?_) (fun _=>?_))))))
  ·have x0:=Int.emod_nonneg (ce / 64) (show (100000000000000000000 : Int) ≠ 0 by decide)
   have x1:=Int.emod_lt_of_pos (ce / 64) (show (0 : Int) < 100000000000000000000 by decide)
   refine za (zdB 5 (n:=at') rfl (e_var 7) (e_add (e_add (rd rfl rfl rfl rfl) e_int) (e_mod (zbB (e_var 6) e_int ⟨by decide,by decide⟩) (e_pow e_int e_int ⟨by decide,by decide,by decide⟩) (by decide))) ix (b_nil ?_))
   rw [show (10 : Int) ^ (20 : Int).toNat = 100000000000000000000 by decide]
   generalize ce / 64 % 100000000000000000000 = x at x0 x1
   show JB _ [_,_,_,_,_,.own ((row.map natD).set at' (.int _)),_,_,_,_,_] _ _
   rw [eset]
   refine fin _ _ _ ⟨.inr ?_,by dsimp only; rw [ll]; omega,fun n hn=>?_,by dsimp only; omega⟩
   ·dsimp only; rw [sm]; omega
   ·dsimp only at hn
    rcases mm _ n hn with hn | hn <;> omega
  ·refine za (zdB 5 (n:=at') rfl (e_var 7) (e_sub (rd rfl rfl rfl rfl) e_int) ix (b_nil (b_nil ?_)))
   show JB _ [_,_,_,_,_,.own ((row.map natD).set at' (.int _)),_,_,_,_,_] _ _
   rw [eset]
   refine fin _ _ _ ⟨.inr ?_,by dsimp only; rw [ll]; omega,fun n hn=>?_,by dsimp only; omega⟩
   ·dsimp only; rw [sm]; omega
   ·dsimp only at hn
    rcases mm _ n hn with hn | hn <;> omega
  ·have x0:=Int.emod_nonneg (ce / 64) (show (9 : Int) ≠ 0 by decide)
   have x1:=Int.emod_lt_of_pos (ce / 64) (show (0 : Int) < 9 by decide)
   refine za (s_app 5 rfl (e_add e_int (e_mod (zbB (e_var 6) e_int ⟨by decide,by decide⟩) e_int (by decide))) (by rw [List.length_map]; exact Nat.lt_of_le_of_lt r3 (by decide)) (b_nil (b_nil (b_nil ?_))))
   generalize ce / 64 % 9 = x at x0 x1
   show JB _ [_,_,_,_,_,.own (row.map natD ++ [.int (1 + x)]),_,_,_,_,_] _ _
   rw [show row.map natD ++ [D.int (1 + x)] = (cI row ++ [1 + x]).map D.int by rw [List.map_append,cI_D]; rfl]
   refine fin _ _ _ ⟨.inr ?_,by dsimp only; rw [List.length_append,List.length_map]; simp only [List.length_cons,List.length_nil]; omega,fun n hn=>?_,by dsimp only; omega⟩
   ·dsimp only
    rw [List.sum_append,zeL,rs]
    simp only [List.sum_cons,List.sum_nil]; omega
   ·dsimp only at hn
    rcases List.mem_append.mp hn with hn | hn
    ·have:=mr n hn; omega
    ·rw [List.mem_singleton.mp hn]; omega
  ·refine za (zdB 5 (n:=at') rfl (e_var 7) (e_add (rd rfl rfl rfl rfl) e_int) ix ?_)
   refine za (s_app 5 (ds:=(row.map natD).set at' (.int _)) rfl (e_neg e_int) (by rw [List.length_set,List.length_map]; exact Nat.lt_of_le_of_lt r3 (by decide)) (b_nil (b_nil (b_nil ?_))))
   show JB _ [_,_,_,_,_,.own ((row.map natD).set at' (.int _) ++ [.int (-3)]),_,_,_,_,_] _ _
   rw [eset,show ∀ v : Int,((cI row).set at' v).map D.int ++ [D.int (-3)] = ((cI row).set at' v ++ [-3]).map D.int from fun v=>by rw [List.map_append]; rfl]
   refine fin _ _ _ ⟨.inl ⟨-3,?_,by decide⟩,by dsimp only; rw [List.length_append,ll]; simp only [List.length_cons,List.length_nil]; omega,fun n hn=>?_,by dsimp only; omega⟩
   ·dsimp only
    exact List.mem_append_right _ List.mem_cons_self
   ·dsimp only at hn
    rcases List.mem_append.mp hn with hn | hn
    ·rcases mm _ n hn with hn | hn <;> omega
    ·rw [List.mem_singleton.mp hn]; omega
 ·refine b_frz 5 rfl ?_
  refine za (s_set 9 (d:=.lst (row.map natD)) (f_list (.inr (e_var 5)) T.n_list).je ?_)
  refine za (s_set 10 (e_fn (zeX T) (row,k,w,h) (zb (e_var 9) (zb (e_var 4) (zb (e_var 1) (zb (e_var 2) a_nil)))) ⟨rs,w0,h0,by dsimp only; omega,by dsimp only; omega,by dsimp only; omega,hq⟩) ?_)
  dsimp only
  have pw : row.length ^ (w * h) ≤ 1000:=by
   by_cases z : 6 < w * h
   ·exact Nat.le_trans (Nat.pow_le_pow_left (r2 z) _) (Nat.le_trans (Nat.pow_le_pow_right (by decide) h9) (by decide))
   ·exact Nat.le_trans (Nat.pow_le_pow_left r3 _) (Nat.le_trans (Nat.pow_le_pow_right (by decide) (show w * h ≤ 6 by omega)) (by decide))
  refine za (s_ret (d:=D.bl true) (e_and (p:=true) (p':=true) (e_fn (zhA T) ((FF k w h row / (zg k w h).length : Nat) : Int) (zb (e_var 10) a_nil) trivial) fun _=>e_and (p:=true) (p':=true) ((e_eqI (e_var 10) (e_fn (zkB T) (row,k,w,h) (zb (e_var 5) (zb (e_var 4) (zb (e_var 1) (zb (e_var 2) a_nil)))) ⟨r1,r3,w0,h0,by dsimp only; omega,by dsimp only; omega,hq,pw,dlen k⟩)).cast ?_) fun _=>e_one ((e_eqD (n:=0) (d:=intsD (cI row)) (d':=intsD (cI row)) (JE.cast (e_var 9) (congrArg D.lst (cI_D row).symm)) (JE.cast (e_var 5) (congrArg D.lst (cI_D row).symm)) trivial (zgu 0 _ _)).cast ?_)) rfl)
  ·dsimp only
   rw [kk hq r1 r3 r2 rs]; simp
  ·rw [zfH]; simp
end
end Internal.k12
namespace Internal
open PySem PySem.W PySem.W.X
theorem walkX_of {q : Program} {loose : List Str} {XP : (Str → Option Value) → Heap → Prop} {K : Params → Frag} {as : List Addr} {n t : Nat} {r : RowW} {d : DefRec} {kwd : List (Str × PySem.Expr)} {run : Value → List Value → Sem Value} (e : ∀ P,as = (K P).map (·.1)) (h : WalkO q loose XP (InK K) r d kwd run) : WalkX q loose XP (obsZ as) (valZ K n t) r d kwd run :=
 fun w s₀ s₁ mg mb G y a o pm cd doc dV kV ho hd hcd hD hmg hg args vals as' L hpre hlay hrd hwl hlo=>h w s₀ s₁ mg mb G (InK.keeps w _ _ (z_facts e y).2.1 (Laid.keeps L)) a o pm cd doc dV kV ho hd hcd hD hmg hg args vals as' hpre hlay hrd hwl hlo
end Internal
namespace Internal.k12
open PySem Internal.L2 Internal
theorem zoN {α : Type} {us : List α} (h : us.length = 0) : us = []:=List.eq_nil_of_length_eq_zero h
theorem zbE {α : Type} {us : List α} (h : us.length = 1) : ∃ a0,us = [a0]:=by
 cases us with
 | nil=>exact absurd h (by simp)
 | cons a t=>exact ⟨a,by rw [zoN (Nat.succ.inj h)]⟩
theorem zbt {α : Type} {us : List α} (h : us.length = 2) : ∃ a0 a1,us = [a0,a1]:=by
 cases us with
 | nil=>exact absurd h (by simp)
 | cons a t =>
  obtain ⟨a1,rfl⟩:=zbE (Nat.succ.inj h)
  exact ⟨a,a1,rfl⟩
theorem zbr {α : Type} {us : List α} (h : us.length = 3) : ∃ a0 a1 a2,us = [a0,a1,a2]:=by
 cases us with
 | nil=>exact absurd h (by simp)
 | cons a t =>
  obtain ⟨a1,a2,rfl⟩:=zbt (Nat.succ.inj h)
  exact ⟨a,a1,a2,rfl⟩
theorem zhk {α : Type} {us : List α} (h : us.length = 4) : ∃ a0 a1 a2 a3,us = [a0,a1,a2,a3]:=by
 cases us with
 | nil=>exact absurd h (by simp)
 | cons a t =>
  obtain ⟨a1,a2,a3,rfl⟩:=zbr (Nat.succ.inj h)
  exact ⟨a,a1,a2,a3,rfl⟩
theorem all_mk {l : PySem.W.OpenLaw} {w : World} {K : PySem.W.Frag} {h : Heap} {mg : Str → Option Value} {fa : Addr} (X : K.In h) (G : h.Ns mainGlobals mg) (hfa : mg "law" = some (.ref fa))
  {f1 f2 f3 f4 f5 f6 f7 f8 f9 f10 f11 f12 f13 f14 f15 f16 f17 f18 f19 f20 f21 f22 f23 f24 f25 f26 f27 f28 f29 f30 f31 f32 f33 f34 f35 : Addr} {od1 od2 od3 od4 od5 od6 od7 od8 od9 od10 od11 od12 od13 od14 od15 od16 od17 od18 od19 od20 od21 od22 od23 od24 od25 od26 od27 od28 od29 od30 od31 od32 od33 od34 od35 an1 an2 an3 an4 an5 an6 an7 an8 an9 an10 an11 an12 an13 an14 an15 an16 an17 an18 an19 an20 an21 an22 an23 an24 an25 an26 an27 an28 an29 an30 an31 an32 an33 an34 an35 : Option Addr} {sl1 sl2 sl3 sl4 sl5 sl6 sl7 sl8 sl9 sl10 sl11 sl12 sl13 sl14 sl15 sl16 sl17 sl18 sl19 sl20 sl21 sl22 sl23 sl24 sl25 sl26 sl27 sl28 sl29 sl30 sl31 sl32 sl33 sl34 sl35 : Array (Option Value)} {oc1 oc2 oc3 oc4 oc5 oc6 oc7 oc8 oc9 oc10 oc11 oc12 oc13 oc14 oc15 oc16 oc17 oc18 oc19 oc20 oc21 oc22 oc23 oc24 oc25 oc26 oc27 oc28 oc29 oc30 oc31 oc32 oc33 oc34 oc35 kV1 kV2 kV3 kV4 kV5 kV6 kV7 kV8 kV9 kV10 kV11 kV12 kV13 kV14 kV15 kV16 kV17 kV18 kV19 kV20 kV21 kV22 kV23 kV24 kV25 kV26 kV27 kV28 kV29 kV30 kV31 kV32 kV33 kV34 kV35 dc1 dc2 dc3 dc4 dc5 dc6 dc7 dc8 dc9 dc10 dc11 dc12 dc13 dc14 dc15 dc16 dc17 dc18 dc19 dc20 dc21 dc22 dc23 dc24 dc25 dc26 dc27 dc28 dc29 dc30 dc31 dc32 dc33 dc34 dc35 pm1 pm2 pm3 pm4 pm5 pm6 pm7 pm8 pm9 pm10 pm11 pm12 pm13 pm14 pm15 pm16 pm17 pm18 pm19 pm20 pm21 pm22 pm23 pm24 pm25 pm26 pm27 pm28 pm29 pm30 pm31 pm32 pm33 pm34 pm35 cd1 cd2 cd3 cd4 cd5 cd6 cd7 cd8 cd9 cd10 cd11 cd12 cd13 cd14 cd15 cd16 cd17 cd18 cd19 cd20 cd21 cd22 cd23 cd24 cd25 cd26 cd27 cd28 cd29 cd30 cd31 cd32 cd33 cd34 cd35 ct1 ct2 ct3 ct4 ct5 ct6 ct7 ct8 ct9 ct10 ct11 ct12 ct13 ct14 ct15 ct16 ct17 ct18 ct19 ct20 ct21 ct22 ct23 ct24 ct25 ct26 ct27 ct28 ct29 ct30 ct31 ct32 ct33 ct34 ct35 : Value}
  (a1 : PySem.W.nsIn K mainGlobals "turnings" = some (some (.ref f1))) (l1 : K.lookup f1 = some ⟨oc1,od1,.func (PySem.W.fnOf "turnings" "turnings" (zj zO) (zf zO) (zc zO) .none kV1 dc1 pm1 an1 cd1 ct1),sl1⟩) (c1 : PySem.W.codeIn K cd1 "turnings" = true) (k1 : PySem.W.keepIn K (.ref f1) = true)
  (a2 : PySem.W.nsIn K mainGlobals "check_kinship" = some (some (.ref f2))) (l2 : K.lookup f2 = some ⟨oc2,od2,.func (PySem.W.fnOf "check_kinship" "check_kinship" (zj zU) (zf zU) (zc zU) .none kV2 dc2 pm2 an2 cd2 ct2),sl2⟩) (c2 : PySem.W.codeIn K cd2 "check_kinship" = true) (k2 : PySem.W.keepIn K (.ref f2) = true)
  (a3 : PySem.W.nsIn K mainGlobals "deeds" = some (some (.ref f3))) (l3 : K.lookup f3 = some ⟨oc3,od3,.func (PySem.W.fnOf "deeds" "deeds" (zj zbG) (zf zbG) (zc zbG) .none kV3 dc3 pm3 an3 cd3 ct3),sl3⟩) (c3 : PySem.W.codeIn K cd3 "deeds" = true) (k3 : PySem.W.keepIn K (.ref f3) = true)
  (a4 : PySem.W.nsIn K mainGlobals "all_slides" = some (some (.ref f4))) (l4 : K.lookup f4 = some ⟨oc4,od4,.func (PySem.W.fnOf "all_slides" "all_slides" (zj zbq) (zf zbq) (zc zbq) .none kV4 dc4 pm4 an4 cd4 ct4),sl4⟩) (c4 : PySem.W.codeIn K cd4 "all_slides" = true) (k4 : PySem.W.keepIn K (.ref f4) = true)
  (a5 : PySem.W.nsIn K mainGlobals "done" = some (some (.ref f5))) (l5 : K.lookup f5 = some ⟨oc5,od5,.func (PySem.W.fnOf "done" "done" (zj zcW) (zf zcW) (zc zcW) .none kV5 dc5 pm5 an5 cd5 ct5),sl5⟩) (c5 : PySem.W.codeIn K cd5 "done" = true) (k5 : PySem.W.keepIn K (.ref f5) = true)
  (a6 : PySem.W.nsIn K mainGlobals "turned" = some (some (.ref f6))) (l6 : K.lookup f6 = some ⟨oc6,od6,.func (PySem.W.fnOf "turned" "turned" (zj zby) (zf zby) (zc zby) .none kV6 dc6 pm6 an6 cd6 ct6),sl6⟩) (c6 : PySem.W.codeIn K cd6 "turned" = true) (k6 : PySem.W.keepIn K (.ref f6) = true)
  (a7 : PySem.W.nsIn K mainGlobals "mirrored" = some (some (.ref f7))) (l7 : K.lookup f7 = some ⟨oc7,od7,.func (PySem.W.fnOf "mirrored" "mirrored" (zj zbz) (zf zbz) (zc zbz) .none kV7 dc7 pm7 an7 cd7 ct7),sl7⟩) (c7 : PySem.W.codeIn K cd7 "mirrored" = true) (k7 : PySem.W.keepIn K (.ref f7) = true)
  (a8 : PySem.W.nsIn K mainGlobals "quarter_turned" = some (some (.ref f8))) (l8 : K.lookup f8 = some ⟨oc8,od8,.func (PySem.W.fnOf "quarter_turned" "quarter_turned" (zj zW) (zf zW) (zc zW) .none kV8 dc8 pm8 an8 cd8 ct8),sl8⟩) (c8 : PySem.W.codeIn K cd8 "quarter_turned" = true) (k8 : PySem.W.keepIn K (.ref f8) = true)
  (a9 : PySem.W.nsIn K mainGlobals "column_from_below" = some (some (.ref f9))) (l9 : K.lookup f9 = some ⟨oc9,od9,.func (PySem.W.fnOf "column_from_below" "column_from_below" (zj zM) (zf zM) (zc zM) .none kV9 dc9 pm9 an9 cd9 ct9),sl9⟩) (c9 : PySem.W.codeIn K cd9 "column_from_below" = true) (k9 : PySem.W.keepIn K (.ref f9) = true)
  (a10 : PySem.W.nsIn K mainGlobals "slid" = some (some (.ref f10))) (l10 : K.lookup f10 = some ⟨oc10,od10,.func (PySem.W.fnOf "slid" "slid" (zj zcX) (zf zcX) (zc zcX) .none kV10 dc10 pm10 an10 cd10 ct10),sl10⟩) (c10 : PySem.W.codeIn K cd10 "slid" = true) (k10 : PySem.W.keepIn K (.ref f10) = true)
  (a11 : PySem.W.nsIn K mainGlobals "row_slid" = some (some (.ref f11))) (l11 : K.lookup f11 = some ⟨oc11,od11,.func (PySem.W.fnOf "row_slid" "row_slid" (zj zbA) (zf zbA) (zc zbA) .none kV11 dc11 pm11 an11 cd11 ct11),sl11⟩) (c11 : PySem.W.codeIn K cd11 "row_slid" = true) (k11 : PySem.W.keepIn K (.ref f11) = true)
  (a12 : PySem.W.nsIn K mainGlobals "rounds" = some (some (.ref f12))) (l12 : K.lookup f12 = some ⟨oc12,od12,.func (PySem.W.fnOf "rounds" "rounds" (zj zbT) (zf zbT) (zc zbT) .none kV12 dc12 pm12 an12 cd12 ct12),sl12⟩) (c12 : PySem.W.codeIn K cd12 "rounds" = true) (k12 : PySem.W.keepIn K (.ref f12) = true)
  (a13 : PySem.W.nsIn K mainGlobals "cell_origins" = some (some (.ref f13))) (l13 : K.lookup f13 = some ⟨oc13,od13,.func (PySem.W.fnOf "cell_origins" "cell_origins" (zj zbd) (zf zbd) (zc zbd) .none kV13 dc13 pm13 an13 cd13 ct13),sl13⟩) (c13 : PySem.W.codeIn K cd13 "cell_origins" = true) (k13 : PySem.W.keepIn K (.ref f13) = true)
  (a14 : PySem.W.nsIn K mainGlobals "round_length" = some (some (.ref f14))) (l14 : K.lookup f14 = some ⟨oc14,od14,.func (PySem.W.fnOf "round_length" "round_length" (zj zP) (zf zP) (zc zP) .none kV14 dc14 pm14 an14 cd14 ct14),sl14⟩) (c14 : PySem.W.codeIn K cd14 "round_length" = true) (k14 : PySem.W.keepIn K (.ref f14) = true)
  (a15 : PySem.W.nsIn K mainGlobals "how_many_with" = some (some (.ref f15))) (l15 : K.lookup f15 = some ⟨oc15,od15,.func (PySem.W.fnOf "how_many_with" "how_many_with" (zj zY) (zf zY) (zc zY) .none kV15 dc15 pm15 an15 cd15 ct15),sl15⟩) (c15 : PySem.W.codeIn K cd15 "how_many_with" = true) (k15 : PySem.W.keepIn K (.ref f15) = true)
  (a16 : PySem.W.nsIn K mainGlobals "check_numbers" = some (some (.ref f16))) (l16 : K.lookup f16 = some ⟨oc16,od16,.func (PySem.W.fnOf "check_numbers" "check_numbers" (zj zZ) (zf zZ) (zc zZ) .none kV16 dc16 pm16 an16 cd16 ct16),sl16⟩) (c16 : PySem.W.codeIn K cd16 "check_numbers" = true) (k16 : PySem.W.keepIn K (.ref f16) = true)
  (a17 : PySem.W.nsIn K mainGlobals "deeds_sharing_rounds" = some (some (.ref f17))) (l17 : K.lookup f17 = some ⟨oc17,od17,.func (PySem.W.fnOf "deeds_sharing_rounds" "deeds_sharing_rounds" (zj zJ) (zf zJ) (zc zJ) .none kV17 dc17 pm17 an17 cd17 ct17),sl17⟩) (c17 : PySem.W.codeIn K cd17 "deeds_sharing_rounds" = true) (k17 : PySem.W.keepIn K (.ref f17) = true)
  (a18 : PySem.W.nsIn K mainGlobals "left_with" = some (some (.ref f18))) (l18 : K.lookup f18 = some ⟨oc18,od18,.func (PySem.W.fnOf "left_with" "left_with" (zj zbv) (zf zbv) (zc zbv) .none kV18 dc18 pm18 an18 cd18 ct18),sl18⟩) (c18 : PySem.W.codeIn K cd18 "left_with" = true) (k18 : PySem.W.keepIn K (.ref f18) = true)
  (a19 : PySem.W.nsIn K mainGlobals "ways_with_colour" = some (some (.ref f19))) (l19 : K.lookup f19 = some ⟨oc19,od19,.func (PySem.W.fnOf "ways_with_colour" "ways_with_colour" (zj zQ) (zf zQ) (zc zQ) .none kV19 dc19 pm19 an19 cd19 ct19),sl19⟩) (c19 : PySem.W.codeIn K cd19 "ways_with_colour" = true) (k19 : PySem.W.keepIn K (.ref f19) = true)
  (a20 : PySem.W.nsIn K mainGlobals "picks" = some (some (.ref f20))) (l20 : K.lookup f20 = some ⟨oc20,od20,.func (PySem.W.fnOf "picks" "picks" (zj zcq) (zf zcq) (zc zcq) .none kV20 dc20 pm20 an20 cd20 ct20),sl20⟩) (c20 : PySem.W.codeIn K cd20 "picks" = true) (k20 : PySem.W.keepIn K (.ref f20) = true)
  (a21 : PySem.W.nsIn K mainGlobals "picks_further" = some (some (.ref f21))) (l21 : K.lookup f21 = some ⟨oc21,od21,.func (PySem.W.fnOf "picks_further" "picks_further" (zj zba) (zf zba) (zc zba) .none kV21 dc21 pm21 an21 cd21 ct21),sl21⟩) (c21 : PySem.W.codeIn K cd21 "picks_further" = true) (k21 : PySem.W.keepIn K (.ref f21) = true)
  (a22 : PySem.W.nsIn K mainGlobals "choices" = some (some (.ref f22))) (l22 : K.lookup f22 = some ⟨oc22,od22,.func (PySem.W.fnOf "choices" "choices" (zj zbH) (zf zbH) (zc zbH) .none kV22 dc22 pm22 an22 cd22 ct22),sl22⟩) (c22 : PySem.W.codeIn K cd22 "choices" = true) (k22 : PySem.W.keepIn K (.ref f22) = true)
  (a23 : PySem.W.nsIn K mainGlobals "_law_cell_at" = some (some (.ref f23))) (l23 : K.lookup f23 = some ⟨oc23,od23,.func (PySem.W.fnOf "_law_cell_at" "_law_cell_at" (zj zbh) (zf zbh) (zc zbh) .none kV23 dc23 pm23 an23 cd23 ct23),sl23⟩) (c23 : PySem.W.codeIn K cd23 "_law_cell_at" = true) (k23 : PySem.W.keepIn K (.ref f23) = true)
  (a24 : PySem.W.nsIn K mainGlobals "_law_whole" = some (some (.ref f24))) (l24 : K.lookup f24 = some ⟨oc24,od24,.func (PySem.W.fnOf "_law_whole" "_law_whole" (zj zbw) (zf zbw) (zc zbw) .none kV24 dc24 pm24 an24 cd24 ct24),sl24⟩) (c24 : PySem.W.codeIn K cd24 "_law_whole" = true) (k24 : PySem.W.keepIn K (.ref f24) = true)
  (a25 : PySem.W.nsIn K mainGlobals "_law_kinship" = some (some (.ref f25))) (l25 : K.lookup f25 = some ⟨oc25,od25,.func (PySem.W.fnOf "_law_kinship" "_law_kinship" (zj zK) (zf zK) (zc zK) .none kV25 dc25 pm25 an25 cd25 ct25),sl25⟩) (c25 : PySem.W.codeIn K cd25 "_law_kinship" = true) (k25 : PySem.W.keepIn K (.ref f25) = true)
  (a26 : PySem.W.nsIn K mainGlobals "_law_turnings" = some (some (.ref f26))) (l26 : K.lookup f26 = some ⟨oc26,od26,.func (PySem.W.fnOf "_law_turnings" "_law_turnings" (zj zR) (zf zR) (zc zR) .none kV26 dc26 pm26 an26 cd26 ct26),sl26⟩) (c26 : PySem.W.codeIn K cd26 "_law_turnings" = true) (k26 : PySem.W.keepIn K (.ref f26) = true)
  (a27 : PySem.W.nsIn K mainGlobals "_law_deeds" = some (some (.ref f27))) (l27 : K.lookup f27 = some ⟨oc27,od27,.func (PySem.W.fnOf "_law_deeds" "_law_deeds" (zj zbc) (zf zbc) (zc zbc) .none kV27 dc27 pm27 an27 cd27 ct27),sl27⟩) (c27 : PySem.W.codeIn K cd27 "_law_deeds" = true) (k27 : PySem.W.keepIn K (.ref f27) = true)
  (a28 : PySem.W.nsIn K mainGlobals "_law_quarter" = some (some (.ref f28))) (l28 : K.lookup f28 = some ⟨oc28,od28,.func (PySem.W.fnOf "_law_quarter" "_law_quarter" (zj zbi) (zf zbi) (zc zbi) .none kV28 dc28 pm28 an28 cd28 ct28),sl28⟩) (c28 : PySem.W.codeIn K cd28 "_law_quarter" = true) (k28 : PySem.W.keepIn K (.ref f28) = true)
  (a29 : PySem.W.nsIn K mainGlobals "_law_done" = some (some (.ref f29))) (l29 : K.lookup f29 = some ⟨oc29,od29,.func (PySem.W.fnOf "_law_done" "_law_done" (zj zbn) (zf zbn) (zc zbn) .none kV29 dc29 pm29 an29 cd29 ct29),sl29⟩) (c29 : PySem.W.codeIn K cd29 "_law_done" = true) (k29 : PySem.W.keepIn K (.ref f29) = true)
  (a30 : PySem.W.nsIn K mainGlobals "_law_all" = some (some (.ref f30))) (l30 : K.lookup f30 = some ⟨oc30,od30,.func (PySem.W.fnOf "_law_all" "_law_all" (zj zbI) (zf zbI) (zc zbI) .none kV30 dc30 pm30 an30 cd30 ct30),sl30⟩) (c30 : PySem.W.codeIn K cd30 "_law_all" = true) (k30 : PySem.W.keepIn K (.ref f30) = true)
  (a31 : PySem.W.nsIn K mainGlobals "_law_small" = some (some (.ref f31))) (l31 : K.lookup f31 = some ⟨oc31,od31,.func (PySem.W.fnOf "_law_small" "_law_small" (zj zbx) (zf zbx) (zc zbx) .none kV31 dc31 pm31 an31 cd31 ct31),sl31⟩) (c31 : PySem.W.codeIn K cd31 "_law_small" = true) (k31 : PySem.W.keepIn K (.ref f31) = true)
  (a32 : PySem.W.nsIn K mainGlobals "_law_numbers" = some (some (.ref f32))) (l32 : K.lookup f32 = some ⟨oc32,od32,.func (PySem.W.fnOf "_law_numbers" "_law_numbers" (zj zV) (zf zV) (zc zV) .none kV32 dc32 pm32 an32 cd32 ct32),sl32⟩) (c32 : PySem.W.codeIn K cd32 "_law_numbers" = true) (k32 : PySem.W.keepIn K (.ref f32) = true)
  (a33 : PySem.W.nsIn K mainGlobals "_law_refused" = some (some (.ref f33))) (l33 : K.lookup f33 = some ⟨oc33,od33,.func (PySem.W.fnOf "_law_refused" "_law_refused" (zj zbj) (zf zbj) (zc zbj) .none kV33 dc33 pm33 an33 cd33 ct33),sl33⟩) (c33 : PySem.W.codeIn K cd33 "_law_refused" = true) (k33 : PySem.W.keepIn K (.ref f33) = true)
  (a34 : PySem.W.nsIn K mainGlobals "_law_due" = some (some (.ref f34))) (l34 : K.lookup f34 = some ⟨oc34,od34,.func (PySem.W.fnOf "_law_due" "_law_due" (zj zbJ) (zf zbJ) (zc zbJ) .none kV34 dc34 pm34 an34 cd34 ct34),sl34⟩) (c34 : PySem.W.codeIn K cd34 "_law_due" = true) (k34 : PySem.W.keepIn K (.ref f34) = true)
  (a35 : PySem.W.nsIn K mainGlobals "law" = some (some (.ref f35))) (l35 : K.lookup f35 = some ⟨oc35,od35,.func (PySem.W.fnOf "law" "law" (zj s_law) (zf s_law) (zc s_law) .none kV35 dc35 pm35 an35 cd35 ct35),sl35⟩) (c35 : PySem.W.codeIn K cd35 "law" = true) (k35 : PySem.W.keepIn K (.ref f35) = true)
  (z1 : PySem.W.nsIn K mainGlobals "ValueError" = some none)
  (z2 : PySem.W.nsIn K mainGlobals "bool" = some none)
  (z3 : PySem.W.nsIn K mainGlobals "int" = some none)
  (z4 : PySem.W.nsIn K mainGlobals "isinstance" = some none)
  (z5 : PySem.W.nsIn K mainGlobals "len" = some none)
  (z6 : PySem.W.nsIn K mainGlobals "list" = some none)
  (z7 : PySem.W.nsIn K mainGlobals "min" = some none)
  (z8 : PySem.W.nsIn K mainGlobals "range" = some none)
  (z9 : PySem.W.nsIn K mainGlobals "reversed" = some none)
  (z10 : PySem.W.nsIn K mainGlobals "set" = some none)
  (z11 : PySem.W.nsIn K mainGlobals "sorted" = some none)
  (z12 : PySem.W.nsIn K mainGlobals "sum" = some none)
  (z13 : PySem.W.nsIn K mainGlobals "tuple" = some none)
  {t1 : Tok} (q1 : PySem.W.nsIn K mainGlobals "LETTERS" = some (some (.str (Str.ofString "hqms") t1)))
  {t2 : Tok} (q2 : PySem.W.nsIn K mainGlobals "QUARTERS" = some (some (.int 4 t2)))
  {t3 : Tok} (q3 : PySem.W.nsIn K mainGlobals "FIRST_MIRRORING" = some (some (.int 4 t3)))
  {c_KinError c_NotSquare c_BadNumbers : Addr}
  (y_m_KinError : PySem.W.nsIn K mainGlobals "KinError" = some (some (.ref c_KinError)))
  (y_m_NotSquare : PySem.W.nsIn K mainGlobals "NotSquare" = some (some (.ref c_NotSquare)))
  (y_m_BadNumbers : PySem.W.nsIn K mainGlobals "BadNumbers" = some (some (.ref c_BadNumbers)))
  (y_x1_NotSquare : PySem.W.excIn K c_NotSquare bmV "ValueError.__new__" = true)
  (y_x2_NotSquare : PySem.W.findIn K (.ref c_NotSquare) "__class__" = some (some (.builtin "object.__class__")))
  (y_x3_NotSquare : PySem.W.findIn K (.ref c_NotSquare) "__getattribute__" = some (some (.builtin "BaseException.__getattribute__")))
  (y_x4_NotSquare : PySem.W.findIn K (.ref c_NotSquare) "__getattr__" = some none)
  (y_x1_BadNumbers : PySem.W.excIn K c_BadNumbers bmV "ValueError.__new__" = true)
  (y_x2_BadNumbers : PySem.W.findIn K (.ref c_BadNumbers) "__class__" = some (some (.builtin "object.__class__")))
  (y_x3_BadNumbers : PySem.W.findIn K (.ref c_BadNumbers) "__getattribute__" = some (some (.builtin "BaseException.__getattribute__")))
  (y_x4_BadNumbers : PySem.W.findIn K (.ref c_BadNumbers) "__getattr__" = some none)
  (y_s_NotSquare : PySem.W.subIn K (.ref c_NotSquare) (.ref c_KinError) = some true)
  (y_w_NotSquare : PySem.W.subIn K (.ref c_NotSquare) (.ref c_NotSquare) = some true)
  (y_v_NotSquare : PySem.W.kitOne K (.ref c_NotSquare) (.type "ValueError") = some true)
  (y_k_NotSquare_NotSquare : PySem.W.kitOne K (.ref c_NotSquare) (.ref c_NotSquare) = some true)
  (y_k_NotSquare_BadNumbers : PySem.W.kitOne K (.ref c_NotSquare) (.ref c_BadNumbers) = some false)
  (y_s_BadNumbers : PySem.W.subIn K (.ref c_BadNumbers) (.ref c_KinError) = some true)
  (y_w_BadNumbers : PySem.W.subIn K (.ref c_BadNumbers) (.ref c_BadNumbers) = some true)
  (y_v_BadNumbers : PySem.W.kitOne K (.ref c_BadNumbers) (.type "ValueError") = some true)
  (y_k_BadNumbers_NotSquare : PySem.W.kitOne K (.ref c_BadNumbers) (.ref c_NotSquare) = some false)
  (y_k_BadNumbers_BadNumbers : PySem.W.kitOne K (.ref c_BadNumbers) (.ref c_BadNumbers) = some true)
  (y_e_KinError : PySem.W.excIn K c_KinError bmV "ValueError.__new__" = true)
  : ∃ fd : FuncData,(∀ (s : Shared) (v : Value),BindsTo s fd ⟨[v],[]⟩ [("script",v)]) ∧ ∀ base : Heap,K.In base → base.Ns mainGlobals mg → FnOk l.prog w K mg base CX0 40 fa fd ["script"] (spLaw K):=by
 have e:=hfa.symm.trans (PySem.W.mg_of X G a35)
 cases e
 have F1:=zx (st:=zO) l1 c1 k1
 have b1:=F1.binds (ps:=["kinship"]) fun _ _ _ _ _ _ us hl=>by obtain ⟨_,rfl⟩:=zbE hl; rfl
 have F2:=zx (st:=zU) l2 c2 k2
 have b2:=F2.binds (ps:=["kinship"]) fun _ _ _ _ _ _ us hl=>by obtain ⟨_,rfl⟩:=zbE hl; rfl
 have F3:=zx (st:=zbG) l3 c3 k3
 have b3:=F3.binds (ps:=["kinship","width","height"]) fun _ _ _ _ _ _ us hl=>by obtain ⟨_,_,_,rfl⟩:=zbr hl; rfl
 have F4:=zx (st:=zbq) l4 c4 k4
 have b4:=F4.binds (ps:=["width","height"]) fun _ _ _ _ _ _ us hl=>by obtain ⟨_,_,rfl⟩:=zbt hl; rfl
 have F5:=zx (st:=zcW) l5 c5 k5
 have b5:=F5.binds (ps:=["board","deed"]) fun _ _ _ _ _ _ us hl=>by obtain ⟨_,_,rfl⟩:=zbt hl; rfl
 have F6:=zx (st:=zby) l6 c6 k6
 have b6:=F6.binds (ps:=["board","turning"]) fun _ _ _ _ _ _ us hl=>by obtain ⟨_,_,rfl⟩:=zbt hl; rfl
 have F7:=zx (st:=zbz) l7 c7 k7
 have b7:=F7.binds (ps:=["board"]) fun _ _ _ _ _ _ us hl=>by obtain ⟨_,rfl⟩:=zbE hl; rfl
 have F8:=zx (st:=zW) l8 c8 k8
 have b8:=F8.binds (ps:=["board"]) fun _ _ _ _ _ _ us hl=>by obtain ⟨_,rfl⟩:=zbE hl; rfl
 have F9:=zx (st:=zM) l9 c9 k9
 have b9:=F9.binds (ps:=["board","x"]) fun _ _ _ _ _ _ us hl=>by obtain ⟨_,_,rfl⟩:=zbt hl; rfl
 have F10:=zx (st:=zcX) l10 c10 k10
 have b10:=F10.binds (ps:=["board","a","b"]) fun _ _ _ _ _ _ us hl=>by obtain ⟨_,_,_,rfl⟩:=zbr hl; rfl
 have F11:=zx (st:=zbA) l11 c11 k11
 have b11:=F11.binds (ps:=["row","a"]) fun _ _ _ _ _ _ us hl=>by obtain ⟨_,_,rfl⟩:=zbt hl; rfl
 have F12:=zx (st:=zbT) l12 c12 k12
 have b12:=F12.binds (ps:=["deed","width","height"]) fun _ _ _ _ _ _ us hl=>by obtain ⟨_,_,_,rfl⟩:=zbr hl; rfl
 have F13:=zx (st:=zbd) l13 c13 k13
 have b13:=F13.binds (ps:=["deed","width","height"]) fun _ _ _ _ _ _ us hl=>by obtain ⟨_,_,_,rfl⟩:=zbr hl; rfl
 have F14:=zx (st:=zP) l14 c14 k14
 have b14:=F14.binds (ps:=["start","origins","met"]) fun _ _ _ _ _ _ us hl=>by obtain ⟨_,_,_,rfl⟩:=zbr hl; rfl
 have F15:=zx (st:=zY) l15 c15 k15
 have b15:=F15.binds (ps:=["numbers","kinship","width","height"]) fun _ _ _ _ _ _ us hl=>by obtain ⟨_,_,_,_,rfl⟩:=zhk hl; rfl
 have F16:=zx (st:=zZ) l16 c16 k16
 have b16:=F16.binds (ps:=["numbers","cells"]) fun _ _ _ _ _ _ us hl=>by obtain ⟨_,_,rfl⟩:=zbt hl; rfl
 have F17:=zx (st:=zJ) l17 c17 k17
 have b17:=F17.binds (ps:=["kinship_deeds","width","height"]) fun _ _ _ _ _ _ us hl=>by obtain ⟨_,_,_,rfl⟩:=zbr hl; rfl
 have F18:=zx (st:=zbv) l18 c18 k18
 have b18:=F18.binds (ps:=["numbers","lengths"]) fun _ _ _ _ _ _ us hl=>by obtain ⟨_,_,rfl⟩:=zbt hl; rfl
 have F19:=zx (st:=zQ) l19 c19 k19
 have b19:=F19.binds (ps:=["ways","unlike_lengths","number"]) fun _ _ _ _ _ _ us hl=>by obtain ⟨_,_,_,rfl⟩:=zbr hl; rfl
 have F20:=zx (st:=zcq) l20 c20 k20
 have b20:=F20.binds (ps:=["free","unlike_lengths","number"]) fun _ _ _ _ _ _ us hl=>by obtain ⟨_,_,_,rfl⟩:=zbr hl; rfl
 have F21:=zx (st:=zba) l21 c21 k21
 have b21:=F21.binds (ps:=["pick","free","length"]) fun _ _ _ _ _ _ us hl=>by obtain ⟨_,_,_,rfl⟩:=zbr hl; rfl
 have F22:=zx (st:=zbH) l22 c22 k22
 have b22:=F22.binds (ps:=["of_many","count"]) fun _ _ _ _ _ _ us hl=>by obtain ⟨_,_,rfl⟩:=zbt hl; rfl
 have F23:=zx (st:=zbh) l23 c23 k23
 have b23:=F23.binds (ps:=["script","k"]) fun _ _ _ _ _ _ us hl=>by obtain ⟨_,_,rfl⟩:=zbt hl; rfl
 have F24:=zx (st:=zbw) l24 c24 k24
 have b24:=F24.binds (ps:=["found"]) fun _ _ _ _ _ _ us hl=>by obtain ⟨_,rfl⟩:=zbE hl; rfl
 have F25:=zx (st:=zK) l25 c25 k25
 have b25:=F25.binds (ps:=["cell","width","height"]) fun _ _ _ _ _ _ us hl=>by obtain ⟨_,_,_,rfl⟩:=zbr hl; rfl
 have F26:=zx (st:=zR) l26 c26 k26
 have b26:=F26.binds (ps:=["kinship"]) fun _ _ _ _ _ _ us hl=>by obtain ⟨_,rfl⟩:=zbE hl; rfl
 have F27:=zx (st:=zbc) l27 c27 k27
 have b27:=F27.binds (ps:=["kinship","width","height"]) fun _ _ _ _ _ _ us hl=>by obtain ⟨_,_,_,rfl⟩:=zbr hl; rfl
 have F28:=zx (st:=zbi) l28 c28 k28
 have b28:=F28.binds (ps:=["board"]) fun _ _ _ _ _ _ us hl=>by obtain ⟨_,rfl⟩:=zbE hl; rfl
 have F29:=zx (st:=zbn) l29 c29 k29
 have b29:=F29.binds (ps:=["board","deed"]) fun _ _ _ _ _ _ us hl=>by obtain ⟨_,_,rfl⟩:=zbt hl; rfl
 have F30:=zx (st:=zbI) l30 c30 k30
 have b30:=F30.binds (ps:=["colours","width","height"]) fun _ _ _ _ _ _ us hl=>by obtain ⟨_,_,_,rfl⟩:=zbr hl; rfl
 have F31:=zx (st:=zbx) l31 c31 k31
 have b31:=F31.binds (ps:=["cell"]) fun _ _ _ _ _ _ us hl=>by obtain ⟨_,rfl⟩:=zbE hl; rfl
 have F32:=zx (st:=zV) l32 c32 k32
 have b32:=F32.binds (ps:=["cell","cells"]) fun _ _ _ _ _ _ us hl=>by obtain ⟨_,_,rfl⟩:=zbt hl; rfl
 have F33:=zx (st:=zbj) l33 c33 k33
 have b33:=F33.binds (ps:=["numbers","kinship","width","height"]) fun _ _ _ _ _ _ us hl=>by obtain ⟨_,_,_,_,rfl⟩:=zhk hl; rfl
 have F34:=zx (st:=zbJ) l34 c34 k34
 have b34:=F34.binds (ps:=["numbers","kinship","width","height"]) fun _ _ _ _ _ _ us hl=>by obtain ⟨_,_,_,_,rfl⟩:=zhk hl; rfl
 have F35:=zx (st:=s_law) l35 c35 k35
 have b35:=F35.binds (ps:=["script"]) fun _ _ _ _ _ _ us hl=>by obtain ⟨_,rfl⟩:=zbE hl; rfl
 have T : Txt K mg:=⟨⟨_,_,F1,b1,PySem.W.mg_of X G a1⟩,⟨_,_,F2,b2,PySem.W.mg_of X G a2⟩,⟨_,_,F3,b3,PySem.W.mg_of X G a3⟩,⟨_,_,F4,b4,PySem.W.mg_of X G a4⟩,⟨_,_,F5,b5,PySem.W.mg_of X G a5⟩,⟨_,_,F6,b6,PySem.W.mg_of X G a6⟩,⟨_,_,F7,b7,PySem.W.mg_of X G a7⟩,⟨_,_,F8,b8,PySem.W.mg_of X G a8⟩,⟨_,_,F9,b9,PySem.W.mg_of X G a9⟩,⟨_,_,F10,b10,PySem.W.mg_of X G a10⟩,⟨_,_,F11,b11,PySem.W.mg_of X G a11⟩,⟨_,_,F12,b12,PySem.W.mg_of X G a12⟩,⟨_,_,F13,b13,PySem.W.mg_of X G a13⟩,⟨_,_,F14,b14,PySem.W.mg_of X G a14⟩,⟨_,_,F15,b15,PySem.W.mg_of X G a15⟩,⟨_,_,F16,b16,PySem.W.mg_of X G a16⟩,⟨_,_,F17,b17,PySem.W.mg_of X G a17⟩,⟨_,_,F18,b18,PySem.W.mg_of X G a18⟩,⟨_,_,F19,b19,PySem.W.mg_of X G a19⟩,⟨_,_,F20,b20,PySem.W.mg_of X G a20⟩,⟨_,_,F21,b21,PySem.W.mg_of X G a21⟩,⟨_,_,F22,b22,PySem.W.mg_of X G a22⟩,⟨_,_,F23,b23,PySem.W.mg_of X G a23⟩,⟨_,_,F24,b24,PySem.W.mg_of X G a24⟩,⟨_,_,F25,b25,PySem.W.mg_of X G a25⟩,⟨_,_,F26,b26,PySem.W.mg_of X G a26⟩,⟨_,_,F27,b27,PySem.W.mg_of X G a27⟩,⟨_,_,F28,b28,PySem.W.mg_of X G a28⟩,⟨_,_,F29,b29,PySem.W.mg_of X G a29⟩,⟨_,_,F30,b30,PySem.W.mg_of X G a30⟩,⟨_,_,F31,b31,PySem.W.mg_of X G a31⟩,⟨_,_,F32,b32,PySem.W.mg_of X G a32⟩,⟨_,_,F33,b33,PySem.W.mg_of X G a33⟩,⟨_,_,F34,b34,PySem.W.mg_of X G a34⟩,⟨_,_,F35,b35,PySem.W.mg_of X G a35⟩,PySem.W.mg_none_of X G z1,PySem.W.mg_none_of X G z2,PySem.W.mg_none_of X G z3,PySem.W.mg_none_of X G z4,PySem.W.mg_none_of X G z5,PySem.W.mg_none_of X G z6,PySem.W.mg_none_of X G z7,PySem.W.mg_none_of X G z8,PySem.W.mg_none_of X G z9,PySem.W.mg_none_of X G z10,PySem.W.mg_none_of X G z11,PySem.W.mg_none_of X G z12,PySem.W.mg_none_of X G z13,⟨t1,PySem.W.mg_of X G q1⟩,⟨t2,PySem.W.mg_of X G q2⟩,⟨t3,PySem.W.mg_of X G q3⟩,⟨c_KinError,c_NotSquare,c_BadNumbers,PySem.W.mg_of X G y_m_KinError,PySem.W.mg_of X G y_m_NotSquare,PySem.W.mg_of X G y_m_BadNumbers,⟨y_x1_NotSquare,y_x2_NotSquare,y_x3_NotSquare,y_x4_NotSquare⟩,y_s_NotSquare,y_w_NotSquare,y_v_NotSquare,y_k_NotSquare_NotSquare,y_k_NotSquare_BadNumbers,⟨y_x1_BadNumbers,y_x2_BadNumbers,y_x3_BadNumbers,y_x4_BadNumbers⟩,y_s_BadNumbers,y_w_BadNumbers,y_v_BadNumbers,y_k_BadNumbers_NotSquare,y_k_BadNumbers_BadNumbers,y_e_KinError⟩⟩
 refine ⟨PySem.W.fnOf "law" "law" (zj s_law) (zf s_law) (zc s_law) .none kV35 dc35 pm35 an35 cd35 ct35,fun s v=>.of_eq rfl,fun base _ _=>?_⟩
 exact law_ok T F35
end Internal.k12
open PySem PySem.W PyProof.Rows
set_option maxRecDepth 100000 in
set_option maxHeartbeats 0 in
theorem PySem.Challenge.cw_boardkin_k12_so_many_of_each_colour_holds : PySem.Challenge.rw_boardkin_k12_so_many_of_each_colour.Holds := by
 w_on; o_law; z_head; (case hw=>w_witness2)
 k_fill
 refine Internal.walkX_of (fun _=>by kernel_rfl) ?_
 refine Internal.walk (l:=PySem.Challenge.rw_boardkin_k12_so_many_of_each_colour) rfl rfl (fun w h Y=>Y) ?F
 case F =>
  intro w mg fa h KX G hmg
  refine' Internal.k12.all_mk KX G hmg ?a1 ?l1 ?c1 ?k1 ?a2 ?l2 ?c2 ?k2 ?a3 ?l3 ?c3 ?k3 ?a4 ?l4 ?c4 ?k4 ?a5 ?l5 ?c5 ?k5 ?a6 ?l6 ?c6 ?k6 ?a7 ?l7 ?c7 ?k7 ?a8 ?l8 ?c8 ?k8 ?a9 ?l9 ?c9 ?k9 ?a10 ?l10 ?c10 ?k10 ?a11 ?l11 ?c11 ?k11 ?a12 ?l12 ?c12 ?k12 ?a13 ?l13 ?c13 ?k13 ?a14 ?l14 ?c14 ?k14 ?a15 ?l15 ?c15 ?k15 ?a16 ?l16 ?c16 ?k16 ?a17 ?l17 ?c17 ?k17 ?a18 ?l18 ?c18 ?k18 ?a19 ?l19 ?c19 ?k19 ?a20 ?l20 ?c20 ?k20 ?a21 ?l21 ?c21 ?k21 ?a22 ?l22 ?c22 ?k22 ?a23 ?l23 ?c23 ?k23 ?a24 ?l24 ?c24 ?k24 ?a25 ?l25 ?c25 ?k25 ?a26 ?l26 ?c26 ?k26 ?a27 ?l27 ?c27 ?k27 ?a28 ?l28 ?c28 ?k28 ?a29 ?l29 ?c29 ?k29 ?a30 ?l30 ?c30 ?k30 ?a31 ?l31 ?c31 ?k31 ?a32 ?l32 ?c32 ?k32 ?a33 ?l33 ?c33 ?k33 ?a34 ?l34 ?c34 ?k34 ?a35 ?l35 ?c35 ?k35 ?z1 ?z2 ?z3 ?z4 ?z5 ?z6 ?z7 ?z8 ?z9 ?z10 ?z11 ?z12 ?z13 ?q1 ?q2 ?q3 ?y_m_KinError ?y_m_NotSquare ?y_m_BadNumbers ?y_x1_NotSquare ?y_x2_NotSquare ?y_x3_NotSquare ?y_x4_NotSquare ?y_x1_BadNumbers ?y_x2_BadNumbers ?y_x3_BadNumbers ?y_x4_BadNumbers ?y_s_NotSquare ?y_w_NotSquare ?y_v_NotSquare ?y_k_NotSquare_NotSquare ?y_k_NotSquare_BadNumbers ?y_s_BadNumbers ?y_w_BadNumbers ?y_v_BadNumbers ?y_k_BadNumbers_NotSquare ?y_k_BadNumbers_BadNumbers ?y_e_KinError
  (case a1=>k_is)
  (case l1=>k_is)
  (case c1=>k_is)
  (case k1=>k_is)
  (case a2=>k_is)
  (case l2=>k_is)
  (case c2=>k_is)
  (case k2=>k_is)
  (case a3=>k_is)
  (case l3=>k_is)
  (case c3=>k_is)
  (case k3=>k_is)
  (case a4=>k_is)
  (case l4=>k_is)
  (case c4=>k_is)
  (case k4=>k_is)
  (case a5=>k_is)
  (case l5=>k_is)
  (case c5=>k_is)
  (case k5=>k_is)
  (case a6=>k_is)
  (case l6=>k_is)
  (case c6=>k_is)
  (case k6=>k_is)
  (case a7=>k_is)
  (case l7=>k_is)
  (case c7=>k_is)
  (case k7=>k_is)
  (case a8=>k_is)
  (case l8=>k_is)
  (case c8=>k_is)
  (case k8=>k_is)
  (case a9=>k_is)
  (case l9=>k_is)
  (case c9=>k_is)
  (case k9=>k_is)
  (case a10=>k_is)
  (case l10=>k_is)
  (case c10=>k_is)
  (case k10=>k_is)
  (case a11=>k_is)
  (case l11=>k_is)
  (case c11=>k_is)
  (case k11=>k_is)
  (case a12=>k_is)
  (case l12=>k_is)
  (case c12=>k_is)
  (case k12=>k_is)
  (case a13=>k_is)
  (case l13=>k_is)
  (case c13=>k_is)
  (case k13=>k_is)
  (case a14=>k_is)
  (case l14=>k_is)
  (case c14=>k_is)
  (case k14=>k_is)
  (case a15=>k_is)
  (case l15=>k_is)
  (case c15=>k_is)
  (case k15=>k_is)
  (case a16=>k_is)
  (case l16=>k_is)
  (case c16=>k_is)
  (case k16=>k_is)
  (case a17=>k_is)
  (case l17=>k_is)
  (case c17=>k_is)
  (case k17=>k_is)
  (case a18=>k_is)
  (case l18=>k_is)
  (case c18=>k_is)
  (case k18=>k_is)
  (case a19=>k_is)
  (case l19=>k_is)
  (case c19=>k_is)
  (case k19=>k_is)
  (case a20=>k_is)
  (case l20=>k_is)
  (case c20=>k_is)
  (case k20=>k_is)
  (case a21=>k_is)
  (case l21=>k_is)
  (case c21=>k_is)
  (case k21=>k_is)
  (case a22=>k_is)
  (case l22=>k_is)
  (case c22=>k_is)
  (case k22=>k_is)
  (case a23=>k_is)
  (case l23=>k_is)
  (case c23=>k_is)
  (case k23=>k_is)
  (case a24=>k_is)
  (case l24=>k_is)
  (case c24=>k_is)
  (case k24=>k_is)
  (case a25=>k_is)
  (case l25=>k_is)
  (case c25=>k_is)
  (case k25=>k_is)
  (case a26=>k_is)
  (case l26=>k_is)
  (case c26=>k_is)
  (case k26=>k_is)
  (case a27=>k_is)
  (case l27=>k_is)
  (case c27=>k_is)
  (case k27=>k_is)
  (case a28=>k_is)
  (case l28=>k_is)
  (case c28=>k_is)
  (case k28=>k_is)
  (case a29=>k_is)
  (case l29=>k_is)
  (case c29=>k_is)
  (case k29=>k_is)
  (case a30=>k_is)
  (case l30=>k_is)
  (case c30=>k_is)
  (case k30=>k_is)
  (case a31=>k_is)
  (case l31=>k_is)
  (case c31=>k_is)
  (case k31=>k_is)
  (case a32=>k_is)
  (case l32=>k_is)
  (case c32=>k_is)
  (case k32=>k_is)
  (case a33=>k_is)
  (case l33=>k_is)
  (case c33=>k_is)
  (case k33=>k_is)
  (case a34=>k_is)
  (case l34=>k_is)
  (case c34=>k_is)
  (case k34=>k_is)
  (case a35=>k_is)
  (case l35=>k_is)
  (case c35=>k_is)
  (case k35=>k_is)
  (case z1=>k_is)
  (case z2=>k_is)
  (case z3=>k_is)
  (case z4=>k_is)
  (case z5=>k_is)
  (case z6=>k_is)
  (case z7=>k_is)
  (case z8=>k_is)
  (case z9=>k_is)
  (case z10=>k_is)
  (case z11=>k_is)
  (case z12=>k_is)
  (case z13=>k_is)
  (case q1=>k_is)
  (case q2=>k_is)
  (case q3=>k_is)
  (case y_m_KinError=>k_is)
  (case y_m_NotSquare=>k_is)
  (case y_m_BadNumbers=>k_is)
  (case y_x1_NotSquare=>k_exc)
  (case y_x2_NotSquare=>k_is)
  (case y_x3_NotSquare=>k_is)
  (case y_x4_NotSquare=>k_is)
  (case y_x1_BadNumbers=>k_exc)
  (case y_x2_BadNumbers=>k_is)
  (case y_x3_BadNumbers=>k_is)
  (case y_x4_BadNumbers=>k_is)
  (case y_s_NotSquare=>k_is)
  (case y_w_NotSquare=>k_is)
  (case y_v_NotSquare=>kit_is)
  (case y_k_NotSquare_NotSquare=>kit_is)
  (case y_k_NotSquare_BadNumbers=>kit_is)
  (case y_s_BadNumbers=>k_is)
  (case y_w_BadNumbers=>k_is)
  (case y_v_BadNumbers=>kit_is)
  (case y_k_BadNumbers_NotSquare=>kit_is)
  (case y_k_BadNumbers_BadNumbers=>kit_is)
  (case y_e_KinError=>k_exc)
end
