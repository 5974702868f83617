import PyProof.Rows.All
import Wide.All
import OpenK.AllK
import Wide.FinOn
import Lean
import PyProof.EqAt
import PyProof.EqKinds
import PyProof.TupleCall
import PyProof.StrWalks
import PyProof.StrOps
import PyProof.CallType
import PyProof.ReprLoop
import PyProof.WalksMore
import PyProof.FactsAll.str
import PyProof.FactsAll.object
import PyProof.StrLawsIn
import PyProof.StrCalls6
import PyProof.ToksMono
import PySem.Challenge.RW_twistturn_k08_answers_by_hand
set_option Elab.async false
set_option linter.all false
set_option maxRecDepth 100000
namespace L2
open PySem PySem.Spec PyProof.Rows
abbrev Key := Sum Int Str
def keyIs : Key → Value → Bool
 | .inl k, v => Value.isInt k v
 | .inr x, v => Value.isStrOf x v
def keyH (w : World) : Key → Int
 | .inl k => hashInt k
 | .inr x => hashStr w x
theorem a2q : ∀ {k : Key} {v : Value}, keyIs k v = true → (∃ i t, k = Sum.inl i ∧ v = Value.int i t) ∨ (∃ x t, k = Sum.inr x ∧ v = Value.str x t)
 | .inl i, v, h => by
  obtain ⟨t, e⟩ := Value.isInt_shape (k := i) (v := v) h
  exact .inl ⟨i, t, rfl, e⟩
 | .inr x, v, h => by
  obtain ⟨t, e⟩ := Value.isStrOf_shape (x := x) (v := v) h
  exact .inr ⟨x, t, rfl, e⟩
theorem keyIs_int (i : Int) (t : Tok) : keyIs (.inl i) (.int i t) = true := by simp [keyIs, Value.isInt]
theorem keyIs_str (x : Str) (t : Tok) : keyIs (.inr x) (.str x t) = true := by simp [keyIs, Value.isStrOf]
theorem key_ll (a b : Int) : decide ((Sum.inl a : Key) = Sum.inl b) = (a == b) := by
 by_cases e : a = b
 ·subst e; simp
 ·have h : ¬ (Sum.inl a : Key) = Sum.inl b := fun q => e (Sum.inl.inj q)
  rw [decide_eq_false h]
  exact (beq_eq_false_iff_ne.mpr e).symm
theorem key_rr (a b : Str) : decide ((Sum.inr a : Key) = Sum.inr b) = decide (a = b) := by
 by_cases e : a = b
 ·subst e; simp
 ·have h : ¬ (Sum.inr a : Key) = Sum.inr b := fun q => e (Sum.inr.inj q)
  rw [decide_eq_false h, decide_eq_false e]
theorem key_lr (a : Int) (b : Str) : decide ((Sum.inl a : Key) = Sum.inr b) = false := decide_eq_false (fun q => nomatch q)
theorem key_rl (a : Str) (b : Int) : decide ((Sum.inr a : Key) = Sum.inl b) = false := decide_eq_false (fun q => nomatch q)
def a3i (prog : Program) (w : World) : PySem.KeyKind prog w Key where
 is := keyIs
 hash := keyH w
 inj := fun v a b ha hb => by
  rcases a2q ha with ⟨i, t, rfl, rfl⟩ | ⟨x, t, rfl, rfl⟩
  ·rcases a2q hb with ⟨j, u, rfl, e⟩ | ⟨y, u, rfl, e⟩
   ·injection e with e1 _; rw [e1]
   ·exact nomatch e
  ·rcases a2q hb with ⟨j, u, rfl, e⟩ | ⟨y, u, rfl, e⟩
   ·exact nomatch e
   ·injection e with e1 _; rw [e1]
 byValue := fun k v h => by
  rcases a2q h with ⟨i, t, rfl, rfl⟩ | ⟨x, t, rfl, rfl⟩ <;> rfl
 pyHash := fun hv h => by
  rcases a2q hv with ⟨i, t, rfl, rfl⟩ | ⟨x, t, rfl, rfl⟩
  ·exact wpAny_pyHash_int h
  ·exact wpAny_pyHash_str h
 eqBool := fun hu hv h => by
  rcases a2q hu with ⟨i, t, rfl, rfl⟩ | ⟨x, t, rfl, rfl⟩
  ·rcases a2q hv with ⟨j, u, rfl, rfl⟩ | ⟨y, u, rfl, rfl⟩
   ·rw [key_ll] at h; exact wpAny_eqBool_int h
   ·rw [key_lr] at h; exact SeqAt.EqAt.int_str i t y u _ _ _ _ h
  ·rcases a2q hv with ⟨j, u, rfl, rfl⟩ | ⟨y, u, rfl, rfl⟩
   ·rw [key_rl] at h; exact SeqAt.EqAt.str_int x t j u _ _ _ _ h
   ·rw [key_rr] at h; exact wpAny_eqBool_str h
 «strs» := fun k x t v h => by
  rcases a2q h with ⟨i, u, rfl, e⟩ | ⟨y, u, rfl, e⟩
  ·exact nomatch e
  ·injection e with e1 _
   subst e1
   cases v <;> rfl
theorem mixKind_int (prog : Program) (w : World) (i : Int) (t : Tok) : (a3i prog w).is (.inl i) (.int i t) = true := keyIs_int i t
theorem mixKind_str (prog : Program) (w : World) (x : Str) (t : Tok) : (a3i prog w).is (.inr x) (.str x t) = true := keyIs_str x t
end L2
namespace L2
open PySem PySem.Spec PyProof.Rows
inductive V where
 | non | bl (b : Bool) | int (i : Int) | str (x : Str) | byt (b : Array UInt8) | flt (b : UInt64) | ref (a : Addr) | ty (n : String) | stk (x : Str) (t : Tok)
 deriving DecidableEq
def RelV : V → Value → Prop
 | .non, u => u = Value.none
 | .bl b, u => u = Value.bool b
 | .int i, u => ∃ t, u = Value.int i t
 | .str x, u => ∃ t, u = Value.str x t
 | .byt b, u => ∃ t, u = Value.bytes b t
 | .flt b, u => ∃ t, u = Value.float b t
 | .ref a, u => u = Value.ref a
 | .ty n, u => u = Value.type n
 | .stk x t, u => u = Value.str x t ∧ t ≠ 0
def RelV0 (x : V) (u : Value) : Prop := match x with
 | .stk _ _ => False
 | x => RelV x u
theorem RelV0.rel {x : V} {u : Value} (h : RelV0 x u) : RelV x u := by
 cases x <;> first | exact h | exact h.elim
abbrev Vals0 : List V → List Value → Prop := Paired RelV0
abbrev Vals : List V → List Value → Prop := Paired RelV
theorem Vals.length {xs : List V} {us : List Value} (r : Vals xs us) : xs.length = us.length := Paired.length r
theorem Vals.get : ∀ {xs : List V} {us : List Value} {i : Nat} {x : V}, Vals xs us → xs[i]? = some x → ∃ u, us[i]? = some u ∧ RelV x u
 | _, _, _, _, .nil, e => by simp at e
 | _, _, 0, _, .cons r _, e => by simp at e; subst e; exact ⟨_, rfl, r⟩
 | _, _, i + 1, x, .cons _ t, e => by
  obtain ⟨u, h1, h2⟩ := Vals.get (i := i) (x := x) t (by simpa using e)
  exact ⟨u, by simpa using h1, h2⟩
theorem Vals.set {x : V} {u : Value} (r : RelV x u) : ∀ {xs : List V} {us : List Value} (i : Nat), Vals xs us → Vals (xs.set i x) (us.set i u)
 | _, _, _, .nil => .nil
 | _, _, 0, .cons _ t => .cons r t
 | _, _, i + 1, .cons q t => .cons q (Vals.set r i t)
theorem Vals.append : ∀ {xs ys : List V} {us ws : List Value}, Vals xs us → Vals ys ws → Vals (xs ++ ys) (us ++ ws)
 | _, _, _, _, .nil, s => s
 | _, _, _, _, .cons r t, s => .cons r (Vals.append t s)
theorem Vals.take : ∀ {xs : List V} {us : List Value} (n : Nat), Vals xs us → Vals (xs.take n) (us.take n)
 | _, _, 0, _ => .nil
 | _, _, _ + 1, .nil => .nil
 | _, _, n + 1, .cons r t => .cons r (Vals.take n t)
theorem Vals.drop : ∀ {xs : List V} {us : List Value} (n : Nat), Vals xs us → Vals (xs.drop n) (us.drop n)
 | _, _, 0, r => r
 | _, _, _ + 1, .nil => .nil
 | _, _, n + 1, .cons _ t => Vals.drop n t
def RelO : Option V → Option Value → Prop
 | some v, some u => RelV v u
 | none, none => True
 | _, _ => False
def KV {κ : Type} : List (κ × V) → List (κ × Value) → Prop := Paired fun (p : κ × V) (q : κ × Value) => p.1 = q.1 ∧ RelV p.2 q.2
def kV : Key → V
 | .inl i => .int i
 | .inr x => .str x
inductive HO where
  | lst (xs : List V)
  | tup (xs : List V)
  | dK (kvs : List (Key × V)) | dT (kvs : List (List Key × V))
  | set (S : Int → Bool) (n : Nat)
  | ins (C dx : Addr) (fs : List (Str × V))
  | own (x : Addr)
  | xd (fs : List (Str × V))
  | met (f x : Addr)
  | rng (lo hi : Int)
  | frz (o : Obj) (u : HO)
  | tbl (ps : Array Value)
  | ext (φ : Heap → Prop)
abbrev Hp := Addr → Option HO
def upd (H : Hp) (a : Addr) (o : HO) : Hp := fun b => if b = a then some o else H b
theorem a02 {H : Hp} {a : Addr} {o : HO} : upd H a o a = some o := by unfold upd; rw [if_pos rfl]
theorem a0p {H : Hp} {a b : Addr} {o : HO} (h : b ≠ a) : upd H a o b = H b := by unfold upd; rw [if_neg h]
theorem a2c {H : Hp} {a : Addr} {o u : HO} : upd (upd H a o) a u = upd H a u := by
 funext b; unfold upd; split <;> rfl
theorem ne_of {H : Hp} {a b : Addr} {o u : HO} (h : H a = some o) (h' : H b = some u) (d : o ≠ u) : a ≠ b := by
 intro e; subst e; rw [h] at h'; exact d (Option.some.inj h')
theorem a0n {H : Hp} {a b : Addr} {o : HO} (h : H a = some o) (h' : H b = none) : a ≠ b := by
 intro e; subst e; rw [h] at h'; cases h'
section
variable (P : Program) (w : World)
def a5g (H : Hp) (h : Heap) (a : Addr) : HO → Prop
 | .lst xs => xs.length ≤ sizeLine ∧ ∃ (its : List Value) (n : Nat), Vals xs its ∧ h.get? a = some { cls := .type "list", data := .seq its.toArray n }
 | .tup xs => xs.length ≤ sizeLine ∧ ∃ its : List Value, Vals xs its ∧ IsTup h a its.toArray
 | .dK kvs => kvs.length ≤ sizeLine ∧ (a == sysModules) = false ∧ ∃ vs, KV kvs vs ∧ h.DictOf (a3i P w) a vs
 | .dT kvs => kvs.length ≤ sizeLine ∧ (a == sysModules) = false ∧ ∃ xs : List (List Key × Addr × Value),
   Paired (fun (p : List Key × V) (q : List Key × Addr × Value) => p.1 = q.1 ∧ H q.2.1 = some (.tup (p.1.map kV)) ∧ RelV p.2 q.2.2) kvs xs ∧
   ∃ o es ep, h.get? a = some o ∧ o.ExactDict ∧ o.data = .dict es ep ∧ es.toList = xs.map (entryOfKey (tupleKind (a3i P w))) ∧ (xs.map (·.1)).Nodup
 | .set S n => h.SetOf (intKind P w) a S n
 | .ins C dx fs => H dx = some (.own a) ∧ fs.length ≤ 1000 ∧ dx ≠ a ∧ h.get? a = some (PySem.W.instObj C dx) ∧
   ∃ mA, h.Ns1 dx mA ∧ (∀ f, RelO (fs.lookup f) (mA f)) ∧ PySem.Within mA (fs.map (·.1))
 | .own _ => ∃ o, h.get? a = some o
 | .xd fs => ∃ mA, h.Ns1 a mA ∧ ∀ f, RelO (fs.lookup f) (mA f)
 | .rng lo hi => ∃ t u v, h.get? a = some { cls := .type "range", data := .fields #[.int lo t, .int hi u, .int 1 v] }
 | .frz o u => h.get? a = some o ∧ a5g H h a u
 | .tbl ps => h.get? a = some { cls := .none, data := .fields ps }
 | .met f x => h.get? a = some (PySem.W.methodObj (.ref f) (.ref x))
 | .ext φ => φ h ∧ (∃ o, h.get? a = some o) ∧ ∀ h1 h2 : Heap, φ h1 → (∀ o, h1.get? a = some o → h2.get? a = some o) → φ h2
def HOk (H : Hp) (h : Heap) : Prop := ∀ a o, H a = some o → a5g P w H h a o
end
section
variable {P : Program} {w : World} {H H' : Hp} {h h' : Heap} {a : Addr} {o : HO}
theorem a5g.lt (x : a5g P w H h a o) : a < h.objs.size := by
 cases o with
 | lst xs => obtain ⟨_, _, _, _, e⟩ := x; exact Heap.lt_size e
 | tup xs => obtain ⟨_, _, _, p⟩ := x; exact p.lt
 | dK kvs => obtain ⟨_, _, _, _, o, _, _, e, _⟩ := x; exact Heap.lt_size e
 | dT kvs => obtain ⟨_, _, _, _, o, _, _, e, _⟩ := x; exact Heap.lt_size e
 | set S n => obtain ⟨o, _, _, _, e, _⟩ := x; exact Heap.lt_size e
 | ins C dx fs => obtain ⟨_, _, _, e, _⟩ := x; exact Heap.lt_size e
 | own y => obtain ⟨_, e⟩ := x; exact Heap.lt_size e
 | xd fs => obtain ⟨_, ⟨_, _, _, e, _⟩, _⟩ := x; exact Heap.lt_size e
 | rng lo hi => obtain ⟨_, _, _, e⟩ := x; exact Heap.lt_size e
 | frz ob u => obtain ⟨e, _⟩ := x; exact Heap.lt_size e
 | tbl ps => exact Heap.lt_size (show h.get? a = some _ from x)
 | met f y => exact Heap.lt_size (show h.get? a = some _ from x)
 | ext φ => obtain ⟨_, ⟨_, e⟩, _⟩ := x; exact Heap.lt_size e
theorem Paired.mapP {α β : Type} {F G : α → β → Prop} : ∀ {l₁ : List α} {l₂ : List β}, Paired F l₁ l₂ → (∀ a b, F a b → G a b) → Paired G l₁ l₂
 | _, _, .nil, _ => .nil
 | _, _, .cons r t, f => .cons (f _ _ r) (Paired.mapP t f)
theorem a5g.stay (x : a5g P w H h a o) (k : ∀ b u, (b = a ∨ H b = some (.own a)) → h.get? b = some u → h'.get? b = some u)
  (ho : ∀ b, H b = some (.own a) → H' b = some (.own a)) (ht : ∀ b xs, H b = some (.tup xs) → H' b = some (.tup xs)) : a5g P w H' h' a o := by
 induction o with
 | lst xs => obtain ⟨z, its, n, r, e⟩ := x; exact ⟨z, its, n, r, k _ _ (.inl rfl) e⟩
 | tup xs => obtain ⟨z, its, r, ob, e, c⟩ := x; exact ⟨z, its, r, ob, k _ _ (.inl rfl) e, c⟩
 | dK kvs => obtain ⟨z, y, vs, r, ob, es, ep, e, c⟩ := x; exact ⟨z, y, vs, r, ob, es, ep, k _ _ (.inl rfl) e, c⟩
 | dT kvs =>
  obtain ⟨z, y, xs, r, ob, es, ep, e, c⟩ := x
  exact ⟨z, y, xs, Paired.mapP r fun p q z => ⟨z.1, ht _ _ z.2.1, z.2.2⟩, ob, es, ep, k _ _ (.inl rfl) e, c⟩
 | set S n => obtain ⟨ob, es, ep, t, e, c⟩ := x; exact ⟨ob, es, ep, t, k _ _ (.inl rfl) e, c⟩
 | ins C dx fs =>
  obtain ⟨d, z, ne, e, mA, ⟨od, es, ep, e2, c⟩, r⟩ := x
  exact ⟨ho _ d, z, ne, k _ _ (.inl rfl) e, mA, ⟨od, es, ep, k _ _ (.inr d) e2, c⟩, r⟩
 | own y => obtain ⟨ob, e⟩ := x; exact ⟨ob, k _ _ (.inl rfl) e⟩
 | xd fs => obtain ⟨mA, ⟨od, es, ep, e, c⟩, r⟩ := x; exact ⟨mA, ⟨od, es, ep, k _ _ (.inl rfl) e, c⟩, r⟩
 | rng lo hi => obtain ⟨t, u, v, e⟩ := x; exact ⟨t, u, v, k _ _ (.inl rfl) e⟩
 | frz ob u ih => obtain ⟨e, q⟩ := x; exact ⟨k _ _ (.inl rfl) e, ih q⟩
 | tbl ps =>
  have e : h.get? a = some { cls := .none, data := .fields ps } := x
  show h'.get? a = some { cls := .none, data := .fields ps }
  exact k a _ (.inl rfl) e
 | met f y =>
  have e : h.get? a = some (PySem.W.methodObj (.ref f) (.ref y)) := x
  show h'.get? a = some (PySem.W.methodObj (.ref f) (.ref y))
  exact k a _ (.inl rfl) e
 | ext φ => obtain ⟨p, ⟨o, e⟩, st⟩ := x; exact ⟨st _ _ p fun o q => k _ _ (.inl rfl) q, ⟨o, k _ _ (.inl rfl) e⟩, st⟩
theorem HOk.lt (x : HOk P w H h) (e : H a = some o) : a < h.objs.size := (x a o e).lt
theorem HOk.fresh (x : HOk P w H h) (e : h.objs.size ≤ a) : H a = none := by
 cases q : H a with
 | none => rfl
 | some u => exact absurd (Nat.lt_of_lt_of_le (x.lt q) e) (Nat.lt_irrefl _)
theorem HOk.kept (x : HOk P w H h) (k : ∀ b u, h.get? b = some u → h'.get? b = some u) : HOk P w H h' := fun a o e =>
 (x a o e).stay (fun b u _ q => k b u q) (fun _ q => q) fun _ _ q => q
theorem HOk.laid (x : HOk P w H h) (k : ∀ b u, h.get? b = some u → h'.get? b = some u) (hp : h.objs.size ≤ a) (new : a5g P w (upd H a o) h' a o) : HOk P w (upd H a o) h' := fun b u e => by
 have hn := x.fresh hp
 by_cases hb : b = a
 ·subst hb; rw [a02] at e; cases e; exact new
 ·rw [a0p hb] at e
  exact (x b u e).stay (fun c v _ q => k c v q) (fun c q => by rw [a0p (a0n q hn)]; exact q) fun c xs q => by rw [a0p (a0n q hn)]; exact q
end
def Rd (H : Hp) (a : Addr) (u : HO) : Prop := H a = some u ∨ ∃ o, H a = some (.frz o u)
theorem Rd.ok {P : Program} {w : World} {H : Hp} {h : Heap} {a : Addr} {u : HO} (r : Rd H a u) (x : HOk P w H h) : a5g P w H h a u := by
 rcases r with r | ⟨o, r⟩
 ·exact x a u r
 ·obtain ⟨_, q⟩ := x a _ r
  exact q
def Mut : Option HO → Prop
 | some (.lst _) => True
 | some (.dK _) => True
 | some (.dT _) => True
 | some (.set _ _) => True
 | some (.ins _ _ _) => True
 | some (.ext _) => True
 | _ => False
section
variable {P : Program} {w : World} {H : Hp} {h h' : Heap} {x e : Addr} {o' : HO}
theorem HOk.write (ok : HOk P w H h) (mu : Mut (H x)) (he : e = x ∨ H e = some (.own x)) (k : ∀ b u, b ≠ e → h.get? b = some u → h'.get? b = some u) (heo : ∃ u, h'.get? e = some u)
  (new : a5g P w (upd H x o') h' x o') : HOk P w (upd H x o') h' := fun b u q => by
 have nown : ∀ c y, H c = some (.own y) → c ≠ x := fun c y r z => by subst z; rw [r] at mu; exact mu
 have ntup : ∀ c xs, H c = some (.tup xs) → c ≠ x := fun c xs r z => by subst z; rw [r] at mu; exact mu
 by_cases hb : b = x
 ·subst hb; rw [a02] at q; cases q; exact new
 ·rw [a0p hb] at q
  by_cases hbe : b = e
  ·have q' : H b = some (.own x) := by
    rcases he with z | z
    ·exact absurd (hbe.trans z) hb
    ·rw [hbe]; exact z
   rw [q] at q'; cases q'
   obtain ⟨v, hv⟩ := heo
   exact ⟨v, by rw [hbe]; exact hv⟩
  ·refine (ok b u q).stay (fun c v hc r => k c v ?_ r) (fun c r => by rw [a0p (nown c b r)]; exact r) fun c xs r => by rw [a0p (ntup c xs r)]; exact r
   rcases hc with rfl | hc
   ·exact hbe
   ·rintro rfl
    rcases he with z | z
    ·exact nown c b hc z
    ·rw [hc] at z; cases z; exact hb rfl
end
structure Un (fs ex : List Addr) (H H' : Hp) (h h' : Heap) : Prop where
 keep : ∀ b o, h.get? b = some o → H b = none → b ∉ fs → b ∉ ex → h'.get? b = some o
 slot : ∀ b o, h.get? b = some o → H b = none → b ∈ fs → b ∉ ex → ∃ sl, h'.get? b = some { o with slots := sl }
 free : ∀ b o, h.get? b = some o → H b = none → b ∉ ex → H' b = none
 there : ∀ b o, h.get? b = some o → b ∉ ex → ∃ o', h'.get? b = some o'
 tups : ∀ b xs, H b = some (.tup xs) → H' b = some (.tup xs)
 frzs : ∀ b o u, H b = some (.frz o u) → H' b = some (.frz o u)
 tbls : ∀ b ps, H b = some (.tbl ps) → ∃ more, H' b = some (.tbl (ps ++ more))
section
variable {fs fs' ex ex' : List Addr} {H H1 H2 : Hp} {h h1 h2 h' : Heap} {a x e : Addr} {o : HO}
theorem Un.any (u : Un fs ex H H1 h h1) {b : Addr} {ob : Obj} (q : h.get? b = some ob) (n : H b = none) (hx : b ∉ ex) : ∃ sl, h1.get? b = some { ob with slots := sl } := by
 by_cases hb : b ∈ fs
 ·exact u.slot b ob q n hb hx
 ·exact ⟨ob.slots, u.keep b ob q n hb hx⟩
theorem Un.kept (k : ∀ b u, h.get? b = some u → h'.get? b = some u) : Un fs ex H H h h' :=
 ⟨fun b ob q _ _ _ => k b ob q, fun b ob q _ _ _ => ⟨ob.slots, k b ob q⟩, fun _ _ _ n _ => n, fun b ob q _ => ⟨ob, k b ob q⟩, fun _ _ q => q, fun _ _ _ q => q, fun _ ps q => ⟨#[], by rw [q]; simp⟩⟩
theorem Un.refl : Un fs ex H H h h := Un.kept fun _ _ q => q
theorem Un.laid (k : ∀ b u, h.get? b = some u → h'.get? b = some u) (hp : h.objs.size ≤ a) (hn : H a = none) : Un fs ex H (upd H a o) h h' where
 keep := fun b u q _ _ _ => k b u q
 slot := fun b u q _ _ _ => ⟨u.slots, k b u q⟩
 free := fun b u q n _ => by rw [a0p (Nat.ne_of_lt (Nat.lt_of_lt_of_le (Heap.lt_size q) hp))]; exact n
 there := fun b u q _ => ⟨u, k b u q⟩
 tups := fun b xs q => by rw [a0p (a0n q hn)]; exact q
 frzs := fun b u xs q => by rw [a0p (a0n q hn)]; exact q
 tbls := fun b ps q => ⟨#[], by rw [a0p (a0n q hn), q]; simp⟩
theorem Un.write (mu : Mut (H x)) (he : e = x ∨ H e = some (.own x)) (k : ∀ b u, b ≠ e → h.get? b = some u → h'.get? b = some u) (heo : ∃ u, h'.get? e = some u) : Un fs ex H (upd H x o) h h' := by
 have hx : ∀ b, H b = none → b ≠ x := fun b n z => by subst z; rw [n] at mu; exact mu
 have hb : ∀ b, H b = none → b ≠ e := fun b n z => by
  subst z
  rcases he with r | r
  ·exact hx b n r
  ·rw [n] at r; cases r
 have hm : ∀ b u, H b = some u → ¬ Mut (some u) → b ≠ x := fun b u q nm z => by subst z; rw [q] at mu; exact nm mu
 refine ⟨fun b u q n _ _ => k b u (hb b n) q, fun b u q n _ _ => ⟨u.slots, k b u (hb b n) q⟩, fun b u q n _ => by rw [a0p (hx b n)]; exact n, fun b u q _ => ?_,
  fun b xs q => by rw [a0p (hm b _ q fun z => z)]; exact q, fun b u xs q => by rw [a0p (hm b _ q fun z => z)]; exact q, fun b ps q => ⟨#[], by rw [a0p (hm b _ q fun z => z), q]; simp⟩⟩
 by_cases hbe : b = e
 ·subst hbe; exact heo
 ·exact ⟨u, k b u hbe q⟩
end
def trk (h : Heap) (H : Hp) : List Addr := (List.range h.objs.size).filter fun a => (H a).isSome
def hidT (h : Heap) (H : Hp) : Heap := PySem.W.hideAll h (trk h H)
theorem hidT_size (h : Heap) (H : Hp) : (hidT h H).objs.size = h.objs.size := PySem.W.hideAll_size _ _
theorem hidT_get {h : Heap} {H : Hp} {b : Addr} {o : Obj} (e : h.get? b = some o) (n : H b = none) : (hidT h H).get? b = some o :=
 PySem.W.hideAll_get _ e fun hm => by
  have q : (H b).isSome = true := (List.mem_filter.mp hm).2
  rw [n] at q; simp at q
theorem of_hidT {h : Heap} {H : Hp} {b : Addr} {o : Obj} (e : (hidT h H).get? b = some o) : h.get? b = some o ∧ H b = none := by
 have e' : h.get? b = some o := PySem.W.of_hideAll (trk h H) e
 refine ⟨e', ?_⟩
 cases q : H b with
 | none => rfl
 | some x =>
  have hm : b ∈ trk h H := List.mem_filter.mpr ⟨List.mem_range.mpr (Heap.lt_size e'), by simp [q]⟩
  have z : (hidT h H).get? b = none := PySem.W.hideAll_none (trk h H) hm
  rw [z] at e; cases e
end L2
namespace L2
open PySem PySem.Spec PyProof.Rows
structure Mod (K : PySem.W.Frag) (mg : Str → Option Value) (base : Heap) : Prop where
 kin : K.In base
 glob : base.Ns mainGlobals mg
 blt : ∃ mb, base.Ns builtinsNs mb ∧ ∀ x : Str, x ≠ "__name__" → mb x = bootBuiltins x
 nolimit : base.NoLimit
structure Cx where
 prog : Program
 w : World
 K : PySem.W.Frag
 mg : Str → Option Value
 base : Heap
 A : Around
 N : List Str
 s₀ : Shared
 H₀ : Hp
 env : Env
 outer : List Env
 stack : List Env
 ex : List Addr
 fn : Str → Bool
 calm : Bool
 pn : List (Addr × Obj)
 xe : Value → Shared → Prop
def frs (l : List Env) : List Addr := l.filterMap (·.frame)
abbrev Cx.fs (X : Cx) : List Addr := frs X.outer
def Vis (sc : Scope) (x : Str) : Prop := sc.names.lookup x = some .local ∨ sc.names.lookup x = some .cell ∨ sc.names.lookup x = some .free
def Loc (sc : Scope) (x : Str) : Prop := sc.names.lookup x = some .local ∨ sc.names.lookup x = some .cell
def Look (env : Env) (h : Heap) (m : Str → Option Value) (x : Str) (u : Value) : Prop :=
 (env.kindOf x = some .local ∧ m x = some u) ∨ ((env.kindOf x = some .cell ∨ env.kindOf x = some .free) ∧ ∃ c, env.cells.lookup x = some c ∧ h.IsCell c (some u))
structure Cx.Ok (X : Cx) : Prop where
 mod : Mod X.K X.mg X.base
 kind : X.env.scope.kind = .function
 glob : X.env.globals = mainGlobals
 blt : X.env.builtins = builtinsNs
 above : X.s₀.heap.objs.size ≤ X.env.locals
 inj : ∀ x y c, X.env.cells.lookup x = some c → X.env.cells.lookup y = some c → x = y
 has : ∀ x, (X.env.kindOf x = some .cell ∨ X.env.kindOf x = some .free) → ∃ c, X.env.cells.lookup x = some c
 cab : ∀ x c, X.fn x = true → X.env.cells.lookup x = some c → X.s₀.heap.objs.size ≤ c
 hd : X.calm = true → X.A.handled = none
 frames : X.A.frames = some X.stack
 stk : X.stack = X.outer ∨ (X.stack = X.env :: X.outer ∧ X.env.frame = some X.env.locals)
 exf : ∀ b ∈ X.ex, b ≠ X.env.locals ∧ ∀ x c, X.env.cells.lookup x = some c → c ≠ b
 bs : ∀ b o, X.base.get? b = some o → X.s₀.heap.get? b = some o ∧ X.H₀ b = none
 bsz : X.base.objs.size ≤ X.s₀.heap.objs.size
 noex : ∀ b o, X.base.get? b = some o → b ∉ X.ex
 exfs : ∀ b ∈ X.ex, b ∉ X.fs
 funs : X.s₀.heap.FunFrames X.base X.outer
 frf : ∀ b ∈ X.fs, X.H₀ b = none
structure Inv (X : Cx) (pins : List (Addr × Obj)) (σ : List (Option V)) (H : Hp) (s : Shared) : Prop where
 ok : X.Ok
 os : s.os = X.s₀.os
 bare : AllBare s.gens
 base : Un X.fs X.ex X.H₀ H X.s₀.heap s.heap
 loc : ∃ m, s.heap.Ns X.env.locals m ∧ ∀ (i : Nat) (x : Str) (v : V), X.N[i]? = some x → σ[i]? = some (some v) → Vis X.env.scope x → ∃ u, RelV v u ∧ Look X.env s.heap m x u
 cell : ∀ x c, X.env.cells.lookup x = some c → ∃ v, s.heap.IsCell c v
 free : H X.env.locals = none
 freeC : ∀ x c, X.env.cells.lookup x = some c → H c = none
 pin : ∀ p ∈ X.pn ++ pins, s.heap.get? p.1 = some p.2 ∧ H p.1 = none ∧ p.1 ≠ X.env.locals ∧ p.1 ∉ X.fs ∧ ∀ v, p.2.data ≠ .cell v
 hok : HOk X.prog X.w H s.heap
 len : σ.length = X.N.length
section
variable {X : Cx} {pins : List (Addr × Obj)} {σ : List (Option V)} {H H' : Hp} {s : Shared} {h' : Heap}
theorem Cx.Ok.nofr (ok : X.Ok) {b : Addr} {o : Obj} (e : X.base.get? b = some o) : b ∉ X.fs := fun hb => by
 have := (ok.funs.mem hb).1
 rw [e] at this; cases this
theorem Inv.bs (I : Inv X pins σ H s) : ∀ b o, X.base.get? b = some o → s.heap.get? b = some o ∧ H b = none := fun b o e =>
 ⟨I.base.keep b o (I.ok.bs b o e).1 (I.ok.bs b o e).2 (I.ok.nofr e) (I.ok.noex b o e), I.base.free b o (I.ok.bs b o e).1 (I.ok.bs b o e).2 (I.ok.noex b o e)⟩
theorem Inv.bk (I : Inv X pins σ H s) : ∀ b o, X.base.get? b = some o → s.heap.get? b = some o := fun b o e => (I.bs b o e).1
theorem Inv.mod (I : Inv X pins σ H s) : Mod X.K X.mg X.base := I.ok.mod
theorem Inv.kIn (I : Inv X pins σ H s) : X.K.In s.heap := I.ok.mod.kin.keeps I.bk
theorem Inv.fr (I : Inv X pins σ H s) : ∃ m, Fr X.base X.env.locals s.heap m :=
 let ⟨m, hn, _⟩ := I.loc
 ⟨m, hn, I.bk, Nat.le_trans I.ok.bsz I.ok.above⟩
theorem Inv.lt (I : Inv X pins σ H s) : X.env.locals < s.heap.objs.size := let ⟨_, hn, _⟩ := I.loc; hn.lt
theorem Inv.sz (I : Inv X pins σ H s) : X.s₀.heap.objs.size ≤ s.heap.objs.size := Nat.le_trans I.ok.above (Nat.le_of_lt I.lt)
theorem Inv.nofs (I : Inv X pins σ H s) {a : Addr} (h : s.heap.objs.size ≤ a) : a ∉ X.fs := fun hb => by
 obtain ⟨_, o, ho, _⟩ := I.ok.funs.mem hb
 exact absurd (Nat.lt_of_lt_of_le (Heap.lt_size ho) (Nat.le_trans I.sz h)) (Nat.lt_irrefl _)
theorem Inv.cne (I : Inv X pins σ H s) : ∀ x c, X.env.cells.lookup x = some c → c ≠ X.env.locals := fun x c e z => by
 obtain ⟨v, o, ho, hd⟩ := I.cell x c e
 obtain ⟨m, ⟨o', es, ep, ho', hd', _⟩, _⟩ := I.loc
 rw [z, ho'] at ho; cases ho; rw [hd'] at hd; cases hd
theorem Inv.funs (I : Inv X pins σ H s) : s.heap.FunFrames X.base X.outer := by
 have all : ∀ (l : List Env), (∀ b ∈ frs l, b ∈ X.fs) → X.s₀.heap.FunFrames X.base l → s.heap.FunFrames X.base l := by
  intro l
  induction l with
  | nil => intro _ _; trivial
  | cons env r ih =>
   intro hs hl
   obtain ⟨hk, ⟨L, o, hf, hn, ho, hd⟩, hr⟩ := hl
   have hL : L ∈ X.fs := hs L (by unfold frs; rw [List.filterMap_cons, hf]; exact List.mem_cons_self)
   obtain ⟨sl, e⟩ := I.base.slot L o ho (I.ok.frf L hL) hL fun z => I.ok.exfs L z hL
   exact ⟨hk, ⟨L, _, hf, hn, e, hd⟩, ih (fun b hb => hs b (by unfold frs; rw [List.filterMap_cons, hf]; exact List.mem_cons_of_mem _ hb)) hr⟩
 exact all X.outer (fun _ hb => hb) I.ok.funs
theorem Inv.stack (I : Inv X pins σ H s) : s.heap.FunFrames X.base X.stack := by
 rcases I.ok.stk with e | ⟨e, hf⟩
 ·rw [e]; exact I.funs
 ·rw [e]
  obtain ⟨m, hn, _⟩ := I.loc
  refine .cons (by rw [I.ok.kind]; decide) hf hn ?_ I.funs
  exact Heap.get?_none_of_le (Nat.le_trans I.ok.bsz I.ok.above)
theorem Inv.stkSub (I : Inv X pins σ H s) : ∀ b ∈ frs X.stack, b ∈ X.env.locals :: X.fs := fun b hb => by
 rcases I.ok.stk with e | ⟨e, hf⟩
 ·rw [e] at hb; exact List.mem_cons_of_mem _ hb
 ·rw [e] at hb
  unfold frs at hb
  rw [List.filterMap_cons, hf] at hb
  exact hb
theorem Inv.stkFree (I : Inv X pins σ H s) : ∀ b ∈ frs X.stack, H b = none := fun b hb => by
 rcases List.mem_cons.mp (I.stkSub b hb) with e | hb
 ·rw [e]; exact I.free
 ·obtain ⟨_, o, ho, _⟩ := I.ok.funs.mem hb
  exact I.base.free b o ho (I.ok.frf b hb) fun z => I.ok.exfs b z hb
theorem Inv.step {g' : Array GenState} {t' : Nat} {d' : Drawn} {ch : List Addr} (I : Inv X pins σ H s)
  (hch : ∀ b ∈ ch, (b ∈ X.ex ∨ X.s₀.heap.objs.size ≤ b) ∧ b ≠ X.env.locals ∧ (∀ x c, X.env.cells.lookup x = some c → c ≠ b) ∧ ∀ p ∈ X.pn ++ pins, p.1 ≠ b)
  (keep : ∀ b o, b ≠ X.env.locals → b ∉ X.fs → b ∉ ch → s.heap.get? b = some o → H b = none → h'.get? b = some o)
  (slot : ∀ b o, b ≠ X.env.locals → b ∈ X.fs → b ∉ ch → s.heap.get? b = some o → H b = none → ∃ sl, h'.get? b = some { o with slots := sl }) (free : ∀ b o, b ∉ ch → s.heap.get? b = some o → H b = none → H' b = none)
  (there : ∀ b o, b ∉ ch → s.heap.get? b = some o → ∃ o', h'.get? b = some o')
  (tups : ∀ b xs, H b = some (.tup xs) → H' b = some (.tup xs)) (frzs : ∀ b o u, H b = some (.frz o u) → H' b = some (.frz o u)) (tbls : ∀ b ps, H b = some (.tbl ps) → ∃ more, H' b = some (.tbl (ps ++ more)))
  (ns : ∀ m, s.heap.Ns X.env.locals m → h'.Ns X.env.locals m) (hok : HOk X.prog X.w H' h') (hg : AllBare g') :
  Inv X pins σ H' { s with heap := h', gens := g', drawn := d', toks := t' } := by
 have neL : ∀ b o, X.s₀.heap.get? b = some o → b ≠ X.env.locals := fun b o e => Nat.ne_of_lt (Nat.lt_of_lt_of_le (Heap.lt_size e) I.ok.above)
 have neC : ∀ b o, X.s₀.heap.get? b = some o → b ∉ X.ex → b ∉ ch := fun b o e hx hb => by
  rcases (hch b hb).1 with z | z
  ·exact hx z
  ·exact absurd (Nat.lt_of_lt_of_le (Heap.lt_size e) z) (Nat.lt_irrefl _)
 have cellK : ∀ x c, X.env.cells.lookup x = some c → ∀ v, s.heap.IsCell c v → h'.IsCell c v := fun x c e v ⟨o, ho, hd⟩ => by
  have nch : c ∉ ch := fun z => (hch c z).2.2.1 x c e rfl
  by_cases hc : c ∈ X.fs
  ·obtain ⟨sl, q⟩ := slot c o (I.cne x c e) hc nch ho (I.freeC x c e)
   exact ⟨_, q, hd⟩
  ·exact ⟨o, keep c o (I.cne x c e) hc nch ho (I.freeC x c e), hd⟩
 refine ⟨I.ok, I.os, hg, ⟨fun b o e n hb hx => ?_, fun b o e n hb hx => ?_, fun b o e n hx => ?_, fun b o e hx => ?_, fun b xs e => tups b xs (I.base.tups b xs e), fun b o xs e => frzs b o xs (I.base.frzs b o xs e), fun b ps e => ?_⟩, ?_, fun x c e => ?_, ?_, fun x c e => ?_, fun p hp => ?_, hok, I.len⟩
 ·exact keep b o (neL b o e) hb (neC b o e hx) (I.base.keep b o e n hb hx) (I.base.free b o e n hx)
 ·obtain ⟨sl, e1⟩ := I.base.slot b o e n hb hx
  obtain ⟨sl', e2⟩ := slot b _ (neL b o e) hb (neC b o e hx) e1 (I.base.free b o e n hx)
  exact ⟨sl', e2⟩
 ·obtain ⟨o', e1⟩ := I.base.there b o e hx
  exact free b o' (neC b o e hx) e1 (I.base.free b o e n hx)
 ·obtain ⟨o', e1⟩ := I.base.there b o e hx
  exact there b o' (neC b o e hx) e1
 ·obtain ⟨m1, e1⟩ := I.base.tbls b ps e
  obtain ⟨m2, e2⟩ := tbls b _ e1
  exact ⟨m1 ++ m2, by rw [e2, Array.append_assoc]⟩
 ·obtain ⟨m, hn, hl⟩ := I.loc
  refine ⟨m, ns m hn, fun i x v e1 e2 e3 => ?_⟩
  obtain ⟨u, r, l⟩ := hl i x v e1 e2 e3
  refine ⟨u, r, ?_⟩
  rcases l with l | ⟨k, c, e, z⟩
  ·exact .inl l
  ·exact .inr ⟨k, c, e, cellK x c e _ z⟩
 ·obtain ⟨v, z⟩ := I.cell x c e
  exact ⟨v, cellK x c e v z⟩
 ·obtain ⟨m, ⟨o, _, _, ho, _⟩, _⟩ := I.loc
  exact free _ o (fun z => (hch _ z).2.1 rfl) ho I.free
 ·obtain ⟨v, o, ho, hd⟩ := I.cell x c e
  exact free c o (fun z => (hch c z).2.2.1 x c e rfl) ho (I.freeC x c e)
 ·obtain ⟨e, n, ne, nf, d⟩ := I.pin p hp
  have nch : p.1 ∉ ch := fun z => (hch p.1 z).2.2.2 p hp rfl
  exact ⟨keep p.1 p.2 ne nf nch e n, free p.1 p.2 nch e n, ne, nf, d⟩
theorem Inv.un {t' : Nat} (I : Inv X pins σ H s) (u : Un X.fs [] H H' s.heap h') (hok : HOk X.prog X.w H' h') : Inv X pins σ H' { s with heap := h', toks := t' } := by
 obtain ⟨m, ⟨o, es, ep, ho, r⟩, _⟩ := id I.loc
 obtain ⟨sl, hL⟩ := u.any ho I.free (by simp)
 exact I.step (g' := s.gens) (d' := s.drawn) (ch := []) (fun _ z => nomatch z) (fun b o _ hb _ e n => u.keep b o e n hb (by simp)) (fun b o _ hb _ e n => u.slot b o e n hb (by simp)) (fun b o _ e n => u.free b o e n (by simp)) (fun b o _ e => u.there b o e (by simp)) u.tups u.frzs u.tbls (fun m' hm => by
  obtain ⟨o', es', ep', ho', r'⟩ := hm
  rw [ho] at ho'; cases ho'
  exact ⟨_, es', ep', hL, r'⟩) hok I.bare
theorem Inv.call {g' : Array GenState} {t' : Nat} {d' : Drawn} {ch : List Addr} (I : Inv X pins σ H s) (u : Un (frs X.stack) ch H H' s.heap h') (hok : HOk X.prog X.w H' h') (hg : AllBare g')
  (hch : ∀ b ∈ ch, (b ∈ X.ex ∨ X.s₀.heap.objs.size ≤ b) ∧ b ≠ X.env.locals ∧ (∀ x c, X.env.cells.lookup x = some c → c ≠ b) ∧ ∀ p ∈ X.pn ++ pins, p.1 ≠ b) :
  Inv X pins σ H' { s with heap := h', gens := g', drawn := d', toks := t' } := by
 obtain ⟨m, ⟨o, es, ep, ho, r⟩, _⟩ := id I.loc
 obtain ⟨sl, hL⟩ := u.any ho I.free fun z => (hch _ z).2.1 rfl
 exact I.step (ch := ch) hch (fun b o hL hb hc e n => u.keep b o e n (fun z => (List.mem_cons.mp (I.stkSub b z)).elim hL hb) hc) (fun b o _ _ hc e n => u.any e n hc) (fun b o hc e n => u.free b o e n hc) (fun b o hc e => u.there b o e hc) u.tups u.frzs u.tbls (fun m' hm => by
  obtain ⟨o', es', ep', ho', r'⟩ := hm
  rw [ho] at ho'; cases ho'
  exact ⟨_, es', ep', hL, r'⟩) hok hg
theorem Inv.turned {t' : Nat} {it : Addr} (I : Inv X pins σ H s) (k : ∀ b o, b ≠ it → s.heap.get? b = some o → h'.get? b = some o) (hn : H it = none) (hL : it ≠ X.env.locals)
  (h1 : it ∈ X.ex ∨ X.s₀.heap.objs.size ≤ it) (h2 : ∀ x c, X.env.cells.lookup x = some c → c ≠ it) (h3 : ∀ p ∈ X.pn ++ pins, p.1 ≠ it) : Inv X pins σ H { s with heap := h', toks := t' } := by
 have nit : ∀ b u, H b = some u → b ≠ it := fun b u e z => by rw [z, hn] at e; cases e
 refine I.step (g' := s.gens) (d' := s.drawn) (ch := [it]) (fun b hb => ?_) (fun b o _ _ hc e _ => k b o (fun z => hc (by simp [z])) e) (fun b o _ _ hc e _ => ⟨o.slots, k b o (fun z => hc (by simp [z])) e⟩) (fun _ _ _ _ n => n)
  (fun b o hc e => ⟨o, k b o (fun z => hc (by simp [z])) e⟩) (fun _ _ e => e) (fun _ _ _ e => e) (fun b ps e => ⟨#[], by rw [e]; simp⟩) (fun m hm => ?_) (fun b u e => ?_) I.bare
 ·have e : b = it := by simpa using hb
  subst e
  exact ⟨h1, hL, h2, h3⟩
 ·obtain ⟨o, es, ep, ho, r⟩ := hm
  exact ⟨o, es, ep, k _ o (Ne.symm hL) ho, r⟩
 ·refine (I.hok b u e).stay (fun c v hc q => k c v ?_ q) (fun _ q => q) fun _ _ q => q
  rcases hc with z | z
  ·rw [z]; exact nit b u e
  ·exact nit c _ z
theorem Inv.tok (I : Inv X pins σ H s) (t : Nat) : Inv X pins σ H { s with toks := t } := I.un (h' := s.heap) (t' := t) Un.refl I.hok
theorem Inv.kept {t' : Nat} (I : Inv X pins σ H s) (k : ∀ b u, s.heap.get? b = some u → h'.get? b = some u) : Inv X pins σ H { s with heap := h', toks := t' } := I.un (Un.kept k) (I.hok.kept k)
theorem Inv.laid {a : Addr} {o : HO} {t' : Nat} (I : Inv X pins σ H s) (k : ∀ b u, s.heap.get? b = some u → h'.get? b = some u) (hp : s.heap.objs.size ≤ a) (new : a5g X.prog X.w (upd H a o) h' a o) :
  Inv X pins σ (upd H a o) { s with heap := h', toks := t' } := I.un (Un.laid k hp (I.hok.fresh hp)) (I.hok.laid k hp new)
theorem Inv.write {x e : Addr} {o : HO} {t' : Nat} (I : Inv X pins σ H s) (mu : Mut (H x)) (he : e = x ∨ H e = some (.own x)) (k : ∀ b u, b ≠ e → s.heap.get? b = some u → h'.get? b = some u) (heo : ∃ u, h'.get? e = some u)
  (new : a5g X.prog X.w (upd H x o) h' x o) : Inv X pins σ (upd H x o) { s with heap := h', toks := t' } := I.un (Un.write mu he k heo) (I.hok.write mu he k heo new)
theorem Inv.weak {σ' : List (Option V)} (I : Inv X pins σ H s) (hl : σ'.length = σ.length) (w : ∀ (i : Nat) v, σ'[i]? = some (some v) → σ[i]? = some (some v)) : Inv X pins σ' H s :=
 ⟨I.ok, I.os, I.bare, I.base, let ⟨m, hn, hl'⟩ := I.loc; ⟨m, hn, fun i x v e1 e2 e3 => hl' i x v e1 (w i v e2) e3⟩, I.cell, I.free, I.freeC, I.pin, I.hok, hl.trans I.len⟩
theorem Inv.a6r {pins' : List (Addr × Obj)} (I : Inv X pins σ H s) (h : ∀ p ∈ pins', s.heap.get? p.1 = some p.2 ∧ H p.1 = none ∧ p.1 ≠ X.env.locals ∧ p.1 ∉ X.fs ∧ ∀ v, p.2.data ≠ .cell v) : Inv X pins' σ H s :=
 ⟨I.ok, I.os, I.bare, I.base, I.loc, I.cell, I.free, I.freeC, fun p hp => (List.mem_append.mp hp).elim (fun z => I.pin p (List.mem_append_left _ z)) (h p), I.hok, I.len⟩
theorem nodup_ix {N : List Str} (hN : N.Nodup) {i j : Nat} {x : Str} (a : N[i]? = some x) (b : N[j]? = some x) : i = j := by
 obtain ⟨h1, e1⟩ := List.getElem?_eq_some_iff.mp a
 obtain ⟨h2, e2⟩ := List.getElem?_eq_some_iff.mp b
 exact (List.getElem_inj hN).mp (e1.trans e2.symm)
theorem store_ok2 {M : Model} {A : Around} {E : Value → Shared → Prop} {i : Nat} {x : Str} {v : V} {u : Value} {Q : Unit → Shared → Prop} (I : Inv X pins σ H s) (hN : X.N.Nodup) (hi : X.N[i]? = some x) (hx : Loc X.env.scope x) (r : RelV v u)
  (h : ∀ s', Inv X pins (σ.set i (some v)) H s' → (∃ a, Heap.SameBut a s.heap s'.heap ∧ (a = X.env.locals ∨ X.env.cells.lookup x = some a)) → Q () s') (hf : X.fn x = true ∨ X.env.scope.names.lookup x = some .local := by first | exact .inl rfl | exact .inr rfl | assumption) : wpAny M A (storeName X.env x u) Q E s := by
 obtain ⟨m, hn, hl⟩ := id I.loc
 have hcls : (X.env.scope.kind == .class || (X.env.scope.kind == .module && X.env.locals != X.env.globals)) = false := by rw [I.ok.kind]; rfl
 have hiσ : i < σ.length := by rw [I.len]; exact (List.getElem?_eq_some_iff.mp hi).1
 have cne := I.cne
 have tracked : ∀ {a : Addr} {h' : Heap}, (∃ o, s.heap.get? a = some o ∧ H a = none) → Heap.SameBut a s.heap h' → HOk X.prog X.w H h' := fun {a h'} ha hs b ob e => by
  obtain ⟨_, _, hfree⟩ := ha
  refine (I.hok b ob e).stay (fun c w' hc q => (hs.2 c ?_).trans q) (fun _ q => q) fun _ _ q => q
  rintro rfl
  rcases hc with rfl | hc
  ·rw [hfree] at e; cases e
  ·rw [hfree] at hc; cases hc
 rcases hx with hk | hk
 ·refine wpAny_storeName_local hk hn (fun h' hn' hs => ?_) hcls
  obtain ⟨oL, _, _, hoL, _⟩ := id hn
  refine h _ ⟨I.ok, I.os, I.bare, ⟨fun b o e n hb hx => ?_, fun b o e n hb hx => ?_, I.base.free, fun b o e hx => ?_, I.base.tups, I.base.frzs, I.base.tbls⟩, ⟨_, hn', fun j y v' e1 e2 e3 => ?_⟩, fun y c e => ?_, I.free, I.freeC, fun p hp => ?_, tracked ⟨oL, hoL, I.free⟩ hs, by simpa using I.len⟩ ⟨_, hs, .inl rfl⟩
  ·exact (hs.2 b (Nat.ne_of_lt (Nat.lt_of_lt_of_le (Heap.lt_size e) I.ok.above))).trans (I.base.keep b o e n hb hx)
  ·obtain ⟨sl, e1⟩ := I.base.slot b o e n hb hx
   exact ⟨sl, (hs.2 b (Nat.ne_of_lt (Nat.lt_of_lt_of_le (Heap.lt_size e) I.ok.above))).trans e1⟩
  ·obtain ⟨o', e1⟩ := I.base.there b o e hx
   exact ⟨o', (hs.2 b (Nat.ne_of_lt (Nat.lt_of_lt_of_le (Heap.lt_size e) I.ok.above))).trans e1⟩
  ·by_cases hj : j = i
   ·subst hj
    rw [hi] at e1; cases e1
    rw [List.getElem?_set_self hiσ] at e2
    cases e2
    exact ⟨u, r, .inl ⟨hk, by simp⟩⟩
   ·rw [List.getElem?_set_ne (Ne.symm hj)] at e2
    obtain ⟨u', r', q⟩ := hl j y v' e1 e2 e3
    refine ⟨u', r', ?_⟩
    rcases q with ⟨k, e⟩ | ⟨k, c, e, z⟩
    ·refine .inl ⟨k, ?_⟩
     have : y ≠ x := fun e => hj (nodup_ix hN e1 (e ▸ hi))
     simp [this, e]
    ·exact .inr ⟨k, c, e, z.sameBut hs (cne y c e)⟩
  ·obtain ⟨w', z⟩ := I.cell y c e
   exact ⟨w', z.sameBut hs (cne y c e)⟩
  ·obtain ⟨e, n, ne, nf, d⟩ := I.pin p hp
   exact ⟨(hs.2 p.1 ne).trans e, n, ne, nf, d⟩
 ·have hfn : X.fn x = true := by
   rcases hf with z | z
   ·exact z
   ·rw [z] at hk; cases hk
  obtain ⟨c, hc⟩ := I.ok.has x (.inl hk)
  obtain ⟨w', z⟩ := I.cell x c hc
  refine wpAny_storeName_cell I.ok.kind hk hc z (fun h' hc' hs => ?_)
  obtain ⟨oc, hoc, hocd⟩ := id z
  refine h { s with heap := h' } ⟨I.ok, I.os, I.bare, ⟨fun b o e n hb hx => ?_, fun b o e n hb hx => ?_, I.base.free, fun b o e hx => ?_, I.base.tups, I.base.frzs, I.base.tbls⟩, ⟨m, hn.sameBut hs (Ne.symm (cne x c hc)), fun j y v' e1 e2 e3 => ?_⟩, fun y c' e => ?_, I.free, I.freeC, fun p hp => ?_, tracked ⟨oc, hoc, I.freeC x c hc⟩ hs, by simpa using I.len⟩ ⟨c, hs, .inr hc⟩
  ·exact (hs.2 b (Nat.ne_of_lt (Nat.lt_of_lt_of_le (Heap.lt_size e) (I.ok.cab x c hfn hc)))).trans (I.base.keep b o e n hb hx)
  ·obtain ⟨sl, e1⟩ := I.base.slot b o e n hb hx
   exact ⟨sl, (hs.2 b (Nat.ne_of_lt (Nat.lt_of_lt_of_le (Heap.lt_size e) (I.ok.cab x c hfn hc)))).trans e1⟩
  ·obtain ⟨o', e1⟩ := I.base.there b o e hx
   exact ⟨o', (hs.2 b (Nat.ne_of_lt (Nat.lt_of_lt_of_le (Heap.lt_size e) (I.ok.cab x c hfn hc)))).trans e1⟩
  ·by_cases hj : j = i
   ·subst hj
    rw [hi] at e1; cases e1
    rw [List.getElem?_set_self hiσ] at e2
    cases e2
    exact ⟨u, r, .inr ⟨.inl hk, c, hc, hc'⟩⟩
   ·rw [List.getElem?_set_ne (Ne.symm hj)] at e2
    obtain ⟨u', r', q⟩ := hl j y v' e1 e2 e3
    refine ⟨u', r', ?_⟩
    rcases q with q | ⟨k, c', e, z'⟩
    ·exact .inl q
    ·refine .inr ⟨k, c', e, z'.sameBut hs ?_⟩
     rintro rfl
     exact hj (nodup_ix hN e1 (I.ok.inj _ _ _ e hc ▸ hi))
  ·by_cases hcc : c' = c
   ·subst hcc; exact ⟨_, hc'⟩
   ·obtain ⟨w2, z2⟩ := I.cell y c' e
    exact ⟨w2, z2.sameBut hs hcc⟩
  ·obtain ⟨e, n, ne, nf, d⟩ := I.pin p hp
   refine ⟨(hs.2 p.1 ?_).trans e, n, ne, nf, d⟩
   intro q
   rw [q, hoc] at e
   have q' : oc = p.2 := Option.some.inj e
   exact d w' (by rw [← q']; exact hocd)
theorem a83 {M : Model} {A : Around} {E : Value → Shared → Prop} {i : Nat} {x : Str} {v : V} {u : Value} {Q : Unit → Shared → Prop} (I : Inv X pins σ H s) (hN : X.N.Nodup) (hi : X.N[i]? = some x) (hx : Loc X.env.scope x) (r : RelV v u)
  (h : ∀ s', Inv X pins (σ.set i (some v)) H s' → Q () s') (hf : X.fn x = true ∨ X.env.scope.names.lookup x = some .local := by first | exact .inl rfl | exact .inr rfl | assumption) : wpAny M A (storeName X.env x u) Q E s :=
 store_ok2 I hN hi hx r (fun s' I' _ => h s' I') hf
theorem Inv.call' {s' : Shared} {ch : List Addr} (I : Inv X pins σ H s) (ho : s'.os = s.os) (u : Un (frs X.stack) ch H H' s.heap s'.heap) (hok : HOk X.prog X.w H' s'.heap) (hg : AllBare s'.gens)
  (hch : ∀ b ∈ ch, (b ∈ X.ex ∨ X.s₀.heap.objs.size ≤ b) ∧ b ≠ X.env.locals ∧ (∀ x c, X.env.cells.lookup x = some c → c ≠ b) ∧ ∀ p ∈ X.pn ++ pins, p.1 ≠ b) : Inv X pins σ H' s' := by
 obtain ⟨h', g', d', t', o'⟩ := s'
 have e : o' = s.os := ho
 subst e
 exact I.call (g' := g') (t' := t') (d' := d') u hok hg hch
end
abbrev XK := Value → Option Addr → Hp → Prop
abbrev St := List (Option V)
abbrev VK := V → Hp → Prop
abbrev TE := St → Hp → VK → Prop
abbrev TT := St → Hp → (Bool → Hp → Prop) → Prop
abbrev TA := St → Hp → (List V → Hp → Prop) → Prop
structure Ends where
 nx : St → Hp → Prop
 rt : VK
 bk : St → Hp → Prop := fun _ _ => False
 ct : St → Hp → Prop := fun _ _ => False
abbrev TS := Ends → St → Hp → Prop
def EP (X : Cx) (pins : List (Addr × Obj)) (σ : St) (Q : VK) (u : Value) (s' : Shared) : Prop := ∃ v H', Inv X pins σ H' s' ∧ RelV v u ∧ Q v H'
def TP (X : Cx) (pins : List (Addr × Obj)) (σ : St) (Q : Bool → Hp → Prop) (b : Bool) (s' : Shared) : Prop := ∃ H', Inv X pins σ H' s' ∧ Q b H'
def AP (X : Cx) (pins : List (Addr × Obj)) (σ : St) (Q : List V → Hp → Prop) (us : List Value) (s' : Shared) : Prop := ∃ vs H', Inv X pins σ H' s' ∧ Vals vs us ∧ Q vs H'
def SP (X : Cx) (pins : List (Addr × Obj)) (D : Ends) (f : Flow) (s' : Shared) : Prop :=
 match f with
 | .next => ∃ σ' H', Inv X pins σ' H' s' ∧ D.nx σ' H'
 | .brk => ∃ σ' H', Inv X pins σ' H' s' ∧ D.bk σ' H'
 | .cont => ∃ σ' H', Inv X pins σ' H' s' ∧ D.ct σ' H'
 | .ret u => ∃ v σ' H', Inv X pins σ' H' s' ∧ RelV v u ∧ D.rt v H'
def PE (X : Cx) (e : Expr) (t : TE) : Prop :=
 ∀ (pins : List (Addr × Obj)) (s : Shared) (σ : St) (H : Hp) (Q : VK), Inv X pins σ H s → t σ H Q → wpAny (model X.prog X.w) X.A (eval e X.env) (EP X pins σ Q) X.xe s
def PT (X : Cx) (e : Expr) (t : TT) : Prop :=
 ∀ (pins : List (Addr × Obj)) (s : Shared) (σ : St) (H : Hp) (Q : Bool → Hp → Prop), Inv X pins σ H s → t σ H Q → wpAny (model X.prog X.w) X.A (isTrue e X.env (eval e X.env)) (TP X pins σ Q) X.xe s
def PW (X : Cx) (e : Expr) (t : TT) : Prop :=
 ∀ (whole : Sem Value) (pins : List (Addr × Obj)) (s : Shared) (σ : St) (H : Hp) (Q : Bool → Hp → Prop), Inv X pins σ H s → t σ H Q → wpAny (model X.prog X.w) X.A (isTrue e X.env whole) (TP X pins σ Q) X.xe s
theorem PW.pt {X : Cx} {e : Expr} {t : TT} (h : PW X e t) : PT X e t := h _
def PA (X : Cx) (es : List Expr) (t : TA) : Prop :=
 ∀ (pos : Pos) (pins : List (Addr × Obj)) (s : Shared) (σ : St) (H : Hp) (Q : List V → Hp → Prop), Inv X pins σ H s → t σ H Q → wpAny (model X.prog X.w) X.A (spliced (backTo pos (starEach es X.env))) (AP X pins σ Q) X.xe s
def PS (X : Cx) (st : Stmt) (t : TS) : Prop :=
 ∀ (pins : List (Addr × Obj)) (s : Shared) (σ : St) (H : Hp) (D : Ends), Inv X pins σ H s → t D σ H → wpAny (model X.prog X.w) X.A (exec st X.env) (SP X pins D) X.xe s
def PSs (X : Cx) (st : List Stmt) (t : TS) : Prop :=
 ∀ (pins : List (Addr × Obj)) (s : Shared) (σ : St) (H : Hp) (D : Ends), Inv X pins σ H s → t D σ H → wpAny (model X.prog X.w) X.A (execs st X.env) (SP X pins D) X.xe s
theorem thn {α : Type} {t : Sem α} {Q Q' : α → Shared → Prop} {M : Model} {A : Around} {E : Value → Shared → Prop} {s : Shared} (h : wpAny M A t Q E s) (hQ : ∀ a s, Q a s → Q' a s) : wpAny M A t Q' E s := wpAny_mono h hQ fun _ _ x => x
end L2
namespace L2
open PySem PySem.Spec PyProof.Rows
section
variable {X : Cx}
theorem bin {a b : Expr} {ta tb : TE} (ha : PE X a ta) (hb : PE X b tb) {pins : List (Addr × Obj)} {s : Shared} {σ : St} {H : Hp} {R : V → V → Hp → Prop} (I : Inv X pins σ H s) (h : ta σ H fun x H1 => tb σ H1 fun y H2 => R x y H2)
  {α : Type} {Q : α → Shared → Prop} {f : Value → Value → Sem α}
  (hf : ∀ v u s2 x y H2, Inv X pins σ H2 s2 → RelV x v → RelV y u → R x y H2 → wpAny (model X.prog X.w) X.A (f v u) Q X.xe s2) :
  wpAny (model X.prog X.w) X.A (eval a X.env) (fun v s₁ => wpAny (model X.prog X.w) X.A (eval b X.env) (fun u s₂ => wpAny (model X.prog X.w) X.A (f v u) Q X.xe s₂) X.xe s₁) X.xe s := by
 refine thn (ha pins s σ H _ I h) fun v s1 ⟨x, H1, I1, r1, q1⟩ => ?_
 refine thn (hb pins s1 σ H1 _ I1 q1) fun u s2 ⟨y, H2, I2, r2, q2⟩ => ?_
 exact hf v u s2 x y H2 I2 r1 r2 q2
def tVar (i : Nat) : TE := fun σ H Q => ∃ v, σ[i]? = some (some v) ∧ Q v H
def tC (v : V) : TE := fun _ H Q => Q v H
theorem pe_var {i : Nat} {x : Str} {pos : Pos} (hN : X.N[i]? = some x) (hv : Vis X.env.scope x) (hd : (x == ("__debug__" : Str)) = false := by decide) (hcd : (x == ("__classdict__" : Str)) = false := by decide) : PE X (.Name x pos) (tVar i) := by
 intro pins s σ H Q I h
 obtain ⟨v, e, h⟩ := h
 obtain ⟨m, hn, hl⟩ := I.loc
 obtain ⟨u, r, l⟩ := hl i x v hN e hv
 have fin : EP X pins σ Q u s := ⟨v, H, I, r, h⟩
 rcases l with ⟨hk, hm⟩ | ⟨hk, c, hc, hcell⟩
 ·exact wpAny_Name (wpAny_loadName_local I.ok.kind hk hn hm fin) hd
 ·rcases hk with hk | hk
  ·exact wpAny_Name (wpAny_loadName_cell I.ok.kind hk hc hcell fin) hd
  ·exact wpAny_Name (wpAny_loadName_free I.ok.kind hk hc hcell fin hcd) hd
theorem a07 {i j pos} : PE X (.Constant (.int i) j pos) (tC (.int i)) := fun _ _ _ H _ I h => wpAny_Constant_int ⟨.int i, H, I.tok _, ⟨_, rfl⟩, h⟩
theorem a5f {b j pos} : PE X (.Constant (.bool b) j pos) (tC (.bl b)) := fun _ _ _ H _ I h => Constant_bool ⟨.bl b, H, I, rfl, h⟩
theorem ac1 {j pos} : PE X (.Constant .none j pos) (tC .non) := fun _ _ _ H _ I h => Constant_none ⟨.non, H, I, rfl, h⟩
theorem a0i {x j pos} : PE X (.Constant (.str x) j pos) (tC (.str x)) := fun _ _ _ H _ I h => Calls.Constant_str ⟨.str x, H, I.tok _, ⟨_, rfl⟩, h⟩
def Gl (X : Cx) (x : Str) : Prop := X.env.kindOf x = some .globalImplicit
theorem ld_glob {E : Value → Shared → Prop} {pins : List (Addr × Obj)} {s : Shared} {σ : St} {H : Hp} {x : Str} {u : Value} {pos : Pos} {Q : Value → Shared → Prop} (I : Inv X pins σ H s) (hg : Gl X x) (hm : X.mg x = some u) (h : Q u s)
  (hd : (x == ("__debug__" : Str)) = false := by decide) : wpAny (model X.prog X.w) X.A (eval (.Name x pos) X.env) Q E s :=
 Calls.Name_function_global I.ok.kind hg (Calls.loadGlobal_global (by rw [I.ok.glob]; exact I.mod.glob.keeps I.bk) hm h) hd
theorem aaf {E : Value → Shared → Prop} {pins : List (Addr × Obj)} {s : Shared} {σ : St} {H : Hp} {x : Str} {u : Value} {pos : Pos} {Q : Value → Shared → Prop} (I : Inv X pins σ H s) (hg : Gl X x) (hm : X.mg x = none) (hv : bootBuiltins x = some u) (h : Q u s)
  (hn : x ≠ "__name__" := by decide) (hd : (x == ("__debug__" : Str)) = false := by decide) : wpAny (model X.prog X.w) X.A (eval (.Name x pos) X.env) Q E s := by
 obtain ⟨mb, h1, h2⟩ := I.mod.blt
 exact Calls.Name_function_global I.ok.kind hg (Calls.loadGlobal_builtin (by rw [I.ok.glob]; exact I.mod.glob.keeps I.bk) hm (by rw [I.ok.blt]; exact h1.keeps I.bk) ((h2 x hn).trans hv) h) hd
theorem a2n {x : Str} {v : V} {u : Value} {pos : Pos} (hg : Gl X x) (hm : X.mg x = some u) (r : RelV v u) (hd : (x == ("__debug__" : Str)) = false := by decide) : PE X (.Name x pos) (tC v) :=
 fun _ _ _ H _ I h => ld_glob I hg hm ⟨v, H, I, r, h⟩ hd
theorem a6e {x : Str} {v : V} {u : Value} {pos : Pos} (hg : Gl X x) (hm : X.mg x = none) (hv : bootBuiltins x = some u) (r : RelV v u) (hn : x ≠ "__name__" := by decide) (hd : (x == ("__debug__" : Str)) = false := by decide) : PE X (.Name x pos) (tC v) :=
 fun _ _ _ H _ I h => aaf I hg hm hv ⟨v, H, I, r, h⟩ hn hd
variable {a b : Expr} {ta tb : TE} {pos : Pos}
def PC (X : Cx) (op : CmpOp) (a b : Expr) (t : TE) : Prop :=
 ∀ (pins : List (Addr × Obj)) (s : Shared) (σ : St) (H : Hp) (Q : VK), Inv X pins σ H s → t σ H Q →
  wpAny (model X.prog X.w) X.A (eval a X.env) (fun v s₁ => wpAny (model X.prog X.w) X.A (eval b X.env) (fun u s₂ => wpAny (model X.prog X.w) X.A (compareOp op v u) (EP X pins σ Q) X.xe s₂) X.xe s₁) X.xe s
def tB (t : TE) : TT := fun σ H Q => t σ H fun x H1 => ∃ c, x = .bl c ∧ Q c H1
theorem pt_cmp {op : CmpOp} {t : TE} (h : PC X op a b t) (h1 : behindInMarks op b = false := by first | exact nobehind _ (by decide) (by decide) | rfl) : PT X (.Compare a [op] [b] pos) (tB t) := by
 intro pins s σ H Q I hw
 refine wpAny_isTrue_Compare1 (thn (h pins s σ H _ I hw) fun v s1 h1 => thn h1 fun u s2 h2 => thn h2 fun c s3 ⟨x, H1, I1, r1, q1⟩ => ?_) h1
 obtain ⟨d, rfl, q⟩ := q1
 cases r1
 exact wpAny_truthy_bool ⟨H1, I1, q⟩
theorem a1j {e : Expr} {t : TE} (h : PE X e t) (he : ∀ whole, isTrue e X.env whole = (do let v ← whole; standAt e.pos; holding [v] (truthy v)) := by intro _; rfl) : PT X e (tB t) := by
 intro pins s σ H Q I hw
 refine isTrue_plain (thn (h pins s σ H _ I hw) fun v s1 ⟨x, H1, I1, r1, q1⟩ => ?_) (he _)
 obtain ⟨d, rfl, q⟩ := q1
 cases r1
 exact wpAny_truthy_bool ⟨H1, I1, q⟩
variable {tA tB' : TT} {rest : List Expr}
def tAnd (t u : TT) : TT := fun σ H Q => t σ H fun c H1 => if c = true then u σ H1 Q else Q false H1
def tOr (t u : TT) : TT := fun σ H Q => t σ H fun c H1 => if c = true then Q true H1 else u σ H1 Q
def tNot (t : TT) : TT := fun σ H Q => t σ H fun c H1 => Q (!c) H1
theorem pw_and1 (ha : PT X a tA) : PW X (.BoolOp .And [a] pos) tA := by
 intro wh pins s σ H Q I h
 refine isTrue_and (thn (ha pins s σ H Q I h) fun c s1 e => ?_)
 cases c with
 | true => exact isTrue_and_nil e
 | false => exact e
theorem pw_or1 (ha : PT X a tA) : PW X (.BoolOp .Or [a] pos) tA := by
 intro wh pins s σ H Q I h
 refine isTrue_or (thn (ha pins s σ H Q I h) fun c s1 e => ?_)
 cases c with
 | false => exact isTrue_or_nil e
 | true => exact e
theorem pw_and (ha : PT X a tA) (hb : PW X (.BoolOp .And (b :: rest) pos) tB') : PW X (.BoolOp .And (a :: b :: rest) pos) (tAnd tA tB') := by
 intro wh pins s σ H Q I h
 refine isTrue_and (thn (ha pins s σ H _ I h) fun c s1 ⟨H1, I1, q1⟩ => ?_)
 cases c with
 | true => exact hb wh pins s1 σ H1 Q I1 q1
 | false => exact ⟨H1, I1, q1⟩
theorem pw_or (ha : PT X a tA) (hb : PW X (.BoolOp .Or (b :: rest) pos) tB') : PW X (.BoolOp .Or (a :: b :: rest) pos) (tOr tA tB') := by
 intro wh pins s σ H Q I h
 refine isTrue_or (thn (ha pins s σ H _ I h) fun c s1 ⟨H1, I1, q1⟩ => ?_)
 cases c with
 | true => exact ⟨H1, I1, q1⟩
 | false => exact hb wh pins s1 σ H1 Q I1 q1
theorem a1v (ha : PT X a tA) : PT X (.UnaryOp .Not a pos) (tNot tA) := by
 intro pins s σ H Q I h
 exact isTrue_not (ha pins s σ H (fun c H1 => Q (!c) H1) I h)
def tAndV (ta tb : TE) : TE := fun σ H Q => ta σ H fun x H1 => ∃ c, x = .bl c ∧ if c = true then tb σ H1 Q else Q (.bl false) H1
def tOrV (ta tb : TE) : TE := fun σ H Q => ta σ H fun x H1 => ∃ c, x = .bl c ∧ if c = true then Q (.bl true) H1 else tb σ H1 Q
def tNotV (ta : TE) : TE := fun σ H Q => ta σ H fun x H1 => ∃ c, x = .bl c ∧ Q (.bl (!c)) H1
theorem a4j {op} {t : TE} (h : PE X a t) : PE X (.BoolOp op [a] pos) t := fun pins s σ H Q I hw => BoolOp_one (h pins s σ H Q I hw)
theorem a3d (ha : PE X a ta) (hb : PE X (.BoolOp .And (b :: rest) pos) tb) : PE X (.BoolOp .And (a :: b :: rest) pos) (tAndV ta tb) := by
 intro pins s σ H Q I h
 refine BoolOp_and (thn (ha pins s σ H _ I h) fun v s1 ⟨x, H1, I1, r1, q1⟩ => ?_)
 obtain ⟨c, rfl, q1⟩ := q1
 cases r1
 refine wpAny_truthy_bool ?_
 cases c with
 | true => exact hb pins s1 σ H1 Q I1 q1
 | false => exact ⟨.bl false, H1, I1, rfl, q1⟩
theorem pe_or (ha : PE X a ta) (hb : PE X (.BoolOp .Or (b :: rest) pos) tb) : PE X (.BoolOp .Or (a :: b :: rest) pos) (tOrV ta tb) := by
 intro pins s σ H Q I h
 refine BoolOp_or (thn (ha pins s σ H _ I h) fun v s1 ⟨x, H1, I1, r1, q1⟩ => ?_)
 obtain ⟨c, rfl, q1⟩ := q1
 cases r1
 refine wpAny_truthy_bool ?_
 cases c with
 | false => exact hb pins s1 σ H1 Q I1 q1
 | true => exact ⟨.bl true, H1, I1, rfl, q1⟩
theorem pe_not (ha : PE X a ta) : PE X (.UnaryOp .Not a pos) (tNotV ta) := by
 intro pins s σ H Q I h
 refine UnaryOp_ (thn (ha pins s σ H _ I h) fun v s1 ⟨x, H1, I1, r1, q1⟩ => ?_)
 obtain ⟨c, rfl, q1⟩ := q1
 cases r1
 exact not_of (wpAny_truthy_bool ⟨.bl (!c), H1, I1, rfl, q1⟩)
def tIf (t : TT) (ta tb : TE) : TE := fun σ H Q => t σ H fun c H1 => if c = true then ta σ H1 Q else tb σ H1 Q
theorem a5m {c : Expr} (hc : PT X c tA) (ha : PE X a ta) (hb : PE X b tb) : PE X (.IfExp c a b pos) (tIf tA ta tb) := by
 intro pins s σ H Q I h
 refine wpAny_IfExp (thn (hc pins s σ H _ I h) fun d s1 ⟨H1, I1, q1⟩ => ?_)
 cases d with
 | true => exact ha pins s1 σ H1 Q I1 q1
 | false => exact hb pins s1 σ H1 Q I1 q1
end
end L2
namespace L2
open PySem PySem.Spec PyProof.Rows
def SqL (K : PySem.W.Frag) (H : Hp) (a : Addr) (xs : List V) : Prop :=
 Rd H a (.lst xs) ∨
  ∃ (o : Obj) (its : Array Value) (n : Nat), K.lookup a = some o ∧ o.cls = .type "list" ∧ o.dict = none ∧ o.data = .seq its n ∧ its.size ≤ sizeLine ∧ Vals0 xs its.toList
def SqT (K : PySem.W.Frag) (H : Hp) (a : Addr) (xs : List V) : Prop :=
 Rd H a (.tup xs) ∨
  ∃ (o : Obj) (its : Array Value) (n : Nat), K.lookup a = some o ∧ o.cls = .type "tuple" ∧ o.data = .seq its n ∧ its.size ≤ sizeLine ∧ Vals0 xs its.toList
def absV : Value → Option V
 | .none => some .non
 | .bool b => some (.bl b)
 | .int i _ => some (.int i)
 | .str x _ => some (.str x)
 | .bytes b _ => some (.byt b)
 | .float b _ => some (.flt b)
 | .ref a => some (.ref a)
 | .type n => some (.ty n)
 | _ => none
theorem RelV0.abs {x : V} {u : Value} (r : RelV0 x u) : absV u = some x := by
 cases x with
 | non => cases r; rfl
 | bl _ => cases r; rfl
 | int _ => obtain ⟨t, rfl⟩ := r; rfl
 | str _ => obtain ⟨t, rfl⟩ := r; rfl
 | byt _ => obtain ⟨t, rfl⟩ := r; rfl
 | flt _ => obtain ⟨t, rfl⟩ := r; rfl
 | ref _ => cases r; rfl
 | ty _ => cases r; rfl
 | stk _ _ => exact r.elim
theorem Vals0.inj : ∀ {xs ys : List V} {us : List Value}, Vals0 xs us → Vals0 ys us → xs = ys
 | _, _, _, .nil, .nil => rfl
 | _, _, _, .cons r t, .cons r' t' => by rw [Option.some.inj (r.abs.symm.trans r'.abs), Vals0.inj t t']
theorem vals0_ints : ∀ {ns : List Int} {us : List Value}, Vals (ns.map V.int) us → Vals0 (ns.map V.int) us
 | [], _, .nil => .nil
 | _ :: _, _, .cons r t => .cons r (vals0_ints t)
theorem Rd.inj {H : Hp} {a : Addr} {u v : HO} (h : Rd H a u) (h' : Rd H a v) (hu : ∀ o x, u ≠ .frz o x) (hv : ∀ o x, v ≠ .frz o x) : u = v := by
 rcases h with h | ⟨o, h⟩ <;> rcases h' with h' | ⟨o', h'⟩
 ·exact Option.some.inj (h.symm.trans h')
 ·exact absurd (Option.some.inj (h.symm.trans h')) (hu _ _)
 ·exact absurd (Option.some.inj (h'.symm.trans h)) (hv _ _)
 ·have := Option.some.inj (h.symm.trans h')
  injection this
theorem Rd.some {H : Hp} {a : Addr} {u : HO} (h : Rd H a u) (n : H a = none) : False := by
 rcases h with h | ⟨o, h⟩ <;> (rw [n] at h; cases h)
section
variable {X : Cx} {pins : List (Addr × Obj)} {σ : St} {H : Hp} {s : Shared} {a : Addr} {xs ys : List V}
theorem SqL.of {K : PySem.W.Frag} (h : H a = some (.lst xs)) : SqL K H a xs := .inl (.inl h)
theorem SqT.of {K : PySem.W.Frag} (h : H a = some (.tup xs)) : SqT K H a xs := .inl (.inl h)
theorem Inv.list (I : Inv X pins σ H s) (h : SqL X.K H a xs) : ∃ its : List Value, Vals xs its ∧ PlainL s.heap a its.toArray ∧ xs.length ≤ sizeLine := by
 rcases h with h | ⟨o, its, n, hk, hc, hd, hs, hz, r⟩
 ·obtain ⟨z, its, n, r, e⟩ := h.ok I.hok
  exact ⟨its, r, ⟨_, n, e, rfl, rfl, rfl⟩, z⟩
 ·refine ⟨its.toList, Paired.mapP r (fun _ _ z => z.rel), ⟨o, n, I.kIn a o hk, hc, hd, by simpa using hs⟩, ?_⟩
  have e := Paired.length r
  simp only [Array.length_toList] at e
  omega
theorem Inv.tuple (I : Inv X pins σ H s) (h : SqT X.K H a xs) : ∃ its : List Value, Vals xs its ∧ IsTup s.heap a its.toArray ∧ xs.length ≤ sizeLine := by
 rcases h with h | ⟨o, its, n, hk, hc, hs, hz, r⟩
 ·obtain ⟨z, its, r, p⟩ := h.ok I.hok
  exact ⟨its, r, p, z⟩
 ·refine ⟨its.toList, Paired.mapP r (fun _ _ z => z.rel), ⟨o, I.kIn a o hk, hc, n, by simpa using hs⟩, ?_⟩
  have e := Paired.length r
  simp only [Array.length_toList] at e
  omega
theorem Inv.list_inj (I : Inv X pins σ H s) (h : SqL X.K H a xs) (h' : SqL X.K H a ys) : xs = ys := by
 have hn : ∀ o, X.K.lookup a = some o → H a = none := fun o e => (I.bs a o (I.ok.mod.kin a o e)).2
 rcases h with h | ⟨o, its, n, hk, hc, hd, hs, hz, r⟩ <;> rcases h' with h' | ⟨o', its', n', hk', hc', hd', hs', hz', r'⟩
 ·have := h.inj h' (fun _ _ e => by cases e) (fun _ _ e => by cases e)
  injection this
 ·exact (h.some (hn _ hk')).elim
 ·exact (h'.some (hn _ hk)).elim
 ·rw [hk] at hk'
  cases hk'
  rw [hs] at hs'
  injection hs' with d1 _
  subst d1
  exact Vals0.inj r r'
theorem Inv.tuple_inj (I : Inv X pins σ H s) (h : SqT X.K H a xs) (h' : SqT X.K H a ys) : xs = ys := by
 have hn : ∀ o, X.K.lookup a = some o → H a = none := fun o e => (I.bs a o (I.ok.mod.kin a o e)).2
 rcases h with h | ⟨o, its, n, hk, hc, hs, hz, r⟩ <;> rcases h' with h' | ⟨o', its', n', hk', hc', hs', hz', r'⟩
 ·have := h.inj h' (fun _ _ e => by cases e) (fun _ _ e => by cases e)
  injection this
 ·exact (h.some (hn _ hk')).elim
 ·exact (h'.some (hn _ hk)).elim
 ·rw [hk] at hk'
  cases hk'
  rw [hs] at hs'
  injection hs' with d1 _
  subst d1
  exact Vals0.inj r r'
end
abbrev Cx.wish (X : Cx) (E : Value → Shared → Prop) : Cx := { X with xe := E }
abbrev Cx.nox (X : Cx) : Cx := X.wish fun _ _ => False
theorem Cx.Ok.wish {X : Cx} (ok : X.Ok) (E : Value → Shared → Prop) : (X.wish E).Ok :=
 ⟨ok.mod, ok.kind, ok.glob, ok.blt, ok.above, ok.inj, ok.has, ok.cab, ok.hd, ok.frames, ok.stk, ok.exf, ok.bs, ok.bsz, ok.noex, ok.exfs, ok.funs, ok.frf⟩
theorem Cx.Ok.aa4 {X : Cx} {E : Value → Shared → Prop} (ok : (X.wish E).Ok) : X.Ok :=
 ⟨ok.mod, ok.kind, ok.glob, ok.blt, ok.above, ok.inj, ok.has, ok.cab, ok.hd, ok.frames, ok.stk, ok.exf, ok.bs, ok.bsz, ok.noex, ok.exfs, ok.funs, ok.frf⟩
section
variable {X : Cx} {pins : List (Addr × Obj)} {σ : St} {H : Hp} {s : Shared} {E : Value → Shared → Prop}
theorem Inv.wish (I : Inv X pins σ H s) (E : Value → Shared → Prop) : Inv (X.wish E) pins σ H s := ⟨I.ok.wish E, I.os, I.bare, I.base, I.loc, I.cell, I.free, I.freeC, I.pin, I.hok, I.len⟩
theorem Inv.aa4 (I : Inv (X.wish E) pins σ H s) : Inv X pins σ H s := ⟨I.ok.aa4, I.os, I.bare, I.base, I.loc, I.cell, I.free, I.freeC, I.pin, I.hok, I.len⟩
theorem SP.aa4 {D : Ends} {f : Flow} {s' : Shared} (h : SP (X.wish E) pins D f s') : SP X pins D f s' := by
 cases f with
 | next => obtain ⟨σ', H', I, q⟩ := h; exact ⟨σ', H', I.aa4, q⟩
 | brk => obtain ⟨σ', H', I, q⟩ := h; exact ⟨σ', H', I.aa4, q⟩
 | cont => obtain ⟨σ', H', I, q⟩ := h; exact ⟨σ', H', I.aa4, q⟩
 | ret u => obtain ⟨v, σ', H', I, r, q⟩ := h; exact ⟨v, σ', H', I.aa4, r, q⟩
theorem PSs.nox {st : List Stmt} {t : TS} (h : PSs X.nox st t) : PSs X st t := fun pins s σ H D I hw =>
 wpAny_mono (h pins s σ H D (I.wish _) hw) (fun _ _ q => q.aa4) fun _ _ z => False.elim z
end
section
variable {X : Cx} {st : Stmt} {rest : List Stmt} {t u : TS} {e : Expr} {te : TE} {pos : Pos}
def tNext : TS := fun D σ H => D.nx σ H
def tSeq (t u : TS) : TS := fun D σ H => t { D with nx := u D } σ H
theorem a0m : PSs X [] tNext := fun _ _ σ H _ I h => wpAny_execs_nil ⟨σ, H, I, h⟩
theorem a04 (h1 : PS X st t) (h2 : PSs X rest u) : PSs X (st :: rest) (tSeq t u) := by
 intro pins s σ H D I h
 refine wpAny_execs_cons (thn (h1 pins s σ H { D with nx := u D } I h) fun f s1 q => ?_)
 cases f with
 | next =>
  obtain ⟨σ', H', I', q⟩ := q
  exact h2 pins s1 σ' H' D I' q
 | ret v => exact q
 | brk => exact q
 | cont => exact q
theorem a08 (h1 : PS X st t) : PSs X [st] t := by
 intro pins s σ H D I h
 refine wpAny_execs_cons (thn (h1 pins s σ H D I h) fun f s1 q => ?_)
 cases f with
 | next => exact wpAny_execs_nil q
 | ret v => exact q
 | brk => exact q
 | cont => exact q
theorem Inv.quiet {pins : List (Addr × Obj)} {σ : St} {H : Hp} {s : Shared} (I : Inv X pins σ H s) : interactive X.env = false := by simp [interactive, I.ok.kind]
def tDrop (te : TE) : TS := fun D σ H => te σ H fun _ H1 => D.nx σ H1
theorem a1r (he : PE X e te) (hs : swapsWith e none pos.line X.env = pure false := by rfl) : PS X (.Expr e pos) (tDrop te) := by
 intro pins s σ H D I h
 exact wpAny_Expr_any (thn (he pins s σ H _ I h) fun v s1 ⟨x, H1, I1, r1, q1⟩ => ⟨σ, H1, I1, q1⟩) I.quiet hs
def tRet (te : TE) : TS := fun D σ H => te σ H D.rt
theorem a0d (he : PE X e te) : PS X (.Return (some e) pos) (tRet te) := by
 intro pins s σ H D I h
 exact wpAny_Return_some (thn (he pins s σ H _ I h) fun v s1 ⟨x, H1, I1, r1, q1⟩ => ⟨x, σ, H1, I1, r1, q1⟩)
def tRetN : TS := fun D _ H => D.rt .non H
theorem ps_retN : PS X (.Return none pos) tRetN := fun _ _ σ H _ I h => wpAny_Return_none ⟨.non, σ, H, I, rfl, h⟩
def tIfS (c : TT) (t u : TS) : TS := fun D σ H => c σ H fun b H1 => if b = true then t D σ H1 else u D σ H1
theorem a1i {c : Expr} {a b : List Stmt} {tc : TT} (hc : PT X c tc) (ha : PSs X a t) (hb : PSs X b u) : PS X (.If c a b pos) (tIfS tc t u) := by
 intro pins s σ H D I h
 refine wpAny_If (thn (hc pins s σ H _ I h) fun d s1 ⟨H1, I1, q1⟩ => ?_)
 cases d with
 | true => exact ha pins s1 σ H1 D I1 q1
 | false => exact hb pins s1 σ H1 D I1 q1
def tNever : TS := fun _ _ _ => False
theorem ps_never : PS X st tNever := fun _ _ _ _ _ _ h => h.elim
end
abbrev TG := V → St → Hp → (St → Hp → Prop) → Prop
abbrev TGs := List V → St → Hp → (St → Hp → Prop) → Prop
def PG (X : Cx) (target : Expr) (t : TG) : Prop :=
 ∀ (pins : List (Addr × Obj)) (s : Shared) (σ : St) (H : Hp) (v : V) (u : Value) (Q : St → Hp → Prop), Inv X pins σ H s → RelV v u → t v σ H Q →
  wpAny (model X.prog X.w) X.A (assign target X.env u) (fun _ s' => ∃ σ' H', Inv X pins σ' H' s' ∧ Q σ' H') X.xe s
def PGs (X : Cx) (ts : List Expr) (t : TGs) : Prop :=
 ∀ (pins : List (Addr × Obj)) (s : Shared) (σ : St) (H : Hp) (vs : List V) (us : List Value) (Q : St → Hp → Prop), Inv X pins σ H s → Vals vs us → t vs σ H Q →
  wpAny (model X.prog X.w) X.A (assignInOrder ((assignEach ts X.env).map (·.2)) us) (fun _ s' => ∃ σ' H', Inv X pins σ' H' s' ∧ Q σ' H') X.xe s
abbrev TSet := V → V → V → Hp → (Hp → Prop) → Prop
def PSet (X : Cx) (t : TSet) : Prop :=
 ∀ (pins : List (Addr × Obj)) (s : Shared) (σ : St) (H : Hp) (o i v : V) (ov iv u : Value) (Q : Hp → Prop), Inv X pins σ H s → RelV o ov → RelV i iv → RelV v u → t o i v H Q →
  wpAny (model X.prog X.w) X.A (setItem ov iv u) (fun _ s' => ∃ H', Inv X pins σ H' s' ∧ Q H') X.xe s
abbrev TIp := V → V → Hp → VK → Prop
def PIp (X : Cx) (op : Operator) (t : TIp) : Prop :=
 ∀ (pins : List (Addr × Obj)) (s : Shared) (σ : St) (H : Hp) (x y : V) (v u : Value) (Q : VK), Inv X pins σ H s → RelV x v → RelV y u → t x y H Q →
  wpAny (model X.prog X.w) X.A (inplaceOp op v u) (EP X pins σ Q) X.xe s
section
variable {X : Cx} {pos : Pos}
def aau (i : Nat) : TG := fun v σ H Q => Q (σ.set i (some v)) H
theorem a0q {i : Nat} {x : Str} (hN : X.N.Nodup) (hi : X.N[i]? = some x) (hx : Loc X.env.scope x) (hf : X.fn x = true ∨ X.env.scope.names.lookup x = some .local := by first | exact .inl rfl | exact .inr rfl | assumption) : PG X (.Name x pos) (aau i) := by
 intro pins s σ H v u Q I r h
 exact wpAny_assign_Name (a83 I hN hi hx r (fun s' I' => ⟨_, H, I', h⟩) hf)
def gNil : TGs := fun vs σ H Q => vs = [] ∧ Q σ H
def gCons (t : TG) (u : TGs) : TGs := fun vs σ H Q => ∃ v r, vs = v :: r ∧ t v σ H fun σ' H' => u r σ' H' Q
theorem a8n : PGs X [] gNil := by
 intro pins s σ H vs us Q I r h
 obtain ⟨e, h⟩ := h
 subst e
 cases r
 exact assignInOrder_nil ⟨σ, H, I, h⟩
theorem a1z {e : Expr} {es : List Expr} {t : TG} {u : TGs} (h1 : PG X e t) (h2 : PGs X es u)
  (hs : (assignEach (e :: es) X.env).map (·.2) = assign e X.env :: (assignEach es X.env).map (·.2) := by rfl) : PGs X (e :: es) (gCons t u) := by
 intro pins s σ H vs us Q I r h
 obtain ⟨v, vr, e1, h⟩ := h
 subst e1
 cases r with
 | cons r rr =>
  rw [hs]
  refine assignInOrder_cons (thn (h1 pins s σ H _ _ _ I r h) fun _ s1 ⟨σ1, H1, I1, q1⟩ => ?_)
  exact h2 pins s1 σ1 H1 _ _ Q I1 rr q1
def gTup (K : PySem.W.Frag) (n : Nat) (t : TGs) : TG := fun v σ H Q => ∃ a xs, v = .ref a ∧ SqT K H a xs ∧ xs.length = n ∧ t xs σ H Q
theorem pg_tup {es : List Expr} {k : Nat} {t : TGs} {n : Nat} (hc : X.calm = true) (h : PGs X es t)
  (hn : (assignEach es X.env).length = n := by rfl) (hst : (assignEach es X.env).findIdx? (·.1) = none := by rfl) : PG X (.Tuple es k pos) (gTup X.K n t) := by
 intro pins s σ H v u Q I r hw
 obtain ⟨a, xs, e1, hq, hl, hw⟩ := hw
 subst e1
 cases r
 obtain ⟨its, rv, ht, hz⟩ := I.tuple hq
 refine assign_Tuple_tuple (I.ok.hd hc) ht (by simp [hn, ← hl, rv.length]) hst fun h' hx => ?_
 have I1 : Inv X pins σ H { s with heap := h' } := I.kept (t' := s.toks) fun b o e => hx b o (Nat.ne_of_lt (Heap.lt_size e)) e
 exact h pins _ σ H xs _ Q I1 (by simpa using rv) hw
def gSub (to ti : TE) (t : TSet) : TG := fun v σ H Q => to σ H fun o H1 => ti σ H1 fun i H2 => t o i v H2 fun H3 => Q σ H3
theorem pg_sub {o i : Expr} {to ti : TE} {t : TSet} (ho : PE X o to) (hi : PE X i ti) (hs : PSet X t)
  (ha : ∀ v, assign (.Subscript o i pos) X.env v = (do
   let ov ← holding [v] (eval o X.env)
   let iv ← holding [v, ov] (eval i X.env)
   standAt pos
   holding [v, ov, iv] (setItem ov iv v)
   release [v, ov, iv] []) := by intro _; rfl) : PG X (.Subscript o i pos) (gSub to ti t) := by
 intro pins s σ H v u Q I r h
 rw [ha]
 refine wpAny_bind (wpAny_holding (thn (ho pins s σ H _ I h) fun ov s1 ⟨x, H1, I1, r1, q1⟩ => ?_))
 refine wpAny_bind (wpAny_holding (thn (hi pins s1 σ H1 _ I1 q1) fun iv s2 ⟨y, H2, I2, r2, q2⟩ => ?_))
 refine wpAny_bind (wpAny_standAt (wpAny_bind (wpAny_holding (thn (hs pins s2 σ H2 x y v ov iv u _ I2 r1 r2 r q2) fun _ s3 ⟨H3, I3, q3⟩ => ?_))))
 exact wpAny_release ⟨σ, H3, I3, q3⟩
def tAsg (te : TE) (g : TG) : TS := fun D σ H => te σ H fun x H1 => g x σ H1 D.nx
theorem abx {tg e : Expr} {te : TE} {g : TG} (he : PE X e te) (hg : PG X tg g) (hs : swapsWithSole [tg] e pos.line X.env = pure false := by rfl) (hw : swappedStores [tg] e X.env = pure none := by rfl)
  (h1 : (assignEach [tg] X.env).map (·.2) = [assign tg X.env] := by rfl) : PS X (.Assign [tg] e pos) (tAsg te g) := by
 intro pins s σ H D I h
 refine wpAny_Assign_stores (thn (he pins s σ H _ I h) fun v s1 ⟨x, H1, I1, r1, q1⟩ => ?_) hs hw
 rw [h1]
 exact thn (hg pins s1 σ H1 x v _ I1 r1 q1) fun _ s2 q => q
theorem a0f {i : Nat} {x : Str} {e : Expr} {te : TE} {pos' : Pos} (hN : X.N.Nodup) (hi : X.N[i]? = some x) (hx : Loc X.env.scope x) (he : PE X e te) (hs : swapsWith e (some (.Name x pos')) pos.line X.env = pure false := by rfl) (hf : X.fn x = true ∨ X.env.scope.names.lookup x = some .local := by first | exact .inl rfl | exact .inr rfl | assumption) :
  PS X (.Assign [.Name x pos'] e pos) (tAsg te (aau i)) := by
 intro pins s σ H D I h
 refine wpAny_Assign_Name (thn (he pins s σ H _ I h) fun v s1 ⟨y, H1, I1, r1, q1⟩ => ?_) hs
 exact a83 I1 hN hi hx r1 (fun s2 I2 => ⟨_, H1, I2, q1⟩) hf
def tPar (i j : Nat) (ta : TA) : TS := fun D σ H => ta σ H fun vs H1 => ∃ v w, vs = [v, w] ∧ D.nx ((σ.set i (some v)).set j (some w)) H1
theorem ps_par {i j : Nat} {x y : Str} {a b : Expr} {ta : TA} {px py pt : Pos} {kt k2 pt2} (hc : X.calm = true) (hN : X.N.Nodup) (hi : X.N[i]? = some x) (hj : X.N[j]? = some y) (hij : i ≠ j)
  (hx : X.env.scope.names.lookup x = some .local) (hy : X.env.scope.names.lookup y = some .local) (ha : PA X [a, b] ta)
  (hw : swappedStores [.Tuple [.Name x px, .Name y py] kt pt] (.Tuple [a, b] k2 pt2) X.env = pure (some [x, y]))
  (hs : swapsWithSole [.Tuple [.Name x px, .Name y py] kt pt] (.Tuple [a, b] k2 pt2) pos.line X.env = pure false := by rfl) :
  PS X (.Assign [.Tuple [.Name x px, .Name y py] kt pt] (.Tuple [a, b] k2 pt2) pos) (tPar i j ta) := by
 intro pins s σ H D I h
 rw [exec_Assign_arm]
 refine wpAny_bind (wpAny_standAt ?_)
 rw [hs]
 refine wpAny_bind (wpAny_pure ?_)
 rw [if_neg (by decide)]
 refine wpAny_bind (Tuple_ (thn (ha _ pins s σ H _ I h) fun us s1 ⟨vs, H1, I1, r1, q1⟩ => ?_))
 obtain ⟨v, w, e1, q1⟩ := q1
 subst e1
 obtain ⟨u1, u2, rfl, rv, rw'⟩ : ∃ u1 u2, us = [u1, u2] ∧ RelV v u1 ∧ RelV w u2 := by
  cases r1 with
  | cons p q =>
   cases q with
   | cons p' q' =>
    cases q'
    exact ⟨_, _, rfl, p, p'⟩
 refine wpAny_newObj_type ?_ (by show 2 ≤ sizeLine; decide)
 have I2 : Inv X pins σ H1 { s1 with heap := s1.heap.push { cls := .type "tuple", data := .seq [u1, u2].toArray } } := I1.kept (t' := s1.toks) fun b o e => Heap.get?_push_of_some _ e
 rw [hw]
 refine wpAny_bind (wpAny_pure ?_)
 show wpAny (model X.prog X.w) X.A (do rule "assign.swapped-stores"; let items ← unpackItems (.ref s1.heap.objs.size) 2 none; assignInOrder [fun v => bindName X.env y v, fun v => bindName X.env x v] items.reverse; pure Flow.next) _ _ _
 refine wpAny_bind (wpAny_rule (wpAny_bind (unpackItems_tuple (items := #[u1, u2]) (I.ok.hd hc) (IsTup.new s1.heap _) fun h' hx' => ?_)))
 have I3 := I2.kept (h' := h') (t' := s1.toks) fun b o e => hx' b o (Nat.ne_of_lt (Heap.lt_size e)) e
 show wpAny _ _ (assignInOrder [fun v => bindName X.env y v, fun v => bindName X.env x v] [u2, u1] >>= fun _ => pure Flow.next) _ _ _
 refine wpAny_bind (assignInOrder_cons (wpAny_bindName (a83 I3 hN hj (.inl hy) rw' (fun s2 I4 => ?_) (.inr hy))))
 refine assignInOrder_cons (wpAny_bindName (a83 I4 hN hi (.inl hx) rv (fun s3 I5 => assignInOrder_nil (wpAny_pure ?_)) (.inr hx)))
 rw [List.set_comm _ _ (Ne.symm hij)] at I5
 exact ⟨_, H1, I5, q1⟩
def tAug (i : Nat) (te : TE) (ti : TIp) : TS := fun D σ H => ∃ x, σ[i]? = some (some x) ∧ te σ H fun y H1 => ti x y H1 fun z H2 => D.nx (σ.set i (some z)) H2
theorem ps_aug {i : Nat} {x : Str} {e : Expr} {te : TE} {op : Operator} {ti : TIp} {pos' : Pos} (hN : X.N.Nodup) (hi : X.N[i]? = some x) (hx : Loc X.env.scope x) (he : PE X e te) (ho : PIp X op ti) (hf : X.fn x = true ∨ X.env.scope.names.lookup x = some .local := by first | exact .inl rfl | exact .inr rfl | assumption) :
  PS X (.AugAssign (.Name x pos') op e pos) (tAug i te ti) := by
 intro pins s σ H D I h
 obtain ⟨v, e1, h⟩ := h
 obtain ⟨m, hn, hl⟩ := I.loc
 have vis : Vis X.env.scope x := by rcases hx with k | k; exact .inl k; exact .inr (.inl k)
 obtain ⟨u, r, l⟩ := hl i x v hi e1 vis
 refine wpAny_AugAssign_Name ?_
 have go : wpAny (model X.prog X.w) X.A (eval e X.env) (fun w s₂ => wpAny (model X.prog X.w) X.A (inplaceOp op u w) (fun r s₃ => wpAny (model X.prog X.w) X.A (storeName X.env x r) (fun _ => SP X pins D .next) X.xe s₃) X.xe s₂) X.xe s := by
  refine thn (he pins s σ H _ I h) fun w s1 ⟨y, H1, I1, r1, q1⟩ => ?_
  refine thn (ho pins s1 σ H1 v y u w _ I1 r r1 q1) fun z s2 ⟨zv, H2, I2, r2, q2⟩ => ?_
  exact a83 I2 hN hi hx r2 (fun s3 I3 => ⟨_, H2, I3, q2⟩) hf
 rcases l with ⟨hk, hm⟩ | ⟨hk, c, hc, hcell⟩
 ·exact wpAny_loadName_local I.ok.kind hk hn hm go
 ·rcases hk with hk | hk
  ·exact wpAny_loadName_cell I.ok.kind hk hc hcell go
  ·rcases hx with k | k
   ·have : X.env.scope.names.lookup x = some .free := hk
    rw [k] at this; cases this
   ·have : X.env.scope.names.lookup x = some .free := hk
    rw [k] at this; cases this
def ipI (f : Int → Int → Int) : TIp := fun x y H Q => ∃ i j, x = .int i ∧ y = .int j ∧ Q (.int (f i j)) H
theorem ip_add : PIp X .Add (ipI fun i j => i + j) := by
 intro pins s σ H x y v u Q I r1 r2 h
 obtain ⟨i, j, e1, e2, q⟩ := h
 subst e1; subst e2
 obtain ⟨t, rfl⟩ := r1
 obtain ⟨t', rfl⟩ := r2
 exact iadd_int ⟨.int _, H, I.tok _, ⟨_, rfl⟩, q⟩
end
section
variable {X : Cx} {pos : Pos}
def tWhile (c : TT) (tb : TS) : TS := fun D σ H => ∃ W : Nat → St → Hp → Prop, (∃ m, W m σ H) ∧ ∀ m σ H, W m σ H →
 c σ H fun b H1 => if b = true then ∃ N : St → Hp → Prop, (∀ σ' H', N σ' H' → ∃ m', m' < m ∧ W m' σ' H') ∧ tb { D with nx := N, ct := N, bk := D.nx } σ H1 else D.nx σ H1
theorem ab2 {c : Expr} {body : List Stmt} {tc : TT} {tb : TS} (hp : PassesOwn (model X.prog X.w) X.A X.env X.xe) (hc : PT X c tc) (hb : PSs X body tb) : PS X (.While c body [] pos) (tWhile tc tb) := by
 intro pins s σ H D I h
 obtain ⟨W, ⟨m0, w0⟩, turn⟩ := h
 refine wpAny_While (codeAny_whileLoop (fun n s' => ∃ σ' H', Inv X pins σ' H' s' ∧ W n σ' H') ?_ m0 ⟨σ, H, I, w0⟩)
 rintro n s1 ⟨σ1, H1, I1, w1⟩
 refine wpAny_passesOwn hp (thn (hc pins s1 σ1 H1 _ I1 (turn n σ1 H1 w1)) fun b s2 ⟨H2, I2, q2⟩ => ?_)
 cases b with
 | true =>
  obtain ⟨N, hN, q2⟩ := q2
  rw [if_pos rfl]
  refine wpAny_passesOwn hp (thn (hb pins s2 σ1 H2 _ I2 q2) fun f s3 q3 => ?_)
  cases f with
  | next =>
   obtain ⟨σ3, H3, I3, n3⟩ := q3
   obtain ⟨m', hm, w3⟩ := hN σ3 H3 n3
   exact ⟨m', hm, σ3, H3, I3, w3⟩
  | cont =>
   obtain ⟨σ3, H3, I3, n3⟩ := q3
   obtain ⟨m', hm, w3⟩ := hN σ3 H3 n3
   exact ⟨m', hm, σ3, H3, I3, w3⟩
  | brk => exact q3
  | ret v => exact q3
 | false =>
  rw [if_neg Bool.false_ne_true]
  exact wpAny_execs_nil ⟨σ1, H2, I2, q2⟩
end
structure It where
 go : Nat → Hp → Prop
 yld : Nat → Hp → V → Hp → Prop
 stop : Nat → Hp → Prop
def FpOk (X : Cx) (pins : List (Addr × Obj)) (H : Hp) (b : Addr) : Prop :=
 H b = none ∧ b ≠ X.env.locals ∧ b ∉ X.fs ∧ (b ∈ X.ex ∨ X.s₀.heap.objs.size ≤ b) ∧ (∀ x c, X.env.cells.lookup x = some c → c ≠ b) ∧ ∀ p ∈ X.pn ++ pins, p.1 ≠ b
theorem Inv.fpOk {X : Cx} {pins : List (Addr × Obj)} {σ : St} {H H' : Hp} {s : Shared} {b : Addr} (I : Inv X pins σ H s) (hb : s.heap.objs.size ≤ b) (hn : H' b = none) : FpOk X pins H' b := by
 refine ⟨hn, Nat.ne_of_gt (Nat.lt_of_lt_of_le I.lt hb), I.nofs hb, .inr (Nat.le_trans I.sz hb), fun x c e z => ?_, fun p hp z => ?_⟩
 ·obtain ⟨v, q⟩ := I.cell x c e
  exact absurd (Nat.lt_of_lt_of_le q.lt (by rw [z]; exact hb)) (Nat.lt_irrefl _)
 ·exact absurd (Nat.lt_of_lt_of_le (Heap.lt_size (I.pin p hp).1) (by rw [z]; exact hb)) (Nat.lt_irrefl _)
structure Turn (P : Program) (w : World) (K : PySem.W.Frag) (tg : Expr) (J : It) (fp : List Addr) (it : Addr) (tn : Nat → Heap → Prop) : Prop where
 mem : it ∈ fp
 obj : ∀ i h, tn i h → ∀ b ∈ fp, ∃ o, h.get? b = some o ∧ ∀ v, o.data ≠ .cell v
 keep : ∀ i h h', tn i h → (∀ b ∈ fp, ∀ o, h.get? b = some o → h'.get? b = some o) → tn i h'
 item : ∀ (X : Cx), X.prog = P → X.w = w → X.K = K → X.calm = true → ∀ (i : Nat) (pins : List (Addr × Obj)) (s : Shared) (σ : St) (H : Hp) (E : Value → Shared → Prop), Inv X pins σ H s → (∀ b ∈ fp, FpOk X pins H b) → tn i s.heap → J.go i H →
  wpAny (model P w) X.A (pyNext (.ref it)) (fun r s1 => ∃ u, r = some u ∧
   wpAny (model P w) X.A (letOwnedTupleGo tg (.ref it) u) (fun _ s2 => ∃ x H', Inv X pins σ H' s2 ∧ RelV x u ∧ J.yld i H x H' ∧ tn (i + 1) s2.heap ∧ ∀ b ∈ fp, H' b = none) E s1) E s
 done : ∀ (X : Cx), X.prog = P → X.w = w → X.K = K → X.calm = true → ∀ (i : Nat) (pins : List (Addr × Obj)) (s : Shared) (σ : St) (H : Hp) (E : Value → Shared → Prop), Inv X pins σ H s → (∀ b ∈ fp, FpOk X pins H b) → tn i s.heap → J.stop i H →
  wpAny (model P w) X.A (pyNext (.ref it)) (fun r s1 => r = none ∧ Inv X pins σ H s1) E s
 self : ∀ (A : Around) (i : Nat) (s : Shared) (Q : Value → Shared → Prop) (E : Value → Shared → Prop), tn i s.heap → Q (.ref it) s → wpAny (model P w) A (pyIter (.ref it)) Q E s
abbrev TI := St → Hp → (It → Hp → Prop) → Prop
def PIE (X : Cx) (pins : List (Addr × Obj)) (σ : St) (tg : Expr) (R : It → Hp → Prop) (itv : Value) (s2 : Shared) : Prop :=
 ∃ (it : Addr) (fp : List Addr) (tn : Nat → Heap → Prop) (J : It) (H' : Hp), itv = .ref it ∧ Inv X pins σ H' s2 ∧ Turn X.prog X.w X.K tg J fp it tn ∧ tn 0 s2.heap ∧ (∀ b ∈ fp, FpOk X pins H' b) ∧ R J H'
def PI (X : Cx) (tg iter : Expr) (wi : TI) : Prop :=
 ∀ (pins : List (Addr × Obj)) (s : Shared) (σ : St) (H : Hp) (R : It → Hp → Prop), Inv X pins σ H s → wi σ H R →
  wpAny (model X.prog X.w) X.A (eval iter X.env) (fun v s1 => wpAny (model X.prog X.w) X.A (pyIter v) (PIE X pins σ tg R) X.xe s1) X.xe s
theorem go_of {M : Model} {A : Around} {E : Value → Shared → Prop} {s : Shared} {tg : Expr} {it : Addr} {u : Value} {o : Obj} {n : String} {vs : Array Value} {Q : Unit → Shared → Prop} (ho : s.heap.get? it = some o) (hc : o.cls = .type n) (hd : o.data = .fields vs)
    (hn : ["enumerate", "zip", "dict_itemiterator", "dict_reverseitemiterator", "odict_iterator", "itertools.zip_longest", "itertools.pairwise"].contains n = false) (hQ : Q () s) : wpAny M A (letOwnedTupleGo tg (.ref it) u) Q E s := by
  unfold letOwnedTupleGo
  cases tg <;> first
    | exact wpAny_pure hQ
    | (cases u <;> first
        | exact wpAny_pure hQ
        | (refine wpAny_bind (wpAny_load ho ?_)
           rw [hc, hd]
           show wpAny M A (if (["enumerate", "zip", "dict_itemiterator", "dict_reverseitemiterator", "odict_iterator", "itertools.zip_longest", "itertools.pairwise"].contains n && vs[0]? == some (rawInt _)) = true then _ else _) Q E s
           rw [if_neg (by intro h; rw [hn, Bool.false_and] at h; cases h)]
           exact wpAny_pure hQ))
def Itl (K : PySem.W.Frag) (a : Addr) : It :=
 ⟨fun i H => ∃ xs x, SqL K H a xs ∧ xs[i]? = some x, fun i H x H' => H' = H ∧ ∀ xs, SqL K H a xs → xs[i]? = some x, fun i H => ∃ xs, SqL K H a xs ∧ xs.length ≤ i⟩
def Itt (K : PySem.W.Frag) (a : Addr) : It :=
 ⟨fun i H => ∃ xs x, SqT K H a xs ∧ xs[i]? = some x, fun i H x H' => H' = H ∧ ∀ xs, SqT K H a xs → xs[i]? = some x, fun i H => ∃ xs, SqT K H a xs ∧ xs.length ≤ i⟩
def Itr (lo : Int) (n : Nat) : It := ⟨fun i _ => i < n, fun i H x H' => H' = H ∧ x = .int (lo + i), fun i _ => n ≤ i⟩
theorem turn_list {P : Program} {w : World} {K : PySem.W.Frag} {tg : Expr} (a it : Addr) : Turn P w K tg (Itl K a) [it] it (fun i h => h.IsListIter it a i) where
 mem := by simp
 obj := fun i h st b hb => by
  have e : b = it := by simpa using hb
  subst e
  obtain ⟨o, e, c, d⟩ := st
  exact ⟨o, e, fun v z => by rw [d] at z; cases z⟩
 keep := fun i h h' st k => st.at fun o e => k it (by simp) o e
 item := by
  intro X hP hw hK hc i pins s σ H E I hf st hg
  subst hP hw hK
  obtain ⟨xs, x, hq, hx⟩ := hg
  obtain ⟨its, rv, p, hz⟩ := I.list hq
  obtain ⟨u, hu, ru⟩ := rv.get hx
  obtain ⟨f0, f1, f2, f3, f4, f5⟩ := hf it (by simp)
  refine wpAny_pyNext_list_item st p.isList (x := u) (by simpa using hu) fun h' st' sb => ?_
  have I1 : Inv X pins σ H { s with heap := h' } := I.turned (t' := s.toks) (fun b o hb e => (sb.2 b hb).trans e) f0 f1 f3 f4 f5
  obtain ⟨o, e, c, d⟩ := id st'
  exact ⟨u, rfl, go_of (s := { s with heap := h' }) e c d (by decide) ⟨x, H, I1, ru, ⟨rfl, fun ys hy => by rw [I.list_inj hy hq]; exact hx⟩, st', fun b hb => (hf b hb).1⟩⟩
 done := by
  intro X hP hw hK hc i pins s σ H E I hf st hg
  subst hP hw hK
  obtain ⟨xs, hq, hx⟩ := hg
  obtain ⟨its, rv, p, hz⟩ := I.list hq
  obtain ⟨f0, f1, f2, f3, f4, f5⟩ := hf it (by simp)
  have hl := rv.length
  exact wpAny_pyNext_list_end (I.ok.hd hc) st p.isList (by simp; omega) fun h' eb => ⟨rfl, I.turned (t' := s.toks) (fun b o hb e => eb b o hb e) f0 f1 f3 f4 f5⟩
 self := fun _ _ _ _ _ st h => wpAny_pyIter_listiter st h
theorem turn_tuple {P : Program} {w : World} {K : PySem.W.Frag} {tg : Expr} (a it : Addr) : Turn P w K tg (Itt K a) [it] it (fun i h => h.IsTupleIter it a i) where
 mem := by simp
 obj := fun i h st b hb => by
  have e : b = it := by simpa using hb
  subst e
  obtain ⟨o, e, c, d⟩ := st
  exact ⟨o, e, fun v z => by rw [d] at z; cases z⟩
 keep := fun i h h' st k => st.at fun o e => k it (by simp) o e
 item := by
  intro X hP hw hK hc i pins s σ H E I hf st hg
  subst hP hw hK
  obtain ⟨xs, x, hq, hx⟩ := hg
  obtain ⟨its, rv, p, hz⟩ := I.tuple hq
  obtain ⟨u, hu, ru⟩ := rv.get hx
  obtain ⟨f0, f1, f2, f3, f4, f5⟩ := hf it (by simp)
  refine wpAny_pyNext_tuple_item st (show s.heap.IsTuple a its.toArray from p) (x := u) (by simpa using hu) fun h' st' sb => ?_
  have I1 : Inv X pins σ H { s with heap := h' } := I.turned (t' := s.toks) (fun b o hb e => (sb.2 b hb).trans e) f0 f1 f3 f4 f5
  obtain ⟨o, e, c, d⟩ := id st'
  exact ⟨u, rfl, go_of (s := { s with heap := h' }) e c d (by decide) ⟨x, H, I1, ru, ⟨rfl, fun ys hy => by rw [I.tuple_inj hy hq]; exact hx⟩, st', fun b hb => (hf b hb).1⟩⟩
 done := by
  intro X hP hw hK hc i pins s σ H E I hf st hg
  subst hP hw hK
  obtain ⟨xs, hq, hx⟩ := hg
  obtain ⟨its, rv, p, hz⟩ := I.tuple hq
  obtain ⟨f0, f1, f2, f3, f4, f5⟩ := hf it (by simp)
  have hl := rv.length
  exact wpAny_pyNext_tuple_end (I.ok.hd hc) st (show s.heap.IsTuple a its.toArray from p) (by simp; omega) fun h' eb => ⟨rfl, I.turned (t' := s.toks) (fun b o hb e => eb b o hb e) f0 f1 f3 f4 f5⟩
 self := fun _ _ _ _ _ st h => wpAny_pyIter_tupleiter st h
theorem turn_range {P : Program} {w : World} {K : PySem.W.Frag} {tg : Expr} (it : Addr) (lo : Int) (n : Nat) : Turn P w K tg (Itr lo n) [it] it (fun i h => IsRangeIter h it (lo + (i : Nat) * 1) ((n : Int) - (i : Nat)) 1) where
 mem := by simp
 obj := fun i h st b hb => by
  have e : b = it := by simpa using hb
  subst e
  exact ⟨_, st, fun v z => by
   have z' : Data.fields _ = Data.cell v := z
   cases z'⟩
 keep := fun i h h' st k => k it (by simp) _ st
 item := by
  intro X hP hw hK hc i pins s σ H E I hf st hg
  subst hP hw hK
  obtain ⟨f0, f1, f2, f3, f4, f5⟩ := hf it (by simp)
  have W := Walks.range (prog := X.prog) (w := X.w) (I.ok.hd hc) it lo 1 n
  refine W.item i s _ _ hg st fun v h' tk hv st' kk => ?_
  obtain ⟨t, rfl⟩ := hv
  have I1 : Inv X pins σ H { s with heap := h', toks := tk } := I.turned (fun b o hb e => kk b o (by simpa using hb) e) f0 f1 f3 f4 f5
  refine ⟨_, rfl, go_of (s := { s with heap := h', toks := tk }) (n := "range_iterator") st' rfl rfl (by decide) ⟨.int (lo + i), H, I1, ⟨t, ?_⟩, ⟨rfl, rfl⟩, st', fun b hb => (hf b hb).1⟩⟩
  rw [Int.mul_one]
 done := by
  intro X hP hw hK hc i pins s σ H E I hf st hg
  subst hP hw hK
  obtain ⟨f0, f1, f2, f3, f4, f5⟩ := hf it (by simp)
  exact wpAny_pyNext_range_end (I.ok.hd hc) st (by have : n ≤ i := hg; omega) fun h' eb => ⟨rfl, I.turned (t' := s.toks) (fun b o hb e => eb b o hb e) f0 f1 f3 f4 f5⟩
 self := fun _ _ _ _ _ st h => wpAny_pyIter_rangeiter st h
end L2
namespace L2
open PySem PySem.Spec PyProof.Rows
section
variable {X : Cx} {tg : Expr}
def iList (K : PySem.W.Frag) (tl : TE) : TI := fun σ H R => tl σ H fun x H1 => ∃ a, x = .ref a ∧ (∃ xs, SqL K H1 a xs) ∧ R (Itl K a) H1
def iTup (K : PySem.W.Frag) (tl : TE) : TI := fun σ H R => tl σ H fun x H1 => ∃ a, x = .ref a ∧ (∃ xs, SqT K H1 a xs) ∧ R (Itt K a) H1
theorem a2y {l : Expr} {tl : TE} (hl : PE X l tl) : PI X tg l (iList X.K tl) := by
 intro pins s σ H R I h
 refine thn (hl pins s σ H _ I h) fun v s1 ⟨x, H1, I1, r1, q1⟩ => ?_
 obtain ⟨a, e, ⟨xs, hq⟩, q⟩ := q1
 subst e
 cases r1
 obtain ⟨its, rv, p, hz⟩ := I1.list hq
 refine wpAny_pyIter_list p.isList ?_
 refine ⟨s1.heap.objs.size, [s1.heap.objs.size], _, _, H1, rfl, I1.kept (t' := s1.toks) fun b o e => Heap.get?_push_of_some _ e, turn_list a _, ⟨_, Heap.get?_push_size _ rfl, rfl, rfl⟩, fun b hb => ?_, q⟩
 have e : b = s1.heap.objs.size := by simpa using hb
 subst e
 exact I1.fpOk (Nat.le_refl _) (I1.hok.fresh (Nat.le_refl _))
theorem pi_tup {l : Expr} {tl : TE} (hl : PE X l tl) : PI X tg l (iTup X.K tl) := by
 intro pins s σ H R I h
 refine thn (hl pins s σ H _ I h) fun v s1 ⟨x, H1, I1, r1, q1⟩ => ?_
 obtain ⟨a, e, ⟨xs, hq⟩, q⟩ := q1
 subst e
 cases r1
 obtain ⟨its, rv, p, hz⟩ := I1.tuple hq
 refine wpAny_pyIter_tuple (show s1.heap.IsTuple a its.toArray from p) ?_
 refine ⟨s1.heap.objs.size, [s1.heap.objs.size], _, _, H1, rfl, I1.kept (t' := s1.toks) fun b o e => Heap.get?_push_of_some _ e, turn_tuple a _, ⟨_, Heap.get?_push_size _ rfl, rfl, rfl⟩, fun b hb => ?_, q⟩
 have e : b = s1.heap.objs.size := by simpa using hb
 subst e
 exact I1.fpOk (Nat.le_refl _) (I1.hok.fresh (Nat.le_refl _))
theorem range_it {pins : List (Addr × Obj)} {σ : St} {H : Hp} {s : Shared} {R : It → Hp → Prop} {E : Value → Shared → Prop} {lo hi : Int} {t u v : Tok} {tk : Nat} (I : Inv X pins σ H s) (h1 : -(2 ^ 62) ≤ lo) (h2 : lo < 2 ^ 62) (h3 : -(2 ^ 62) ≤ hi) (h4 : hi < 2 ^ 62)
  (q : R (Itr lo (hi - lo).toNat) H) : wpAny (model X.prog X.w) X.A (pyIter (.ref s.heap.objs.size)) (PIE X pins σ tg R) E { s with heap := s.heap.push { cls := .type "range", data := .fields #[.int lo t, .int hi u, .int 1 v] }, toks := tk } := by
 refine wpAny_pyIter_range (IsRange.new ..) (small_one h1 h2 h3 h4) ?_
 have I1 : Inv X pins σ H { s with heap := s.heap.push { cls := .type "range", data := .fields #[.int lo t, .int hi u, .int 1 v] }, toks := tk } := I.kept fun b o e => Heap.get?_push_of_some _ e
 refine ⟨(s.heap.push { cls := .type "range", data := .fields #[.int lo t, .int hi u, .int 1 v] }).objs.size, [(s.heap.push { cls := .type "range", data := .fields #[.int lo t, .int hi u, .int 1 v] }).objs.size], _, _, H, rfl,
  I1.kept (t' := tk) fun b o e => Heap.get?_push_of_some _ e, turn_range _ lo (hi - lo).toNat, ?_, fun b hb => ?_, q⟩
 ·have e1 : lo + ((0 : Nat) : Int) * 1 = lo := by simp
  have e2 : (((hi - lo).toNat : Nat) : Int) - ((0 : Nat) : Int) = Builtin.Range.rangeSize lo hi 1 := by rw [rangeSize_one]; split <;> omega
  show IsRangeIter _ _ (lo + ((0 : Nat) : Int) * 1) ((((hi - lo).toNat : Nat) : Int) - ((0 : Nat) : Int)) 1
  rw [e1, e2]
  exact Heap.get?_push_size _ rfl
 ·have e : b = (s.heap.push { cls := .type "range", data := .fields #[.int lo t, .int hi u, .int 1 v] }).objs.size := by simpa using hb
  subst e
  exact I1.fpOk (Nat.le_refl _) (I1.hok.fresh (Nat.le_refl _))
def iRng1 (ta : TA) : TI := fun σ H R => ta σ H fun vs H1 => ∃ j : Int, vs = [.int j] ∧ -(2 ^ 62) ≤ j ∧ j < 2 ^ 62 ∧ R (Itr 0 j.toNat) H1
def iRng2 (ta : TA) : TI := fun σ H R => ta σ H fun vs H1 => ∃ i j : Int, vs = [.int i, .int j] ∧ (-(2 ^ 62) ≤ i ∧ i < 2 ^ 62 ∧ -(2 ^ 62) ≤ j ∧ j < 2 ^ 62) ∧ R (Itr i (j - i).toNat) H1
theorem pi_range1 {a : Expr} {ta : TA} {p pos : Pos} (hg : Gl X "range") (hm : X.mg "range" = none) (ha : PA X [a] ta) (hs : starEach [a] X.env = [(false, eval a X.env)] := by rfl) : PI X tg (.Call (.Name "range" p) [a] [] pos) (iRng1 ta) := by
 intro pins s σ H R I h
 refine Call_ (aaf I hg hm boot_range (PyProof.Rows.callWith_type1 (thn (ha pos pins s σ H _ I h) fun us s1 ⟨vs, H1, I1, r1, q1⟩ => ?_) hs rfl))
 obtain ⟨j, e, q1, q2, q⟩ := q1
 subst e
 cases r1 with
 | cons r rr =>
  cases rr
  obtain ⟨t, rfl⟩ := r
  exact call_range_1 (range_it I1 (by omega) (by omega) q1 q2 (by simpa using q))
theorem abz {a b : Expr} {ta : TA} {p pos : Pos} (hg : Gl X "range") (hm : X.mg "range" = none) (ha : PA X [a, b] ta) (hs : starEach [a, b] X.env = [(false, eval a X.env), (false, eval b X.env)] := by rfl) (hs2 : starEach [b] X.env = [(false, eval b X.env)] := by rfl) :
  PI X tg (.Call (.Name "range" p) [a, b] [] pos) (iRng2 ta) := by
 intro pins s σ H R I h
 refine Call_ (aaf I hg hm boot_range (PyProof.Rows.callWith_type1 (thn (ha pos pins s σ H _ I h) fun us s1 ⟨vs, H1, I1, r1, q1⟩ => ?_) (by rw [hs, hs2]) (by rw [hs2]; rfl)))
 obtain ⟨i, j, e, ⟨q1, q2, q3, q4⟩, q⟩ := q1
 subst e
 cases r1 with
 | cons r rr =>
  cases rr with
  | cons r' rr =>
   cases rr
   obtain ⟨t, rfl⟩ := r
   obtain ⟨t', rfl⟩ := r'
   exact call_range_2 (range_it I1 q1 q2 q3 q4 q)
def tFor (wi : TI) (g : TG) (tb : TS) : TS := fun D σ H => wi σ H fun J H1 => ∃ W : Nat → Nat → St → Hp → Prop, (∃ m, W 0 m σ H1) ∧ ∀ i m σ H, W i m σ H →
 (J.stop i H ∧ D.nx σ H) ∨ (J.go i H ∧ ∃ N : St → Hp → Prop, (∀ σ' H', N σ' H' → ∃ m', m' < m ∧ W (i + 1) m' σ' H') ∧ ∀ x H', J.yld i H x H' → g x σ H' fun σ2 H2 => tb { D with nx := N, ct := N, bk := D.nx } σ2 H2)
def a6k (fp : List Addr) (h : Heap) : List (Addr × Obj) := fp.filterMap fun b => (h.get? b).map fun o => (b, o)
theorem a4z {fp : List Addr} {h : Heap} {b : Addr} {o : Obj} (hb : b ∈ fp) (e : h.get? b = some o) : (b, o) ∈ a6k fp h := List.mem_filterMap.mpr ⟨b, hb, by rw [e]; rfl⟩
theorem ac9 {fp : List Addr} {h : Heap} {p : Addr × Obj} (hp : p ∈ a6k fp h) : p.1 ∈ fp ∧ h.get? p.1 = some p.2 := by
 obtain ⟨b, hb, e⟩ := List.mem_filterMap.mp hp
 cases q : h.get? b with
 | none => rw [q] at e; cases e
 | some o =>
  rw [q] at e
  have e' : (b, o) = p := Option.some.inj e
  subst e'
  exact ⟨hb, q⟩
theorem Inv.pinned {pins : List (Addr × Obj)} {σ : St} {H : Hp} {s : Shared} {fp : List Addr} (I : Inv X pins σ H s) (hf : ∀ b ∈ fp, FpOk X pins H b) (ho : ∀ b ∈ fp, ∃ o, s.heap.get? b = some o ∧ ∀ v, o.data ≠ .cell v) : Inv X (pins ++ a6k fp s.heap) σ H s :=
 I.a6r fun p hp => (List.mem_append.mp hp).elim (fun z => I.pin p (List.mem_append_right _ z)) fun z => by
  obtain ⟨hb, e⟩ := ac9 z
  obtain ⟨f0, f1, f2, _⟩ := hf p.1 hb
  obtain ⟨o, e', d⟩ := ho p.1 hb
  rw [e] at e'; cases e'
  exact ⟨e, f0, f1, f2, d⟩
theorem Inv.aaz {pins pl : List (Addr × Obj)} {σ : St} {H : Hp} {s : Shared} (I : Inv X (pins ++ pl) σ H s) : Inv X pins σ H s := I.a6r fun p hp => I.pin p (List.mem_append_right _ (List.mem_append_left _ hp))
theorem a3b {iter : Expr} {body : List Stmt} {wi : TI} {g : TG} {tb : TS} {pos : Pos} (hp : PassesOwn (model X.prog X.w) X.A X.env X.xe) (hc : X.calm = true) (hi : PI X tg iter wi) (hg : PG X tg g) (hb : PSs X body tb)
  (hs : ∀ x, foldedSetIterable iter X.env x = pure x := by intro _; rfl) : PS X (.For tg iter body [] pos) (tFor wi g tb) := by
 intro pins s σ H D I h
 refine wpAny_For (thn (hi pins s σ H _ I h) fun v s1 h1 => thn h1 fun itv s2 h2 => ?_) hs
 obtain ⟨it, fp, tn, J, H2, e, I2, T, st2, f2, W, ⟨m0, w0⟩, turn⟩ := h2
 subst e
 have stat : ∀ {H' : Hp}, (∀ b ∈ fp, H' b = none) → ∀ b ∈ fp, FpOk X pins H' b := fun hn b hb => ⟨hn b hb, (f2 b hb).2⟩
 refine codeAny_forLoop_any (fun n s' => ∃ i σ' H', Inv X pins σ' H' s' ∧ tn i s'.heap ∧ (∀ b ∈ fp, H' b = none) ∧ W i n σ' H') ?_ m0 ⟨0, σ, H2, I2, st2, fun b hb => (f2 b hb).1, w0⟩
 rintro n s3 ⟨i, σ3, H3, I3, st3, fr3, w3⟩
 rcases turn i n σ3 H3 w3 with ⟨stop, qn⟩ | ⟨go, N, hN, step⟩
 ·refine wpAny_passesOwn hp (thn (T.done X rfl rfl rfl hc i pins s3 σ3 H3 X.xe I3 (stat fr3) st3 stop) fun r s4 ⟨hr, I4⟩ => ?_)
  subst hr
  exact wpAny_execs_nil ⟨σ3, H3, I4, qn⟩
 ·refine wpAny_passesOwn hp (thn (T.item X rfl rfl rfl hc i pins s3 σ3 H3 X.xe I3 (stat fr3) st3 go) fun r s4 ⟨u, hr, h4⟩ => ?_)
  subst hr
  refine wpAny_passesOwn hp (thn h4 fun _ s5 ⟨x, H5, I5, r5, y5, st5, fr5⟩ => ?_)
  have I5' := I5.pinned (stat fr5) (T.obj _ _ st5)
  refine wpAny_passesOwn hp (thn (hg _ s5 σ3 H5 x u _ I5' r5 (step x H5 y5)) fun _ s6 ⟨σ6, H6, I6, q6⟩ => ?_)
  refine wpAny_passesOwn hp (thn (hb _ s6 σ6 H6 _ I6 q6) fun f s7 q7 => ?_)
  have again : ∀ {σ7 : St} {H7 : Hp}, Inv X (pins ++ a6k fp s5.heap) σ7 H7 s7 → N σ7 H7 → ∃ m, m < n ∧ ∃ i σ' H', Inv X pins σ' H' s7 ∧ tn i s7.heap ∧ (∀ b ∈ fp, H' b = none) ∧ W i m σ' H' := fun {σ7 H7} I7 n7 => by
   obtain ⟨m', hm, w7⟩ := hN σ7 H7 n7
   refine ⟨m', hm, i + 1, σ7, H7, I7.aaz, T.keep _ _ _ st5 fun b hb o e => (I7.pin (b, o) (List.mem_append_right _ (List.mem_append_right _ (a4z hb e)))).1, fun b hb => ?_, w7⟩
   obtain ⟨o, e, d⟩ := T.obj _ _ st5 b hb
   exact (I7.pin (b, o) (List.mem_append_right _ (List.mem_append_right _ (a4z hb e)))).2.1
  cases f with
  | next => obtain ⟨σ7, H7, I7, n7⟩ := q7; exact again I7 n7
  | cont => obtain ⟨σ7, H7, I7, n7⟩ := q7; exact again I7 n7
  | brk => obtain ⟨σ7, H7, I7, q7⟩ := q7; exact ⟨σ7, H7, I7.aaz, q7⟩
  | ret v => obtain ⟨x7, σ7, H7, I7, r7, q7⟩ := q7; exact ⟨x7, σ7, H7, I7.aaz, r7, q7⟩
end
theorem aax {c : TT} {tb : TS} {D : Ends} {σ : St} {H : Hp} (Pv : St → Hp → Prop) (μ : St → Hp → Nat) (h0 : Pv σ H)
  (hs : ∀ σ H, Pv σ H → c σ H fun b H1 => if b = true then tb { D with nx := fun σ' H' => Pv σ' H' ∧ μ σ' H' < μ σ H, ct := fun σ' H' => Pv σ' H' ∧ μ σ' H' < μ σ H, bk := D.nx } σ H1 else D.nx σ H1)
  (mono : ∀ σ H Q Q', (∀ b H1, Q b H1 → Q' b H1) → c σ H Q → c σ H Q') : tWhile c tb D σ H := by
 refine ⟨fun m σ H => m = μ σ H ∧ Pv σ H, ⟨_, rfl, h0⟩, ?_⟩
 rintro m σ H ⟨rfl, p⟩
 refine mono σ H _ _ (fun b H1 q => ?_) (hs σ H p)
 cases b with
 | true => exact ⟨_, fun σ' H' ⟨p', l⟩ => ⟨_, l, rfl, p'⟩, q⟩
 | false => exact q
end L2
namespace L2
open PySem PySem.Spec PyProof.Rows
abbrev R2 := V → V → Hp → VK → Prop
def OpR (X : Cx) (f : Value → Value → Sem Value) (r : R2) : Prop :=
 ∀ (pins : List (Addr × Obj)) (s : Shared) (σ : St) (H : Hp) (x y : V) (v u : Value) (Q : VK), Inv X pins σ H s → RelV x v → RelV y u → r x y H Q →
  wpAny (model X.prog X.w) X.A (f v u) (EP X pins σ Q) X.xe s
def UnR (X : Cx) (f : Value → Sem Value) (r : V → Hp → VK → Prop) : Prop :=
 ∀ (pins : List (Addr × Obj)) (s : Shared) (σ : St) (H : Hp) (x : V) (v : Value) (Q : VK), Inv X pins σ H s → RelV x v → r x H Q →
  wpAny (model X.prog X.w) X.A (f v) (EP X pins σ Q) X.xe s
def aaw (X : Cx) (f : Value) (r : List V → Hp → VK → Prop) : Prop :=
 ∀ (pins : List (Addr × Obj)) (s : Shared) (σ : St) (H : Hp) (xs : List V) (us : List Value) (Q : VK), Inv X pins σ H s → Vals xs us → r xs H Q →
  wpAny (model X.prog X.w) X.A (call f us) (EP X pins σ Q) X.xe s
def TruR (X : Cx) (r : V → Hp → (Bool → Hp → Prop) → Prop) : Prop :=
 ∀ (pins : List (Addr × Obj)) (s : Shared) (σ : St) (H : Hp) (x : V) (v : Value) (Q : Bool → Hp → Prop), Inv X pins σ H s → RelV x v → r x H Q →
  wpAny (model X.prog X.w) X.A (truthy v) (TP X pins σ Q) X.xe s
def tOp (r : R2) (ta tb : TE) : TE := fun σ H Q => ta σ H fun x H1 => tb σ H1 fun y H2 => r x y H2 Q
def tUn (r : V → Hp → VK → Prop) (ta : TE) : TE := fun σ H Q => ta σ H fun x H1 => r x H1 Q
def rI (C : Int → Int → Prop) (g : Int → Int → V) : R2 := fun x y H Q => ∃ i j, x = .int i ∧ y = .int j ∧ C i j ∧ Q (g i j) H
def rI0 (g : Int → Int → V) : R2 := fun x y H Q => ∃ i j, x = .int i ∧ y = .int j ∧ Q (g i j) H
def rU (g : Int → V) : V → Hp → VK → Prop := fun x H Q => ∃ i, x = .int i ∧ Q (g i) H
section
variable {X : Cx} {a b c : Expr} {ta tb tc : TE} {pos : Pos}
theorem binT (ha : PE X a ta) (hb : PE X b tb) {pins : List (Addr × Obj)} {s : Shared} {σ : St} {H : Hp} {R : V → V → Hp → Prop} (I : Inv X pins σ H s)
  (h : ta σ H fun x H1 => tb σ H1 fun y H2 => R x y H2) {Q : Value → Shared → Prop} {f : Value → Value → Sem Value}
  (hf : ∀ v u s2 x y H2, Inv X pins σ H2 s2 → RelV x v → RelV y u → R x y H2 → wpAny (model X.prog X.w) X.A (f v u) Q X.xe s2) :
  wpAny (model X.prog X.w) X.A (eval a X.env) (fun v s₁ => wpAny (model X.prog X.w) X.A (eval b X.env) (fun u s₂ => wpAny (model X.prog X.w) X.A (f v u) Q X.xe s₂) X.xe s₁) X.xe s := by
 refine thn (ha pins s σ H _ I h) fun v s1 ⟨x, H1, I1, r1, q1⟩ => ?_
 refine thn (hb pins s1 σ H1 _ I1 q1) fun u s2 ⟨y, H2, I2, r2, q2⟩ => ?_
 exact hf v u s2 x y H2 I2 r1 r2 q2
theorem a0o {op : Operator} {r : R2} (ho : OpR X (binaryOp op) r) (ha : PE X a ta) (hb : PE X b tb) : PE X (.BinOp a op b pos) (tOp r ta tb) := by
 intro pins s σ H Q I h
 exact wpAny_BinOp (binT ha hb I h fun v u s2 x y H2 I2 rx ry q => ho pins s2 σ H2 x y v u Q I2 rx ry q)
theorem a7l {op : UnaryOp} {r : V → Hp → VK → Prop} (ho : UnR X (unaryOp op) r) (ha : PE X a ta) : PE X (.UnaryOp op a pos) (tUn r ta) := by
 intro pins s σ H Q I h
 exact UnaryOp_ (thn (ha pins s σ H _ I h) fun v s1 ⟨x, H1, I1, r1, q1⟩ => ho pins s1 σ H1 x v Q I1 r1 q1)
theorem opI {f : Value → Value → Sem Value} {C : Int → Int → Prop} {g : Int → Int → Int}
  (rule : ∀ (i j : Int) (t u : Tok) (s : Shared) (Q : Value → Shared → Prop) (E : Value → Shared → Prop), C i j → Q (.int (g i j) s.toks) { s with toks := s.toks + 1 } → wpAny (model X.prog X.w) X.A (f (.int i t) (.int j u)) Q E s) :
  OpR X f (rI C fun i j => .int (g i j)) := by
 intro pins s σ H x y v u Q I rx ry h
 obtain ⟨i, j, rfl, rfl, hc, q⟩ := h
 obtain ⟨t, rfl⟩ := rx
 obtain ⟨t', rfl⟩ := ry
 exact rule i j t t' s _ _ hc ⟨.int (g i j), H, I.tok _, ⟨_, rfl⟩, q⟩
theorem opI0 {f : Value → Value → Sem Value} {g : Int → Int → Int}
  (rule : ∀ (i j : Int) (t u : Tok) (s : Shared) (Q : Value → Shared → Prop) (E : Value → Shared → Prop), Q (.int (g i j) s.toks) { s with toks := s.toks + 1 } → wpAny (model X.prog X.w) X.A (f (.int i t) (.int j u)) Q E s) :
  OpR X f (rI0 fun i j => .int (g i j)) := by
 intro pins s σ H x y v u Q I rx ry h
 obtain ⟨i, j, rfl, rfl, q⟩ := h
 obtain ⟨t, rfl⟩ := rx
 obtain ⟨t', rfl⟩ := ry
 exact rule i j t t' s _ _ ⟨.int (g i j), H, I.tok _, ⟨_, rfl⟩, q⟩
theorem opB0 {f : Value → Value → Sem Value} {g : Int → Int → Bool}
  (rule : ∀ (i j : Int) (t u : Tok) (s : Shared) (Q : Value → Shared → Prop) (E : Value → Shared → Prop), Q (.bool (g i j)) s → wpAny (model X.prog X.w) X.A (f (.int i t) (.int j u)) Q E s) :
  OpR X f (rI0 fun i j => .bl (g i j)) := by
 intro pins s σ H x y v u Q I rx ry h
 obtain ⟨i, j, rfl, rfl, q⟩ := h
 obtain ⟨t, rfl⟩ := rx
 obtain ⟨t', rfl⟩ := ry
 exact rule i j t t' s _ _ ⟨.bl (g i j), H, I, rfl, q⟩
def CDiv (i j : Int) : Prop := 0 < j ∧ j < 1073741824
def CMul (i j : Int) : Prop := (-(2 ^ 64) < i ∧ i < 2 ^ 64) ∨ (-(2 ^ 64) < j ∧ j < 2 ^ 64)
theorem CMul.ok {i j : Int} (h : CMul i j) : IntMulOk i j := by
 rcases h with ⟨h1, h2⟩ | ⟨h1, h2⟩
 ·exact .of_left (intBits_le_64 h1 h2)
 ·exact .of_right (intBits_le_64 h1 h2)
theorem op_add : OpR X (binaryOp .Add) (rI0 fun i j => .int (i + j)) := opI0 fun _ _ _ _ _ _ _ q => add_int q
theorem op_sub : OpR X (binaryOp .Sub) (rI0 fun i j => .int (i - j)) := opI0 fun _ _ _ _ _ _ _ q => sub_int q
theorem op_mul : OpR X (binaryOp .Mult) (rI CMul fun i j => .int (i * j)) := opI fun _ _ _ _ _ _ _ hc q => mul_int q hc.ok
theorem op_fdiv : OpR X (binaryOp .FloorDiv) (rI CDiv fun i j => .int (i / j)) := opI fun i j _ _ _ _ _ hc q => by
 have h1 : (0 : Int) < j := hc.1
 have h2 : j < 1073741824 := hc.2
 exact floordiv_int (by omega) (by rw [Int.fdiv_eq_ediv_of_nonneg i (by omega)]; exact q) (.inl (PyProof.noPylong_small (by omega)))
theorem a4m : OpR X (binaryOp .Mod) (rI (fun _ j => 0 < j) fun i j => .int (i % j)) := opI fun i j _ _ _ _ _ hc q => by
 have h1 : (0 : Int) < j := hc
 exact mod_int' (by omega) (by rw [Int.fmod_eq_emod_of_nonneg i (by omega)]; exact q)
theorem unI {f : Value → Sem Value} {g : Int → Int}
  (rule : ∀ (i : Int) (t : Tok) (s : Shared) (Q : Value → Shared → Prop) (E : Value → Shared → Prop), Q (.int (g i) s.toks) { s with toks := s.toks + 1 } → wpAny (model X.prog X.w) X.A (f (.int i t)) Q E s) :
  UnR X f (rU fun i => .int (g i)) := by
 intro pins s σ H x v Q I rx h
 obtain ⟨i, rfl, q⟩ := h
 obtain ⟨t, rfl⟩ := rx
 exact rule i t s _ _ ⟨.int (g i), H, I.tok _, ⟨_, rfl⟩, q⟩
theorem a4p : UnR X (unaryOp .USub) (rU fun i => .int (-i)) := unI fun _ _ _ _ _ q => neg_int q
end
def scal : V → V → Bool
 | .non, .non => true | .non, .int _ => true | .int _, .non => true | .non, .bl _ => true | .bl _, .non => true | .non, .str _ => true | .str _, .non => true
 | .int _, .int _ => true | .bl _, .bl _ => true | .str _, .str _ => true | .byt _, .byt _ => true
 | .int _, .str _ => true | .str _, .int _ => true | .bl _, .str _ => true | .str _, .bl _ => true
 | _, _ => false
def rEq : R2 := fun x y H Q => scal x y = true ∧ Q (.bl (decide (x = y))) H
def rNe : R2 := fun x y H Q => scal x y = true ∧ Q (.bl (!decide (x = y))) H
theorem dec_int {i j : Int} : decide (V.int i = V.int j) = (i == j) := by
 rw [Bool.eq_iff_iff]
 simp
theorem dec_bl {i j : Bool} : decide (V.bl i = V.bl j) = (i == j) := by
 rw [Bool.eq_iff_iff]
 simp
theorem dec_str {i j : Str} : decide (V.str i = V.str j) = (i == j) := by
 rw [Bool.eq_iff_iff]
 simp
theorem dec_byt {i j : Array UInt8} : decide (V.byt i = V.byt j) = (i.toList == j.toList) := by
 rw [Bool.eq_iff_iff]
 cases i
 cases j
 simp
section
variable {X : Cx} {a b c : Expr} {ta tb tc : TE} {pos : Pos}
theorem a1q {pins : List (Addr × Obj)} {σ : St} {H : Hp} {s : Shared} {Q : VK} {k k' : Bool} (I : Inv X pins σ H s) (q : Q (.bl k) H) (e : k = k') : EP X pins σ Q (.bool k') s := by
 subst e
 exact ⟨.bl k, H, I, rfl, q⟩
theorem a6f : OpR X (compareOp .Eq) rEq := by
 intro pins s σ H x y v u Q I rx ry h
 obtain ⟨hs, q⟩ := h
 cases x with
 | non =>
  cases rx
  cases y with
  | non => cases ry; exact PySem.EqNone.eq_none_none (a1q I q (by simp))
  | bl j => cases ry; exact PySem.EqNone.eq_none_bool (a1q I q (by simp))
  | int j => obtain ⟨t', rfl⟩ := ry; exact PySem.EqNone.eq_none_int (a1q I q (by simp))
  | str j => obtain ⟨t', rfl⟩ := ry; exact PySem.EqNone.eq_none_str (a1q I q (by simp))
  | _ => exact absurd (show false = true from hs) Bool.false_ne_true
 | bl i =>
  cases rx
  cases y with
  | non => cases ry; exact PySem.EqNone.eq_bool_none (a1q I q (by simp))
  | bl j => cases ry; exact eq_bool (a1q I q dec_bl)
  | str j => obtain ⟨t', rfl⟩ := ry; exact PySem.EqMixed.eq_bool_str (a1q I q (by simp))
  | _ => exact absurd (show false = true from hs) Bool.false_ne_true
 | int i =>
  obtain ⟨t, rfl⟩ := rx
  cases y with
  | non => cases ry; exact PySem.EqNone.eq_int_none (a1q I q (by simp))
  | int j => obtain ⟨t', rfl⟩ := ry; exact eq_int (a1q I q dec_int)
  | str j => obtain ⟨t', rfl⟩ := ry; exact PySem.EqMixed.eq_int_str (a1q I q (by simp))
  | _ => exact absurd (show false = true from hs) Bool.false_ne_true
 | str i =>
  obtain ⟨t, rfl⟩ := rx
  cases y with
  | non => cases ry; exact PySem.EqNone.eq_str_none (a1q I q (by simp))
  | bl j => cases ry; exact PySem.EqMixed.eq_str_bool (a1q I q (by simp))
  | int j => obtain ⟨t', rfl⟩ := ry; exact PySem.EqMixed.eq_str_int (a1q I q (by simp))
  | str j => obtain ⟨t', rfl⟩ := ry; exact eq_str (a1q I q dec_str)
  | _ => exact absurd (show false = true from hs) Bool.false_ne_true
 | byt i =>
  obtain ⟨t, rfl⟩ := rx
  cases y with
  | byt j => obtain ⟨t', rfl⟩ := ry; exact PySem.W.eq_bytes (a1q I q dec_byt)
  | _ => exact absurd (show false = true from hs) Bool.false_ne_true
 | _ => cases y <;> exact absurd (show false = true from hs) Bool.false_ne_true
theorem op_ne : OpR X (compareOp .NotEq) rNe := by
 intro pins s σ H x y v u Q I rx ry h
 obtain ⟨hs, q⟩ := h
 cases x with
 | non =>
  cases rx
  cases y with
  | non => cases ry; exact PySem.EqNone.ne_none_none (a1q I q (by simp))
  | bl j => cases ry; exact PySem.EqNone.ne_none_bool (a1q I q (by simp))
  | int j => obtain ⟨t', rfl⟩ := ry; exact PySem.EqNone.ne_none_int (a1q I q (by simp))
  | str j => obtain ⟨t', rfl⟩ := ry; exact PySem.EqNone.ne_none_str (a1q I q (by simp))
  | _ => exact absurd (show false = true from hs) Bool.false_ne_true
 | bl i =>
  cases rx
  cases y with
  | non => cases ry; exact PySem.EqNone.ne_bool_none (a1q I q (by simp))
  | bl j => cases ry; exact ne_bool (a1q I q (congrArg not dec_bl))
  | str j => obtain ⟨t', rfl⟩ := ry; exact PySem.EqMixed.ne_bool_str (a1q I q (by simp))
  | _ => exact absurd (show false = true from hs) Bool.false_ne_true
 | int i =>
  obtain ⟨t, rfl⟩ := rx
  cases y with
  | non => cases ry; exact PySem.EqNone.ne_int_none (a1q I q (by simp))
  | int j => obtain ⟨t', rfl⟩ := ry; exact ne_int (a1q I q (congrArg not dec_int))
  | str j => obtain ⟨t', rfl⟩ := ry; exact PySem.EqMixed.ne_int_str (a1q I q (by simp))
  | _ => exact absurd (show false = true from hs) Bool.false_ne_true
 | str i =>
  obtain ⟨t, rfl⟩ := rx
  cases y with
  | non => cases ry; exact PySem.EqNone.ne_str_none (a1q I q (by simp))
  | bl j => cases ry; exact PySem.EqMixed.ne_str_bool (a1q I q (by simp))
  | int j => obtain ⟨t', rfl⟩ := ry; exact PySem.EqMixed.ne_str_int (a1q I q (by simp))
  | str j => obtain ⟨t', rfl⟩ := ry; exact ne_str (a1q I q (congrArg not dec_str))
  | _ => exact absurd (show false = true from hs) Bool.false_ne_true
 | byt i =>
  obtain ⟨t, rfl⟩ := rx
  cases y with
  | byt j => obtain ⟨t', rfl⟩ := ry; exact PySem.W.ne_bytes (a1q I q (congrArg not dec_byt))
  | _ => exact absurd (show false = true from hs) Bool.false_ne_true
 | _ => cases y <;> exact absurd (show false = true from hs) Bool.false_ne_true
theorem aaq : OpR X (compareOp .Lt) (rI0 fun i j => .bl (decide (i < j))) := opB0 fun _ _ _ _ _ _ _ q => lt_int q
theorem op_le : OpR X (compareOp .LtE) (rI0 fun i j => .bl (decide (i ≤ j))) := opB0 fun _ _ _ _ _ _ _ q => le_int q
theorem op_gt : OpR X (compareOp .Gt) (rI0 fun i j => .bl (decide (j < i))) := opB0 fun _ _ _ _ _ _ _ q => gt_int q
theorem ac3 : OpR X (compareOp .In) (fun x y H Q => ∃ i j, x = .str i ∧ y = .str j ∧ Q (.bl (!(Builtin.Str.occurrences j i 0 j.length 1).isEmpty)) H) := by
 intro pins s σ H x y v u Q I rx ry h
 obtain ⟨i, j, rfl, rfl, q⟩ := h
 obtain ⟨t, rfl⟩ := rx
 obtain ⟨t', rfl⟩ := ry
 exact in_str (a1q I q rfl)
theorem op_isN : OpR X (compareOp .Is) (fun x y H Q => y = .non ∧ Q (.bl (decide (x = .non))) H) := by
 intro pins s σ H x y v u Q I rx ry h
 obtain ⟨rfl, q⟩ := h
 cases ry
 refine is_none_gen (a1q I q ?_)
 cases x <;> first
  | (cases rx; rfl)
  | (obtain ⟨rfl, _⟩ := rx; rfl)
  | (obtain ⟨t, rfl⟩ := rx; rfl)
theorem op_notN : OpR X (compareOp .IsNot) (fun x y H Q => y = .non ∧ Q (.bl (!decide (x = .non))) H) := by
 intro pins s σ H x y v u Q I rx ry h
 obtain ⟨rfl, q⟩ := h
 cases ry
 refine isnot_none_gen (a1q I q ?_)
 cases x <;> first
  | (cases rx; rfl)
  | (obtain ⟨rfl, _⟩ := rx; rfl)
  | (obtain ⟨t, rfl⟩ := rx; rfl)
theorem OpR.or {f : Value → Value → Sem Value} {r r' : R2} (h : OpR X f r) (h' : OpR X f r') : OpR X f (fun x y H Q => r x y H Q ∨ r' x y H Q) := by
 intro pins s σ H x y v u Q I rx ry q
 rcases q with q | q
 ·exact h pins s σ H x y v u Q I rx ry q
 ·exact h' pins s σ H x y v u Q I rx ry q
theorem a0g (b : Expr) {op : CmpOp} (h : op ≠ .In := by decide) (h2 : op ≠ .NotIn := by decide) : behindInMarks op b = false := by
 have e1 : (op == CmpOp.In) = false := by cases op <;> first | rfl | exact absurd rfl h
 have e2 : (op == CmpOp.NotIn) = false := by cases op <;> first | rfl | exact absurd rfl h2
 cases b <;> simp [behindInMarks, e1, e2]
theorem a0z {op : CmpOp} {r : R2} (ho : OpR X (compareOp op) r) (ha : PE X a ta) (hb : PE X b tb) (hm : behindInMarks op b = false) : PE X (.Compare a [op] [b] pos) (tOp r ta tb) := by
 intro pins s σ H Q I h
 exact wpAny_Compare1 (binT ha hb I h fun v u s2 x y H2 I2 rx ry q => ho pins s2 σ H2 x y v u Q I2 rx ry q) hm
def tTest (t : TE) : TT := fun σ H Q => t σ H fun x H' => ∃ k, x = .bl k ∧ Q k H'
theorem a0h {op : CmpOp} {r : R2} (ho : OpR X (compareOp op) r) (ha : PE X a ta) (hb : PE X b tb) (hm : behindInMarks op b = false) : PT X (.Compare a [op] [b] pos) (tTest (tOp r ta tb)) := by
 intro pins s σ H Q I h
 refine wpAny_isTrue_Compare1 (thn (ha pins s σ H _ I h) fun v s1 ⟨x, H1, I1, r1, q1⟩ => thn (hb pins s1 σ H1 _ I1 q1) fun u s2 ⟨y, H2, I2, r2, q2⟩ =>
  thn (ho pins s2 σ H2 x y v u _ I2 r1 r2 q2) fun c s3 ⟨z, H3, I3, r3, k, e, q3⟩ => ?_) hm
 subst e
 cases r3
 exact wpAny_truthy_bool ⟨H3, I3, q3⟩
def tChain (r r' : R2) (ta tb tc : TE) : TE := fun σ H Q => ta σ H fun x H1 => tb σ H1 fun y H2 => r x y H2 fun z H3 => ∃ k, z = .bl k ∧
 (if k = true then tc σ H3 fun w' H4 => r' y w' H4 Q else Q (.bl false) H3)
theorem pe_chain {op op' : CmpOp} {r r' : R2} (ho : OpR X (compareOp op) r) (ho' : OpR X (compareOp op') r') (ha : PE X a ta) (hb : PE X b tb) (hc : PE X c tc)
  (hm : lastMarks [op, op'] [b, c] = false := by with_unfolding_all rfl) : PE X (.Compare a [op, op'] [b, c] pos) (tChain r r' ta tb tc) := by
 intro pins s σ H Q I h
 refine Compare_chain (thn (ha pins s σ H _ I h) fun v s1 ⟨x, H1, I1, r1, q1⟩ => chain_link (thn (hb pins s1 σ H1 _ I1 q1) fun u s2 ⟨y, H2, I2, r2, q2⟩ =>
  thn (ho pins s2 σ H2 x y v u _ I2 r1 r2 q2) fun d s3 ⟨z, H3, I3, r3, k, e, q3⟩ => ?_)) hm
 subst e
 cases r3
 refine wpAny_truthy_bool ?_
 cases k with
 | false => exact ite_ff ⟨.bl false, H3, I3, rfl, q3⟩
 | true => exact ite_tt (chain_last (thn (hc pins s3 σ H3 _ I3 q3) fun w' s4 ⟨z', H4, I4, r4, q4⟩ => ho' pins s4 σ H4 y z' u w' Q I4 r2 r4 q4))
theorem pt_chain {op op' : CmpOp} {r r' : R2} (ho : OpR X (compareOp op) r) (ho' : OpR X (compareOp op') r') (ha : PE X a ta) (hb : PE X b tb) (hc : PE X c tc)
  (hm : lastMarks [op, op'] [b, c] = false := by with_unfolding_all rfl) : PT X (.Compare a [op, op'] [b, c] pos) (tTest (tChain r r' ta tb tc)) := by
 intro pins s σ H Q I h
 refine isTrue_chain (thn (ha pins s σ H _ I h) fun v s1 ⟨x, H1, I1, r1, q1⟩ => test_link (thn (hb pins s1 σ H1 _ I1 q1) fun u s2 ⟨y, H2, I2, r2, q2⟩ =>
  thn (ho pins s2 σ H2 x y v u _ I2 r1 r2 q2) fun d s3 ⟨z, H3, I3, r3, k, e, q3⟩ => ?_)) hm
 subst e
 cases r3
 refine wpAny_truthy_bool ?_
 cases k with
 | false =>
  obtain ⟨k', e', q'⟩ := q3
  cases e'
  exact ite_ff ⟨H3, I3, q'⟩
 | true =>
  refine ite_tt (test_last (thn (hc pins s3 σ H3 _ I3 q3) fun w' s4 ⟨z', H4, I4, r4, q4⟩ => thn (ho' pins s4 σ H4 y z' u w' _ I4 r2 r4 q4) fun d' s5 ⟨z2, H5, I5, r5, k2, e2, q5⟩ => ?_))
  subst e2
  cases r5
  exact wpAny_truthy_bool ⟨H5, I5, q5⟩
def TruV (K : PySem.W.Frag) (x : V) (H : Hp) (k : Bool) : Prop :=
 match x with
 | .non => k = false
 | .bl b => k = b
 | .int i => k = (i != 0)
 | .str y => y.length ≤ sizeLine ∧ k = ((y.length : Int) != 0)
 | .byt y => y.size ≤ sizeLine ∧ k = ((y.size : Int) != 0)
 | .ref p => (∃ xs, SqL K H p xs ∧ k = !xs.isEmpty) ∨ (∃ xs, SqT K H p xs ∧ k = !xs.isEmpty) ∨ ∃ kvs, H p = some (.dK kvs) ∧ k = !kvs.isEmpty
 | _ => False
theorem isEmpty_kv {κ : Type} {kvs : List (κ × V)} {vs : List (κ × Value)} (r : KV kvs vs) : (!vs.isEmpty) = !kvs.isEmpty := by
 cases r <;> rfl
theorem isEmpty_of {xs : List V} {its : List Value} (r : Vals xs its) : (!its.toArray.isEmpty) = !xs.isEmpty := by
 cases r <;> simp
theorem line63 : (sizeLine : Nat) < 2 ^ 63 := by rw [sizeLine_eq]; decide
theorem tru_ok : TruR X (fun x H Q => ∃ k, TruV X.K x H k ∧ Q k H) := by
 intro pins s σ H x v Q I rx h
 obtain ⟨k, e, q⟩ := h
 have hl := line63
 have hs : sizeLine = 16777216 := sizeLine_eq
 cases x with
 | non =>
  cases rx
  have e' : k = false := e
  subst e'
  exact truthy_none ⟨H, I, q⟩
 | bl b =>
  cases rx
  have e' : k = b := e
  subst e'
  exact wpAny_truthy_bool ⟨H, I, q⟩
 | int i =>
  obtain ⟨t, rfl⟩ := rx
  have e' : k = (i != 0) := e
  subst e'
  exact PySem.P.truthy_int ⟨H, I, q⟩
 | str y =>
  obtain ⟨t, rfl⟩ := rx
  obtain ⟨hy, e'⟩ : y.length ≤ sizeLine ∧ k = ((y.length : Int) != 0) := e
  subst e'
  exact PySem.P.truthy_str (by omega) ⟨H, I.tok _, q⟩
 | byt y =>
  obtain ⟨t, rfl⟩ := rx
  obtain ⟨hy, e'⟩ : y.size ≤ sizeLine ∧ k = ((y.size : Int) != 0) := e
  subst e'
  exact PySem.W.truthy_bytes (by omega) ⟨H, I.tok _, q⟩
 | ref p =>
  cases rx
  have e' : (∃ xs, SqL X.K H p xs ∧ k = !xs.isEmpty) ∨ (∃ xs, SqT X.K H p xs ∧ k = !xs.isEmpty) ∨ ∃ kvs, H p = some (.dK kvs) ∧ k = !kvs.isEmpty := e
  rcases e' with ⟨xs, hx, e'⟩ | ⟨xs, hx, e'⟩ | ⟨kvs, hx, e'⟩
  ·subst e'
   obtain ⟨its, r, pl, hz⟩ := I.list hx
   have hlen := r.length
   exact wpAny_truthy_list pl.isList (by simp only [List.size_toArray]; omega) ⟨H, I.tok _, by rw [isEmpty_of r]; exact q⟩
  ·subst e'
   obtain ⟨its, r, pl, hz⟩ := I.tuple hx
   have hlen := r.length
   exact truthy_tuple pl (by simp only [List.size_toArray]; omega) ⟨H, I.tok _, by rw [isEmpty_of r]; exact q⟩
  ·subst e'
   obtain ⟨hz, hS, vs, r, m⟩ : kvs.length ≤ sizeLine ∧ (p == sysModules) = false ∧ ∃ vs, KV kvs vs ∧ s.heap.DictOf (a3i X.prog X.w) p vs := I.hok p _ hx
   have hlen : kvs.length = vs.length := Paired.length r
   exact wpAny_truthy_dict hS m (by omega) ⟨H, I.tok _, by rw [isEmpty_kv r]; exact q⟩
 | _ => exact (show False from e).elim
theorem pt_truth (ha : PE X a ta) (he : ∀ whole, isTrue a X.env whole = (do let v ← whole; standAt a.pos; holding [v] (truthy v))) :
  PT X a (fun σ H Q => ta σ H fun x H' => ∃ k, TruV X.K x H' k ∧ Q k H') := by
 intro pins s σ H Q I h
 exact isTrue_plain (thn (ha pins s σ H _ I h) fun v s1 ⟨x, H1, I1, r1, q1⟩ => tru_ok pins s1 σ H1 x v Q I1 r1 q1) (he _)
theorem a0s : OpR X (binaryOp .Add) (fun x y H Q => ∃ i j, x = .str i ∧ y = .str j ∧ i.length + j.length ≤ sizeLine ∧ Q (.str (i ++ j)) H) := by
 intro pins s σ H x y v u Q I rx ry h
 obtain ⟨i, j, rfl, rfl, hz, q⟩ := h
 obtain ⟨t, rfl⟩ := rx
 obtain ⟨t', rfl⟩ := ry
 exact add_str (fun t' tk => ⟨.str (i ++ j), H, I.tok _, ⟨_, rfl⟩, q⟩) hz
theorem vals1 {x : V} {us : List Value} (r : Vals [x] us) : ∃ u, us = [u] ∧ RelV x u := by
 cases r with
 | cons r1 r2 => cases r2; exact ⟨_, rfl, r1⟩
theorem vals2 {x y : V} {us : List Value} (r : Vals [x, y] us) : ∃ u w', us = [u, w'] ∧ RelV x u ∧ RelV y w' := by
 cases r with
 | cons r1 r2 =>
  cases r2 with
  | cons r3 r4 => cases r4; exact ⟨_, _, rfl, r1, r3⟩
theorem call_abs : aaw X (.builtin "abs") (fun xs H Q => ∃ i, xs = [.int i] ∧ Q (.int (if i < 0 then -i else i)) H) := by
 intro pins s σ H xs us Q I r h
 obtain ⟨i, rfl, q⟩ := h
 obtain ⟨u, rfl, t, rfl⟩ := vals1 r
 exact call_abs_int fun u tk => ⟨.int (if i < 0 then -i else i), H, I.tok _, ⟨_, rfl⟩, q⟩
def LenV (K : PySem.W.Frag) (x : V) (H : Hp) (n : Nat) : Prop :=
 match x with
 | .str y => y.length ≤ sizeLine ∧ n = y.length
 | .byt y => y.size ≤ sizeLine ∧ n = y.size
 | .ref p => (∃ xs, SqL K H p xs ∧ n = xs.length) ∨ ∃ xs, SqT K H p xs ∧ n = xs.length
 | _ => False
theorem call_len : aaw X (.builtin "len") (fun xs H Q => ∃ x n, xs = [x] ∧ LenV X.K x H n ∧ Q (.int n) H) := by
 intro pins s σ H xs us Q I r h
 obtain ⟨x, n, rfl, e, q⟩ := h
 obtain ⟨u, rfl, rx⟩ := vals1 r
 have hl := line63
 have hs : sizeLine = 16777216 := sizeLine_eq
 cases x with
 | str y =>
  obtain ⟨t, rfl⟩ := rx
  obtain ⟨hy, e'⟩ : y.length ≤ sizeLine ∧ n = y.length := e
  subst e'
  exact len_str (by omega) ⟨.int _, H, I.tok _, ⟨_, rfl⟩, q⟩
 | byt y =>
  obtain ⟨t, rfl⟩ := rx
  obtain ⟨hy, e'⟩ : y.size ≤ sizeLine ∧ n = y.size := e
  subst e'
  exact PySem.W.len_bytes (by omega) ⟨.int _, H, I.tok _, ⟨_, rfl⟩, q⟩
 | ref p =>
  cases rx
  have e' : (∃ xs, SqL X.K H p xs ∧ n = xs.length) ∨ ∃ xs, SqT X.K H p xs ∧ n = xs.length := e
  rcases e' with ⟨xs, hx, e'⟩ | ⟨xs, hx, e'⟩
  ·subst e'
   obtain ⟨its, r', pl, hz⟩ := I.list hx
   have hlen := r'.length
   exact Calls.call_len_list pl.isList (by simp only [List.size_toArray]; omega) ⟨.int xs.length, H, I.tok _, ⟨_, by simp only [List.size_toArray]; rw [hlen]⟩, q⟩
  ·subst e'
   obtain ⟨its, r', pl, hz⟩ := I.tuple hx
   have hlen := r'.length
   exact len_tuple pl (by simp only [List.size_toArray]; omega) ⟨.int xs.length, H, I.tok _, ⟨_, by simp only [List.size_toArray]; rw [hlen]⟩, q⟩
 | _ => exact (show False from e).elim
end
end L2
namespace L2
open PySem PySem.Spec PyProof.Rows
structure ObjM (h : Heap) (x dx C : Addr) (mA : Str → Option Value) : Prop where
 obj : h.get? x = some (PySem.W.instObj C dx)
 ns : h.Ns1 dx mA
 ne : dx ≠ x
theorem lookIn_ns {h : Heap} {dx : Addr} {mA : Str → Option Value} (n : h.Ns1 dx mA) : ∃ od, h.get? dx = some od ∧ ∀ name, PySem.W.lookIn name od = some (mA name) := by
 obtain ⟨o, es, ep, ho, hd, hk, _, hm⟩ := n
 refine ⟨o, ho, fun name => ?_⟩
 have e := hm name
 unfold nsFind findBy at e
 rw [← Array.find?_toList] at e
 unfold PySem.W.lookIn
 rw [hd]
 dsimp only
 split
 ·rename_i y q
  rw [q] at e
  exact congrArg some e
 ·rename_i q
  rw [q] at e
  have a : es.toList.any (·.refKey) = false := by
   rw [List.any_eq_false]
   intro y hy
   obtain ⟨z, t, hkey⟩ := hk y (Array.mem_toList_iff.mp hy)
   simp [DictEntry.refKey, hkey]
  have a' : ¬ es.toList.any (·.refKey) = true := by rw [a]; exact Bool.false_ne_true
  rw [if_neg a']
  exact congrArg some e
theorem ObjM.look {h : Heap} {x dx C : Addr} {mA : Str → Option Value} (I : ObjM h x dx C mA) : ∃ od, PySem.W.InstAt h x (PySem.W.instObj C dx) C (some od) ∧ ∀ name, PySem.W.lookIn name od = some (mA name) :=
 let ⟨od, ho, hl⟩ := lookIn_ns I.ns
 ⟨od, ⟨I.obj, rfl, rfl, ho⟩, hl⟩
section
variable {prog : Program} {w : World} {A : Around} {E : Value → Shared → Prop} {s : Shared} {K : PySem.W.Frag} {x dx C f : Addr} {mA : Str → Option Value} {name : Str} {v : Value}
theorem get_map {expr : Bool} {Q : Value → Shared → Prop} (X : K.In s.heap) (I : ObjM s.heap x dx C mA) (hg : PySem.W.plainGet K C name = true) (hh : PySem.W.hasDictIn K C = true)
  (ha : PySem.W.findIn K (.ref C) name = some none) (hv : mA name = some v) (hv' : PySem.W.handedIn v = true) (h : Q v { s with toks := s.toks + 1 }) :
  wpAny (model prog w) A (getAttr (.ref x) name expr) Q E s := by
 obtain ⟨od, J, hl⟩ := I.look
 exact PySem.W.get_value X J (PySem.W.plainGet_of hg).1 (PySem.W.findObj_own hh ha rfl (by rw [hl, hv])) hv' h
theorem get_meth {pl : Sem Bool} {Q : Value × List Value → Shared → Prop} (X : K.In s.heap) (I : ObjM s.heap x dx C mA) (hg : PySem.W.plainGet K C name = true)
  (hf : PySem.W.findIn K (.ref C) name = some (some (.ref f))) (ht : PySem.W.isFn K (.ref f) = true) (hv : mA name = none) (h : Q (.ref f, [.ref x]) s) :
  wpAny (model prog w) A (getMethod (.ref x) name pl) Q E s := by
 obtain ⟨od, J, hl⟩ := I.look
 exact PySem.W.method_fn X J (PySem.W.plainGet_of hg).1 (PySem.W.plainGet_of hg).2 hf (beq_iff_eq.mp ht) (by show (PySem.W.lookIn name od).map (·.isSome) = some false; rw [hl, hv]; rfl) h
theorem set_map {ns : List Str} {Q : Unit → Shared → Prop} (X : K.In s.heap) (I : ObjM s.heap x dx C mA)
  (hs : PySem.W.findIn K (.ref C) "__setattr__" = some (some (.builtin "object.__setattr__"))) (hp : PySem.W.plainOver K C = true) (ht : PySem.W.takerIn K C name = some none) (hh : PySem.W.hasDictIn K C = true)
  (hw : PySem.Within mA ns) (hsz : ns.length ≤ sizeLine)
  (h : ∀ h', ObjM h' x dx C (fun y => if y = name then some v else mA y) → Heap.SameBut dx s.heap h' → Q () { s with heap := h', toks := s.toks + 2 }) :
  wpAny (model prog w) A (setAttr (.ref x) name v) Q E s := by
 obtain ⟨od, J, hl⟩ := I.look
 refine PySem.W.set_plain X J hs (PySem.W.osa_open (s := { s with toks := s.toks + 1 }) (r := none) X J hp ht fun b => ?_)
 obtain ⟨cd, hc, hd'⟩ := PySem.W.any_some hh
 have hx : s.heap.get? x = some ⟨.ref C, some dx, .plain, #[]⟩ := I.obj
 refine wpAny_bind (wpAny_pure (wpAny_bind (wpAny_bind (wpAny_loadPart hx (wpAny_bind (PySem.W.Looks.here (s := { s with toks := s.toks + 1 }) (PySem.W.looks_clsIn X hc) ?_))))))
 rw [hd']
 refine wpAny_pure (a := some dx) (wpAny_bind (wpAny_pure (wpAny_bind ?_)))
 refine wpAny_nsSet1 (s := { s with toks := s.toks + 1 }) I.ns fun h' hn2 hs2 => ?_
 obtain ⟨oD, esD, epD, hoD, hdD, hcD⟩ := hn2.count (PySem.Within.cons name v hw)
 refine wpAny_bind (wpAny_lookBehind hoD (by rw [hdD]; exact pastItsLine_dict (Nat.le_trans hcD (by rw [List.length_cons]; omega))) ?_)
 exact wpAny_pure (h _ ⟨(hs2.2 _ (Ne.symm I.ne)).trans I.obj, hn2, I.ne⟩ hs2)
theorem make_map {R : Result → Shared → Prop} {vs : List Value} {kw : List (Str × Value)} (X : K.In s.heap) (hm : PySem.W.makesIn K C = true)
  (hi : PySem.W.findIn K (.ref C) "__init__" = some (some (.ref f))) (hf : PySem.W.typeIn K (.ref f) = some (.type "function"))
  (h : codeAny (model prog w) (A.under (.builtin "type.__call__" ⟨.ref C :: vs, kw⟩)) (.call (.ref f) ⟨.ref (s.heap.objs.size + 1) :: vs, kw⟩) (PySem.W.InitBack (s.heap.objs.size + 1) R)
   { s with heap := (s.heap.push PySem.W.emptyDict).push (PySem.W.instObj C s.heap.objs.size) }) :
  codeAny (model prog w) A (.call (.ref C) ⟨vs, kw⟩) R s := by
 obtain ⟨hh, g, d, t, os⟩ := s
 exact PySem.W.make_core (PySem.W.makes_of X hm) (PySem.W.looks_findIn X hi) (fun self => PySem.W.bind_fn X self hf) (.inl rfl) h
end
def putF (f : Str) (v : V) : List (Str × V) → List (Str × V)
 | [] => [(f, v)]
 | (g, x) :: r => if g = f then (g, v) :: r else (g, x) :: putF f v r
theorem ace (f g : Str) (v : V) : ∀ fs : List (Str × V), (putF f v fs).lookup g = if g = f then some v else fs.lookup g
 | [] => by
  show List.lookup g [(f, v)] = _
  by_cases h : g = f
  ·have hb : (g == f) = true := beq_iff_eq.mpr h
   simp only [List.lookup, hb, if_pos h]
  ·have hb : (g == f) = false := beq_eq_false_iff_ne.mpr h
   simp only [List.lookup, hb, if_neg h]
 | (k, x) :: r => by
  have ih := ace f g v r
  rw [show putF f v ((k, x) :: r) = (if k = f then (k, v) :: r else (k, x) :: putF f v r) from rfl]
  by_cases hk : k = f
  ·rw [if_pos hk]
   by_cases h : g = k
   ·have hb : (g == k) = true := beq_iff_eq.mpr h
    simp only [List.lookup, hb, if_pos (h.trans hk)]
   ·have hb : (g == k) = false := beq_eq_false_iff_ne.mpr h
    simp only [List.lookup, hb, if_neg (fun e : g = f => h (e.trans hk.symm))]
  ·rw [if_neg hk]
   by_cases h : g = k
   ·have hb : (g == k) = true := beq_iff_eq.mpr h
    simp only [List.lookup, hb, if_neg (fun e : g = f => hk (h.symm.trans e))]
   ·have hb : (g == k) = false := beq_eq_false_iff_ne.mpr h
    simp only [List.lookup, hb]
    exact ih
theorem aci (f : Str) (v : V) : ∀ fs : List (Str × V), f ∈ (putF f v fs).map (·.1) ∧ ∀ g, g ∈ fs.map (·.1) → g ∈ (putF f v fs).map (·.1)
 | [] => ⟨by simp [putF], fun g h => by simp at h⟩
 | (k, x) :: r => by
  obtain ⟨i1, i2⟩ := aci f v r
  rw [show putF f v ((k, x) :: r) = (if k = f then (k, v) :: r else (k, x) :: putF f v r) from rfl]
  by_cases hk : k = f
  ·rw [if_pos hk]
   subst hk
   exact ⟨by simp, fun g h => by simpa using h⟩
  ·rw [if_neg hk]
   refine ⟨?_, fun g h => ?_⟩
   ·rw [List.map_cons]
    exact List.mem_cons_of_mem _ i1
   ·rw [List.map_cons] at h ⊢
    rcases List.mem_cons.mp h with e | e
    ·exact List.mem_cons.mpr (.inl e)
    ·exact List.mem_cons_of_mem _ (i2 g e)
theorem ach (f : Str) (v : V) : ∀ fs : List (Str × V), (putF f v fs).length ≤ fs.length + 1
 | [] => by simp [putF]
 | (k, x) :: r => by
  have ih := ach f v r
  rw [show putF f v ((k, x) :: r) = (if k = f then (k, v) :: r else (k, x) :: putF f v r) from rfl]
  by_cases hk : k = f
  ·rw [if_pos hk, List.length_cons, List.length_cons]; omega
  ·rw [if_neg hk, List.length_cons, List.length_cons]; omega
theorem RelO.some_of {v : V} {o : Option Value} (r : RelO (some v) o) : ∃ u, o = some u ∧ RelV v u := by
 cases o with
 | none => exact (show False from r).elim
 | some u => exact ⟨u, rfl, r⟩
theorem RelO.none_of {o : Option Value} (r : RelO none o) : o = none := by
 cases o with
 | none => rfl
 | some u => exact (show False from r).elim
theorem handed_of {v : V} {u : Value} (r : RelV v u) : PySem.W.handedIn u = true := by
 cases v with
 | non => cases (show u = Value.none from r); rfl
 | bl b => cases (show u = Value.bool b from r); rfl
 | int i => obtain ⟨t, e⟩ := (show ∃ t, u = Value.int i t from r); cases e; rfl
 | str x => obtain ⟨t, e⟩ := (show ∃ t, u = Value.str x t from r); cases e; rfl
 | byt b => obtain ⟨t, e⟩ := (show ∃ t, u = Value.bytes b t from r); cases e; rfl
 | flt b => obtain ⟨t, e⟩ := (show ∃ t, u = Value.float b t from r); cases e; rfl
 | ref a => cases (show u = Value.ref a from r); rfl
 | ty n => cases (show u = Value.type n from r); rfl
 | stk x t => obtain ⟨e, _⟩ := (show u = Value.str x t ∧ t ≠ 0 from r); cases e; rfl
section
variable {P : Program} {w : World} {H H' : Hp} {h h' : Heap} {a C dx : Addr} {fs fs' : List (Str × V)}
theorem ins_get (hok : HOk P w H h) (e : H a = some (.ins C dx fs)) : ∃ mA, ObjM h a dx C mA ∧ (∀ f, RelO (fs.lookup f) (mA f)) ∧ PySem.Within mA (fs.map (·.1)) ∧ fs.length ≤ 1000 ∧ H dx = some (.own a) := by
 obtain ⟨d, z, ne, ob, mA, n, r, q⟩ := (show a5g P w H h a (.ins C dx fs) from hok a _ e)
 exact ⟨mA, ⟨ob, n, ne⟩, r, q, z, d⟩
end
structure Cls (K : PySem.W.Frag) (C : Addr) : Prop where
 pg : PySem.W.plainGet K C Str.empty = true
 hd : PySem.W.hasDictIn K C = true
 po : PySem.W.plainOver K C = true
 sa : PySem.W.findIn K (.ref C) "__setattr__" = some (some (.builtin "object.__setattr__"))
theorem Cls.get {K : PySem.W.Frag} {C : Addr} (c : Cls K C) (f : Str) : PySem.W.plainGet K C f = true := c.pg
def NoAttr (K : PySem.W.Frag) (C : Addr) (f : Str) : Prop := PySem.W.findIn K (.ref C) f = some none
theorem NoAttr.taker {K : PySem.W.Frag} {C : Addr} {f : Str} (n : NoAttr K C f) : PySem.W.takerIn K C f = some none := by
 unfold PySem.W.takerIn
 rw [show PySem.W.findIn K (.ref C) f = some none from n]
 rfl
structure Meth (K : PySem.W.Frag) (C : Addr) (m : Str) (f : Addr) : Prop where
 at_ : PySem.W.findIn K (.ref C) m = some (some (.ref f))
 fn : PySem.W.isFn K (.ref f) = true
 kp : PySem.W.keepIn K (.ref f) = true
section
variable {X : Cx} {pins : List (Addr × Obj)} {σ : St} {H : Hp} {s : Shared} {a C dx : Addr} {fs : List (Str × V)} {f : Str} {v : V} {A : Around} {E : Value → Shared → Prop}
theorem getattr_ok {b : Bool} {Q : Value → Shared → Prop} (I : Inv X pins σ H s) (e : H a = some (.ins C dx fs)) (c : Cls X.K C) (n : NoAttr X.K C f) (l : fs.lookup f = some v)
  (h : ∀ u s', Inv X pins σ H s' → RelV v u → Q u s') : wpAny (model X.prog X.w) A (getAttr (.ref a) f b) Q E s := by
 obtain ⟨mA, O, r, _, _, _⟩ := ins_get I.hok e
 obtain ⟨u, hu, ru⟩ := RelO.some_of (v := v) (o := mA f) (by rw [← l]; exact r f)
 exact get_map I.kIn O (c.get f) c.hd n hu (handed_of ru) (h u _ (I.tok _) ru)
theorem getmeth_ok {m : Str} {g : Addr} {pl : Sem Bool} {Q : Value × List Value → Shared → Prop} (I : Inv X pins σ H s) (e : H a = some (.ins C dx fs)) (c : Cls X.K C) (k : Meth X.K C m g) (l : fs.lookup m = none)
  (h : Q (.ref g, [.ref a]) s) : wpAny (model X.prog X.w) A (getMethod (.ref a) m pl) Q E s := by
 obtain ⟨mA, O, r, _, _, _⟩ := ins_get I.hok e
 have hn : mA m = none := RelO.none_of (by rw [← l]; exact r m)
 exact get_meth I.kIn O (c.get m) k.at_ k.fn hn h
theorem setattr_ok {y : V} {u : Value} {Q : Unit → Shared → Prop} (I : Inv X pins σ H s) (e : H a = some (.ins C dx fs)) (c : Cls X.K C) (n : NoAttr X.K C f) (hl : fs.length < 1000) (ry : RelV y u)
  (h : ∀ s', Inv X pins σ (upd H a (.ins C dx (putF f y fs))) s' → Q () s') : wpAny (model X.prog X.w) A (setAttr (.ref a) f u) Q E s := by
 obtain ⟨mA, O, r, wi, _, ho⟩ := ins_get I.hok e
 have hz : (fs.map (·.1)).length ≤ sizeLine := by rw [List.length_map, sizeLine_eq]; omega
 refine set_map I.kIn O c.sa c.po n.taker c.hd wi hz fun h' O' sb => h _ ?_
 have hd : ∃ o, h'.get? dx = some o := let ⟨o, _, _, e', _⟩ := O'.ns; ⟨o, e'⟩
 refine I.write (x := a) (e := dx) (by rw [e]; exact True.intro) (.inr ho) (fun b q hb z => (sb.2 b hb).trans z) hd ?_
 refine ⟨by rw [a0p O.ne]; exact ho, ?_, O.ne, O'.obj, _, O'.ns, fun g => ?_, fun g hg => ?_⟩
 ·have := ach f y fs; omega
 ·show RelO ((putF f y fs).lookup g) (if g = f then some u else mA g)
  rw [ace]
  by_cases q : g = f
  ·rw [if_pos q, if_pos q]; exact ry
  ·rw [if_neg q, if_neg q]; exact r g
 ·by_cases q : g = f
  ·rw [q]; exact (aci f y fs).1
  ·refine (aci f y fs).2 g (wi g fun z => hg ?_)
   show (if g = f then some u else mA g) = none
   rw [if_neg q]; exact z
theorem Inv.made (I : Inv X pins σ H s) : Inv X pins σ (upd (upd H s.heap.objs.size (.own (s.heap.objs.size + 1))) (s.heap.objs.size + 1) (.ins C s.heap.objs.size []))
  { s with heap := (s.heap.push PySem.W.emptyDict).push (PySem.W.instObj C s.heap.objs.size) } := by
 have e1 : (s.heap.push PySem.W.emptyDict).get? s.heap.objs.size = some PySem.W.emptyDict := Heap.get?_push_size s.heap rfl
 have e2 : ((s.heap.push PySem.W.emptyDict).push (PySem.W.instObj C s.heap.objs.size)).get? (s.heap.objs.size + 1) = some (PySem.W.instObj C s.heap.objs.size) := by
  have := Heap.get?_push_size (s.heap.push PySem.W.emptyDict) (o := PySem.W.instObj C s.heap.objs.size) rfl
  rwa [Heap.size_push] at this
 have e3 : (s.heap.push PySem.W.emptyDict).Ns s.heap.objs.size (fun _ => none) := ⟨PySem.W.emptyDict, #[], _, e1, rfl, (fun e he => absurd he (by simp)), fun _ => rfl⟩
 have I1 := I.laid (a := s.heap.objs.size) (o := .own (s.heap.objs.size + 1)) (h' := s.heap.push PySem.W.emptyDict) (t' := s.toks) (fun b u q => Heap.get?_push_of_some _ q) (Nat.le_refl _) ⟨_, e1⟩
 refine I1.laid (a := s.heap.objs.size + 1) (o := .ins C s.heap.objs.size []) (t' := s.toks) (fun b u q => Heap.get?_push_of_some _ q) (Nat.le_of_eq (Heap.size_push _ _)) ?_
 have ne : s.heap.objs.size ≠ s.heap.objs.size + 1 := Nat.ne_of_lt (Nat.lt_succ_self _)
 refine ⟨by rw [a0p ne, a02], Nat.zero_le _, ne, e2, fun _ => none, (Heap.Ns1.of_empty e3).at fun o q => Heap.get?_push_of_some _ q, fun _ => True.intro, fun y hy => absurd rfl hy⟩
theorem attr_of {prog : Program} {w : World} {env : Env} {e : Expr} {f : Str} {pos : Pos} {s : Shared} {Q : Value → Shared → Prop} (hb : attributeBase e f env (eval e env) = eval e env)
  (h : wpAny (model prog w) A (eval e env) (fun o s₁ => wpAny (model prog w) A (getAttr o f true) Q E s₁) E s) : wpAny (model prog w) A (eval (.Attribute e f pos) env) Q E s :=
 Attribute_any_ h (by rw [arm_eval_Attribute, hb])
end
def tFld (K : PySem.W.Frag) (ta : TE) (f : Str) : TE := fun σ H Q => ta σ H fun x H1 => ∃ a C dx fs v, x = .ref a ∧ H1 a = some (.ins C dx fs) ∧ Cls K C ∧ NoAttr K C f ∧ fs.lookup f = some v ∧ Q v H1
def sFld (K : PySem.W.Frag) (ta tv : TE) (f : Str) : TS := fun D σ H => tv σ H fun y H1 => ta σ H1 fun x H2 => ∃ a C dx fs, x = .ref a ∧ H2 a = some (.ins C dx fs) ∧ Cls K C ∧ NoAttr K C f ∧ fs.length < 1000 ∧
 D.nx σ (upd H2 a (.ins C dx (putF f y fs)))
section
variable {X : Cx} {o e value : Expr} {f : Str} {pos pos' tpos : Pos} {ta tv : TE}
theorem a1m (he : PE X e ta) (hb : attributeBase e f X.env (eval e X.env) = eval e X.env) : PE X (.Attribute e f pos) (tFld X.K ta f) := by
 intro pins s σ H Q I h
 refine attr_of hb (thn (he pins s σ H _ I h) fun u s1 ⟨x, H1, I1, rx, a, C, dx, fs, v, ex, ea, c, n, l, q⟩ => ?_)
 subst ex
 obtain rfl : u = Value.ref a := rx
 exact getattr_ok I1 ea c n l fun u' s2 I2 ru => ⟨v, H1, I2, ru, q⟩
theorem a7j (ha : PE X o ta) (hv : PE X value tv) (hs : swapsWith value (some (.Attribute o f pos')) pos.line X.env = pure false) : PS X (.Assign [.Attribute o f pos'] value pos) (sFld X.K ta tv f) := by
 intro pins s σ H D I h
 refine plainObj_wpAny_Assign_Attribute (thn (hv pins s σ H _ I h) fun u s1 ⟨y, H1, I1, ry, q⟩ => thn (ha pins s1 σ H1 _ I1 q) fun ov s2 ⟨x, H2, I2, rx, a, C, dx, fs, ex, ea, c, n, l, q2⟩ => ?_) hs
 subst ex
 obtain rfl : ov = Value.ref a := rx
 exact setattr_ok I2 ea c n l ry fun s3 I3 => ⟨σ, _, I3, q2⟩
theorem methcall_of {pl : Sem Bool} {m : Str} {apos : Pos} {args : List Expr} {pins : List (Addr × Obj)} {s : Shared} {σ : St} {H : Hp} {Q : Value → Shared → Prop} {te : TE} (he : PE X e te) (I : Inv X pins σ H s)
  (h : te σ H fun x H1 => ∃ a C dx fs g, x = .ref a ∧ H1 a = some (.ins C dx fs) ∧ Cls X.K C ∧ Meth X.K C m g ∧ fs.lookup m = none ∧
   ∀ s1, Inv X pins σ H1 s1 → wpAny (model X.prog X.w) X.A (callWith pos (.ref g) [.ref a] (backTo pos (starEach args X.env)) (backToKw pos (keywordEach [] X.env))) Q X.xe s1)
  (ht : eval (.Call (.Attribute e m apos) args [] pos) X.env = (do
   let ov ← eval e X.env
   standAt apos.atName
   let (f, first) ← holding [ov] (getMethod ov m pl)
   callWith pos f first (backTo pos (starEach args X.env)) (backToKw pos (keywordEach [] X.env)))) :
  wpAny (model X.prog X.w) X.A (eval (.Call (.Attribute e m apos) args [] pos) X.env) Q X.xe s := by
 refine PySem.W.methodCall_KW (pl := pl) (thn (he pins s σ H _ I h) fun u s1 ⟨x, H1, I1, rx, a, C, dx, fs, g, ex, ea, c, k, l, q⟩ => ?_) ht
 subst ex
 obtain rfl : u = Value.ref a := rx
 exact getmeth_ok I1 ea c k l (q s1 I1)
end
section
variable {X : Cx} {pins : List (Addr × Obj)} {σ : St} {H : Hp} {s : Shared} {A : Around} {E : Value → Shared → Prop} {Q : Value → Shared → Prop} {c : Value} {b : Bool}
inductive TyOf (K : PySem.W.Frag) (H : Hp) : V → Value → Prop where
 | non : TyOf K H .non (.type "NoneType")
 | bl (x : Bool) : TyOf K H (.bl x) (.type "bool")
 | int (i : Int) : TyOf K H (.int i) (.type "int")
 | str (x : Str) : TyOf K H (.str x) (.type "str")
 | flt (x : UInt64) : TyOf K H (.flt x) (.type "float")
 | lst {a : Addr} {xs : List V} (e : H a = some (.lst xs)) : TyOf K H (.ref a) (.type "list")
 | frz {a : Addr} {o : Obj} {xs : List V} (e : H a = some (.frz o (.lst xs))) : TyOf K H (.ref a) (.type "list")
 | tup {a : Addr} {xs : List V} (e : H a = some (.tup xs)) : TyOf K H (.ref a) (.type "tuple")
 | dK {a : Addr} {kvs : List (Key × V)} (e : H a = some (.dK kvs)) : TyOf K H (.ref a) (.type "dict")
 | dT {a : Addr} {kvs : List (List Key × V)} (e : H a = some (.dT kvs)) : TyOf K H (.ref a) (.type "dict")
 | ins {a C dx : Addr} {fs : List (Str × V)} (e : H a = some (.ins C dx fs)) (cl : Cls K C) (ha : PySem.W.findIn K (.ref C) "__class__" = some (some (.builtin "object.__class__")))
   (hn : PySem.W.specialIn K (.builtin "object.__class__") "__get__" = some (some (.builtin "getset_descriptor.__get__"))) (htk : PySem.W.takesIn K (.builtin "object.__class__") = some true)
   (hm : PySem.W.mroIn K C (.type "object") = some true) : TyOf K H (.ref a) (.ref C)
theorem isinst_ok {x : V} {u t : Value} (I : Inv X pins σ H s) (rx : RelV x u) (ty : TyOf X.K H x t) (e : PySem.W.kitOne X.K t c = some b) (h : ∀ tk, Q (.bool b) { s with toks := tk }) :
  wpAny (model X.prog X.w) A (call (.builtin "isinstance") [u, c]) Q E s := by
 cases ty with
 | non => cases (show u = Value.none from rx); exact PySem.W.kia_one PySem.W.kitx_none I.kIn True.intro e (fun z => nomatch z) h
 | bl y => cases (show u = Value.bool y from rx); exact PySem.W.kia_one PySem.W.kitx_bool I.kIn True.intro e (fun z => nomatch z) h
 | int i => obtain ⟨t, q⟩ := (show ∃ t, u = Value.int i t from rx); cases q; exact PySem.W.kia_one PySem.W.kitx_int I.kIn True.intro e (fun z => nomatch z) h
 | str y => obtain ⟨t, q⟩ := (show ∃ t, u = Value.str y t from rx); cases q; exact PySem.W.kia_one PySem.W.kitx_str I.kIn True.intro e (fun z => nomatch z) h
 | flt y => obtain ⟨t, q⟩ := (show ∃ t, u = Value.float y t from rx); cases q; exact PySem.W.kia_one PySem.W.kitx_float I.kIn True.intro e (fun z => nomatch z) h
 | @lst a xs ea =>
  cases (show u = Value.ref a from rx)
  obtain ⟨_, _, n, _, h1⟩ := (show a5g X.prog X.w H s.heap a (.lst xs) from I.hok a _ ea)
  exact PySem.W.kia_one PySem.W.kitx_list I.kIn ⟨_, h1, rfl⟩ e (fun z => nomatch z) h
 | @frz a ob xs ea =>
  cases (show u = Value.ref a from rx)
  obtain ⟨_, _, _, n, _, h1⟩ := (show a5g X.prog X.w H s.heap a (.frz ob (.lst xs)) from I.hok a _ ea)
  exact PySem.W.kia_one PySem.W.kitx_list I.kIn ⟨_, h1, rfl⟩ e (fun z => nomatch z) h
 | @tup a xs ea =>
  cases (show u = Value.ref a from rx)
  obtain ⟨_, _, _, p⟩ := (show a5g X.prog X.w H s.heap a (.tup xs) from I.hok a _ ea)
  obtain ⟨o, h1, h2, _⟩ := p
  exact PySem.W.kia_one PySem.W.kitx_tuple I.kIn ⟨o, h1, h2⟩ e (fun z => nomatch z) h
 | @dK a kvs ea =>
  cases (show u = Value.ref a from rx)
  obtain ⟨_, _, vs, _, p⟩ := (show a5g X.prog X.w H s.heap a (.dK kvs) from I.hok a _ ea)
  obtain ⟨o, es, ep, h1, h2, _⟩ := p
  exact PySem.W.kia_one PySem.W.kitx_dict I.kIn ⟨o, h1, h2.1⟩ e (fun z => nomatch z) h
 | @dT a kvs ea =>
  cases (show u = Value.ref a from rx)
  obtain ⟨_, _, xs, _, o, es, ep, h1, h2, _⟩ := (show a5g X.prog X.w H s.heap a (.dT kvs) from I.hok a _ ea)
  exact PySem.W.kia_one PySem.W.kitx_dict I.kIn ⟨o, h1, h2.1⟩ e (fun z => nomatch z) h
 | @ins a C dx fs ea cl ha hn htk hm =>
  cases (show u = Value.ref a from rx)
  obtain ⟨mA, O, _⟩ := ins_get I.hok ea
  obtain ⟨od, J, _⟩ := O.look
  exact PySem.W.kia_one (PySem.W.kitx_own (cl.get _) cl.hd ha hn htk hm) I.kIn J e (fun z => nomatch z) h
end
end L2
namespace L2
open PySem PySem.Spec PyProof.Rows
structure aa3 (k : Nat) (A : Around) : Prop where
 hd : A.handled = none
 dp : A.depth + 3 * k + 5 < recursionLimit
 un : A.units + 16 * k + 200 < cLine
theorem aa3.mono {j k : Nat} {A : Around} (r : aa3 k A) (h : j ≤ k) : aa3 j A := ⟨r.hd, by have := r.dp; omega, by have := r.un; omega⟩
theorem aa3.deeper {k : Nat} {A : Around} (r : aa3 (k + 1) A) (env : Env) : aa3 k (A.deeper env) :=
 ⟨r.hd, by have := r.dp; show A.depth + 1 + 3 * k + 5 < _; omega, by have := r.un; show A.units + 3 + 16 * k + 200 < _; omega⟩
theorem make_depth {A : Around} {C : Addr} {us : List Value} {kw : List (Str × Value)} : (A.under (.builtin "type.__call__" ⟨.ref C :: us, kw⟩)).depth = A.depth + 1 := by
 first | rfl | simp [Around.under, Code.weight, Code.isCreation, Code.isGuard, Code.isCaller, Code.frames, Code.isFrame, guardIds]
theorem make_units {A : Around} {C : Addr} {us : List Value} {kw : List (Str × Value)} : (A.under (.builtin "type.__call__" ⟨.ref C :: us, kw⟩)).units = A.units + 1 := by
 first | rfl | simp [Around.under, Code.cUnits, Code.frames, Code.isFrame]
theorem aa3.make {k : Nat} {A : Around} (r : aa3 (k + 1) A) (C : Addr) (us : List Value) (kw : List (Str × Value)) : aa3 k (A.under (.builtin "type.__call__" ⟨.ref C :: us, kw⟩)) :=
 ⟨r.hd, by have := r.dp; rw [make_depth]; omega, by have := r.un; rw [make_units]; omega⟩
theorem aa3.depth {k : Nat} {A : Around} (r : aa3 k A) : A.depth < recursionLimit := by have := r.dp; omega
theorem aa3.units {k : Nat} {A : Around} (r : aa3 k A) : A.units + 64 < cLine := by have := r.un; omega
def tNil : TA := fun _ H Q => Q [] H
def tCons (ta : TE) (tr : TA) : TA := fun σ H Q => ta σ H fun x H1 => tr σ H1 fun xs H2 => Q (x :: xs) H2
section
variable {X : Cx} {e : Expr} {es : List Expr} {te : TE} {t : TA} {pos : Pos}
theorem a01 : PA X [] tNil := fun _ _ _ _ H Q I h => Calls.spliced_nil ⟨[], H, I, .nil, h⟩
theorem a00 (ha : PE X e te) (hr : PA X es t) (hs : starEach (e :: es) X.env = (false, eval e X.env) :: starEach es X.env := by rfl) : PA X (e :: es) (tCons te t) := by
 intro pos pins s σ H Q I h
 rw [hs]
 show wpAny _ _ (spliced ((false, eval e X.env) :: backTo pos (starEach es X.env))) _ _ s
 refine Calls.spliced_cons (thn (ha pins s σ H _ I h) fun u s1 ⟨x, H1, I1, r1, q1⟩ => ?_)
 exact thn (hr pos pins s1 σ H1 _ I1 q1) fun us s2 ⟨xs, H2, I2, r2, q2⟩ => ⟨x :: xs, H2, I2, .cons r1 r2, q2⟩
def tTup (t : TA) : TE := fun σ H Q => t σ H fun xs H1 => xs.length ≤ sizeLine ∧ ∀ p, H1 p = none → Q (.ref p) (upd H1 p (.tup xs))
def tLst (t : TA) : TE := fun σ H Q => t σ H fun xs H1 => xs.length ≤ sizeLine ∧ ∀ p, H1 p = none → Q (.ref p) (upd H1 p (.lst xs))
theorem a0x {x1} (h : PA X es t) : PE X (.Tuple es x1 pos) (tTup t) := by
 intro pins s σ H Q I hq
 refine wpAny_Tuple_spliced (thn (h pos pins s σ H _ I hq) fun us s1 ⟨xs, H1, I1, r, z, q⟩ => ⟨by rw [← r.length]; exact z, ?_⟩)
 have hf : H1 s1.heap.objs.size = none := I1.hok.fresh (Nat.le_refl _)
 refine ⟨.ref s1.heap.objs.size, upd H1 s1.heap.objs.size (.tup xs), I1.laid (t' := s1.toks) (fun b u e => Heap.get?_push_of_some _ e) (Nat.le_refl _) ?_, rfl, q _ hf⟩
 exact ⟨z, us, r, ⟨_, Heap.get?_push_size _ rfl, rfl, _, rfl⟩⟩
theorem a2a (h : PA X es t) : PE X (.List es pos) (tLst t) := by
 intro pins s σ H Q I hq
 refine wpAny_List_spliced (thn (h pos pins s σ H _ I hq) fun us s1 ⟨xs, H1, I1, r, z, q⟩ => ⟨by rw [← r.length]; exact z, ?_⟩)
 have hf : H1 s1.heap.objs.size = none := I1.hok.fresh (Nat.le_refl _)
 refine ⟨.ref s1.heap.objs.size, upd H1 s1.heap.objs.size (.lst xs), I1.laid (t' := s1.toks) (fun b u e => Heap.get?_push_of_some _ e) (Nat.le_refl _) ?_, rfl, q _ hf⟩
 exact ⟨z, us, 0, r, Heap.get?_push_size _ rfl⟩
end
abbrev Sp := List V → Hp → VK → XK → Prop
abbrev CXT := List Env → Hp → Shared → XK → Value → Shared → Prop
structure Env0 (P : Program) (w : World) (K : PySem.W.Frag) (mg : Str → Option Value) (base : Heap) (A : Around) (outer : List Env) (s : Shared) (H : Hp) : Prop where
 frames : A.frames = some outer
 mod : Mod K mg base
 bs : ∀ b o, base.get? b = some o → s.heap.get? b = some o ∧ H b = none
 bsz : base.objs.size ≤ s.heap.objs.size
 funs : s.heap.FunFrames base outer
 frf : ∀ b ∈ frs outer, H b = none
 hok : HOk P w H s.heap
 bare : AllBare s.gens
def CE (outer : List Env) (P : Program) (w : World) (H : Hp) (s : Shared) (Q : VK) (u : Value) (s' : Shared) : Prop :=
 ∃ v H', s'.os = s.os ∧ AllBare s'.gens ∧ Un (frs outer) [] H H' s.heap s'.heap ∧ HOk P w H' s'.heap ∧ RelV v u ∧ Q v H'
def CR (CX : CXT) (outer : List Env) (P : Program) (w : World) (H : Hp) (s : Shared) (Q : VK) (E : XK) (r : Result) (s' : Shared) : Prop :=
 match r with
 | .ok (.ret u) => CE outer P w H s Q u s'
 | .ok _ => False
 | .error e => CX outer H s E e s'
structure a1u (P : Program) (w : World) (K : PySem.W.Frag) (mg : Str → Option Value) (base : Heap) (CX : CXT) (k : Nat) (f : Addr) (fd : FuncData) (ps : List Str) (sp : Sp) : Prop where
 len : ∀ vs H Q E, sp vs H Q E → vs.length = ps.length
 run : ∀ (A : Around) (outer : List Env) (s : Shared) (H : Hp) (args : Args) (us : List Value) (vs : List V) (Q : VK) (E : XK), aa3 k A → Env0 P w K mg base A outer s H → BindsTo s fd args (ps.zip us) → Vals vs us → sp vs H Q E →
  codeAny (model P w) A (.call (.ref f) args) (CR CX outer P w H s Q E) s
theorem a1u.mono {P : Program} {w : World} {K : PySem.W.Frag} {mg : Str → Option Value} {base : Heap} {CX : CXT} {j k : Nat} {f : Addr} {fd : FuncData} {ps : List Str} {sp : Sp} (F : a1u P w K mg base CX j f fd ps sp) (h : j ≤ k) :
  a1u P w K mg base CX k f fd ps sp := ⟨F.len, fun A outer s H args us vs Q E hr => F.run A outer s H args us vs Q E (hr.mono h)⟩
theorem Env0.make {P : Program} {w : World} {K : PySem.W.Frag} {mg : Str → Option Value} {base : Heap} {A : Around} {outer : List Env} {s : Shared} {H : Hp} (e : Env0 P w K mg base A outer s H) (C : Addr) (us : List Value) (kw : List (Str × Value)) :
  Env0 P w K mg base (A.under (.builtin "type.__call__" ⟨.ref C :: us, kw⟩)) outer s H := ⟨by first | exact e.frames | (simpa [Around.under, Code.envs, Code.isFrame, pushEnvs] using e.frames), e.mod, e.bs, e.bsz, e.funs, e.frf, e.hok, e.bare⟩
section
variable {X : Cx} {pins : List (Addr × Obj)} {σ : St} {H : Hp} {s s' : Shared}
theorem Inv.env0 (I : Inv X pins σ H s) : Env0 X.prog X.w X.K X.mg X.base X.A X.stack s H :=
 ⟨I.ok.frames, I.ok.mod, I.bs, Nat.le_trans I.ok.bsz I.sz, I.stack, I.stkFree, I.hok, I.bare⟩
theorem Inv.after {Q : VK} {u : Value} (I : Inv X pins σ H s) (h : CE X.stack X.prog X.w H s Q u s') : EP X pins σ Q u s' := by
 obtain ⟨v, H', os, bare, un, hok, r, q⟩ := h
 obtain ⟨hh, g, d, t, os'⟩ := s'
 obtain rfl : os' = s.os := os
 exact ⟨v, H', I.call (h' := hh) (g' := g) (d' := d) (t' := t) (ch := []) un hok bare (fun b z => absurd z (by simp)), r, q⟩
end
def tCall (sp : Sp) (dvs : List V) (E : XK) (t : TA) : TE := fun σ H Q => t σ H fun vs H1 => sp (vs ++ dvs) H1 Q E
def tMeth (C : Addr) (m : Str) (sp : Sp) (dvs : List V) (E : XK) (ta : TE) (t : TA) : TE := fun σ H Q => ta σ H fun x H1 => ∃ a dx fs, x = .ref a ∧ H1 a = some (.ins C dx fs) ∧ fs.lookup m = none ∧
 t σ H1 fun vs H2 => sp (x :: (vs ++ dvs)) H2 Q E
def tMake (C : Addr) (sp : Sp) (dvs : List V) (E : XK) (t : TA) : TE := fun σ H Q => t σ H fun vs H1 => ∀ x dx, H1 x = none → H1 dx = none → dx ≠ x →
 sp (.ref x :: (vs ++ dvs)) (upd (upd H1 dx (.own x)) x (.ins C dx [])) (fun v H2 => v = .non ∧ Q (.ref x) H2) E
def Binds (K : PySem.W.Frag) (fd : FuncData) (ps : List Str) (ds : List Value) : Prop :=
 ∀ (s : Shared) (us : List Value), K.In s.heap → (us ++ ds).length = ps.length → BindsTo s fd ⟨us, []⟩ (ps.zip (us ++ ds))
theorem Binds.all {K : PySem.W.Frag} {fd : FuncData} {ps : List Str} (h : ∀ us : List Value, us.length = ps.length → bindArgs fd ⟨us, []⟩ = pure (ps.zip us)) : Binds K fd ps [] := fun s us _ hl => by
 rw [List.append_nil] at hl ⊢
 exact .of_eq (h us hl)
def Passes (CX : CXT) (X : Cx) (E : XK) : Prop := ∀ (pins : List (Addr × Obj)) (σ : St) (H : Hp) (s : Shared) (e : Value) (s' : Shared), Inv X pins σ H s → CX X.stack H s E e s' → X.xe e s'
section
variable {X : Cx} {CX : CXT} {k : Nat} {f C : Addr} {fd : FuncData} {ps : List Str} {sp : Sp} {dvs : List V} {ds : List Value} {E : XK} {x m : Str} {p pos apos : Pos} {e o : Expr} {es : List Expr} {ta : TE} {t : TA}
theorem run_fn {pins : List (Addr × Obj)} {σ : St} {H : Hp} {s : Shared} {Q : VK} {us : List Value} {vs : List V} (F : a1u X.prog X.w X.K X.mg X.base CX k f fd ps sp) (hr : aa3 k X.A) (hb : Binds X.K fd ps ds) (hd : Vals dvs ds) (hx : Passes CX X E)
  (I : Inv X pins σ H s) (r : Vals vs us) (h : sp (vs ++ dvs) H Q E) : wpAny (model X.prog X.w) X.A (call (.ref f) us) (EP X pins σ Q) X.xe s := by
 have r2 : Vals (vs ++ dvs) (us ++ ds) := r.append hd
 have hl : (us ++ ds).length = ps.length := by rw [← r2.length]; exact F.len _ _ _ _ h
 refine wpAny_call (codeAny_mono (F.run X.A X.stack s H ⟨us, []⟩ (us ++ ds) (vs ++ dvs) Q E hr I.env0 (hb s us I.kIn hl) r2 h) fun r s' hq => ?_)
 cases r with
 | error e => exact hx pins σ H s e s' I hq
 | ok fl =>
  cases fl with
  | ret u => exact I.after hq
  | next => exact False.elim hq
  | brk => exact False.elim hq
  | cont => exact False.elim hq
theorem pe_call (F : a1u X.prog X.w X.K X.mg X.base CX k f fd ps sp) (hr : aa3 k X.A) (hg : Gl X x) (hm : X.mg x = some (.ref f)) (hk : PySem.W.keepIn X.K (.ref f) = true) (hb : Binds X.K fd ps ds) (hd : Vals dvs ds) (hx : Passes CX X E)
  (ha : PA X (e :: es) t) (hdb : (x == ("__debug__" : Str)) = false := by decide) (he : starEach (e :: es) X.env = (false, eval e X.env) :: starEach es X.env := by rfl) (hpl : (backTo pos (starEach es X.env)).any (·.1) = false := by rfl) :
  PE X (.Call (.Name x p) (e :: es) [] pos) (tCall sp dvs E t) := by
 intro pins s σ H Q I h
 refine wpAny_Call_Name_kw (ld_glob I hg hm ?_ hdb)
 refine PySem.W.callWith_K (h₀ := X.base) I.ok.mod.kin hk (thn (ha pos pins s σ H _ I h) fun us s1 ⟨vs, H1, I1, r, q⟩ => ⟨I1.kIn, ?_⟩) he hpl
 exact run_fn F hr hb hd hx I1 r q
theorem pe_meth {pl : Sem Bool} (he : PE X o ta) (c : Cls X.K C) (hm : Meth X.K C m f) (F : a1u X.prog X.w X.K X.mg X.base CX k f fd ps sp) (hr : aa3 k X.A) (hb : Binds X.K fd ps ds) (hd : Vals dvs ds) (hx : Passes CX X E) (ha : PA X (e :: es) t)
  (hst : starEach (e :: es) X.env = (false, eval e X.env) :: starEach es X.env := by rfl) (hpl : (backTo pos (starEach es X.env)).any (·.1) = false := by rfl)
  (ht : eval (.Call (.Attribute o m apos) (e :: es) [] pos) X.env = (do
   let ov ← eval o X.env
   standAt apos.atName
   let (f, first) ← holding [ov] (getMethod ov m pl)
   callWith pos f first (backTo pos (starEach (e :: es) X.env)) (backToKw pos (keywordEach [] X.env))) := by rfl) :
  PE X (.Call (.Attribute o m apos) (e :: es) [] pos) (tMeth C m sp dvs E ta t) := by
 intro pins s σ H Q I h
 refine PySem.W.methodCall_KW (pl := pl) (thn (he pins s σ H _ I h) fun u s1 ⟨x, H1, I1, rx, a, dx, fs, ex, ea, l, q⟩ => ?_) ht
 subst ex
 obtain rfl : u = Value.ref a := rx
 refine getmeth_ok I1 ea c hm l ?_
 refine PySem.W.callWith_K (first := [.ref a]) (h₀ := X.base) I.ok.mod.kin hm.kp (thn (ha pos pins s1 σ H1 _ I1 q) fun us s2 ⟨vs, H2, I2, r, q2⟩ => ⟨I2.kIn, ?_⟩) hst hpl
 exact run_fn (us := .ref a :: us) (vs := .ref a :: vs) F hr hb hd hx I2 (.cons rfl r) q2
structure Mk (K : PySem.W.Frag) (C f : Addr) : Prop where
 makes : PySem.W.makesIn K C = true
 init : PySem.W.findIn K (.ref C) "__init__" = some (some (.ref f))
 fn : PySem.W.isFn K (.ref f) = true
 kp : PySem.W.keepIn K (.ref C) = true
theorem run_make {pins : List (Addr × Obj)} {σ : St} {H : Hp} {s : Shared} {Q : VK} {us : List Value} {vs : List V} (M : Mk X.K C f) (F : a1u X.prog X.w X.K X.mg X.base CX k f fd ps sp) (hr : aa3 (k + 1) X.A) (hb : Binds X.K fd ps ds) (hd : Vals dvs ds)
  (hx : Passes CX X E) (I : Inv X pins σ H s) (r : Vals vs us)
  (h : ∀ x dx, H x = none → H dx = none → dx ≠ x → sp (.ref x :: (vs ++ dvs)) (upd (upd H dx (.own x)) x (.ins C dx [])) (fun v H2 => v = .non ∧ Q (.ref x) H2) E) :
  wpAny (model X.prog X.w) X.A (call (.ref C) us) (EP X pins σ Q) X.xe s := by
 have hq := h (s.heap.objs.size + 1) s.heap.objs.size (I.hok.fresh (Nat.le_succ _)) (I.hok.fresh (Nat.le_refl _)) (Nat.ne_of_lt (Nat.lt_succ_self _))
 have I2 := Inv.made (C := C) I
 have r2 : Vals (V.ref (s.heap.objs.size + 1) :: (vs ++ dvs)) (Value.ref (s.heap.objs.size + 1) :: (us ++ ds)) := .cons rfl (r.append hd)
 have hl : (Value.ref (s.heap.objs.size + 1) :: us ++ ds).length = ps.length := by
  have e := r2.length
  rw [F.len _ _ _ _ hq] at e
  exact e.symm
 refine wpAny_call (make_map (f := f) I.kIn M.makes M.init (beq_iff_eq.mp M.fn) (codeAny_mono (F.run _ X.stack _ _ ⟨Value.ref (s.heap.objs.size + 1) :: us, []⟩ (Value.ref (s.heap.objs.size + 1) :: (us ++ ds)) _ _ E (hr.make C us [])
  (I2.env0.make C us []) (hb _ (Value.ref (s.heap.objs.size + 1) :: us) I2.kIn hl) r2 hq) fun r s' hq' => ?_))
 cases r with
 | error e => exact hx pins σ _ _ e s' I2 hq'
 | ok fl =>
  cases fl with
  | ret u =>
   obtain ⟨v, H', I3, rv, ev, q3⟩ := I2.after hq'
   subst ev
   exact ⟨rv, ⟨V.ref (s.heap.objs.size + 1), H', I3, rfl, q3⟩⟩
  | next => exact False.elim hq'
  | brk => exact False.elim hq'
  | cont => exact False.elim hq'
theorem pe_make (M : Mk X.K C f) (F : a1u X.prog X.w X.K X.mg X.base CX k f fd ps sp) (hr : aa3 (k + 1) X.A) (hg : Gl X x) (hm : X.mg x = some (.ref C)) (hb : Binds X.K fd ps ds) (hd : Vals dvs ds) (hx : Passes CX X E)
  (ha : PA X (e :: es) t) (hdb : (x == ("__debug__" : Str)) = false := by decide) (he : starEach (e :: es) X.env = (false, eval e X.env) :: starEach es X.env := by rfl) (hpl : (backTo pos (starEach es X.env)).any (·.1) = false := by rfl) :
  PE X (.Call (.Name x p) (e :: es) [] pos) (tMake C sp dvs E t) := by
 intro pins s σ H Q I h
 refine wpAny_Call_Name_kw (ld_glob I hg hm ?_ hdb)
 refine PySem.W.callWith_K (h₀ := X.base) I.ok.mod.kin M.kp (thn (ha pos pins s σ H _ I h) fun us s1 ⟨vs, H1, I1, r, q⟩ => ⟨I1.kIn, ?_⟩) he hpl
 exact run_make M F hr hb hd hx I1 r q
end
section
variable {X : Cx} {CX : CXT} {k : Nat} {f C : Addr} {fd : FuncData} {ps ks : List Str} {sp : Sp} {E : XK} {x m : Str} {p pos apos kpos : Pos} {e o : Expr} {es : List Expr} {kws : List Keyword} {te ta : TE} {t tk : TA} {nm : Option Str}
variable {g : List Value → List Value → List Value} {gV : List V → List V → List V}
end
structure a0c (N P : List Str) (sc : Scope) : Prop where
 kind : sc.kind = .function
 co : sc.isCoroutine = false
 gen : sc.isGenerator = false
 nd : N.Nodup
 pre : N.take P.length = P
 par : ∀ x ∈ P, sc.names.lookup x = some .local ∨ sc.names.lookup x = some .cell
 nofree : ∀ y ∈ sc.names, y.2 ≠ .free
theorem bindL_out {kindOf : Str → Option NameKind} {x : Str} : ∀ {binds : List (Str × Value)} {m : Str → Option Value}, (∀ v, (x, v) ∉ binds) → bindL kindOf binds m x = m x
 | [], _, _ => rfl
 | (n, v) :: r, m, h => by
  unfold bindL
  rw [bindL_out fun w hw => h w (List.mem_cons_of_mem _ hw)]
  split
  ·have : x ≠ n := by rintro rfl; exact h v List.mem_cons_self
   simp [this]
  ·rfl
theorem bindC_out {kindOf : Str → Option NameKind} {x : Str} : ∀ {binds : List (Str × Value)} {m : Str → Option Value}, (∀ v, (x, v) ∉ binds) → bindC kindOf binds m x = m x
 | [], _, _ => rfl
 | (n, v) :: r, m, h => by
  unfold bindC
  rw [bindC_out fun w hw => h w (List.mem_cons_of_mem _ hw)]
  split
  ·rfl
  ·have : x ≠ n := by rintro rfl; exact h v List.mem_cons_self
   simp [this]
theorem bindL_get {kindOf : Str → Option NameKind} {x : Str} {v : Value} : ∀ {P : List Str} {vs : List Value} {i : Nat} {m : Str → Option Value}, P.Nodup → P[i]? = some x → vs[i]? = some v → kindOf x = some .local →
  bindL kindOf (P.zip vs) m x = some v
 | [], _, _, _, _, h, _, _ => by simp at h
 | _ :: _, [], _, _, _, _, h, _ => by simp at h
 | p :: P, w :: vs, 0, m, nd, h1, h2, hk => by
  simp at h1 h2; subst h1; subst h2
  show bindL kindOf ((p, w) :: P.zip vs) m p = _
  unfold bindL
  rw [bindL_out fun v hv => (List.nodup_cons.mp nd).1 (List.of_mem_zip hv).1, if_pos hk]
  simp
 | p :: P, w :: vs, i + 1, m, nd, h1, h2, hk => by
  show bindL kindOf ((p, w) :: P.zip vs) m x = _
  unfold bindL
  exact bindL_get (i := i) (List.nodup_cons.mp nd).2 (by simpa using h1) (by simpa using h2) hk
theorem bindC_get {kindOf : Str → Option NameKind} {x : Str} {v : Value} : ∀ {P : List Str} {vs : List Value} {i : Nat} {m : Str → Option Value}, P.Nodup → P[i]? = some x → vs[i]? = some v → kindOf x ≠ some .local →
  bindC kindOf (P.zip vs) m x = some v
 | [], _, _, _, _, h, _, _ => by simp at h
 | _ :: _, [], _, _, _, _, h, _ => by simp at h
 | p :: P, w :: vs, 0, m, nd, h1, h2, hk => by
  simp at h1 h2; subst h1; subst h2
  show bindC kindOf ((p, w) :: P.zip vs) m p = _
  unfold bindC
  rw [bindC_out fun v hv => (List.nodup_cons.mp nd).1 (List.of_mem_zip hv).1, if_neg hk]
  simp
 | p :: P, w :: vs, i + 1, m, nd, h1, h2, hk => by
  show bindC kindOf ((p, w) :: P.zip vs) m x = _
  unfold bindC
  exact bindC_get (i := i) (List.nodup_cons.mp nd).2 (by simpa using h1) (by simpa using h2) hk
def start (N : List Str) (vs : List V) : St := vs.map some ++ List.replicate (N.length - vs.length) none
def cxOf (CX : CXT) (P : Program) (w : World) (K : PySem.W.Frag) (mg : Str → Option Value) (base : Heap) (N : List Str) (qual : Str) (scope : Scope) (f : Addr) (cd : Value) (A : Around) (outer : List Env) (s : Shared) (H : Hp) (E : XK) : Cx where
 prog := P
 w := w
 K := K
 mg := mg
 base := base
 A := A.deeper (envOfC qual scope s.heap.objs.size f cd)
 N := N
 s₀ := s
 H₀ := H
 env := envOfC qual scope s.heap.objs.size f cd
 outer := outer
 stack := envOfC qual scope s.heap.objs.size f cd :: outer
 ex := []
 calm := true
 fn := fun _ => true
 pn := []
 xe := fun e s' => wpAny (model P w) (A.deeper (envOfC qual scope s.heap.objs.size f cd)) (leaving (envOfC qual scope s.heap.objs.size f cd) e) (fun _ s'' => CX outer H s E e s'') (fun e' s'' => CX outer H s E e' s'') s'
theorem cell_has {sc : Scope} {n : Nat} {x : Str} (h : sc.names.lookup x = some .cell) : ∃ c, (cellsFrom n sc.names []).lookup x = some c := by
 have q := PySem.W.cellsFrom_some sc.names n [] (.inl h)
 exact Option.isSome_iff_exists.mp q
theorem inv_start {CX : CXT} {P : Program} {w : World} {K : PySem.W.Frag} {mg : Str → Option Value} {base : Heap} {N ps : List Str} {qual : Str} {scope : Scope} {f : Addr} {cd : Value} {A : Around} {outer : List Env} {s s1 : Shared} {H : Hp} {E : XK} {us : List Value} {vs : List V}
  (S : a0c N ps scope) (hd : A.handled = none) (e0 : Env0 P w K mg base A outer s H) (hl : vs.length = ps.length) (r : Vals vs us)
  (x : InCallC s s.heap.objs.size (bindL (envOfC qual scope s.heap.objs.size f cd).kindOf (ps.zip us) fun _ => none) (cellsFrom (s.heap.objs.size + 1) scope.names []) (bindC (envOfC qual scope s.heap.objs.size f cd).kindOf (ps.zip us) fun _ => none) s1) :
  Inv (cxOf CX P w K mg base N qual scope f cd A outer s H E) [] (start N vs) H s1 := by
 have hpl : ps.length ≤ N.length := by have := congrArg List.length S.pre; rw [List.length_take] at this; omega
 obtain ⟨h1, tk, rfl, hk⟩ := x.done
 have noA : ∀ b : Addr, b ∉ (cxOf CX P w K mg base N qual scope f cd A outer s H E).ex := fun b z => absurd (show b ∈ ([] : List Addr) from z) (by simp)
 refine ⟨⟨e0.mod, S.kind, rfl, rfl, Nat.le_refl _, fun y z c h1 h2 => ?_, fun y hy => ?_, fun y c _ h => ?_, fun _ => hd, Around.frames_deeper e0.frames, .inr ⟨rfl, rfl⟩, fun b z => absurd z (noA b), e0.bs, e0.bsz, fun b _ _ => noA b, fun b z => absurd z (noA b), e0.funs, e0.frf⟩,
  rfl, e0.bare, Un.kept hk, ⟨_, x.toInCall.ns, fun i y v h1 h2 h3 => ?_⟩, fun y c h => ⟨_, x.cell y c h⟩, e0.hok.fresh (Nat.le_refl _), fun y c h => ?_, fun p hp => absurd (show p ∈ ([] : List (Addr × Obj)) from hp) (by simp), e0.hok.kept hk, ?_⟩
 ·exact name_of_addr x.apart (PySem.mem_of_lookup h1) (PySem.mem_of_lookup h2)
 ·have hy : scope.names.lookup y = some .cell ∨ scope.names.lookup y = some .free := hy
  rcases hy with hy | hy
  ·exact cell_has hy
  ·exact absurd rfl (S.nofree _ (PySem.mem_of_lookup hy))
 ·exact Nat.le_of_lt (x.above y c (PySem.mem_of_lookup h))
 ·have hi : i < vs.length := by
   unfold start at h2
   by_cases hi : i < vs.length
   ·exact hi
   ·rw [List.getElem?_append_right (by simpa using hi)] at h2
    rw [List.getElem?_replicate] at h2
    split at h2 <;> cases h2
  have ha : vs[i]? = some v := by
   unfold start at h2
   rw [List.getElem?_append_left (by simpa using hi), List.getElem?_map] at h2
   cases e : vs[i]? with
   | none => rw [e] at h2; cases h2
   | some a => rw [e] at h2; cases h2; rfl
  obtain ⟨u, hu, rv⟩ := r.get ha
  have hp : ps[i]? = some y := by
   rw [← S.pre, List.getElem?_take_of_lt (by omega)]; exact h1
  have ndP : ps.Nodup := by rw [← S.pre]; exact S.nd.sublist (List.take_sublist _ _)
  refine ⟨u, rv, ?_⟩
  rcases S.par y (List.mem_of_getElem? hp) with k | k
  ·exact .inl ⟨k, bindL_get ndP hp hu k⟩
  ·obtain ⟨c, e⟩ := cell_has (n := s.heap.objs.size + 1) k
   refine .inr ⟨.inl k, c, e, ?_⟩
   have q := x.cell y c e
   rw [bindC_get ndP hp hu (by show scope.names.lookup y ≠ _; rw [k]; decide)] at q
   exact q
 ·exact e0.hok.fresh (Nat.le_of_lt (x.above y c (PySem.mem_of_lookup h)))
 ·unfold start
  show _ = N.length
  rw [List.length_append, List.length_map, List.length_replicate]
  omega
theorem fn_of {CX : CXT} {P : Program} {w : World} {K : PySem.W.Frag} {mg : Str → Option Value} {base : Heap} {k : Nat} {f : Addr} {name qual : Str} {params : Arguments} {body : List Stmt} {scope : Scope} {dV kV doc pm cdv ct oc : Value} {an od : Option Addr}
  {osl : Array (Option Value)} {N ps : List Str} {sp : Sp} (lk : K.lookup f = some ⟨oc, od, .func (PySem.W.fnOf name qual params body scope dV kV doc pm an cdv ct), osl⟩) (hcd : PySem.W.codeIn K cdv qual = true) (S : a0c N ps scope)
  (len : ∀ vs H Q E, sp vs H Q E → vs.length = ps.length)
  (hbody : ∀ (A : Around) (outer : List Env) (s : Shared) (H : Hp) (vs : List V) (Q : VK) (E : XK), aa3 k (A.deeper (envOfC qual scope s.heap.objs.size f cdv)) → sp vs H Q E →
   ∃ t, PSs (cxOf CX P w K mg base N qual scope f cdv A outer s H E) body t ∧ t { nx := fun _ H' => Q .non H', rt := Q } (start N vs) H) :
  a1u P w K mg base CX (k + 1) f (PySem.W.fnOf name qual params body scope dV kV doc pm an cdv ct) ps sp := by
 refine ⟨len, fun A outer s H args us vs Q E hr e0 hb r hsp => ?_⟩
 have hl := len _ _ _ _ hsp
 have KX : K.In s.heap := e0.mod.kin.keeps fun b o e => (e0.bs b o e).1
 have lim : s.heap.NoLimit := e0.mod.nolimit.keeps fun b o e => (e0.bs b o e).1
 have hkind : ∀ y ∈ ps.zip us, scope.names.lookup y.1 = some .local ∨ (scope.names.lookup y.1 = some .cell ∧ ((cellsFrom (s.heap.objs.size + 1) scope.names []).lookup y.1).isSome = true) := fun ⟨n, v⟩ hy => by
  rcases S.par n (List.of_mem_zip hy).1 with q | q
  ·exact .inl q
  ·exact .inr ⟨q, PySem.W.cellsFrom_some _ _ _ (.inl q)⟩
 refine codeAny_call_function hr.depth (KX _ _ lk) rfl S.co S.gen rfl (PySem.W.codeRec_of KX hcd) (hb _ _ _ _ ?_)
 refine wpAny_newFunctionEnv_cells S.kind hkind fun env he s1 x => ?_
 subst he
 refine ⟨lim.keeps x.toInCall.keep, codeAny_func ?_⟩
 obtain ⟨t, ht, hq⟩ := hbody A outer s H vs Q E (hr.deeper _) hsp
 have I : Inv (cxOf CX P w K mg base N qual scope f cdv A outer s H E) [] (start N vs) H s1 := inv_start S hr.hd e0 hl r x
 refine wpAny_mono (ht [] s1 (start N vs) H _ I hq) (fun fl s' hs => ?_) fun e s' hs => hs
 have fin : ∀ {σ' : St} {H' : Hp} {v : V} {u : Value}, Inv (cxOf CX P w K mg base N qual scope f cdv A outer s H E) [] σ' H' s' → RelV v u → Q v H' → CE outer P w H s Q u s' :=
  fun {σ' H' v u} J rv q => ⟨v, H', J.os, J.bare, J.base, J.hok, rv, q⟩
 cases fl with
 | ret u =>
  obtain ⟨v, σ', H', J, rv, q⟩ := hs
  exact fin J rv q
 | next =>
  obtain ⟨σ', H', J, q⟩ := hs
  exact fin (v := V.non) (u := Value.none) J rfl q
 | brk =>
  obtain ⟨_, _, _, q⟩ := hs
  exact False.elim q
 | cont =>
  obtain ⟨_, _, _, q⟩ := hs
  exact False.elim q
end L2
namespace L2
open PySem PySem.Spec PyProof.Rows
section
variable {X : Cx} {x : Str} {p pos : Pos} {e : Expr} {es : List Expr} {t : TA} {id T : String} {r : List V → Hp → VK → Prop}
def tCB (r : List V → Hp → VK → Prop) (t : TA) : TE := fun σ H Q => t σ H fun vs H1 => r vs H1 Q
theorem a0k (hc : aaw X (.builtin id) r) (hg : Gl X x) (hm : X.mg x = none) (hv : bootBuiltins x = some (.builtin id)) (ha : PA X (e :: es) t) (hn : x ≠ "__name__" := by decide) (hdb : (x == ("__debug__" : Str)) = false := by decide)
  (he : starEach (e :: es) X.env = (false, eval e X.env) :: starEach es X.env := by rfl) (hpl : (backTo pos (starEach es X.env)).any (·.1) = false := by rfl) : PE X (.Call (.Name x p) (e :: es) [] pos) (tCB r t) := by
 intro pins s σ H Q I h
 refine wpAny_Call_Name_kw (aaf I hg hm hv ?_ hn hdb)
 exact PyProof.Rows.callWith_builtin1 (thn (ha pos pins s σ H _ I h) fun us s1 ⟨vs, H1, I1, r1, q1⟩ => hc pins s1 σ H1 vs us Q I1 r1 q1) he hpl
theorem a9a (hc : aaw X (.type T) r) (hg : Gl X x) (hm : X.mg x = none) (hv : bootBuiltins x = some (.type T)) (ha : PA X (e :: es) t) (hn : x ≠ "__name__" := by decide) (hdb : (x == ("__debug__" : Str)) = false := by decide)
  (he : starEach (e :: es) X.env = (false, eval e X.env) :: starEach es X.env := by rfl) (hpl : (backTo pos (starEach es X.env)).any (·.1) = false := by rfl) : PE X (.Call (.Name x p) (e :: es) [] pos) (tCB r t) := by
 intro pins s σ H Q I h
 refine wpAny_Call_Name_kw (aaf I hg hm hv ?_ hn hdb)
 exact PyProof.Rows.callWith_type1 (thn (ha pos pins s σ H _ I h) fun us s1 ⟨vs, H1, I1, r1, q1⟩ => hc pins s1 σ H1 vs us Q I1 r1 q1) he hpl
end
end L2
namespace HT
open PySem PyProof.Rows
section
open PySem.SeqAt
open PySem.AutoSeq1 (wpAny_loadPart')
open PySem.MeetsSeq PySem.MeetsSeq2 PySem.MeetsSeq3
end
section
variable {prog : Program} {w : World} {A : Around} {E : Value → Shared → Prop} {s : Shared}
def sIx (n d : Nat) : Option Int → Nat
 | none => d
 | some v => if v < 0 then (v + (n : Int)).toNat else min v.toNat n
end
end HT
namespace L2
open PySem PySem.Spec PyProof.Rows
abbrev TO := St → Hp → (Option Int → Hp → Prop) → Prop
def PO (X : Cx) (e : Option Expr) (t : TO) : Prop :=
 ∀ (pins : List (Addr × Obj)) (s : Shared) (σ : St) (H : Hp) (Q : Option Int → Hp → Prop), Inv X pins σ H s → t σ H Q →
  wpAny (model X.prog X.w) X.A (evalPart e X.env) (fun u s' => ∃ o H', Inv X pins σ H' s' ∧ IsPart u o ∧ Q o H') X.xe s
def tNoPart : TO := fun _ H Q => Q none H
def tPart (t : TE) : TO := fun σ H Q => t σ H fun x H1 => ∃ i, x = .int i ∧ Q (some i) H1
section
variable {X : Cx} {e : Expr} {te : TE} {lo hi : Option Expr} {tl th : TO} {pos p2 : Pos}
theorem a1l : PO X none tNoPart := by
 intro pins s σ H Q I h
 rw [evalPart_none]
 exact wpAny_pure ⟨none, H, I, .none, h⟩
theorem a1b (h : PE X e te) : PO X (some e) (tPart te) := by
 intro pins s σ H Q I hw
 rw [evalPart_some]
 refine thn (h pins s σ H _ I hw) fun u s1 ⟨x, H1, I1, r1, q1⟩ => ?_
 obtain ⟨i, rfl, q⟩ := q1
 obtain ⟨t, rfl⟩ := r1
 exact ⟨some i, H1, I1, .int i t, q⟩
def SlR (X : Cx) (r : V → Option Int → Option Int → Hp → VK → Prop) : Prop :=
 ∀ (pins : List (Addr × Obj)) (s : Shared) (σ : St) (H : Hp) (x : V) (v vl vu : Value) (lo hi : Option Int) (sl : Addr) (Q : VK), Inv X pins σ H s → RelV x v → s.heap.IsSliceOf sl vl vu .none → IsPart vl lo → IsPart vu hi → r x lo hi H Q →
  ∃ T id, typeLookup (.type T) "__getitem__" = pure (some (.builtin id)) ∧ s.TypeIs v T ∧ wpAny (model X.prog X.w) X.A (getItem v (.ref sl)) (EP X pins σ Q) X.xe s
theorem SlR.or {r r' : V → Option Int → Option Int → Hp → VK → Prop} (h : SlR X r) (h' : SlR X r') : SlR X (fun x lo hi H Q => r x lo hi H Q ∨ r' x lo hi H Q) := by
 intro pins s σ H x v vl vu lo hi sl Q I rx hs pl pu q
 rcases q with q | q
 ·exact h pins s σ H x v vl vu lo hi sl Q I rx hs pl pu q
 ·exact h' pins s σ H x v vl vu lo hi sl Q I rx hs pl pu q
def tSl (r : V → Option Int → Option Int → Hp → VK → Prop) (te : TE) (tl th : TO) : TE := fun σ H Q => te σ H fun x H1 => tl σ H1 fun l H2 => th σ H2 fun u H3 => r x l u H3 Q
theorem a0v {r : V → Option Int → Option Int → Hp → VK → Prop} (hr : SlR X r) (he : PE X e te) (hl : PO X lo tl) (hu : PO X hi th) : PE X (.Subscript e (.Slice lo hi none p2) pos) (tSl r te tl th) := by
 intro pins s σ H Q I h
 refine Subscript_ (thn (he pins s σ H _ I h) fun v s1 ⟨x, H1, I1, r1, q1⟩ => ?_)
 refine wpAny_Slice (thn (hl pins s1 σ H1 _ I1 q1) fun vl s2 ⟨l, H2, I2, pl, q2⟩ => thn (hu pins s2 σ H2 _ I2 q2) fun vu s3 ⟨u, H3, I3, pu, q3⟩ => ?_)
 rw [evalPart_none]
 refine wpAny_pure ?_
 have I4 : Inv X pins σ H3 { s3 with heap := s3.heap.push { cls := .type "slice", data := .fields #[vl, vu, .none] } } := I3.kept (t' := s3.toks) fun b ob q => Heap.get?_push_of_some _ q
 obtain ⟨T, id, hT, ht, hg⟩ := hr pins { s3 with heap := s3.heap.push { cls := .type "slice", data := .fields #[vl, vu, .none] } } σ H3 x v vl vu l u s3.heap.objs.size Q I4 r1 (Heap.IsSliceOf.new ..) pl pu q3
 show wpAny (model X.prog X.w) X.A (subscriptTail e (.Slice lo hi none p2) v (.ref s3.heap.objs.size)) (EP X pins σ Q) X.xe { s3 with heap := s3.heap.push { cls := .type "slice", data := .fields #[vl, vu, .none] } }
 exact tail_any (ops := [.ref s3.heap.objs.size, v]) ht hT hg (by with_unfolding_all rfl)
def a8i (xs : List V) (lo hi : Option Int) : List V := (xs.drop (HT.sIx xs.length 0 lo)).take (HT.sIx xs.length xs.length hi - HT.sIx xs.length 0 lo)
theorem cutV_length (xs : List V) (lo hi : Option Int) : (a8i xs lo hi).length ≤ xs.length := by
 unfold a8i
 rw [List.length_take, List.length_drop]
 omega
end
end L2
namespace L2
open PySem PySem.Spec PyProof.Rows
def ixN (n : Nat) (i : Int) : Option Nat := if 0 ≤ i then (if i < n then some i.toNat else none) else if -(n : Int) ≤ i then some (i + n).toNat else none
def atI {α : Type} (xs : List α) (i : Int) : Option α := (ixN xs.length i).bind fun j => xs[j]?
theorem ixN_seq {n : Nat} {i : Int} {j : Nat} (h : ixN n i = some j) : seqIndex? i n = some j ∧ j < n ∧ -(n : Int) ≤ i ∧ i < n := by
 unfold ixN at h
 by_cases h0 : 0 ≤ i
 ·rw [if_pos h0] at h
  by_cases h1 : i < n
  ·rw [if_pos h1] at h
   have e : i.toNat = j := Option.some.inj h
   exact ⟨by rw [seqIndex_of h0 h1, e], by omega, by omega, h1⟩
  ·rw [if_neg h1] at h; cases h
 ·rw [if_neg h0] at h
  by_cases h1 : -(n : Int) ≤ i
  ·rw [if_pos h1] at h
   have e : (i + n).toNat = j := Option.some.inj h
   exact ⟨by rw [seqIndex_neg (by omega) h1, e], by omega, h1, by omega⟩
  ·rw [if_neg h1] at h; cases h
theorem atI_get {α : Type} {xs : List α} {i : Int} {v : α} (h : atI xs i = some v) : ∃ j, seqIndex? i xs.length = some j ∧ xs[j]? = some v ∧ j < xs.length ∧ -(xs.length : Int) ≤ i ∧ i < xs.length := by
 unfold atI at h
 cases e : ixN xs.length i with
 | none => rw [e] at h; cases h
 | some j =>
  rw [e] at h
  obtain ⟨h1, h2, h3, h4⟩ := ixN_seq e
  exact ⟨j, h1, h, h2, h3, h4⟩
theorem a3v {α : Type} {xs : List α} {j : Nat} {v : α} (h : xs[j]? = some v) : atI xs (j : Int) = some v := by
 have hj : j < xs.length := (List.getElem?_eq_some_iff.mp h).1
 have e : ixN xs.length (j : Int) = some j := by
  unfold ixN
  rw [if_pos (by omega), if_pos (by omega)]; simp
 unfold atI; rw [e]; exact h
theorem ab5 {α : Type} (xs : List α) (v : α) : atI (xs ++ [v]) (-1) = some v := by
 have hl : (xs ++ [v]).length = xs.length + 1 := by simp
 have e : ixN (xs ++ [v]).length (-1) = some xs.length := by
  unfold ixN
  rw [hl, if_neg (by decide), if_pos (by omega)]
  congr 1
  omega
 unfold atI
 rw [e]
 show (xs ++ [v])[xs.length]? = some v
 simp
def PlainIx (b : Expr) : Prop := ∀ o i, subscripted b false o i = operate [o, i] (getItem o i)
def IxR (X : Cx) (r : R2) : Prop :=
 ∀ (value slice : Expr) (pins : List (Addr × Obj)) (s : Shared) (σ : St) (H : Hp) (x y : V) (v u : Value) (Q : VK), Inv X pins σ H s → RelV x v → RelV y u → r x y H Q →
  subscripted slice false v u = operate [v, u] (getItem v u) → wpAny (model X.prog X.w) X.A (subscriptTail value slice v u) (EP X pins σ Q) X.xe s
def MtR (X : Cx) (id : String) (r : V → List V → Hp → VK → Prop) : Prop :=
 ∀ (pins : List (Addr × Obj)) (s : Shared) (σ : St) (H : Hp) (x : V) (xs : List V) (v : Value) (us : List Value) (Q : VK), Inv X pins σ H s → RelV x v → Vals xs us → r x xs H Q →
  wpAny (model X.prog X.w) X.A (call (.builtin id) (v :: us)) (EP X pins σ Q) X.xe s
section
variable {X : Cx} {a b : Expr} {ta tb : TE} {pos : Pos}
theorem IxR.or {r r' : R2} (h : IxR X r) (h' : IxR X r') : IxR X (fun x y H Q => r x y H Q ∨ r' x y H Q) := by
 intro value slice pins s σ H x y v u Q I rx ry q hs
 rcases q with q | q
 ·exact h value slice pins s σ H x y v u Q I rx ry q hs
 ·exact h' value slice pins s σ H x y v u Q I rx ry q hs
theorem a0j {r : R2} (hr : IxR X r) (ha : PE X a ta) (hb : PE X b tb) (hs : PlainIx b) : PE X (.Subscript a b pos) (tOp r ta tb) := by
 intro pins s σ H Q I h
 exact Subscript_ (binT ha hb I h fun v u s2 x y H2 I2 rx ry q => hr a b pins s2 σ H2 x y v u Q I2 rx ry q (hs _ _))
def rIxL (K : PySem.W.Frag) : R2 := fun x y H Q => ∃ p xs i v, x = .ref p ∧ y = .int i ∧ SqL K H p xs ∧ atI xs i = some v ∧ Q v H
def rIxT (K : PySem.W.Frag) : R2 := fun x y H Q => ∃ p xs i v, x = .ref p ∧ y = .int i ∧ SqT K H p xs ∧ atI xs i = some v ∧ Q v H
def rIxS : R2 := fun x y H Q => ∃ z i c, x = .str z ∧ y = .int i ∧ z.length ≤ sizeLine ∧ atI z.cps.toList i = some c ∧ Q (.str ⟨#[c]⟩) H
theorem ix_list : IxR X (rIxL X.K) := by
 intro value slice pins s σ H x y v u Q I rx ry h hs
 obtain ⟨p, xs, i, z, rfl, rfl, hq, he, q⟩ := h
 cases rx
 obtain ⟨t, rfl⟩ := ry
 obtain ⟨its, r, pl, hz⟩ := I.list hq
 obtain ⟨j, h1, h2, h3, h4, h5⟩ := atI_get he
 obtain ⟨w, ew, rw'⟩ := r.get h2
 have hl := r.length
 have hn := line63
 have fin : EP X pins σ Q w s := ⟨z, H, I, rw', q⟩
 by_cases h0 : 0 ≤ i
 ·have hj : i.toNat = j := by
   rw [seqIndex_of h0 h5] at h1
   exact Option.some.inj h1
  exact item_listR pl.isList h0 (by omega) (by rw [hj]; simpa using ew) fin hs
 ·have hj : (i + (its.toArray.size : Int)).toNat = j := by
   rw [seqIndex_neg (by omega) h4] at h1
   rw [List.size_toArray, ← hl]
   exact Option.some.inj h1
  exact subscriptTail_builtinR (x := w) pl.isList.typeIs slot_list_getitem.lookup
   (wpAny_getItem_list_neg (Q := fun r s' => r = w ∧ EP X pins σ Q r s') pl.isList (by omega) (by rw [List.size_toArray] <;> omega) (by omega) (by rw [hj]; simpa using ew) ⟨rfl, fin⟩) hs
theorem ix_tup : IxR X (rIxT X.K) := by
 intro value slice pins s σ H x y v u Q I rx ry h hs
 obtain ⟨p, xs, i, z, rfl, rfl, hq, he, q⟩ := h
 cases rx
 obtain ⟨t, rfl⟩ := ry
 obtain ⟨its, r, pl, hz⟩ := I.tuple hq
 obtain ⟨j, h1, h2, h3, h4, h5⟩ := atI_get he
 obtain ⟨w, ew, rw'⟩ := r.get h2
 have hl := r.length
 have hn := line63
 have fin : EP X pins σ Q w s := ⟨z, H, I, rw', q⟩
 exact subscriptTail_builtinR (x := w) pl.typeIs slot_tuple_getitem.lookup
  (getItem_tuple (j := j) (Q := fun r s' => r = w ∧ EP X pins σ Q r s') pl (by omega) (by omega) (by rw [List.size_toArray, ← hl]; exact h1) (by simpa using ew) ⟨rfl, fin⟩) hs
theorem ix_str : IxR X rIxS := by
 intro value slice pins s σ H x y v u Q I rx ry h hs
 obtain ⟨z, i, c, rfl, rfl, hz, he, q⟩ := h
 obtain ⟨t, rfl⟩ := rx
 obtain ⟨t', rfl⟩ := ry
 obtain ⟨j, h1, h2, h3, h4, h5⟩ := atI_get he
 have hl : z.cps.toList.length = z.length := by simp [Str.length]
 rw [hl] at h1 h4 h5
 have hn := line63
 exact tail_any (typeIs_str s z t) slot_str_getitem.lookup (getItem_str (c := c) (by
  have e1 : decide (i < -(2 ^ 63 : Int)) = false := decide_eq_false (by omega)
  have e2 : decide (i ≥ 2 ^ 63) = false := decide_eq_false (by omega)
  rw [e1, e2, Bool.or_false]) (by rw [h1]; simpa using h2) ⟨.str ⟨#[c]⟩, H, I.tok _, ⟨_, rfl⟩, q⟩) hs
def rIx (K : PySem.W.Frag) : R2 := fun x y H Q => rIxL K x y H Q ∨ rIxT K x y H Q ∨ rIxS x y H Q
theorem ix_seq : IxR X (rIx X.K) := ix_list.or (ix_tup.or ix_str)
theorem mapSeq_set (its : List Value) (n j : Nat) (u : Value) : Obj.mapSeq (·.setIfInBounds j u) { cls := .type "list", data := .seq its.toArray n } = { cls := .type "list", data := .seq (its.set j u).toArray n } := by
 simp [Obj.mapSeq]
theorem Inv.lst {pins : List (Addr × Obj)} {σ : St} {H : Hp} {s : Shared} {p : Addr} {xs : List V} (I : Inv X pins σ H s) (h : H p = some (.lst xs)) :
  ∃ (its : List Value) (n : Nat), Vals xs its ∧ s.heap.get? p = some { cls := .type "list", data := .seq its.toArray n } ∧ xs.length ≤ sizeLine := by
 obtain ⟨z, its, n, r, e⟩ := I.hok p _ h
 exact ⟨its, n, r, e, z⟩
theorem Inv.lstUpd {pins : List (Addr × Obj)} {σ : St} {H : Hp} {s : Shared} {p : Addr} {xs ys : List V} {its its' : List Value} {n n' : Nat} {f : Obj → Obj} (I : Inv X pins σ H s) (h : H p = some (.lst xs))
  (ho : s.heap.get? p = some { cls := .type "list", data := .seq its.toArray n }) (hf : f { cls := .type "list", data := .seq its.toArray n } = { cls := .type "list", data := .seq its'.toArray n' }) (r : Vals ys its') (hz : ys.length ≤ sizeLine) (t : Nat) :
  Inv X pins σ (upd H p (.lst ys)) { s with heap := s.heap.update p f, toks := t } := by
 have e : (s.heap.update p f).get? p = some { cls := .type "list", data := .seq its'.toArray n' } := by
  rw [Heap.get?_update_self f ho (by rw [hf] <;> rfl), hf]
 refine I.write (x := p) (e := p) (by rw [h]; trivial) (.inl rfl) (fun b u hb q => (Heap.get?_update_other _ _ (Ne.symm hb)).trans q) ⟨_, e⟩ ?_
 exact ⟨hz, its', n', r, e⟩
def rSetL : V → V → V → Hp → (Hp → Prop) → Prop := fun o i v H Q => ∃ p xs k j, o = .ref p ∧ i = .int k ∧ H p = some (.lst xs) ∧ ixN xs.length k = some j ∧ Q (upd H p (.lst (xs.set j v)))
theorem set_list : PSet X rSetL := by
 intro pins s σ H o i v ov iv u Q I ro ri rv h
 obtain ⟨p, xs, k, j, rfl, rfl, hp, hj, q⟩ := h
 cases ro
 obtain ⟨t, rfl⟩ := ri
 obtain ⟨its, n, r, ho, hz⟩ := I.lst hp
 obtain ⟨h1, h2, h3, h4⟩ := ixN_seq hj
 have hl := r.length
 have hn := line63
 have I' : Inv X pins σ (upd H p (.lst (xs.set j v))) { s with heap := s.heap.update p (Obj.mapSeq (·.setIfInBounds j u)) } :=
  I.lstUpd hp ho (mapSeq_set its n j u) (r.set rv j) (by rw [List.length_set]; exact hz) s.toks
 by_cases h0 : 0 ≤ k
 ·have hk : k.toNat = j := by
   rw [seqIndex_of h0 h4] at h1
   exact Option.some.inj h1
  exact PySem.W.ki_setAt ho h0 (by omega) (by rw [List.size_toArray, ← hl]; exact h4) (by rw [hk]; exact ⟨_, I', q⟩)
 ·have hk : (k + (its.toArray.size : Int)).toNat = j := by
   rw [seqIndex_neg (by omega) h3] at h1
   rw [List.size_toArray, ← hl]
   exact Option.some.inj h1
  exact PySem.W.ki_setBack ho (by omega) (by rw [List.size_toArray, ← hl]; exact h3) (by omega) (by rw [hk]; exact ⟨_, I', q⟩)
theorem slice_bounds (lo hi : Option Int) (n : Nat) : (sliceBounds lo hi none n).1 = ((HT.sIx n 0 lo : Nat) : Int) ∧ (sliceBounds lo hi none n).2.1 = ((HT.sIx n n hi : Nat) : Int) ∧ (sliceBounds lo hi none n).2.2 = 1 := by
 refine ⟨?_, ?_, rfl⟩
 ·cases lo with
  | none => simp [sliceBounds, HT.sIx]
  | some i =>
   simp only [sliceBounds, HT.sIx, Option.getD_none, show (1 : Int) > 0 by decide, if_true]
   by_cases h : i < 0
   ·simp only [h, if_true] <;> omega
   ·simp only [h, if_false] <;> omega
 ·cases hi with
  | none => simp [sliceBounds, HT.sIx]
  | some i =>
   simp only [sliceBounds, HT.sIx, Option.getD_none, show (1 : Int) > 0 by decide, if_true]
   by_cases h : i < 0
   ·simp only [h, if_true] <;> omega
   ·simp only [h, if_false] <;> omega
theorem slicePick_cut (its : List Value) (lo hi : Option Int) : slicePick its.toArray lo hi none = ((its.drop (HT.sIx its.length 0 lo)).take (HT.sIx its.length its.length hi - HT.sIx its.length 0 lo)).toArray := by
 obtain ⟨h1, h2, h3⟩ := slice_bounds lo hi its.toArray.size
 unfold slicePick
 rw [h1, h2, h3]
 simp only [sliceRange_one, pick_run, List.size_toArray] <;> rfl
def rSlL (K : PySem.W.Frag) : V → Option Int → Option Int → Hp → VK → Prop := fun x lo hi H Q => ∃ a xs, x = .ref a ∧ SqL K H a xs ∧ ∀ p, H p = none → Q (.ref p) (upd H p (.lst (a8i xs lo hi)))
theorem sl_list : SlR X (rSlL X.K) := by
 intro pins s σ H x v vl vu lo hi sl Q I rx hs pl pu h
 obtain ⟨a, xs, rfl, hx, q⟩ := h
 cases rx
 obtain ⟨its, r, ht, hz⟩ := I.list hx
 have hlen := r.length
 refine ⟨"list", _, slot_list_getitem.lookup, ht.isList.typeIs, ?_⟩
 refine wpAny_getItem_list_slice ht.isList hs pl pu .none (by simp) ?_ (by rw [List.size_toArray] <;> omega)
 rw [slicePick_cut, ← hlen]
 refine ⟨.ref s.heap.objs.size, _, I.laid (t' := s.toks) (o := .lst (a8i xs lo hi)) (fun b ob q => Heap.get?_push_of_some _ q) (Nat.le_refl _) ?_, rfl, q _ (I.hok.fresh (Nat.le_refl _))⟩
 exact ⟨Nat.le_trans (cutV_length xs lo hi) hz, _, 0, (r.drop (HT.sIx xs.length 0 lo)).take (HT.sIx xs.length xs.length hi - HT.sIx xs.length 0 lo), Heap.get?_push_size _ rfl⟩
def acp : V → Bool
 | .non => true
 | .bl _ => true
 | .int _ => true
 | .str _ => true
 | _ => false
def eqV : V → V → Bool
 | .non, .non => true
 | .bl a, .bl b => a == b
 | .bl a, .int b => (if a then 1 else 0) == b
 | .int a, .bl b => a == (if b then 1 else 0)
 | .int a, .int b => a == b
 | .str a, .str b => a == b
 | _, _ => false
theorem eqAt_V {A : Around} {s : Shared} {y x : V} {u v : Value} (ry : RelV y u) (rx : RelV x v) (fy : acp y = true) (fx : acp x = true) : SeqAt.EqAt A s u v (eqV y x) := by
 cases y with
 | non =>
  cases ry
  cases x with
  | non => cases rx; exact SeqAt.EqAt.same _
  | bl b => cases rx; exact SeqAt.EqAt.none_bool b
  | int b => obtain ⟨t, rfl⟩ := rx; exact SeqAt.EqAt.none_int b t
  | str b => obtain ⟨t, rfl⟩ := rx; exact SeqAt.EqAt.none_str b t
  | _ => exact absurd (show false = true from fx) Bool.false_ne_true
 | bl a =>
  cases ry
  cases x with
  | non => cases rx; exact SeqAt.EqAt.bool_none a
  | bl b => cases rx; exact SeqAt.EqAt.bool_bool a b
  | int b => obtain ⟨t, rfl⟩ := rx; exact SeqAt.EqAt.bool_int a b t
  | str b => obtain ⟨t, rfl⟩ := rx; exact SeqAt.EqAt.bool_str a b t
  | _ => exact absurd (show false = true from fx) Bool.false_ne_true
 | int a =>
  obtain ⟨t', rfl⟩ := ry
  cases x with
  | non => cases rx; exact SeqAt.EqAt.int_none a t'
  | bl b => cases rx; exact SeqAt.EqAt.int_bool a t' b
  | int b => obtain ⟨t, rfl⟩ := rx; exact SeqAt.EqAt.int_int a t' b t
  | str b => obtain ⟨t, rfl⟩ := rx; exact SeqAt.EqAt.int_str a t' b t
  | _ => exact absurd (show false = true from fx) Bool.false_ne_true
 | str a =>
  obtain ⟨t', rfl⟩ := ry
  cases x with
  | non => cases rx; exact SeqAt.EqAt.str_none a t'
  | bl b => cases rx; exact SeqAt.EqAt.str_bool a t' b
  | int b => obtain ⟨t, rfl⟩ := rx; exact SeqAt.EqAt.str_int a t' b t
  | str b => obtain ⟨t, rfl⟩ := rx; exact SeqAt.EqAt.str_str a t' b t
  | _ => exact absurd (show false = true from fx) Bool.false_ne_true
 | _ => exact absurd (show false = true from fy) Bool.false_ne_true
def eqU (x : V) (u : Value) : Bool := match u with
 | .none => eqV .non x
 | .bool b => eqV (.bl b) x
 | .int i _ => eqV (.int i) x
 | .str z _ => eqV (.str z) x
 | _ => false
theorem eqU_of {x y : V} {u : Value} (r : RelV y u) (f : acp y = true) : eqU x u = eqV y x := by
 cases y with
 | non => cases r; rfl
 | bl b => cases r; rfl
 | int i => obtain ⟨t, rfl⟩ := r; rfl
 | str z => obtain ⟨t, rfl⟩ := r; rfl
 | _ => exact absurd (show false = true from f) Bool.false_ne_true
theorem acv {x : V} : ∀ {xs : List V} {us : List Value}, Vals xs us → xs.all acp = true → us.any (eqU x) = xs.any fun y => eqV y x
 | _, _, .nil, _ => rfl
 | y :: xs, u :: us, .cons r t, f => by
  rw [List.all_cons, Bool.and_eq_true] at f
  rw [List.any_cons, List.any_cons, eqU_of r f.1, acv t f.2]
theorem a9f {A : Around} {s : Shared} {x : V} {v : Value} (rx : RelV x v) (fx : acp x = true) : ∀ {xs : List V} {us : List Value}, Vals xs us → xs.all acp = true → ∀ u ∈ us, SeqAt.EqAt A s u v (eqU x u)
 | _, _, .nil, _ => fun u hu => by cases hu
 | y :: xs, u :: us, .cons r t, f => fun u' hu => by
  rw [List.all_cons, Bool.and_eq_true] at f
  rcases List.mem_cons.mp hu with rfl | hu
  ·rw [eqU_of r f.1]; exact eqAt_V r rx f.1 fx
  ·exact a9f rx fx t f.2 u' hu
def inV (x : V) (xs : List V) : Bool := xs.any fun y => eqV y x
def rIn (K : PySem.W.Frag) (neg : Bool) : R2 := fun x y H Q => ∃ p xs, y = .ref p ∧ (SqL K H p xs ∨ SqT K H p xs) ∧ acp x = true ∧ xs.all acp = true ∧ Q (.bl (if neg then !inV x xs else inV x xs)) H
theorem op_in_seq : OpR X (compareOp .In) (rIn X.K false) := by
 intro pins s σ H x y v u Q I rx ry h
 obtain ⟨p, xs, rfl, hq, fx, fs, q⟩ := h
 cases ry
 rcases hq with hq | hq
 ·obtain ⟨its, r, pl, hz⟩ := I.list hq
  refine SeqAt.in_listAt (eqU x) pl.isList (fun w hw => a9f rx fx r fs w (by simpa using hw)) ⟨.bl _, H, I, rfl, ?_⟩
  rw [show its.toArray.any (eqU x) = its.any (eqU x) by simp, acv r fs]
  exact q
 ·obtain ⟨its, r, pl, hz⟩ := I.tuple hq
  refine SeqAt.in_tupleAt (eqU x) pl (fun w hw => a9f rx fx r fs w (by simpa using hw)) ⟨.bl _, H, I, rfl, ?_⟩
  rw [show its.toArray.any (eqU x) = its.any (eqU x) by simp, acv r fs]
  exact q
theorem op_notIn_seq : OpR X (compareOp .NotIn) (rIn X.K true) := by
 intro pins s σ H x y v u Q I rx ry h
 obtain ⟨p, xs, rfl, hq, fx, fs, q⟩ := h
 cases ry
 rcases hq with hq | hq
 ·obtain ⟨its, r, pl, hz⟩ := I.list hq
  refine SeqAt.notIn_listAt (eqU x) pl.isList (fun w hw => a9f rx fx r fs w (by simpa using hw)) ⟨.bl _, H, I, rfl, ?_⟩
  rw [show its.toArray.any (eqU x) = its.any (eqU x) by simp, acv r fs]
  exact q
 ·obtain ⟨its, r, pl, hz⟩ := I.tuple hq
  refine SeqAt.notIn_tupleAt (eqU x) pl (fun w hw => a9f rx fx r fs w (by simpa using hw)) ⟨.bl _, H, I, rfl, ?_⟩
  rw [show its.toArray.any (eqU x) = its.any (eqU x) by simp, acv r fs]
  exact q
theorem op_notIn_str : OpR X (compareOp .NotIn) (fun x y H Q => ∃ i j, x = .str i ∧ y = .str j ∧ Q (.bl (!(!(Builtin.Str.occurrences j i 0 j.length 1).isEmpty))) H) := by
 intro pins s σ H x y v u Q I rx ry h
 obtain ⟨i, j, rfl, rfl, q⟩ := h
 obtain ⟨t, rfl⟩ := rx
 obtain ⟨t', rfl⟩ := ry
 exact notIn_str ⟨.bl _, H, I, rfl, q⟩
theorem a6p : aaw X (.type "list") (fun xs H Q => ∃ p ys, xs = [.ref p] ∧ (SqL X.K H p ys ∨ SqT X.K H p ys) ∧ ∀ l, H l = none → Q (.ref l) (upd H l (.lst ys))) := by
 intro pins s σ H xs us Q I r h
 obtain ⟨p, ys, rfl, hq, q⟩ := h
 obtain ⟨u, rfl, rx⟩ := vals1 r
 cases rx
 have fin : ∀ (its : List Value), Vals ys its → ys.length ≤ sizeLine → ∀ (h' : Heap) (c' : Nat), (∀ b o', s.heap.get? b = some o' → h'.get? b = some o') →
   h'.get? s.heap.objs.size = some { cls := .type "list", dict := none, data := .seq its.toArray c', slots := #[] } → EP X pins σ Q (.ref s.heap.objs.size) { s with heap := h' } := fun its r' hz h' c' kp e =>
  ⟨.ref s.heap.objs.size, _, I.laid (t' := s.toks) kp (Nat.le_refl _) (show a5g X.prog X.w _ h' _ (.lst ys) from ⟨hz, its, c', r', e⟩), rfl, q _ (I.hok.fresh (Nat.le_refl _))⟩
 rcases hq with hq | hq
 ·obtain ⟨its, r', pl, hz⟩ := I.list hq
  have hlen := r'.length
  obtain ⟨o, ho, hc, n, hd⟩ := pl.isList
  exact call_list_seq p (.inl rfl) ho hc hd (fun h' c' kp e => fin its r' hz h' c' kp e) (by simp only [List.size_toArray] <;> omega)
 ·obtain ⟨its, r', pl, hz⟩ := I.tuple hq
  have hlen := r'.length
  obtain ⟨o, ho, hc, n, hd⟩ := pl
  exact call_list_seq p (.inr rfl) ho hc hd (fun h' c' kp e => fin its r' hz h' c' kp e) (by simp only [List.size_toArray] <;> omega)
def tyV (K : PySem.W.Frag) (T : String) (x : V) (H : Hp) : Prop := match x with
 | .str _ => T = "str"
 | .int _ => T = "int"
 | .ref p => (T = "list" ∧ ∃ xs, SqL K H p xs) ∨ (T = "tuple" ∧ ∃ o, K.lookup p = some o ∧ o.cls = .type "tuple" ∧ o.dict = none) ∨
   (T = "dict" ∧ ((∃ kvs, H p = some (.dK kvs)) ∨ ∃ kvs, H p = some (.dT kvs))) ∨ (T = "set" ∧ ∃ S n, H p = some (.set S n))
 | _ => False
theorem tyV_is {pins : List (Addr × Obj)} {σ : St} {H : Hp} {s : Shared} {T : String} {x : V} {v : Value} (I : Inv X pins σ H s) (r : RelV x v) (ty : tyV X.K T x H) :
  s.TypeIs v T ∧ ∀ a, v = .ref a → ∃ ob, s.heap.get? a = some ob ∧ ob.dict = none := by
 cases x with
 | str z =>
  obtain ⟨t, rfl⟩ := r
  cases (show T = "str" from ty)
  exact ⟨typeIs_str s z t, fun _ e => nomatch e⟩
 | int i =>
  obtain ⟨t, rfl⟩ := r
  cases (show T = "int" from ty)
  exact ⟨typeIs_int s i t, fun _ e => nomatch e⟩
 | ref p =>
  cases r
  rcases ty with ⟨rfl, xs, hq⟩ | ⟨rfl, o, hk, hc, hd⟩ | ⟨rfl, hk⟩ | ⟨rfl, S, n, hk⟩
  ·obtain ⟨its, _, pl, _⟩ := I.list hq
   refine ⟨pl.isList.typeIs, fun a e => ?_⟩
   cases e
   obtain ⟨o, n, e, c, hd, _⟩ := pl
   exact ⟨o, e, hd⟩
  ·refine ⟨⟨o, I.kIn p o hk, hc⟩, fun a e => ?_⟩
   cases e
   exact ⟨o, I.kIn _ o hk, hd⟩
  ·have z : ∃ o, s.heap.get? p = some o ∧ o.ExactDict := by
    rcases hk with ⟨kvs, hk⟩ | ⟨kvs, hk⟩
    ·obtain ⟨_, _, _, _, o, _, _, e, ex, _⟩ := I.hok p _ hk
     exact ⟨o, e, ex⟩
    ·obtain ⟨_, _, _, _, o, _, _, e, ex, _⟩ := I.hok p _ hk
     exact ⟨o, e, ex⟩
   obtain ⟨o, e, ex⟩ := z
   refine ⟨⟨o, e, ex.1⟩, fun a e2 => ?_⟩
   cases e2
   exact ⟨o, e, ex.2.1⟩
  ·obtain ⟨o, _, _, _, e, ex, _⟩ := I.hok p _ hk
   refine ⟨⟨o, e, ex.1⟩, fun a e2 => ?_⟩
   cases e2
   exact ⟨o, e, ex.2.1⟩
 | _ => exact False.elim ty
def tBM0 (K : PySem.W.Frag) (T : String) (r : V → List V → Hp → VK → Prop) (to : TE) : TE := fun σ H Q => to σ H fun x H1 => tyV K T x H1 ∧ r x [] H1 Q
def tBM (K : PySem.W.Frag) (T : String) (r : V → List V → Hp → VK → Prop) (to : TE) (t : TA) : TE := fun σ H Q => to σ H fun x H1 => tyV K T x H1 ∧ t σ H1 fun xs H2 => r x xs H2 Q
variable {o e : Expr} {es : List Expr} {to : TE} {t : TA} {name : Str} {apos cpos : Pos} {T id : String} {r : V → List V → Hp → VK → Prop}
theorem pe_bm0 (pa : PlainAttrs T) (slot : Slot T name id) (hty : typeOf (.builtin id) = pure (.type "method_descriptor")) (hm : MtR X id r) (ho : PE X o to)
  (hbase : attributeBase o name X.env (eval o X.env) = eval o X.env := by rfl) (hline : (apos.endLine == cpos.line) = true := by rfl) : PE X (.Call (.Attribute o name apos) [] [] cpos) (tBM0 X.K T r to) := by
 intro pins s σ H Q I h
 refine wpAny_Call_method0_late hbase hline (thn (ho pins s σ H _ I h) fun v s1 ⟨x, H1, I1, r1, ty, q1⟩ => ?_)
 obtain ⟨h1, h2⟩ := tyV_is I1 r1 ty
 exact ⟨T, id, pa, slot, hty, h1, h2, Calls.callWith_builtin rfl (PySem.evalArgs_none (hm pins s1 σ H1 x [] v [] Q I1 r1 .nil q1))⟩
theorem a6s (pa : PlainAttrs T) (slot : Slot T name id) (hty : typeOf (.builtin id) = pure (.type "method_descriptor")) (hm : MtR X id r) (ho : PE X o to) (ha : PA X (e :: es) t)
  (hbase : attributeBase o name X.env (eval o X.env) = eval o X.env := by rfl)
  (hfew : ((backTo cpos (starEach (e :: es) X.env)).all (fun x => !x.1) && (backToKw cpos (keywordEach [] X.env)).all (fun x => x.1.isSome)
   && decide ((e :: es).length + ([] : List Keyword).length + (if ([] : List Keyword).isEmpty then 0 else 1) < 30)) = true := by rfl)
  (hline : (apos.endLine == cpos.line) = true := by rfl) (hs : starEach (e :: es) X.env = (false, eval e X.env) :: starEach es X.env := by rfl) (hplain : (backTo cpos (starEach es X.env)).any (·.1) = false := by rfl) :
  PE X (.Call (.Attribute o name apos) (e :: es) [] cpos) (tBM X.K T r to t) := by
 intro pins s σ H Q I h
 refine wpAny_Call_method_late hbase hfew hline rfl (thn (ho pins s σ H _ I h) fun v s1 ⟨x, H1, I1, r1, ty, q1⟩ => ?_)
 obtain ⟨h1, h2⟩ := tyV_is I1 r1 ty
 refine ⟨T, id, pa, slot, hty, h1, h2, ?_⟩
 have hA := ha cpos pins s1 σ H1 _ I1 q1
 rw [hs] at hA ⊢
 refine Calls.callWith_builtin (by show (false || (backTo cpos (starEach es X.env)).any (·.1)) = false; rw [hplain] <;> rfl) (Calls.evalArgs_plain ?_)
 exact thn hA fun us s2 ⟨vs, H2, I2, r2, q2⟩ => hm pins s2 σ H2 x vs v us Q I2 r1 r2 q2
end
end L2
namespace L2
open PySem PySem.Spec PyProof.Rows
def MtM (X : Cx) (id : String) (r : V → List V → Hp → VK → Prop) : Prop :=
 ∀ (pins : List (Addr × Obj)) (s : Shared) (σ : St) (H : Hp) (x : V) (xs : List V) (v : Value) (us : List Value) (Q : VK), Inv X pins σ H s → RelV x v → Vals xs us → r x xs H Q →
  wpAny (model X.prog X.w) X.A (call (.builtin id) (v :: us)) (EP X pins σ Q) X.xe s
theorem Vals.one : ∀ {x : V} {us : List Value}, Vals [x] us → ∃ u, us = [u] ∧ RelV x u
 | _, _, .cons r .nil => ⟨_, rfl, r⟩
theorem Vals.zero : ∀ {us : List Value}, Vals [] us → us = []
 | _, .nil => rfl
theorem Vals.dropLast {xs : List V} {us : List Value} (h : Vals xs us) : Vals xs.dropLast us.dropLast := by
 induction h with
 | nil => exact .nil
 | cons r t ih =>
  cases t with
  | nil => exact .nil
  | cons q t' => exact .cons r ih
theorem erase_last {α : Type} (l : List α) : l.eraseIdx (l.length - 1) = l.dropLast := by
 induction l with
 | nil => rfl
 | cons a r ih =>
  cases r with
  | nil => rfl
  | cons b r =>
   have e : (a :: b :: r).length - 1 = ((b :: r).length - 1) + 1 := by
    have h1 : (a :: b :: r).length = r.length + 2 := rfl
    have h2 : (b :: r).length = r.length + 1 := rfl
    omega
   rw [e, List.eraseIdx_cons_succ, ih]
   all_goals rfl
section
variable {X : Cx} {pins : List (Addr × Obj)} {σ : St} {H : Hp} {s : Shared} {l b : Addr} {xs ys zs : List V}
theorem Inv.lset {its its' : List Value} {n : Nat} {f : Array Value → Array Value} {t' : Nat} (I : Inv X pins σ H s) (hH : H l = some (.lst xs))
  (e : s.heap.get? l = some { cls := .type "list", data := .seq its.toArray n }) (hf : f its.toArray = its'.toArray) (hv : Vals ys its') (hz : ys.length ≤ sizeLine) :
  Inv X pins σ (upd H l (.lst ys)) { s with heap := s.heap.update l (Obj.mapSeq f), toks := t' } := by
 have q := PySem.IsL.update e f
 rw [hf] at q
 refine I.write (x := l) (e := l) (by rw [hH]; exact trivial) (.inl rfl) (fun b' u hb hu => (Heap.get?_update_other s.heap (Obj.mapSeq f) (Ne.symm hb)).trans hu) ⟨_, q⟩ ?_
 exact ⟨hz, its', _, hv, q⟩
theorem Inv.lnew {its : List Value} {t' : Nat} (I : Inv X pins σ H s) (hv : Vals ys its) (hz : ys.length ≤ sizeLine) :
  Inv X pins σ (upd H s.heap.objs.size (.lst ys)) { s with heap := s.heap.push { cls := .type "list", data := .seq its.toArray }, toks := t' } :=
 I.laid (fun _ _ q => Heap.get?_push_of_some _ q) (Nat.le_refl _) ⟨hz, its, 0, hv, Heap.get?_push_size _ rfl⟩
theorem Inv.fresh (I : Inv X pins σ H s) : H s.heap.objs.size = none := I.hok.fresh (Nat.le_refl _)
theorem Inv.lstM (I : Inv X pins σ H s) (hH : H l = some (.lst xs)) : xs.length ≤ sizeLine ∧ ∃ (its : List Value) (n : Nat), Vals xs its ∧ xs.length = its.length ∧ s.heap.get? l = some { cls := .type "list", data := .seq its.toArray n } := by
 obtain ⟨z, its, n, r, e⟩ := I.hok l _ hH
 exact ⟨z, its, n, r, r.length, e⟩
theorem notLongL {n : Nat} (h : n ≤ sizeLine) : Builtin.List.listTooLong n = false := by
 unfold Builtin.List.listTooLong
 exact decide_eq_false (by omega)
end
section
variable {X : Cx}
def rAppend : V → List V → Hp → VK → Prop := fun x vs H Q => ∃ l xs y, x = .ref l ∧ vs = [y] ∧ H l = some (.lst xs) ∧ xs.length < sizeLine ∧ Q .non (upd H l (.lst (xs ++ [y])))
theorem a3h : MtM X "list.append" rAppend := by
 intro pins s σ H x vs v us Q I rx rv h
 obtain ⟨l, xs, y, rfl, rfl, hH, hz, q⟩ := h
 cases rx
 obtain ⟨u, rfl, ru⟩ := rv.one
 obtain ⟨z, its, n, r, hl, e⟩ := I.lstM hH
 refine call_meets F.slot_list_append ⟨_, e, rfl⟩ F.entry_list_append (F.args_list_append_2 _ _) (PySem.list_append l its.toArray n u (by rw [List.size_toArray]; omega)) ⟨e, ?_⟩
 refine ⟨.non, _, I.lset (its' := its ++ [u]) hH e (by simp) (r.append (.cons ru .nil)) ?_, rfl, q⟩
 rw [List.length_append, List.length_singleton]
 omega
def rExtend : V → List V → Hp → VK → Prop := fun x vs H Q => ∃ l b xs zs, x = .ref l ∧ vs = [.ref b] ∧ H l = some (.lst xs) ∧ H b = some (.lst zs) ∧ xs.length + zs.length ≤ sizeLine ∧ Q .non (upd H l (.lst (xs ++ zs)))
def rPop : V → List V → Hp → VK → Prop := fun x vs H Q => ∃ l xs y, x = .ref l ∧ vs = [] ∧ H l = some (.lst xs) ∧ xs[xs.length - 1]? = some y ∧ Q y (upd H l (.lst xs.dropLast))
theorem mt_pop : MtM X "list.pop" rPop := by
 intro pins s σ H x vs v us Q I rx rv h
 obtain ⟨l, xs, y, rfl, rfl, hH, hy, q⟩ := h
 cases rx
 have hus := rv.zero
 subst hus
 obtain ⟨z, its, n, r, hl, e⟩ := I.lstM hH
 obtain ⟨u, hu, ru⟩ := r.get hy
 have hy' : its.toArray[its.toArray.size - 1]? = some u := by
  show its.toArray[its.length - 1]? = some u
  rw [← Array.getElem?_toList, ← hl]
  exact hu
 refine call_meets F.slot_list_pop ⟨_, e, rfl⟩ F.entry_list_pop (F.args_list_pop_1 _) (MeetsSeq.list_pop_last l its.toArray n u hy' (by rw [List.size_toArray]; omega)) ⟨e, ?_⟩
 refine ⟨y, _, I.lset (its' := its.dropLast) hH e ?_ r.dropLast ?_, ru, q⟩
 ·show its.toArray.eraseIdxIfInBounds (its.toArray.size - 1) = its.dropLast.toArray
  rw [List.size_toArray, List.eraseIdxIfInBounds_toArray, erase_last]
 ·rw [List.length_dropLast]
  omega
def rCat : R2 := fun x y H Q => ∃ l b xs zs, x = .ref l ∧ y = .ref b ∧ H l = some (.lst xs) ∧ H b = some (.lst zs) ∧ xs.length + zs.length ≤ sizeLine ∧ ∀ p, H p = none → Q (.ref p) (upd H p (.lst (xs ++ zs)))
theorem op_cat : OpR X (binaryOp .Add) rCat := by
 intro pins s σ H x y v u Q I rx ry h
 obtain ⟨l, b, xs, zs, rfl, rfl, hH, hB, hz, q⟩ := h
 cases rx
 cases ry
 obtain ⟨z, its, n, r, hl, e⟩ := I.lstM hH
 obtain ⟨z2, its2, n2, r2, hl2, e2⟩ := I.lstM hB
 refine PySem.P.add_list e e2 ?_ (by rw [List.size_toArray, List.size_toArray]; omega)
 have ea : its.toArray ++ its2.toArray = (its ++ its2).toArray := by simp
 rw [ea]
 exact ⟨.ref _, _, I.lnew (t' := s.toks) (r.append r2) (by rw [List.length_append]; omega), rfl, q _ I.fresh⟩
end
section
variable {prog : Program} {w : World} {A : Around} {E : Value → Shared → Prop} {s : Shared}
set_option maxRecDepth 100000 in
end
section
variable {X : Cx}
end
end L2
namespace L2
open PySem PySem.Spec PyProof.Rows
section
variable {κ : Type} [DecidableEq κ]
def valV (kvs : List (κ × V)) (k : κ) : Option V := (kvs.find? fun kv => decide (kv.1 = k)).map (·.2)
def putK (kvs : List (κ × V)) (k : κ) (v : V) : List (κ × V) :=
 if (kvs.any fun kv => decide (kv.1 = k)) = true then kvs.map (fun kv => if kv.1 = k then (kv.1, v) else kv) else kvs ++ [(k, v)]
theorem valV_pos {p : κ × V} {r : List (κ × V)} {k : κ} (e : p.1 = k) : valV (p :: r) k = some p.2 := by simp [valV, List.find?_cons, e]
theorem aay {p : κ × V} {r : List (κ × V)} {k : κ} (e : ¬ p.1 = k) : valV (p :: r) k = valV r k := by simp [valV, List.find?_cons, e]
theorem length_putK (kvs : List (κ × V)) (k : κ) (v : V) : (putK kvs k v).length ≤ kvs.length + 1 := by
 unfold putK
 split
 ·rw [List.length_map]; omega
 ·rw [List.length_append, List.length_cons, List.length_nil]; omega
theorem RelO.getD {o : Option V} {u : Option Value} {d : V} {d' : Value} (r : RelO o u) (rd : RelV d d') : RelV (o.getD d) (u.getD d') := by
 cases o with
 | none => cases u with
  | none => exact rd
  | some _ => exact (show False from r).elim
 | some _ => cases u with
  | none => exact (show False from r).elim
  | some _ => exact r
theorem KV.val {kvs : List (κ × V)} {vs : List (κ × Value)} (r : KV kvs vs) (k : κ) : RelO (valV kvs k) (valueAt vs k) := by
 unfold KV at r
 induction r with
 | nil => exact True.intro
 | @cons p q ps qs h t ih =>
  obtain ⟨h1, h2⟩ := h
  by_cases e : p.1 = k
  ·have e' : q.1 = k := h1.symm.trans e
   have b : valueAt (q :: qs) k = some q.2 := by simp [valueAt, List.find?_cons, e']
   rw [valV_pos e, b]; exact h2
  ·have e' : ¬ q.1 = k := fun z => e (h1.trans z)
   have b : valueAt (q :: qs) k = valueAt qs k := by simp [valueAt, List.find?_cons, e']
   rw [aay e, b]; exact ih
theorem KV.any {kvs : List (κ × V)} {vs : List (κ × Value)} (r : KV kvs vs) (k : κ) : (kvs.any fun kv => decide (kv.1 = k)) = vs.any fun kv => decide (kv.1 = k) := by
 unfold KV at r
 induction r with
 | nil => rfl
 | cons h t ih => rw [List.any_cons, List.any_cons, ih, h.1]
theorem KV.repl {kvs : List (κ × V)} {vs : List (κ × Value)} (r : KV kvs vs) (k : κ) {y : V} {u : Value} (ry : RelV y u) :
  KV (kvs.map fun kv => if kv.1 = k then (kv.1, y) else kv) (vs.map fun kv => if kv.1 = k then (kv.1, u) else kv) := by
 unfold KV at r ⊢
 induction r with
 | nil => exact .nil
 | @cons p q ps qs h t ih =>
  rw [List.map_cons, List.map_cons]
  refine .cons ?_ ih
  obtain ⟨h1, h2⟩ := h
  by_cases e : p.1 = k
  ·rw [if_pos e, if_pos (h1.symm.trans e)]; exact ⟨h1, ry⟩
  ·rw [if_neg e, if_neg (fun z => e (h1.trans z))]; exact ⟨h1, h2⟩
theorem KV.put {kvs : List (κ × V)} {vs : List (κ × Value)} (r : KV kvs vs) (k : κ) {y : V} {u : Value} (ry : RelV y u) : KV (putK kvs k y) (stored vs k u) := by
 unfold putK stored
 rw [r.any k]
 by_cases e : (vs.any fun kv => decide (kv.1 = k)) = true
 ·rw [if_pos e, if_pos e]; exact r.repl k ry
 ·rw [if_neg e, if_neg e]; exact Paired.snoc r ⟨rfl, ry⟩
end
theorem kV_is {P : Program} {w : World} {k : Key} {u : Value} (r : RelV (kV k) u) : (a3i P w).is k u = true := by
 cases k with
 | inl i => obtain ⟨t, e⟩ := (show ∃ t, u = Value.int i t from r); subst e; exact mixKind_int P w i t
 | inr x => obtain ⟨t, e⟩ := (show ∃ t, u = Value.str x t from r); subst e; exact mixKind_str P w x t
theorem items_are {P : Program} {w : World} : ∀ {ks : List Key} {us : List Value}, Vals (ks.map kV) us → ItemsAre (a3i P w) ks us
 | [], _, r => by rw [List.map_nil] at r; cases r; exact .nil
 | k :: ks, _, r => by
  rw [List.map_cons] at r
  cases r with
  | cons h t => exact .cons (kV_is h) (items_are t)
abbrev KT (H : Hp) : List (List Key × V) → List (List Key × Addr × Value) → Prop := Paired fun p q => p.1 = q.1 ∧ H q.2.1 = some (.tup (p.1.map kV)) ∧ RelV p.2 q.2.2
theorem KT.val {H : Hp} {kvs : List (List Key × V)} {xs : List (List Key × Addr × Value)} (r : KT H kvs xs) (k : List Key) : RelO (valV kvs k) ((atKey xs k).map (·.2)) := by
 induction r with
 | nil => exact True.intro
 | @cons p q ps qs h t ih =>
  obtain ⟨h1, _, h2⟩ := h
  by_cases e : p.1 = k
  ·have e' : q.1 = k := h1.symm.trans e
   have b : atKey (q :: qs) k = some q.2 := by simp [atKey, List.find?_cons, e']
   rw [valV_pos e, b]; exact h2
  ·have e' : ¬ q.1 = k := fun z => e (h1.trans z)
   have b : atKey (q :: qs) k = atKey qs k := by simp [atKey, List.find?_cons, e']
   rw [aay e, b]; exact ih
section
variable {P : Program} {w : World} {H : Hp} {h : Heap} {a : Addr}
theorem rd_of {u : HO} (ok : HOk P w H h) (e : Rd H a u) : a5g P w H h a u := e.ok ok
theorem dk_rd {kvs : List (Key × V)} (ok : HOk P w H h) (e : Rd H a (.dK kvs)) : kvs.length ≤ sizeLine ∧ (a == sysModules) = false ∧ ∃ vs, KV kvs vs ∧ h.DictOf (a3i P w) a vs :=
 show a5g P w H h a (.dK kvs) from rd_of ok e
theorem dk_of {kvs : List (Key × V)} (ok : HOk P w H h) (e : H a = some (.dK kvs)) : kvs.length ≤ sizeLine ∧ (a == sysModules) = false ∧ ∃ vs, KV kvs vs ∧ h.DictOf (a3i P w) a vs := dk_rd ok (.inl e)
theorem key_of {ks : List Key} (ok : HOk P w H h) (e : H a = some (.tup (ks.map kV))) : (tupleKind (a3i P w)).is h ks a := by
 obtain ⟨_, its, r, o, h1, h2, n, h3⟩ := (show a5g P w H h a (.tup (ks.map kV)) from ok a _ e)
 exact ⟨o, its.toArray, n, h1, h2, h3, by simpa using items_are r⟩
theorem dt_rd {kvs : List (List Key × V)} (ok : HOk P w H h) (e : Rd H a (.dT kvs)) : kvs.length ≤ sizeLine ∧ (a == sysModules) = false ∧
  ∃ xs, KT H kvs xs ∧ h.DictOfH (tupleKind (a3i P w)) a xs := by
 obtain ⟨z, y, xs, r, o, es, ep, h1, h2, h3, h4, h5⟩ := (show a5g P w H h a (.dT kvs) from rd_of ok e)
 refine ⟨z, y, xs, r, o, es, ep, h1, h2, h3, h4, fun x hx => ?_, h5⟩
 have all : ∀ {l : List (List Key × V)} {m : List (List Key × Addr × Value)}, KT H l m → ∀ x ∈ m, (tupleKind (a3i P w)).is h x.1 x.2.1 := by
  intro l m q
  induction q with
  | nil => intro x hx; exact nomatch hx
  | @cons p q ps qs hq t ih =>
   intro x hx
   rcases List.mem_cons.mp hx with e | hx
   ·subst e
    exact key_of ok (by rw [← hq.1]; exact hq.2.1)
   ·exact ih x hx
 exact all r x hx
end
def DGet (H : Hp) (a : Addr) (y : V) (r : Option V) : Prop :=
 (∃ kvs k, Rd H a (.dK kvs) ∧ y = kV k ∧ r = valV kvs k) ∨ ∃ kvs k b, Rd H a (.dT kvs) ∧ y = .ref b ∧ H b = some (.tup (k.map kV)) ∧ r = valV kvs k
theorem DGet.k {H : Hp} {a : Addr} {kvs : List (Key × V)} {k : Key} (e : H a = some (.dK kvs)) : DGet H a (kV k) (valV kvs k) := .inl ⟨kvs, k, .inl e, rfl, rfl⟩
section
variable {X : Cx} {pins : List (Addr × Obj)} {σ : St} {H : Hp} {s : Shared} {a : Addr} {y v : V} {u r : Value} {o : Option V} {A : Around} {E : Value → Shared → Prop}
theorem Inv.big (I : Inv X pins σ H s) : sysModules < s.heap.objs.size := by
 have h : mainGlobals < s.heap.objs.size := (I.mod.glob.keeps I.bk).lt
 exact Nat.lt_trans (by decide) h
theorem d_write {h' : Heap} {t' : Nat} {ob : HO} (I : Inv X pins σ H s) (mu : Mut (H a)) (hs : Heap.SameBut a s.heap h') (he : ∃ q, h'.get? a = some q) (new : a5g X.prog X.w (upd H a ob) h' a ob) :
  Inv X pins σ (upd H a ob) { s with heap := h', toks := t' } :=
 I.write (x := a) (e := a) mu (.inl rfl) (fun b q hb z => (hs.2 b hb).trans z) he new
theorem dk_new {P : Program} {w : World} {H' : Hp} {h' : Heap} {kvs : List (Key × V)} {vs : List (Key × Value)} (z : kvs.length ≤ sizeLine) (hd : (a == sysModules) = false) (rel : KV kvs vs) (dd : h'.DictOf (a3i P w) a vs) :
  a5g P w H' h' a (.dK kvs) := ⟨z, hd, vs, rel, dd⟩
end
section
variable {X : Cx} {pins : List (Addr × Obj)} {σ : St} {H : Hp} {s : Shared} {a : Addr} {kvs : List (Key × V)} {k : Key} {u : Value} {A : Around} {E : Value → Shared → Prop}
end
section
variable {X : Cx} {o i e value : Expr} {pos pos' tpos : Pos} {td ty tv : TE}
end
theorem dk_empty {P : Program} {w : World} {H : Hp} (h : Heap) (hb : sysModules < h.objs.size) : a5g P w H (h.push { cls := .type "dict", data := .dict #[] }) h.objs.size (.dK []) :=
 ⟨Nat.zero_le _, beq_eq_false_iff_ne.mpr (Ne.symm (Nat.ne_of_lt hb)), [], .nil, Heap.DictOf.new h⟩
section
variable {X : Cx} {pos : Pos}
end
def tPairs : List (TE × TE) → St → Hp → (List (V × V) → Hp → Prop) → Prop
 | [], _, H, Q => Q [] H
 | (tk, tv) :: r, σ, H, Q => tk σ H fun x H1 => tv σ H1 fun y H2 => tPairs r σ H2 fun ps H3 => Q ((x, y) :: ps) H3
abbrev VV : List (V × V) → List (Value × Value) → Prop := Paired fun p q => RelV p.1 q.1 ∧ RelV p.2 q.2
def PPs (X : Cx) (pos : Pos) (keys : List (Option Expr)) (values : List Expr) (trs : List (TE × TE)) : Prop :=
 ∀ (pins : List (Addr × Obj)) (s : Shared) (σ : St) (H : Hp) (Q : List (V × V) → Hp → Prop), Inv X pins σ H s → tPairs trs σ H Q →
  wpAny (model X.prog X.w) X.A (evalPairs (pairTrees keys values X.env pos)) (fun vs s' => ∃ ps H', Inv X pins σ H' s' ∧ VV ps vs ∧ Q ps H') X.xe s
theorem pps_nil {X : Cx} {pos : Pos} : PPs X pos [] [] [] := fun pins s σ H Q I h => pairTrees_nil_walk ⟨[], H, I, .nil, h⟩
theorem pps_cons {X : Cx} {pos : Pos} {k v : Expr} {ks : List (Option Expr)} {vs : List Expr} {tk tv : TE} {trs : List (TE × TE)} (hk : PE X k tk) (hv : PE X v tv) (hr : PPs X pos ks vs trs) :
  PPs X pos (some k :: ks) (v :: vs) ((tk, tv) :: trs) := fun pins s σ H Q I h =>
 pairTrees_cons_walk (thn (hk pins s σ H _ I h) fun u s1 ⟨x, H1, I1, rx, q1⟩ => thn (hv pins s1 σ H1 _ I1 q1) fun w2 s2 ⟨y, H2, I2, ry, q2⟩ =>
  thn (hr pins s2 σ H2 _ I2 q2) fun ws s3 ⟨ps, H3, I3, rel, q3⟩ => ⟨(x, y) :: ps, H3, I3, .cons ⟨rx, ry⟩ rel, q3⟩)
def acd (kvs more : List (Key × V)) : List (Key × V) := more.foldl (fun acc kv => putK acc kv.1 kv.2) kvs
theorem KV.merge : ∀ {more : List (Key × V)} {rs : List (Key × Value)} {kvs : List (Key × V)} {vs : List (Key × Value)}, KV more rs → KV kvs vs → KV (acd kvs more) (merged vs rs) := by
 intro more rs kvs vs r
 unfold KV at r
 induction r generalizing kvs vs with
 | nil => intro q; exact q
 | @cons p q ps qs h t ih =>
  intro r0
  have e : KV (putK kvs p.1 p.2) (stored vs q.1 q.2) := by
   have := r0.put p.1 h.2
   rw [← h.1]; exact this
  exact ih e
theorem a9h : ∀ (more kvs : List (Key × V)), (acd kvs more).length ≤ kvs.length + more.length
 | [], kvs => by show kvs.length ≤ kvs.length + 0; omega
 | p :: r, kvs => by
  have h1 := a9h r (putK kvs p.1 p.2)
  have h2 := length_putK kvs p.1 p.2
  show (acd (putK kvs p.1 p.2) r).length ≤ _
  rw [List.length_cons]; omega
theorem carries_of {P : Program} {w : World} : ∀ {kvs : List (Key × V)} {ws : List (Value × Value)}, VV (kvs.map fun kv => (kV kv.1, kv.2)) ws → ∃ rs, Carries (a3i P w) ws rs ∧ KV kvs rs
 | [], _, r => by rw [List.map_nil] at r; cases r; exact ⟨[], True.intro, .nil⟩
 | p :: kvs, _, r => by
  rw [List.map_cons] at r
  cases r with
  | @cons a b as bs h t =>
   obtain ⟨rs, c, q⟩ := carries_of (P := P) (w := w) t
   obtain ⟨b1, b2⟩ := b
   exact ⟨(p.1, b2) :: rs, ⟨kV_is h.1, rfl, c⟩, .cons ⟨rfl, h.2⟩ q⟩
def tDisp (trs : List (TE × TE)) : TE := fun σ H Q => ∀ p, H p = none → tPairs trs σ (upd H p (.dK [])) fun ps H2 => H2 p = some (.dK []) ∧ ∃ kvs : List (Key × V), ps = kvs.map (fun kv => (kV kv.1, kv.2)) ∧ kvs.length ≤ 15 ∧ Q (.ref p) (upd H2 p (.dK (acd [] kvs)))
theorem pe_disp {X : Cx} {pos : Pos} {keys : List (Option Expr)} {values : List Expr} {trs : List (TE × TE)} (h : PPs X pos keys values trs) (hall : keys.all (·.isSome) = true) (hl : keys.length = values.length) (h0 : keys ≠ [])
  (h15 : keys.length ≤ 15) : PE X (.Dict keys values pos) (tDisp trs) := by
 intro pins s σ H Q I q
 have hn := I.hok.fresh (Nat.le_refl s.heap.objs.size)
 have I1 := I.laid (a := s.heap.objs.size) (o := .dK []) (h' := s.heap.push { cls := .type "dict", data := .dict #[] }) (t' := s.toks) (fun _ _ q => Heap.get?_push_of_some _ q) (Nat.le_refl _) (dk_empty s.heap I.big)
 refine wpAny_Dict_walk (knd := a3i X.prog X.w) hall hl h0 h15 (thn (h pins _ σ _ _ I1 (q _ hn)) fun ws s2 ⟨ps, H2, I2, rel, e, kvs, ep, lk, q2⟩ => ?_)
 subst ep
 obtain ⟨rs, c, rk⟩ := carries_of (P := X.prog) (w := X.w) rel
 obtain ⟨z, hd, vs0, r0, dd⟩ := dk_of I2.hok e
 cases r0
 refine ⟨rs, c, dd, fun h' dd' hs => ⟨.ref s.heap.objs.size, _, ?_, rfl, q2⟩⟩
 have hz : (acd [] kvs).length ≤ sizeLine := by
  have h1 := a9h kvs []
  rw [List.length_nil] at h1
  rw [sizeLine_eq]; omega
 have he : ∃ q, h'.get? s.heap.objs.size = some q := let ⟨q, _, _, hq, _⟩ := dd'; ⟨q, hq⟩
 exact d_write I2 (by rw [e]; exact True.intro) hs he (dk_new hz hd (rk.merge .nil) dd')
structure M2 (X : Cx) (o : Expr) (m : Str) (apos : Pos) (e f : Expr) (cpos : Pos) : Prop where
 base : attributeBase o m X.env (eval o X.env) = eval o X.env
 few : ((backTo cpos (starEach [e, f] X.env)).all (fun x => !x.1) && (backToKw cpos (keywordEach [] X.env)).all (fun x => x.1.isSome)
  && decide (([e, f] : List Expr).length + ([] : List Keyword).length + (if ([] : List Keyword).isEmpty then 0 else 1) < 30)) = true
 line : (apos.endLine == cpos.line) = true
 trees : backTo cpos (starEach [e, f] X.env) = [(false, eval e X.env), (false, eval f X.env)]
def IsD (H : Hp) (a : Addr) : Prop := (∃ kvs, Rd H a (.dK kvs)) ∨ ∃ kvs, Rd H a (.dT kvs)
theorem isD_at {X : Cx} {pins : List (Addr × Obj)} {σ : St} {H : Hp} {s : Shared} {a : Addr} (I : Inv X pins σ H s) (d : IsD H a) :
  s.TypeIs (.ref a) "dict" ∧ (∀ b, Value.ref a = .ref b → ∃ ob, s.heap.get? b = some ob ∧ ob.dict = none) ∧ (a == sysModules) = false := by
 rcases d with ⟨kvs, e⟩ | ⟨kvs, e⟩
 ·obtain ⟨_, hd, vs, _, dd⟩ := dk_rd I.hok e
  refine ⟨dd.typeIs, fun b q => ?_, hd⟩
  cases q
  obtain ⟨ob, _, _, h1, h2, _⟩ := dd
  exact ⟨ob, h1, h2.2.1⟩
 ·obtain ⟨_, hd, xs, _, dd⟩ := dt_rd I.hok e
  refine ⟨dd.typeIs, fun b q => ?_, hd⟩
  cases q
  obtain ⟨ob, _, _, h1, h2, _⟩ := dd
  exact ⟨ob, h1, h2.2.1⟩
section
variable {X : Cx} {pins : List (Addr × Obj)} {σ : St} {H : Hp} {s : Shared} {a : Addr} {y d : V} {u r : Value} {o : Option V} {A : Around} {E : Value → Shared → Prop}
theorem d_get2 {Q : Value → Shared → Prop} (hu : A.units + 1 < cLine) (I : Inv X pins σ H s) (g : DGet H a y o) (ry : RelV y u) (rd : RelV d r) (h : ∀ w' s', Inv X pins σ H s' → RelV (o.getD d) w' → Q w' s') :
  wpAny (model X.prog X.w) A (call (.builtin "dict.get") [.ref a, u, r]) Q E s := by
 rcases g with ⟨kvs, k, e, ey, l⟩ | ⟨kvs, k, b, e, ey, eb, l⟩
 ·subst ey
  obtain ⟨z, hd, vs, rel, dd⟩ := dk_rd I.hok e
  refine call_meetsIn PySem.F.slot_dict_get dd.typeIs PySem.F.entry_dict_get (PySem.F.args_dict_get_3 _ _ _) (meets_dict_get_default (a3i X.prog X.w) a (kV_is ry) hd r) ⟨_, dd.mapOf, h _ _ (I.tok _) ?_⟩
  rw [l]
  exact (rel.val k).getD rd
 ·subst ey
  cases (show u = Value.ref b from ry)
  obtain ⟨z, hd, xs, rel, dd⟩ := dt_rd I.hok e
  refine call_meetsIn PySem.F.slot_dict_get dd.typeIs PySem.F.entry_dict_get (PySem.F.args_dict_get_3 _ _ _) (meetsH_dict_get_default (tupleKind (a3i X.prog X.w)) a b hd r) ⟨tupleKind_room_in1 hu, k, xs, key_of I.hok eb, dd, h _ _ (I.tok _) ?_⟩
  rw [l]
  exact (rel.val k).getD rd
end
def tDGet2 (td ty tx : TE) : TE := fun σ H Q => td σ H fun x H1 => ∃ a, x = .ref a ∧ IsD H1 a ∧ ty σ H1 fun y H2 => tx σ H2 fun z H3 => ∃ o, DGet H3 a y o ∧ Q (o.getD z) H3
section
variable {X : Cx} {o e f : Expr} {apos cpos : Pos} {td ty tx : TE}
theorem pe_dget2 (hu : X.A.units + 1 < cLine) (ho : PE X o td) (he : PE X e ty) (hf : PE X f tx) (m : M2 X o "get" apos e f cpos) : PE X (.Call (.Attribute o "get" apos) [e, f] [] cpos) (tDGet2 td ty tx) := by
 intro pins s σ H Q I h
 refine wpAny_Call_method m.base m.few m.line PySem.F.plainAttrs_dict PySem.F.slot_dict_get PySem.F.type_dict_get (thn (ho pins s σ H _ I h) fun u s1 ⟨x, H1, I1, rx, a, ex, d, q1⟩ => ?_)
 subst ex
 obtain rfl : u = Value.ref a := rx
 obtain ⟨t1, t2, _⟩ := isD_at I1 d
 refine ⟨t1, t2, ?_⟩
 rw [m.trees]
 refine Calls.callWith_builtin rfl (Calls.evalArgs_plain (Calls.spliced_cons (thn (he pins s1 σ H1 _ I1 q1) fun iv s2 ⟨y, H2, I2, ry, q2⟩ =>
  Calls.spliced_cons (thn (hf pins s2 σ H2 _ I2 q2) fun fv s3 ⟨z, H3, I3, rz, ov, g, q3⟩ => Calls.spliced_nil ?_))))
 exact d_get2 hu I3 g ry rz fun w' s4 I4 rw' => ⟨_, H3, I4, rw', q3⟩
end
section
variable {X : Cx} {pins : List (Addr × Obj)} {σ : St} {H : Hp} {s : Shared} {a : Addr} {kvs : List (Key × V)} {A : Around} {E : Value → Shared → Prop}
end
section
variable {X : Cx} {pins : List (Addr × Obj)} {σ : St} {H : Hp} {s : Shared} {a : Addr} {y : V} {u : Value} {A : Around} {E : Value → Shared → Prop}
end
end L2
namespace Att
open PySem PySem.W PySem.Calls PyProof.Rows
theorem ack {P : Params} {h : Heap} : ∀ (ns : List Int) (vs : List Value), WellAll P h vs (ns.map WData.int) → IntsAre vs ns := by
 intro ns
 induction ns with
 | nil =>
  intro vs w
  rw [List.map_nil] at w
  cases w
  exact .nil
 | cons n ns ih =>
  intro vs w
  rw [List.map_cons] at w
  cases w with
  | cons a b =>
   cases a
   exact .cons _ _ (ih _ b)
theorem script_of {l : OpenLaw} {n : Nat} (hn : l.most = some n) {P : Params} {h : Heap} {args : List WData} {vals : List Value}
  (hpre : l.row.toRowW.claim.pre args = true) (hwl : WellAll P h vals args) :
  ∃ a vs ns, vals = [Value.ref a] ∧ args = [WData.list (ns.map WData.int)] ∧ h.get? a = some { cls := .type "list", data := .seq vs.toArray } ∧ IntsAre vs ns ∧ ns.length ≤ n := by
 have hsh : WShape.hasAll [] args [.list .int] = true := (pre_splitW hpre).1
 have hc : l.pre.holds [] { args := args } = true := (pre_splitW hpre).2
 obtain ⟨d, r, rfl, h1, h2⟩ := hasAllW_cons hsh
 obtain rfl := hasAllW_nil h2
 obtain ⟨xs, rfl, h3⟩ := hasW_list h1
 obtain ⟨ns, rfl⟩ := items_int h3
 have hlen : ns.length ≤ n := by
  unfold OpenLaw.pre at hc
  have h4 : (WTm.not (.lt (.lit (.int (n : Int))) (.len (.arg 0)))).holds [] { args := [.list (ns.map .int)] } = true := by
   have h4 := (holds_andW hc).1
   rw [hn] at h4
   exact h4
  have h5 := condW_of h4 (w_not (w_lt w_lit (w_len_list (w_arg rfl))))
  rw [List.length_map] at h5
  refine Nat.le_of_not_lt fun q => ?_
  have q' : (n : Int) < ((ns.length : Nat) : Int) := by omega
  first
   | (rw [decide_eq_true q'] at h5; exact absurd h5 (by decide))
   | (simp at h5; omega)
 cases hwl with
 | cons w1 w2 =>
  cases w2
  cases w1 with
  | list ho hall => exact ⟨_, _, ns, rfl, rfl, ho, ack ns _ hall, hlen⟩
theorem post_true (l : OpenLaw) (args : List WData) : l.row.toRowW.claim.post args (.bool true) args = true :=
 postW_of (r := l.row.toRowW) (X := (true == true))
  (show WShape.has [] (.bool true) .bool = true by first | rfl | decide | simp [WShape.has, WShape.arms, WShape.armsAll])
  (show (WTm.eq .res (.lit (.bool true))).value [] { args := args, res := some (.bool true), after := args } = some (.bool (true == true)) from w_eq_bool (w_res rfl) w_lit) rfl
theorem attach_call {l : OpenLaw} {n : Nat} {q : Program} {loose : List Str} {XP : (Str → Option Value) → Heap → Prop} {YP : World → Heap → Prop} {d : DefRec}
  (hn : l.most = some n) (hdf : d.params.defaults = [])
  (call : ∀ (w : World) (s₀ s₁ : Shared) (mg mb : Str → Option Value) (fa : Addr) (o : Obj) (pm cd doc : Value) (a : Addr) (vs : List Value) (ns : List Int),
   Ground q loose [] XP w s₀ mg mb s₁.heap → YP w s₁.heap →
   s₁.heap.get? fa = some o → o.data = .func (docDef d.name d.params d.body d.scope pm cd doc) → s₁.heap.CodeRec cd d.name → mg d.name = some (.ref fa) →
   s₁.heap.get? a = some { cls := .type "list", data := .seq vs.toArray } → IntsAre vs ns → ns.length ≤ n → s₁.gens = #[] →
   codeAny (model l.prog w) callerA (.call (.ref fa) ⟨[.ref a], []⟩) (fun r s' => r = .ok (.ret (.bool true)) ∧ OldK s₁.heap s'.heap ∧ s'.os = s₁.os ∧ AllBare s'.gens) s₁) :
  WalkO q loose XP YP l.row.toRowW d [] (fun f vs => PySem.call f vs) := by
 intro w s₀ s₁ mg mb G Y fa o pm cd doc dV kV ho hd hcd hD hmg hg args vals as hpre hlay hrd hwl hlo
 obtain rfl : dV = .none := Dflts.none hD hdf
 obtain rfl : kV = .none := Dflts.noKw hD
 obtain ⟨a, vs, ns, rfl, rfl, hobj, hints, hlen⟩ := script_of hn hpre hwl
 refine enter_call (codeAny_mono (call w s₀ s₁ mg mb fa o pm cd doc a vs ns G Y ho (fd_plain hd) hcd hmg hobj hints hlen hg) fun r s' hq => ?_)
 obtain ⟨rfl, h2, h3, h4⟩ := hq
 exact ⟨.inl ⟨.bool true, .bool true, [], rfl, fun _ => rfl, .bool true, post_true l _, fun _ => ⟨List.Pairwise.nil, fun _ hm => (nomatch hm)⟩⟩, h2, h3, h4⟩
section
variable {prog : Program} {w : World} {A : Around} {E : Value → Shared → Prop} {s : Shared} {K : Frag}
end
end Att
namespace L2
open PySem PySem.Spec PyProof.Rows
theorem vals_ints : ∀ {vs : List Value} {ns : List Int}, IntsAre vs ns → Vals (ns.map V.int) vs
 | _, _, .nil => .nil
 | _, _, .cons n t h => .cons ⟨t, rfl⟩ (vals_ints h)
def Only (H : Hp) : Prop := ∀ b, H b = none ∨ ∃ o xs, H b = some (.frz o (.lst xs))
theorem law_call {P : Program} {w : World} {K : PySem.W.Frag} {mg mb : Str → Option Value} {CX : CXT} {k : Nat} {fa a : Addr} {fd : FuncData} {x : Str} {sp : Sp} {s₁ : Shared} {vs : List Value} {ns : List Int}
  (KX : K.In s₁.heap) (hns : s₁.heap.Ns mainGlobals mg) (hb : s₁.heap.Ns builtinsNs mb) (hbb : ∀ x : Str, x ≠ "__name__" → mb x = bootBuiltins x) (hlim : s₁.heap.NoLimit) (hg : s₁.gens = #[])
  (ha : s₁.heap.get? a = some { cls := .type "list", data := .seq vs.toArray }) (hi : IntsAre vs ns) (hl : ns.length ≤ sizeLine) (hr : aa3 k callerA)
  (F : ∀ base : Heap, K.In base → base.Ns mainGlobals mg → a1u P w K mg base CX k fa fd [x] sp) (hbind : ∀ (s : Shared) (u : Value), BindsTo s fd ⟨[u], []⟩ [(x, u)])
  (hsp : ∀ H : Hp, Only H → SqL K H a (ns.map V.int) → sp [.ref a] H (fun v _ => v = .bl true) fun _ _ _ => False)
  (hCX : ∀ H e s', CX [] H s₁ (fun _ _ _ => False) e s' → False) :
  codeAny (model P w) callerA (.call (.ref fa) ⟨[.ref a], []⟩) (fun r s' => r = .ok (.ret (.bool true)) ∧ OldK s₁.heap s'.heap ∧ s'.os = s₁.os ∧ AllBare s'.gens) s₁ := by
 have rv := vals_ints hi
 have lenV := hi.length
 have core : ∀ H : Hp, Only H → SqL K H a (ns.map V.int) → HOk P w H s₁.heap → (∀ b, H b ≠ none → b = a) → (H a ≠ none → K.lookup a = none) →
   codeAny (model P w) callerA (.call (.ref fa) ⟨[.ref a], []⟩) (fun r s' => r = .ok (.ret (.bool true)) ∧ OldK s₁.heap s'.heap ∧ s'.os = s₁.os ∧ AllBare s'.gens) s₁ := by
  intro H hO hS hok hA hK
  have base_of : ∀ {b : Addr} {o : Obj}, s₁.heap.get? b = some o → H b = none → (hidT s₁.heap H).get? b = some o := fun e n => hidT_get e n
  have noA : ∀ {b : Addr} {o : Obj} {es : Array DictEntry} {ep : Nat}, s₁.heap.get? b = some o → o.data = .dict es ep → H b = none := fun {b o es ep} e d => by
   cases q : H b with
   | none => rfl
   | some u =>
    have e' : b = a := hA b (by rw [q]; simp)
    subst e'
    rw [ha] at e; cases e
    have d' : Data.seq vs.toArray _ = Data.dict es ep := d
    cases d'
  have nsK : ∀ {b : Addr} {m : Str → Option Value}, s₁.heap.Ns b m → (hidT s₁.heap H).Ns b m := fun {b m} ⟨o, es, ep, e, d, r⟩ => ⟨o, es, ep, base_of e (noA e d), d, r⟩
  have hKb : K.In (hidT s₁.heap H) := fun b o e => base_of (KX b o e) (by
   cases q : H b with
   | none => rfl
   | some u =>
    have e' : b = a := hA b (by rw [q]; simp)
    subst e'
    rw [hK (by rw [q]; simp)] at e; cases e)
  have hM : Mod K mg (hidT s₁.heap H) := ⟨hKb, nsK hns, ⟨mb, nsK hb, hbb⟩, let ⟨mc, h1, h2⟩ := hlim; ⟨mc, nsK h1, h2⟩⟩
  have e0 : Env0 P w K mg (hidT s₁.heap H) callerA [] s₁ H := ⟨rfl, hM, fun b o e => of_hidT e, Nat.le_of_eq (hidT_size _ _), trivial, fun b hb => absurd (show b ∈ ([] : List Addr) from hb) (by simp), hok, .of_eq hg⟩
  refine codeAny_mono ((F _ hKb (nsK hns)).run callerA [] s₁ H ⟨[.ref a], []⟩ [.ref a] [.ref a] _ _ hr e0 (hbind s₁ (.ref a)) (.cons rfl .nil) (hsp H hO hS)) fun r s' h => ?_
  cases r with
  | error e => exact (hCX H e s' h).elim
  | ok fl =>
   cases fl with
   | next => exact False.elim h
   | brk => exact False.elim h
   | cont => exact False.elim h
   | ret u =>
    obtain ⟨v, H', os, bare, un, hok', r', q⟩ := h
    have q' : v = .bl true := q
    subst q'
    obtain rfl : u = Value.bool true := r'
    refine ⟨rfl, OldK.of_keep fun b o e => ?_, os, bare⟩
    cases q : H b with
    | none => exact un.keep b o e q (by intro z; exact absurd (show b ∈ ([] : List Addr) from z) (by simp)) (by simp)
    | some u =>
     rcases hO b with z | ⟨ob, xs, z⟩
     ·rw [q] at z; cases z
     ·have z2 := un.frzs b ob _ z
      obtain ⟨e1, _⟩ := hok b _ z
      obtain ⟨e2, _⟩ := hok' b _ z2
      rw [e] at e1; cases e1
      exact e2
 cases hk : K.lookup a with
 | some o =>
  have e := KX a o hk
  rw [ha] at e
  cases e
  refine core (fun _ => none) (fun _ => .inl rfl) (.inr ⟨_, vs.toArray, _, hk, rfl, rfl, rfl, by rw [List.size_toArray, lenV]; exact hl, by simpa using vals0_ints rv⟩) (fun b u z => by have z' : (none : Option HO) = some u := z; cases z') (fun b z => absurd rfl z) fun z => absurd rfl z
 | none =>
  refine core (fun b => if b = a then some (.frz { cls := .type "list", data := .seq vs.toArray } (.lst (ns.map V.int))) else none) (fun b => ?_) (.inl (.inr ⟨{ cls := .type "list", data := .seq vs.toArray }, if_pos rfl⟩)) (fun b u z => ?_) (fun b z => ?_) fun _ => hk
  ·by_cases hb : b = a
   ·exact .inr ⟨_, _, if_pos hb⟩
   ·exact .inl (if_neg hb)
  ·by_cases hb : b = a
   ·have z' := (if_pos hb).symm.trans z
    cases z'
    subst hb
    exact ⟨ha, by rw [List.length_map]; exact hl, vs, _, rv, ha⟩
   ·have z' := (if_neg hb).symm.trans z
    cases z'
  ·by_cases hb : b = a
   ·exact hb
   ·exact absurd (if_neg hb) z
end L2
namespace L2
open PySem PySem.Spec PyProof.Rows
theorem walk_of {l : PySem.W.OpenLaw} {n k : Nat} {q : Program} {loose : List Str} {XP : (Str → Option Value) → Heap → Prop} {YP : World → Heap → Prop} {d : DefRec} {K : Params → PySem.W.Frag} {CX : World → CXT} {sp : World → Sp} {x : Str}
  (hn : l.most = some n) (hn2 : n ≤ sizeLine) (hdf : d.params.defaults = []) (hr : aa3 k callerA)
  (hY : ∀ (w : World) (h : Heap), YP w h → (K w.params).In h)
  (F : ∀ (w : World) (mg : Str → Option Value) (fa : Addr) (h : Heap), (K w.params).In h → h.Ns mainGlobals mg → mg d.name = some (.ref fa) →
   ∃ fd : FuncData, (∀ (s : Shared) (u : Value), BindsTo s fd ⟨[u], []⟩ [(x, u)]) ∧
    ∀ base : Heap, (K w.params).In base → base.Ns mainGlobals mg → a1u l.prog w (K w.params) mg base (CX w) k fa fd [x] (sp w))
  (hsp : ∀ (w : World) (H : Hp) (a : Addr) (ns : List Int), ns.length ≤ n → Only H → SqL (K w.params) H a (ns.map V.int) → sp w [.ref a] H (fun v _ => v = .bl true) fun _ _ _ => False)
  (hCX : ∀ (w : World) (H : Hp) (s : Shared) (e : Value) (s' : Shared), CX w [] H s (fun _ _ _ => False) e s' → False) :
  PySem.W.WalkO q loose XP YP l.row.toRowW d [] (fun f vs => PySem.call f vs) := by
 refine Att.attach_call hn hdf fun w s₀ s₁ mg mb fa o pm cd doc a vs ns G Y ho hd hcd hmg hobj hints hlen hg => ?_
 have KX := hY w _ Y
 obtain ⟨fd, hb, hF⟩ := F w mg fa _ KX G.T.g hmg
 exact law_call KX G.T.g G.T.b G.T.builtins G.T.nolimit hg hobj hints (Nat.le_trans hlen hn2) hr hF hb (fun H hO hS => hsp w H a ns hlen hO hS) fun H e s' => hCX w H s₁ e s'
end L2
namespace L2
open PySem PySem.Spec PyProof.Rows
def a0b (s : Stmt) : Arguments := match s with
 | .FunctionDef _ a _ _ _ _ _ _ _ _ => a
 | _ => { posonlyargs := [], args := [], vararg := none, kwonlyargs := [], kw_defaults := [], kwarg := none, defaults := [] }
def a0a (s : Stmt) : List Stmt := match s with
 | .FunctionDef _ _ b _ _ _ _ _ _ _ => b
 | _ => []
def a03 (s : Stmt) : Scope := match s with
 | .FunctionDef _ _ _ _ _ _ sc _ _ _ => sc
 | _ => { kind := .function, names := [], isGenerator := false, isCoroutine := false }
abbrev CX0 : CXT := fun _ _ _ _ _ _ => False
abbrev E0 : XK := fun _ _ _ => False
structure Fun (K : PySem.W.Frag) (x qual : Str) (st : Stmt) (f : Addr) (fd : FuncData) : Prop where
 ex : ∃ (oc : Value) (od : Option Addr) (kV doc pm : Value) (an : Option Addr) (cdv ct : Value) (osl : Array (Option Value)),
  fd = PySem.W.fnOf x qual (a0b st) (a0a st) (a03 st) .none kV doc pm an cdv ct ∧ K.lookup f = some ⟨oc, od, .func fd, osl⟩ ∧ PySem.W.codeIn K cdv qual = true
 kp : PySem.W.keepIn K (.ref f) = true
section
variable {P : Program} {w : World} {K : PySem.W.Frag} {mg : Str → Option Value} {base : Heap}
theorem Fun.ok {x qual : Str} {st : Stmt} {f : Addr} {fd : FuncData} {N ps : List Str} {k : Nat} {sp : Sp} (F : Fun K x qual st f fd) (S : a0c N ps (a03 st)) (len : ∀ vs H Q E, sp vs H Q E → vs.length = ps.length)
  (hbody : ∀ (cdv : Value) (A : Around) (outer : List Env) (s : Shared) (H : Hp) (vs : List V) (Q : VK) (E : XK), aa3 k (A.deeper (envOfC qual (a03 st) s.heap.objs.size f cdv)) → sp vs H Q E →
   ∃ t, PSs (cxOf CX0 P w K mg base N qual (a03 st) f cdv A outer s H E).nox (a0a st) t ∧ t { nx := fun _ H' => Q .non H', rt := Q } (start N vs) H) : a1u P w K mg base CX0 (k + 1) f fd ps sp := by
 obtain ⟨oc, od, kV, doc, pm, an, cdv, ct, osl, rfl, lk, hcd⟩ := F.ex
 refine fn_of lk hcd S len fun A outer s H vs Q E hr hsp => ?_
 obtain ⟨t, h, q⟩ := hbody cdv A outer s H vs Q E hr hsp
 exact ⟨t, h.nox, q⟩
theorem Fun.binds {x qual : Str} {st : Stmt} {f : Addr} {fd : FuncData} {ps : List Str} (F : Fun K x qual st f fd)
  (h : ∀ (kV doc pm : Value) (an : Option Addr) (cdv ct : Value) (us : List Value), us.length = ps.length → bindArgs (PySem.W.fnOf x qual (a0b st) (a0a st) (a03 st) .none kV doc pm an cdv ct) ⟨us, []⟩ = pure (ps.zip us)) : Binds K fd ps [] := by
 obtain ⟨oc, od, kV, doc, pm, an, cdv, ct, osl, rfl, lk, hcd⟩ := F.ex
 exact .all (h kV doc pm an cdv ct)
theorem a0l {x qual : Str} {st : Stmt} {f : Addr} {oc : Value} {od an : Option Addr} {osl : Array (Option Value)} {kV doc pm cdv ct : Value} (l : K.lookup f = some ⟨oc, od, .func (PySem.W.fnOf x qual (a0b st) (a0a st) (a03 st) .none kV doc pm an cdv ct), osl⟩)
  (c : PySem.W.codeIn K cdv qual = true) (k : PySem.W.keepIn K (.ref f) = true) : Fun K x qual st f (PySem.W.fnOf x qual (a0b st) (a0a st) (a03 st) .none kV doc pm an cdv ct) := ⟨⟨oc, od, kV, doc, pm, an, cdv, ct, osl, rfl, l, c⟩, k⟩
end
theorem hu_of {A : Around} {k : Nat} (hr : aa3 k A) : A.units + 1 < cLine := Nat.lt_of_le_of_lt (Nat.add_le_add_left (by decide : 1 ≤ 64) _) hr.units
theorem small1000 {n : Nat} (h : n ≤ 1000) : n < sizeLine := Nat.lt_of_le_of_lt h (by decide)
section
variable {X : Cx}
theorem pv (i : Nat) {x : Str} {pos : Pos} (hN : X.N[i]? = some x := by rfl) (hv : Vis X.env.scope x := by first | exact Or.inl rfl | exact Or.inr (Or.inl rfl) | exact Or.inr (Or.inr rfl)) (hd : (x == ("__debug__" : Str)) = false := by decide)
  (hcd : (x == ("__classdict__" : Str)) = false := by decide) : PE X (.Name x pos) (tVar i) := pe_var hN hv hd hcd
end
theorem a5a {A B : Prop} (h : B) : if false = true then A else B := by
 rw [if_neg Bool.false_ne_true]
 exact h
theorem a7k {A B : Prop} (h : A) : if true = true then A else B := by
 rw [if_pos rfl]
 exact h
theorem a5h {c A B : Prop} [Decidable c] (h1 : c → A) (h2 : ¬ c → B) : if c then A else B := by
 by_cases h : c
 ·rw [if_pos h]
  exact h1 h
 ·rw [if_neg h]
  exact h2 h
def a0r (H H' : Hp) : Prop := ∀ b o, H b = some o → H' b = some o
theorem a0r.refl (H : Hp) : a0r H H := fun _ _ h => h
theorem a0r.trans {H H1 H2 : Hp} (a : a0r H H1) (b : a0r H1 H2) : a0r H H2 := fun c o h => b c o (a c o h)
theorem a0r.seq {K : PySem.W.Frag} {H H' : Hp} {a : Addr} {xs : List V} (e : a0r H H') (h : SqL K H a xs) : SqL K H' a xs := by
 rcases h with (h | ⟨o, h⟩) | h
 ·exact .inl (.inl (e _ _ h))
 ·exact .inl (.inr ⟨o, e _ _ h⟩)
 ·exact .inr h
section
variable {κ : Type} [DecidableEq κ]
end
end L2
set_option maxHeartbeats 4000000
namespace L2
open PySem PySem.Spec PyProof.Rows
structure a4o (J : It) (xs : List V) (Ok : Hp → Prop) : Prop where
 go : ∀ i H, Ok H → i < xs.length → J.go i H
 yld : ∀ i H x H', Ok H → i < xs.length → J.yld i H x H' → H' = H ∧ xs[i]? = some x
 stop : ∀ i H, Ok H → xs.length ≤ i → J.stop i H
theorem a4o.list {K : PySem.W.Frag} {a : Addr} {xs : List V} : a4o (Itl K a) xs (fun H => SqL K H a xs) :=
 ⟨fun i H h hi => ⟨xs, xs[i], h, by simp [hi]⟩, fun i H x H' h _ y => ⟨y.1, y.2 xs h⟩, fun i H h hi => ⟨xs, h, hi⟩⟩
theorem a4o.tup {K : PySem.W.Frag} {a : Addr} {xs : List V} : a4o (Itt K a) xs (fun H => SqT K H a xs) :=
 ⟨fun i H h hi => ⟨xs, xs[i], h, by simp [hi]⟩, fun i H x H' h _ y => ⟨y.1, y.2 xs h⟩, fun i H h hi => ⟨xs, h, hi⟩⟩
def rngV (lo : Int) (n : Nat) : List V := (List.range n).map fun i : Nat => V.int (lo + i)
theorem a1p (lo : Int) (n : Nat) : (rngV lo n).length = n := by unfold rngV; simp
theorem a4o.rng {lo : Int} {n : Nat} : a4o (Itr lo n) (rngV lo n) (fun _ => True) :=
 ⟨fun i H _ hi => by rw [a1p] at hi; exact hi, fun i H x H' _ hi y => by
  obtain ⟨e, rfl⟩ := y
  rw [a1p] at hi
  refine ⟨e, ?_⟩
  unfold rngV
  rw [List.getElem?_map, List.getElem?_range hi]
  rfl, fun i H _ hi => by rw [a1p] at hi; exact hi⟩
theorem a3e {J : It} {xs : List V} {Ok : Hp → Prop} (hJ : a4o J xs Ok) {g : TG} {tb : TS} {D : Ends} {σ : St} {H : Hp} (Pv : Nat → St → Hp → Prop) (h0 : Pv 0 σ H) (hl : ∀ i σ H, i ≤ xs.length → Pv i σ H → Ok H)
  (hs : ∀ i x σ H, xs[i]? = some x → Pv i σ H → g x σ H fun σ2 H2 => tb { D with nx := Pv (i + 1), ct := Pv (i + 1), bk := D.nx } σ2 H2) (hd : ∀ σ H, Pv xs.length σ H → D.nx σ H) :
  ∃ W : Nat → Nat → St → Hp → Prop, (∃ m, W 0 m σ H) ∧ ∀ i m σ H, W i m σ H →
   (J.stop i H ∧ D.nx σ H) ∨ (J.go i H ∧ ∃ N : St → Hp → Prop, (∀ σ' H', N σ' H' → ∃ m', m' < m ∧ W (i + 1) m' σ' H') ∧ ∀ x H', J.yld i H x H' → g x σ H' fun σ2 H2 => tb { D with nx := N, ct := N, bk := D.nx } σ2 H2) := by
 refine ⟨fun i m σ H => m = xs.length - i ∧ i ≤ xs.length ∧ Pv i σ H, ⟨xs.length, by simp, Nat.zero_le _, h0⟩, ?_⟩
 rintro i m σ H ⟨rfl, hi, p⟩
 have q := hl i σ H hi p
 by_cases hlt : i < xs.length
 ·refine .inr ⟨hJ.go i H q hlt, Pv (i + 1), fun σ' H' p' => ⟨xs.length - (i + 1), by omega, rfl, hlt, p'⟩, fun x H' y => ?_⟩
  obtain ⟨e, hy⟩ := hJ.yld i H x H' q hlt y
  subst e
  exact hs i x σ _ hy p
 ·have e : i = xs.length := by omega
  subst e
  exact .inl ⟨hJ.stop _ H q (Nat.le_refl _), hd σ H p⟩
def Its (x : Str) : It := ⟨fun i _ => i < x.cps.size, fun i H v H' => H' = H ∧ ∃ c, x.cps[i]? = some c ∧ v = .str ⟨#[c]⟩, fun i _ => x.cps.size ≤ i⟩
def sgV (x : Str) : List V := x.cps.toList.map fun c => V.str ⟨#[c]⟩
theorem a2s (x : Str) : (sgV x).length = x.cps.size := by unfold sgV; simp
theorem a4o.str {x : Str} : a4o (Its x) (sgV x) (fun _ => True) :=
 ⟨fun i H _ hi => by rw [a2s] at hi; exact hi, fun i H v H' _ _ y => by
  obtain ⟨e, c, hc, rfl⟩ := y
  refine ⟨e, ?_⟩
  unfold sgV
  rw [List.getElem?_map, Array.getElem?_toList, hc]
  rfl, fun i H _ hi => by rw [a2s] at hi; exact hi⟩
theorem turn_str {P : Program} {w : World} {K : PySem.W.Frag} {tg : Expr} {ty : String} (hty : ty = "str_ascii_iterator" ∨ ty = "str_iterator") (it : Addr) (x : Str) (t : Tok) :
  Turn P w K tg (Its x) [it] it (fun i h => h.IsStrIter it ty x t i) where
 mem := by simp
 obj := fun i h st b hb => by
  have e : b = it := by simpa using hb
  subst e
  obtain ⟨o, e, c, d⟩ := st
  exact ⟨o, e, fun v z => by rw [d] at z; cases z⟩
 keep := fun i h h' st k => let ⟨o, e, c, d⟩ := st; ⟨o, k it (by simp) o e, c, d⟩
 item := by
  intro X hP hw hK hc i pins s σ H E I hf st hg
  subst hP hw hK
  obtain ⟨f0, f1, f2, f3, f4, f5⟩ := hf it (by simp)
  have hlt : i < x.cps.size := hg
  rcases hty with rfl | rfl
  ·refine wpAny_pyNext_ascii_item st (c := x.cps[i]) (by simp [hlt]) fun h' st' sb => ?_
   have I1 : Inv X pins σ H { s with heap := h', toks := s.toks + 1 } := I.turned (fun b o hb e => (sb.2 b hb).trans e) f0 f1 f3 f4 f5
   obtain ⟨o, e, c, d⟩ := id st'
   exact ⟨_, rfl, go_of (s := { s with heap := h', toks := s.toks + 1 }) e c d (by decide) ⟨.str ⟨#[x.cps[i]]⟩, H, I1, ⟨_, rfl⟩, ⟨rfl, _, by simp [hlt], rfl⟩, st', fun b hb => (hf b hb).1⟩⟩
  ·refine wpAny_pyNext_wide_item st (c := x.cps[i]) (by simp [hlt]) fun h' st' sb => ?_
   have I1 : Inv X pins σ H { s with heap := h', toks := s.toks + 1 } := I.turned (fun b o hb e => (sb.2 b hb).trans e) f0 f1 f3 f4 f5
   obtain ⟨o, e, c, d⟩ := id st'
   exact ⟨_, rfl, go_of (s := { s with heap := h', toks := s.toks + 1 }) e c d (by decide) ⟨.str ⟨#[x.cps[i]]⟩, H, I1, ⟨_, rfl⟩, ⟨rfl, _, by simp [hlt], rfl⟩, st', fun b hb => (hf b hb).1⟩⟩
 done := by
  intro X hP hw hK hc i pins s σ H E I hf st hg
  subst hP hw hK
  obtain ⟨f0, f1, f2, f3, f4, f5⟩ := hf it (by simp)
  have hle : x.cps.size ≤ i := hg
  rcases hty with rfl | rfl
  ·exact wpAny_pyNext_ascii_end (I.ok.hd hc) st (by simp; omega) fun h' eb => ⟨rfl, I.turned (t' := s.toks) (fun b o hb e => eb b o hb e) f0 f1 f3 f4 f5⟩
  ·exact wpAny_pyNext_wide_end (I.ok.hd hc) st (by simp; omega) fun h' eb => ⟨rfl, I.turned (t' := s.toks) (fun b o hb e => eb b o hb e) f0 f1 f3 f4 f5⟩
 self := fun _ _ _ _ _ st h => by
  rcases hty with rfl | rfl
  ·exact wpAny_pyIter_striter_ascii st h
  ·exact wpAny_pyIter_striter_wide st h
section
variable {X : Cx} {tg : Expr}
def iStr (tl : TE) : TI := fun σ H R => tl σ H fun v H1 => ∃ x, v = .str x ∧ R (Its x) H1
theorem aby {l : Expr} {tl : TE} (hl : PE X l tl) : PI X tg l (iStr tl) := by
 intro pins s σ H R I h
 refine thn (hl pins s σ H _ I h) fun v s1 ⟨y, H1, I1, r1, q1⟩ => ?_
 obtain ⟨x, e, q⟩ := q1
 subst e
 obtain ⟨t, rfl⟩ := r1
 have fin : ∀ b ∈ [s1.heap.objs.size], FpOk X pins H1 b := fun b hb => by
  have e : b = s1.heap.objs.size := by simpa using hb
  subst e
  exact I1.fpOk (Nat.le_refl _) (I1.hok.fresh (Nat.le_refl _))
 cases ha : x.cps.all (· < 128)
 ·refine wpAny_pyIter_wide ha ?_
  exact ⟨s1.heap.objs.size, [s1.heap.objs.size], _, _, H1, rfl, I1.kept (t' := s1.toks) fun b o e => Heap.get?_push_of_some _ e, turn_str (.inr rfl) _ x t, ⟨_, Heap.get?_push_size _ rfl, rfl, rfl⟩, fin, q⟩
 ·refine wpAny_pyIter_ascii ha ?_
  exact ⟨s1.heap.objs.size, [s1.heap.objs.size], _, _, H1, rfl, I1.kept (t' := s1.toks) fun b o e => Heap.get?_push_of_some _ e, turn_str (.inl rfl) _ x t, ⟨_, Heap.get?_push_size _ rfl, rfl, rfl⟩, fin, q⟩
end
end L2
namespace L2
open PySem PySem.Spec PyProof.Rows
def clOf (env : Env) : List (Str × NameKind) → List (Str × Addr) → List (Str × Addr)
 | [], cs => cs
 | (n, k) :: r, cs => clOf env r (if k == .free then (match env.cells.lookup n with | some a => (n, a) :: cs | none => cs) else cs)
theorem forIn_fold {α β : Type} (f : α → β → Sem (ForInStep β)) (g : α → β → β) : ∀ (l : List α) (b : β), (∀ x ∈ l, ∀ r, f x r = pure (ForInStep.yield (g x r))) → forIn l b f = pure (l.foldl (fun r x => g x r) b)
 | [], b, _ => rfl
 | x :: l, b, h => by
  rw [List.forIn_cons, h x List.mem_cons_self, pure_bind]
  exact forIn_fold f g l _ fun y hy => h y (List.mem_cons_of_mem _ hy)
theorem clOf_fold {env : Env} : ∀ (names : List (Str × NameKind)) (cs : List (Str × Addr)), names.foldl (fun r x => if x.2 == .free then (match env.cells.lookup x.1 with | some a => (x.1, a) :: r | none => r) else r) cs = clOf env names cs
 | [], _ => rfl
 | (n, k) :: r, cs => by
  rw [List.foldl_cons]
  exact clOf_fold r _
theorem closure_of {env : Env} {scope : Scope} (h : ∀ x ∈ scope.names, x.2 = .free → ∃ a, env.cells.lookup x.1 = some a) : closureFor scope env = pure (clOf env scope.names []) := by
 simp only [closureFor]
 rw [forIn_fold _ (fun x r => if x.2 == .free then (match env.cells.lookup x.1 with | some a => (x.1, a) :: r | none => r) else r) scope.names [] (fun x hx r => by
  obtain ⟨n, k⟩ := x
  by_cases hk : k = .free
  ·subst hk
   obtain ⟨a, ha⟩ := h (n, .free) hx rfl
   have ha' : env.cells.lookup n = some a := ha
   have e : cellOf env n = pure a := by unfold cellOf; rw [ha']
   simp only [beq_self_eq_true, if_true, e, pure_bind, ha']
  ·have hb : (k == NameKind.free) = false := by simpa using hk
   simp only [hb, Bool.false_eq_true, if_false])]
 rw [clOf_fold]
 rfl
theorem clOf_mem {env : Env} : ∀ (names : List (Str × NameKind)) (cs : List (Str × Addr)) (x : Str) (c : Addr), (x, c) ∈ clOf env names cs → (x, c) ∈ cs ∨ ((x, NameKind.free) ∈ names ∧ env.cells.lookup x = some c)
 | [], cs, x, c, h => .inl h
 | (n, k) :: r, cs, x, c, h => by
  unfold clOf at h
  rcases clOf_mem r _ x c h with h1 | ⟨h1, h2⟩
  ·by_cases hk : (k == NameKind.free) = true
   ·rw [if_pos hk] at h1
    have hk' : k = .free := by simpa using hk
    subst hk'
    cases q : env.cells.lookup n with
    | none => rw [q] at h1; exact .inl h1
    | some a =>
     rw [q] at h1
     rcases List.mem_cons.mp h1 with e | h1
     ·injection e with e1 e2
      subst e1 e2
      exact .inr ⟨List.mem_cons_self, q⟩
     ·exact .inl h1
   ·rw [if_neg hk] at h1; exact .inl h1
  ·exact .inr ⟨List.mem_cons_of_mem _ h1, h2⟩
theorem clOf_keep {env : Env} : ∀ (names : List (Str × NameKind)) (cs : List (Str × Addr)) (x : Str), (∃ c, (x, c) ∈ cs) ∨ (x, NameKind.free) ∈ names → (∀ y ∈ names, y.2 = .free → ∃ a, env.cells.lookup y.1 = some a) → ∃ c, (x, c) ∈ clOf env names cs
 | [], cs, x, h, _ => by
  rcases h with h | h
  ·exact h
  ·exact nomatch h
 | (n, k) :: r, cs, x, h, hf => by
  unfold clOf
  refine clOf_keep r _ x ?_ fun y hy => hf y (List.mem_cons_of_mem _ hy)
  rcases h with ⟨c, h⟩ | h
  ·refine .inl ⟨c, ?_⟩
   split
   ·cases env.cells.lookup n with
    | none => exact h
    | some a => exact List.mem_cons_of_mem _ h
   ·exact h
  ·rcases List.mem_cons.mp h with e | h
   ·injection e with e1 e2
    subst e1 e2
    obtain ⟨a, ha⟩ := hf (x, .free) List.mem_cons_self rfl
    refine .inl ⟨a, ?_⟩
    simp only [beq_self_eq_true, if_true, show env.cells.lookup x = some a from ha]
    exact List.mem_cons_self
   ·exact .inr h
theorem a9g {α β : Type} [BEq α] [LawfulBEq α] {x : α} : ∀ {l : List (α × β)} {c : β}, (x, c) ∈ l → ∃ d, l.lookup x = some d
 | (y, d) :: r, c, h => by
  by_cases e : x = y
  ·subst e; exact ⟨d, by simp [List.lookup_cons]⟩
  ·have hb : (x == y) = false := by simpa using e
   rcases List.mem_cons.mp h with h | h
   ·injection h with h1 _; exact absurd h1 e
   ·obtain ⟨d', q⟩ := a9g h
    exact ⟨d', by simp [List.lookup_cons, hb, q]⟩
theorem aac {env : Env} {x : Str} : ∀ {names : List (Str × NameKind)}, (∀ y ∈ names, y.2 ≠ .cell) →
    ((names.map fun (n, k) => if (k == NameKind.free && env.scope.kind == .function && env.kindOf n == some .cell) then (n, NameKind.cell) else (n, k)).lookup x = some .cell ∨
     (names.map fun (n, k) => if (k == NameKind.free && env.scope.kind == .function && env.kindOf n == some .cell) then (n, NameKind.cell) else (n, k)).lookup x = some .free) → (x, NameKind.free) ∈ names
  | [], _, h => by simp at h
  | (n, k) :: r, hc, h => by
    have ih := aac (env := env) (x := x) (names := r) fun y hy => hc y (List.mem_cons_of_mem _ hy)
    have hk : k ≠ .cell := hc (n, k) List.mem_cons_self
    rw [List.map_cons] at h
    by_cases e : x = n
    · subst e
      by_cases hf : k = .free
      · subst hf; exact List.mem_cons_self
      · have hb : (k == NameKind.free) = false := by simpa using hf
        simp [List.lookup_cons, hb] at h
        rcases h with h | h
        · exact absurd h hk
        · exact absurd h hf
    · have hb : (x == n) = false := by simpa using e
      refine List.mem_cons_of_mem _ (ih ?_)
      by_cases c : (k == NameKind.free && env.scope.kind == .function && env.kindOf n == some .cell) = true
      · simpa [List.lookup_cons, hb, c] using h
      · simpa [List.lookup_cons, hb, c] using h
theorem aad {env : Env} {x : Str} (he : env.kindOf x = some .cell ∨ env.kindOf x = some .free) (hk : env.scope.kind = .function) : ∀ {names : List (Str × NameKind)}, names.lookup x = some .free →
    ((names.map fun (n, k) => if (k == NameKind.free && env.scope.kind == .function && env.kindOf n == some .cell) then (n, NameKind.cell) else (n, k)).lookup x = some .cell ∨
     (names.map fun (n, k) => if (k == NameKind.free && env.scope.kind == .function && env.kindOf n == some .cell) then (n, NameKind.cell) else (n, k)).lookup x = some .free)
  | [], h => by simp at h
  | (n, k) :: r, h => by
    rw [List.map_cons]
    dsimp only
    by_cases e : x = n
    · subst e
      simp only [List.lookup_cons, beq_self_eq_true] at h
      have h' : k = .free := Option.some.inj h
      subst h'
      by_cases c : (NameKind.free == NameKind.free && env.scope.kind == .function && env.kindOf x == some .cell) = true
      · rw [if_pos c]; left; simp [List.lookup_cons]
      · rw [if_neg c]; right; simp [List.lookup_cons]
    · have hb : (x == n) = false := by simpa using e
      simp only [List.lookup_cons, hb] at h
      have ih := aad he hk h
      by_cases c : (k == NameKind.free && env.scope.kind == .function && env.kindOf n == some .cell) = true
      · rw [if_pos c]; simp only [List.lookup_cons, hb]; exact ih
      · rw [if_neg c]; simp only [List.lookup_cons, hb]; exact ih
def a7z (X : Cx) (N : List Str) (scope : Scope) (C : Addr) (s₀ : Shared) (H₀ : Hp) (fp : List Addr) : Cx where
 prog := X.prog
 w := X.w
 K := X.K
 mg := X.mg
 base := X.base
 A := X.A
 N := N
 s₀ := s₀
 H₀ := H₀
 env := compEnvC scope (clOf X.env scope.names []) C X.env
 outer := X.stack
 stack := X.stack
 ex := fp
 fn := fun _ => false
 calm := X.calm
 pn := []
 xe := fun _ _ => False
structure a6x (X : Cx) (scope : Scope) (x : Str) (ys : List Str) (js : List Nat) : Prop where
 kind : scope.kind = .function
 nocell : ∀ y ∈ scope.names, y.2 ≠ .cell
 locs : ∀ y ∈ scope.names, y.2 = .local → scope.names.lookup y.1 = some .local
 own : scope.names.lookup x = some .local
 seen : ∀ y ∈ ys, scope.names.lookup y = some .free
 out : ∀ y ∈ scope.names, y.2 = .free → X.env.kindOf y.1 = some .cell ∨ X.env.kindOf y.1 = some .free
 places : js.map (fun j => X.N[j]?) = ys.map some
 nd : (x :: ys).Nodup
def a3f (σ : St) (js : List Nat) : St := js.map fun j => (σ[j]?).join
section
variable {X : Cx} {pins : List (Addr × Obj)} {σ : St} {H : Hp} {s : Shared} {scope : Scope} {x : Str} {ys : List Str} {js : List Nat} {fp : List Addr} {C D : Addr} {h1 : Heap}
theorem a6x.cells (L : a6x X scope x ys js) (I : Inv X pins σ H s) : ∀ y ∈ scope.names, y.2 = .free → ∃ a, X.env.cells.lookup y.1 = some a := fun y hy hf => I.ok.has y.1 (L.out y hy hf)
theorem a6x.sub (L : a6x X scope x ys js) {y : Str} {c : Addr} (h : (clOf X.env scope.names []).lookup y = some c) : X.env.cells.lookup y = some c ∧ (y, NameKind.free) ∈ scope.names := by
 rcases clOf_mem scope.names [] y c (PySem.mem_of_lookup h) with z | ⟨z1, z2⟩
 ·exact nomatch z
 ·exact ⟨z2, z1⟩
theorem a6x.has (L : a6x X scope x ys js) (I : Inv X pins σ H s) {y : Str} (h : (y, NameKind.free) ∈ scope.names) : ∃ c, (clOf X.env scope.names []).lookup y = some c := by
 obtain ⟨c, q⟩ := clOf_keep scope.names [] y (.inr h) (L.cells I)
 exact a9g q
theorem Inv.block (L : a6x X scope x ys js) (I : Inv X pins σ H s) (hf : ∀ b ∈ fp, FpOk X pins H b) (ho : ∀ b ∈ fp, ∃ o, s.heap.get? b = some o) (hC : s.heap.objs.size ≤ C) (old : ∀ b o, s.heap.get? b = some o → h1.get? b = some o) {m : Str → Option Value} (hn : h1.Ns C m) {t' : Nat} :
  Inv (a7z X (x :: ys) scope C s H fp) [] (none :: a3f σ js) H { s with heap := h1, toks := t' } := by
 have fpC : ∀ b ∈ fp, b ≠ C := fun b hb z => by
  obtain ⟨o, e⟩ := ho b hb
  exact absurd (Nat.lt_of_lt_of_le (Heap.lt_size e) (by rw [z]; exact hC)) (Nat.lt_irrefl _)
 refine ⟨⟨I.ok.mod, L.kind, I.ok.glob, I.ok.blt, hC, fun y z c h1 h2 => ?_, fun y hy => ?_, fun y c h => (nomatch h), I.ok.hd, I.ok.frames, .inl rfl, fun b hb => ⟨fpC b hb, fun y c e => ?_⟩, I.bs, Nat.le_trans I.ok.bsz I.sz, fun b o e hb => ?_, fun b hb z => ?_, I.stack, I.stkFree⟩,
  rfl, I.bare, Un.kept old, ⟨m, hn, fun i y v e1 e2 e3 => ?_⟩, fun y c e => ?_, I.hok.fresh hC, fun y c e => ?_, fun p hp => (nomatch hp), I.hok.kept old, ?_⟩
 ·exact I.ok.inj y z c (L.sub h1).1 (L.sub h2).1
 ·have hy' : (y, NameKind.free) ∈ scope.names := aac (env := X.env) L.nocell hy
  exact L.has I hy'
 ·exact (hf b hb).2.2.2.2.1 y c (L.sub e).1
 ·rcases (hf b hb).2.2.2.1 with z | z
  ·exact I.ok.noex b o e z
  ·exact absurd (Nat.lt_of_lt_of_le (Heap.lt_size e) (Nat.le_trans I.ok.bsz z)) (Nat.lt_irrefl _)
 ·rcases List.mem_cons.mp (I.stkSub b z) with z | z
  ·exact (hf b hb).2.1 z
  ·exact (hf b hb).2.2.1 z
 ·cases i with
  | zero => exact absurd e2 (by simp)
  | succ i =>
   have e1' : ys[i]? = some y := by simpa [a7z] using e1
   have e2' : (a3f σ js)[i]? = some (some v) := by simpa using e2
   have hj : ∃ j, js[i]? = some j := by
    unfold a3f at e2'
    rw [List.getElem?_map] at e2'
    cases q : js[i]? with
    | none => rw [q] at e2'; cases e2'
    | some j => exact ⟨j, rfl⟩
   obtain ⟨j, hj⟩ := hj
   have pj : X.N[j]? = some y := by
    have q := congrArg (fun l => l[i]?) L.places
    simp only [List.getElem?_map, hj, e1', Option.map_some] at q
    exact Option.some.inj q
   have vj : σ[j]? = some (some v) := by
    unfold a3f at e2'
    rw [List.getElem?_map, hj, Option.map_some] at e2'
    have e3' := Option.some.inj e2'
    cases q : σ[j]? with
    | none => rw [q] at e3'; cases e3'
    | some o => rw [q] at e3'; exact congrArg some e3'
   have ym : y ∈ ys := List.mem_of_getElem? e1'
   have yl := L.seen y ym
   have yf : (y, NameKind.free) ∈ scope.names := PySem.mem_of_lookup yl
   have yo := L.out _ yf rfl
   obtain ⟨m0, hn0, hl0⟩ := I.loc
   have vis : Vis X.env.scope y := .inr yo
   obtain ⟨u, r, l⟩ := hl0 j y v pj vj vis
   refine ⟨u, r, ?_⟩
   rcases l with ⟨k, _⟩ | ⟨k, c, ec, z⟩
   ·rcases yo with q | q <;> (rw [k] at q; cases q)
   ·obtain ⟨c', ec'⟩ := L.has I yf
    have ecc := (L.sub ec').1
    rw [ec] at ecc
    cases ecc
    obtain ⟨oc, hoc, hd⟩ := z
    exact .inr ⟨aad yo I.ok.kind yl, c, ec', ⟨oc, old _ _ hoc, hd⟩⟩
 ·obtain ⟨v, oc, hoc, hd⟩ := I.cell y c (L.sub e).1
  exact ⟨v, oc, old _ _ hoc, hd⟩
 ·exact I.freeC y c (L.sub e).1
 ·show (none :: a3f σ js).length = (x :: ys).length
  have q := congrArg List.length L.places
  rw [List.length_map, List.length_map] at q
  unfold a3f
  rw [List.length_cons, List.length_cons, List.length_map, q]
theorem Inv.unblock {pc : List (Addr × Obj)} {σc : St} {H' : Hp} {s' : Shared} {N : List Str} {acc : List V} {its : List Value} {n : Nat} {h' : Heap} (I : Inv X pins σ H s) (hf : ∀ b ∈ fp, FpOk X pins H b) (hD : s.heap.objs.size ≤ D) (hC : s.heap.objs.size ≤ C) (hDC : D ≠ C)
  (J : Inv (a7z X N scope C s H fp) pc σc H' s') (hHD : H' D = none) (rv : Vals acc its) (hz : acc.length ≤ sizeLine) (hd : s'.heap.get? D = some { cls := .type "list", data := .seq its.toArray n }) (sb : Heap.SameBut C s'.heap h') :
  Inv X pins σ (upd H' D (.lst acc)) { s' with heap := h' } := by
 have lt : ∀ b o, s.heap.get? b = some o → b ≠ C ∧ b ≠ D := fun b o e => ⟨Nat.ne_of_lt (Nat.lt_of_lt_of_le (Heap.lt_size e) hC), Nat.ne_of_lt (Nat.lt_of_lt_of_le (Heap.lt_size e) hD)⟩
 have B : Un (frs X.stack) fp H H' s.heap s'.heap := J.base
 refine I.call' (ch := fp) (s' := { s' with heap := h' }) J.os ⟨fun b o e n hb hx => ?_, fun b o e n hb hx => ?_, fun b o e n hx => ?_, fun b o e hx => ?_, fun b xs e => ?_, fun b o u e => ?_, fun b ps e => ?_⟩ ?_ J.bare ?_
 ·exact (sb.2 b (lt b o e).1).trans (B.keep b o e n hb hx)
 ·obtain ⟨sl, q⟩ := B.slot b o e n hb hx
  exact ⟨sl, (sb.2 b (lt b o e).1).trans q⟩
 ·rw [a0p (lt b o e).2]; exact B.free b o e n hx
 ·obtain ⟨o', q⟩ := B.there b o e hx
  exact ⟨o', (sb.2 b (lt b o e).1).trans q⟩
 ·have q := B.tups b xs e
  rw [a0p (a0n q hHD)]; exact q
 ·have q := B.frzs b o u e
  rw [a0p (a0n q hHD)]; exact q
 ·obtain ⟨more, q⟩ := B.tbls b ps e
  exact ⟨more, by rw [a0p (a0n q hHD)]; exact q⟩
 ·intro b u e
  by_cases hb : b = D
  ·subst hb
   rw [a02] at e
   cases e
   exact ⟨hz, its, n, rv, (sb.2 _ hDC).trans hd⟩
  ·rw [a0p hb] at e
   have hCn : H' C = none := J.free
   refine (J.hok b u e).stay (fun c v hc q => (sb.2 c ?_).trans q) (fun c q => by rw [a0p (a0n q hHD)]; exact q) fun c xs q => by rw [a0p (a0n q hHD)]; exact q
   rcases hc with z | z
   ·rw [z]; exact a0n e hCn
   ·exact a0n z hCn
 ·intro b hb
  obtain ⟨_, f1, _, f3, f4, f5⟩ := hf b hb
  exact ⟨f3, f1, f4, f5⟩
end
theorem a8j {prog : Program} {w : World} {A : Around} {R : Result → Shared → Prop} {s : Shared} {elt target iter : Expr} {ifs : List Expr} {scope : Scope} {pos : Pos} {it acc : Value} {env : Env} (I : Nat → Shared → Prop)
  (turn : ∀ n s, I n s → wpAny (model prog w) A (pyNext it) (fun r s₁ => match r with
   | none => R (.ok .next) s₁
   | some v => wpAny (model prog w) A (letOwnedTupleGo target it v) (fun _ s₁' => wpAny (model prog w) A (assign target env v) (fun _ s₂ =>
     wpAny (model prog w) A (forIn ifs true fun c r => if r = true then do let ok ← isTrue c env (eval c env); pure (ForInStep.yield ok) else pure (ForInStep.yield r)) (fun ok s₃ =>
      if ok = true then wpAny (model prog w) A (eval elt env) (fun x s₄ =>
       wpAny (model prog w) A (call (.builtin "list.append") [acc, x]) (fun _ s₅ => ∃ m, m < n ∧ I m s₅) (notedBy (model prog w) A env fun e s' => R (.error e) s') s₄) (notedBy (model prog w) A env fun e s' => R (.error e) s') s₃
      else ∃ m, m < n ∧ I m s₃) (notedBy (model prog w) A env fun e s' => R (.error e) s') s₂) (notedBy (model prog w) A env fun e s' => R (.error e) s') s₁') (notedBy (model prog w) A env fun e s' => R (.error e) s') s₁) (notedBy (model prog w) A env fun e s' => R (.error e) s') s)
  (n : Nat) (h : I n s) :
  codeAny (model prog w) A (.compLoop (.ListComp elt [⟨target, iter, ifs, 0⟩] scope pos) 0 it acc env) R s := by
 refine codeAny_loop rfl I (fun n s hI => ?_) n h
 show wpAny _ A ((compTurn (.ListComp elt [⟨target, iter, ifs, 0⟩] scope pos) 0 it acc env).onRaise (fun x => do noteFrame x env; theTreesLotGoes x)) _ _ s
 refine wpAny_noted ?_
 rw [compTurn_list]
 refine wpAny_bind (wpAny_standAt (wpAny_bind (wpAny_mono (turn n s hI) (fun r s₁ h₁ => ?_) fun _ _ h' => h')))
 cases r with
 | none => exact wpAny_pure h₁
 | some v =>
  refine wpAny_bind (wpAny_mono h₁ (fun _ s₁' h₁' => ?_) fun _ _ h' => h')
  refine wpAny_bind (wpAny_mono h₁' (fun _ s₂ h₂ => wpAny_bind (wpAny_mono h₂ (fun ok s₃ h₃ => ?_) fun _ _ h' => h')) fun _ _ h' => h')
  cases ok with
  | false => exact wpAny_pure ⟨rfl, h₃⟩
  | true =>
   exact wpAny_bind (wpAny_bind (wpAny_mono h₃ (fun x s₄ h₄ => wpAny_bind (wpAny_mono h₄ (fun _ s₅ h₅ => wpAny_pure (wpAny_pure ⟨rfl, h₅⟩)) fun _ _ h' => h')) fun _ _ h' => h'))
def LcW (J : It) (tc : TT) (te : TE) (js : List Nat) (σ : St) (Q : VK) (H1 : Hp) : Prop := ∃ W : Nat → Nat → List V → Hp → Prop, (∃ m, W 0 m [] H1) ∧ ∀ i m acc H, W i m acc H → acc.length ≤ sizeLine ∧
  ((J.stop i H ∧ ∀ p, H p = none → Q (.ref p) (upd H p (.lst acc))) ∨
   (J.go i H ∧ acc.length < sizeLine ∧ ∀ x H', J.yld i H x H' → tc (some x :: a3f σ js) H' fun b H3 => if b = true then te (some x :: a3f σ js) H3 fun v H4 => ∃ m', m' < m ∧ W (i + 1) m' (acc ++ [v]) H4 else ∃ m', m' < m ∧ W (i + 1) m' acc H3))
def tLc (wi : TI) (tc : TT) (te : TE) (js : List Nat) : TE := fun σ H Q => wi σ H fun J H1 => LcW J tc te js σ Q H1
def tYes : TT := fun _ H Q => Q true H
def PTs (X : Cx) (ifs : List Expr) (tc : TT) : Prop := (ifs = [] ∧ tc = tYes) ∨ ∃ c, ifs = [c] ∧ PT X c tc
theorem a3t {X : Cx} : PTs X [] tYes := .inl ⟨rfl, rfl⟩
theorem pts_one {X : Cx} {c : Expr} {tc : TT} (h : PT X c tc) : PTs X [c] tc := .inr ⟨c, rfl, h⟩
theorem PTs.run {X : Cx} {ifs : List Expr} {tc : TT} (h : PTs X ifs tc) {pins : List (Addr × Obj)} {s : Shared} {σ : St} {H : Hp} {Q : Bool → Hp → Prop} (I : Inv X pins σ H s) (q : tc σ H Q) :
  wpAny (model X.prog X.w) X.A (forIn ifs true fun c r => if r = true then do let ok ← isTrue c X.env (eval c X.env); pure (ForInStep.yield ok) else pure (ForInStep.yield r)) (TP X pins σ Q) X.xe s := by
 rcases h with ⟨rfl, rfl⟩ | ⟨c, rfl, h⟩
 ·exact wpAny_tests_nil ⟨H, I, q⟩
 ·exact wpAny_tests_one (h pins s σ H Q I q)
theorem ac2 {X : Cx} {elt iter : Expr} {ifs : List Expr} {scope : Scope} {pos px : Pos} {x : Str} {ys : List Str} {js : List Nat} {wi : TI} {tc : TT} {te : TE} (hc : X.calm = true) (L : a6x X scope x ys js) (hi : PI X (.Name x px) iter wi)
  (ht : ∀ C s₀ H₀ fp, PTs (a7z X (x :: ys) scope C s₀ H₀ fp) ifs tc) (he : ∀ C s₀ H₀ fp, PE (a7z X (x :: ys) scope C s₀ H₀ fp) elt te)
  (hs : ∀ z, foldedSetIterable iter X.env z = pure z := by intro _; rfl) :
  PE X (.ListComp elt [⟨.Name x px, iter, ifs, 0⟩] scope pos) (tLc wi tc te js) := by
 intro pins s σ H Q I h
 rw [eval_ListComp]
 refine wpAny_comprehension_free (use := none) rfl hs (closure_of (L.cells I)) L.kind L.locs (thn (hi pins s σ H _ I h) fun v s1 h1 => thn h1 fun itv s2 h2 => ?_)
 obtain ⟨it, fp, tn, J, H2, e, I2, T, st2, f2, W, ⟨m0, w0⟩, turn⟩ := h2
 subst e
 have ho2 : ∀ b ∈ fp, ∃ o, s2.heap.get? b = some o := fun b hb => let ⟨o, e, _⟩ := T.obj _ _ st2 b hb; ⟨o, e⟩
 refine wpAny_newObj_type (wpAny_newFunctionEnv L.nocell (by intro y hy; simp at hy) (fun h1 hns1 hsb1 => ?_) L.kind)
 dsimp only at hns1 hsb1 ⊢
 generalize hH2 : s2.heap.push { cls := .type "list", dict := none, data := .seq ([] : List Value).toArray } = G2 at hns1 hsb1 ⊢
 have hC : G2.objs.size = s2.heap.objs.size + 1 := by rw [← hH2, Heap.size_push]
 have hCle : s2.heap.objs.size ≤ G2.objs.size := by rw [hC]; exact Nat.le_succ _
 have hDC : s2.heap.objs.size ≠ G2.objs.size := by rw [hC]; exact Nat.ne_of_lt (Nat.lt_succ_self _)
 have old : ∀ b o, s2.heap.get? b = some o → h1.get? b = some o := fun b o e => hsb1.extBut b o (by rw [hC]; exact Nat.ne_of_lt (Nat.lt_succ_of_lt (Heap.lt_size e))) (Heap.get?_push_of_some _ (hH2 ▸ Heap.get?_push_of_some _ e))
 have hacc : h1.PlainList s2.heap.objs.size #[] := ⟨_, hsb1.extBut _ _ hDC (Heap.get?_push_of_some _ (hH2 ▸ Heap.get?_push_size _ rfl))⟩
 generalize hCe : G2.objs.size = C at *
 generalize hDe : s2.heap.objs.size = D at *
 have hDle : s2.heap.objs.size ≤ D := by rw [hDe]; exact Nat.le_refl _
 have hCle' : s2.heap.objs.size ≤ C := by rw [hDe]; exact hCle
 have fpD : ∀ b ∈ fp, b ≠ D := fun b hb z => by
  obtain ⟨o, e⟩ := ho2 b hb
  have := Heap.lt_size e
  rw [z, ← hDe] at this
  exact Nat.lt_irrefl _ this
 have fpC : ∀ b ∈ fp, b ≠ C := fun b hb z => by
  obtain ⟨o, e⟩ := ho2 b hb
  have := Nat.lt_of_lt_of_le (Heap.lt_size e) hCle'
  rw [z] at this
  exact Nat.lt_irrefl _ this
 have I3 : Inv (a7z X (x :: ys) scope C s2 H2 fp) [] (none :: a3f σ js) H2 { s2 with heap := h1, toks := s2.toks + ([] : List (Str × Value)).length } := I2.block L f2 ho2 hCle' old hns1
 have cellD : ∀ y c, (a7z X (x :: ys) scope C s2 H2 fp).env.cells.lookup y = some c → c ≠ D := fun y c e z => by
  obtain ⟨v, q⟩ := I2.cell y c (L.sub e).1
  have := q.lt
  rw [z, ← hDe] at this
  exact Nat.lt_irrefl _ this
 have stat : ∀ {H' : Hp} {pc : List (Addr × Obj)}, (∀ b ∈ fp, H' b = none) → (∀ p ∈ pc, p.1 = D) → ∀ b ∈ fp, FpOk (a7z X (x :: ys) scope C s2 H2 fp) pc H' b := fun {H' pc} hn hp b hb =>
  ⟨hn b hb, fpC b hb, fun z => by
   rcases List.mem_cons.mp (I2.stkSub b z) with z | z
   ·exact (f2 b hb).2.1 z
   ·exact (f2 b hb).2.2.1 z, .inl hb, fun y c e => (f2 b hb).2.2.2.2.1 y c (L.sub e).1, fun p hq => by
   have hq' : p ∈ pc := hq
   rw [hp p hq']; exact Ne.symm (fpD b hb)⟩
 have loop : ∀ s3 : Shared, s3 = { s2 with heap := h1, toks := s2.toks + ([] : List (Str × Value)).length } →
   codeAny (model X.prog X.w) X.A (.compLoop (.ListComp elt [⟨.Name x px, iter, ifs, 0⟩] scope pos) 0 (.ref it) (.ref D) (compEnvC scope (clOf X.env scope.names []) C X.env))
    (compPost (model X.prog X.w) X.A X.xe none (EP X pins σ Q) (.ref D) C) s3 := by
  rintro s3 rfl
  refine a8j (fun n s' => ∃ i acc its H' k, Inv (a7z X (x :: ys) scope C s2 H2 fp) [] (none :: a3f σ js) H' s' ∧ tn i s'.heap ∧ (∀ b ∈ fp, H' b = none) ∧ H' D = none ∧ s'.heap.get? D = some { cls := .type "list", data := .seq its k } ∧ Vals acc its.toList ∧ W i n acc H') ?_ m0 ?_
  ·rintro n s4 ⟨i, acc, its, H4, k, I4, st4, fr4, hD4, ob4, rv4, w4⟩
   obtain ⟨hz, w4⟩ := turn i n acc H4 w4
   have I4' : Inv (a7z X (x :: ys) scope C s2 H2 fp) [(D, { cls := .type "list", data := .seq its k })] (none :: a3f σ js) H4 s4 := I4.a6r fun p hp => by
    have e : p = (D, { cls := .type "list", data := .seq its k }) := by simpa using hp
    subst e
    refine ⟨ob4, hD4, hDC, fun z => ?_, fun v z => (nomatch z)⟩
    obtain ⟨_, o, ho, _⟩ := I2.stack.mem (show D ∈ frs X.stack from z)
    have := Heap.lt_size ho
    rw [← hDe] at this
    exact Nat.lt_irrefl _ this
   have one : ∀ p ∈ ([(D, { cls := .type "list", data := .seq its k })] : List (Addr × Obj)), p.1 = D := fun p hp => by
    have e : p = (D, { cls := .type "list", data := .seq its k }) := by simpa using hp
    rw [e]
   rcases w4 with ⟨stop, qn⟩ | ⟨go, hlt, step⟩
   ·refine thn (T.done (a7z X (x :: ys) scope C s2 H2 fp) rfl rfl rfl hc i _ s4 _ H4 _ I4' (stat fr4 one) st4 stop) fun r s5 ⟨hr, I5⟩ => ?_
    subst hr
    obtain ⟨m, hn, _⟩ := I5.loc
    refine ⟨m, hn, fun h' sb => ⟨.ref D, _, ?_, rfl, qn D hD4⟩⟩
    exact I2.unblock (its := its.toList) f2 hDle hCle' hDC I5 hD4 rv4 hz (by
     have q := (I5.pin (D, { cls := .type "list", data := .seq its k }) (by simp)).1
     simpa using q) sb
   ·refine thn (T.item (a7z X (x :: ys) scope C s2 H2 fp) rfl rfl rfl hc i _ s4 _ H4 _ I4' (stat fr4 one) st4 go) fun r s5 ⟨u, hr, h5⟩ => ?_
    subst hr
    refine thn h5 fun _ s6 ⟨xv, H6, I6, r6, y6, st6, fr6⟩ => ?_
    have I6' := I6.pinned (stat fr6 one) (T.obj _ _ st6)
    have ownL : (a7z X (x :: ys) scope C s2 H2 fp).env.scope.names.lookup x = some .local := lookup_relabel_local L.own
    have hg : PG (a7z X (x :: ys) scope C s2 H2 fp) (.Name x px) (aau 0) := a0q (i := 0) L.nd rfl (.inl ownL) (.inr ownL)
    refine wpAny_mono (hg _ s6 _ H6 xv u (fun σ2 H2' => σ2 = some xv :: a3f σ js ∧ H2' = H6) I6' r6 ⟨rfl, rfl⟩) (fun _ s7 ⟨σ7, H7, I7, e7, e7'⟩ => ?_) fun _ _ z => z.elim
    subst e7 e7'
    have q7 := step xv _ y6
    refine wpAny_mono ((ht C s2 H2 fp).run I7 q7) (fun ok s8 ⟨H8, I8, q8⟩ => ?_) fun _ _ z => z.elim
    have hσ : ∀ {pc : List (Addr × Obj)} {Hc : Hp} {sc : Shared}, Inv (a7z X (x :: ys) scope C s2 H2 fp) pc (some xv :: a3f σ js) Hc sc → Inv (a7z X (x :: ys) scope C s2 H2 fp) pc (none :: a3f σ js) Hc sc := fun Ic => Ic.weak rfl fun i v e => by
     cases i with
     | zero => exact absurd e (by simp)
     | succ i => simpa using e
    have keepT : ∀ {Hc : Hp} {sc : Shared}, Inv (a7z X (x :: ys) scope C s2 H2 fp) ([(D, { cls := .type "list", data := .seq its k })] ++ a6k fp s6.heap) (some xv :: a3f σ js) Hc sc → tn (i + 1) sc.heap ∧ (∀ b ∈ fp, Hc b = none) ∧ Hc D = none ∧ sc.heap.get? D = some { cls := .type "list", data := .seq its k } := fun {Hc sc} Ic => by
     refine ⟨T.keep _ _ _ st6 fun b hb o e => (Ic.pin (b, o) (List.mem_append_right _ (List.mem_append_right _ (a4z hb e)))).1, fun b hb => ?_, (Ic.pin (D, { cls := .type "list", data := .seq its k }) (List.mem_append_right _ (List.mem_append_left _ List.mem_cons_self))).2.1, (Ic.pin (D, { cls := .type "list", data := .seq its k }) (List.mem_append_right _ (List.mem_append_left _ List.mem_cons_self))).1⟩
     obtain ⟨o, e, d⟩ := T.obj _ _ st6 b hb
     exact (Ic.pin (b, o) (List.mem_append_right _ (List.mem_append_right _ (a4z hb e)))).2.1
    cases ok with
    | false =>
     obtain ⟨m', hm, w8⟩ := q8
     obtain ⟨a1, a2, a3, a4⟩ := keepT I8
     exact ⟨m', hm, i + 1, acc, its, H8, k, (hσ I8).a6r (fun p hp => (nomatch hp)), a1, a2, a3, a4, rv4, w8⟩
    | true =>
     refine wpAny_mono (he C s2 H2 fp _ s8 _ H8 _ I8 q8) (fun ev s9 ⟨v9, H9, I9, r9, m', hm, w9⟩ => ?_) fun _ _ z => z.elim
     obtain ⟨a1, a2, a3, a4⟩ := keepT I9
     have hlen : its.size ≤ sizeLine := by
      have e1 := rv4.length
      have e2 : its.toList.length = its.size := by simp
      omega
     refine wpAny_list_append_plain (hsz := hlen) ⟨k, a4⟩ fun h10 pl sb => ?_
     obtain ⟨k', e10⟩ := pl
     have I10 : Inv (a7z X (x :: ys) scope C s2 H2 fp) (a6k fp s6.heap) (none :: a3f σ js) H9 s9 := (hσ I9).a6r fun p hp => I9.pin p (List.mem_append_right _ (List.mem_append_right _ hp))
     have I11 : Inv (a7z X (x :: ys) scope C s2 H2 fp) (a6k fp s6.heap) (none :: a3f σ js) H9 { s9 with heap := h10 } :=
      I10.turned (t' := s9.toks) (it := D) (fun b o hb e => (sb.2 b hb).trans e) a3 hDC (.inr hDle) cellD fun p hp z => by
       have hp' : p ∈ a6k fp s6.heap := hp
       exact fpD p.1 (ac9 hp').1 z
     refine ⟨m', hm, i + 1, acc ++ [v9], its.push ev, H9, k', I11.a6r (fun p hp => (nomatch hp)), T.keep _ _ _ a1 (fun b hb o e => (sb.2 b (fpD b hb)).trans e), a2, a3, e10, ?_, w9⟩
     rw [Array.toList_push]
     exact rv4.append (.cons r9 .nil)
  ·exact ⟨0, [], #[], H2, _, I3, T.keep _ _ _ st2 fun b hb o e => old b o e, fun b hb => (f2 b hb).1, I2.hok.fresh hDle, hacc.choose_spec, .nil, w0⟩
 exact codeAny_compStart_list (loop _ rfl) (T.self _ 0 _ _ _ (T.keep _ _ _ st2 fun b hb o e => old b o e) (loop _ rfl))
end L2
namespace L2
open PySem PySem.Spec PyProof.Rows
mutual
def RdD (K : PySem.W.Frag) (H : Hp) : V → PyData → Prop
 | v, .none => v = .non
 | v, .bool b => v = .bl b
 | v, .int i => v = .int i
 | v, .str x => v = .str x ∧ PyData.strOk x = true
 | v, .list ds => ∃ a xs, v = .ref a ∧ SqL K H a xs ∧ a8v K H xs ds
 | v, .tuple ds => ∃ a xs, v = .ref a ∧ SqT K H a xs ∧ a8v K H xs ds
 | _, .dict _ => False
def a8v (K : PySem.W.Frag) (H : Hp) : List V → List PyData → Prop
 | xs, [] => xs = []
 | xs, d :: ds => ∃ x r, xs = x :: r ∧ RdD K H x d ∧ a8v K H r ds
end
section
variable {X : Cx} {pins : List (Addr × Obj)} {σ : St} {H : Hp} {s : Shared}
mutual
theorem RdD.reads (I : Inv X pins σ H s) : ∀ {v : V} {d : PyData} {u : Value}, RdD X.K H v d → RelV v u → ∃ as, Reads s.heap u d as
 | _, .none, _, h, r => by cases (show _ = _ from h); cases r; exact ⟨_, .none⟩
 | _, .bool b, _, h, r => by cases (show _ = _ from h); cases r; exact ⟨_, .bool b⟩
 | _, .int i, _, h, r => by cases (show _ = _ from h); obtain ⟨t, rfl⟩ := r; exact ⟨_, .int i t⟩
 | _, .str x, _, h, r => by cases h.1; obtain ⟨t, rfl⟩ := r; exact ⟨_, .str x t⟩
 | _, .list ds, _, h, r => by
  obtain ⟨a, xs, rfl, hq, hd⟩ := h
  cases r
  obtain ⟨its, rv, pl, _⟩ := I.list hq
  obtain ⟨as, ra⟩ := a8v.reads I hd rv
  obtain ⟨o, n, e, c, _, dd⟩ := pl
  exact ⟨_, .list e c dd (by simpa using ra)⟩
 | _, .tuple ds, _, h, r => by
  obtain ⟨a, xs, rfl, hq, hd⟩ := h
  cases r
  obtain ⟨its, rv, pl, _⟩ := I.tuple hq
  obtain ⟨as, ra⟩ := a8v.reads I hd rv
  obtain ⟨o, e, c, n, dd⟩ := pl
  exact ⟨_, .tuple e c dd (by simpa using ra)⟩
 | _, .dict _, _, h, _ => h.elim
theorem a8v.reads (I : Inv X pins σ H s) : ∀ {xs : List V} {ds : List PyData} {us : List Value}, a8v X.K H xs ds → Vals xs us → ∃ as, ReadsAll s.heap us ds as
 | _, [], _, h, r => by cases (show _ = _ from h); cases r; exact ⟨_, .nil⟩
 | _, d :: ds, _, h, r => by
  obtain ⟨x, rr, rfl, h1, h2⟩ := h
  cases r with
  | cons r1 r2 =>
   obtain ⟨as, a1⟩ := RdD.reads I h1 r1
   obtain ⟨bs, a2⟩ := a8v.reads I h2 r2
   exact ⟨_, .cons a1 a2⟩
end
mutual
theorem RdD.lay : ∀ {v : V} {d : PyData}, RdD X.K H v d → d.canLay0 = true
 | _, .none, _ => rfl
 | _, .bool b, _ => rfl
 | _, .int i, _ => rfl
 | _, .str x, h => h.2
 | _, .list ds, h => by obtain ⟨a, xs, _, _, hd⟩ := h; exact a8v.lay hd
 | _, .tuple ds, h => by obtain ⟨a, xs, _, _, hd⟩ := h; exact a8v.lay hd
 | _, .dict _, h => h.elim
theorem a8v.lay : ∀ {xs : List V} {ds : List PyData}, a8v X.K H xs ds → PyData.canLayAll0 ds = true
 | _, [], _ => rfl
 | _, d :: ds, h => by
  obtain ⟨x, r, _, h1, h2⟩ := h
  show (d.canLay0 && PyData.canLayAll0 ds) = true
  rw [RdD.lay h1, a8v.lay h2]
  rfl
end
def rEqD (K : PySem.W.Frag) (neg : Bool) : R2 := fun x y H Q => ∃ dx dy, RdD K H x dx ∧ RdD K H y dy ∧ dx.depth ≤ 60 ∧ Q (.bl (if neg then !PyData.eqv dx dy else PyData.eqv dx dy)) H
theorem op_eqD (hu : X.A.units + 64 < cLine) : OpR X (compareOp .Eq) (rEqD X.K false) := by
 intro pins s σ H x y v u Q I rx ry h
 obtain ⟨dx, dy, h1, h2, hd, q⟩ := h
 obtain ⟨as, r1⟩ := h1.reads I rx
 obtain ⟨bs, r2⟩ := h2.reads I ry
 exact SeqAt.compareEq_reads r1 r2 h1.lay h2.lay (by omega) ⟨.bl (PyData.eqv dx dy), H, I, rfl, q⟩
theorem op_neD (hu : X.A.units + 64 < cLine) : OpR X (compareOp .NotEq) (rEqD X.K true) := by
 intro pins s σ H x y v u Q I rx ry h
 obtain ⟨dx, dy, h1, h2, hd, q⟩ := h
 obtain ⟨as, r1⟩ := h1.reads I rx
 obtain ⟨bs, r2⟩ := h2.reads I ry
 exact SeqAt.compareNe_reads r1 r2 h1.lay h2.lay (by omega) ⟨.bl (!PyData.eqv dx dy), H, I, rfl, q⟩
theorem range_all (bs : List Bool) : (List.range bs.length).all (fun i => (bs[i]?).getD false) = bs.all id := by
 rw [Bool.eq_iff_iff, List.all_eq_true, List.all_eq_true]
 constructor
 ·intro h b hb
  obtain ⟨i, hi, rfl⟩ := List.mem_iff_getElem.mp hb
  have := h i (by simp [hi])
  simpa [hi] using this
 ·intro h i hi
  have hi' : i < bs.length := by simpa using hi
  simpa [hi'] using h bs[i] (List.getElem_mem hi')
def rTruths (K : PySem.W.Frag) (f : List Bool → Bool) : List V → Hp → VK → Prop := fun xs H Q => ∃ p bs, xs = [V.ref p] ∧ SqL K H p (bs.map V.bl) ∧ Q (.bl (f bs)) H
theorem truths_of {bs : List Bool} : ∀ {its : List Value}, Vals (bs.map V.bl) its → its = bs.map Value.bool := by
 induction bs with
 | nil => intro its r; cases r; rfl
 | cons b r ih =>
  intro its h
  cases h with
  | cons h1 h2 => cases h1; rw [ih h2]; rfl
theorem truth_bools {prog : Program} {w : World} {A : Around} (bs : List Bool) : TruthOf prog w A (fun i v => (bs.map Value.bool).toArray[i]? = some v) (fun i => (bs[i]?).getD false) := by
 intro i v s Q E hP hQ
 have e : (bs[i]?).map Value.bool = some v := by simpa using hP
 cases q : bs[i]? with
 | none => rw [q] at e; cases e
 | some b =>
  rw [q] at e
  cases e
  have hQ' : Q ((bs[i]?).getD false) s := hQ
  rw [q] at hQ'
  exact wpAny_truthy_bool hQ'
theorem call_all (hc : X.calm = true) : aaw X (.builtin "all") (rTruths X.K fun bs => bs.all id) := by
 intro pins s σ H xs us Q I r h
 obtain ⟨p, bs, rfl, hq, q⟩ := h
 obtain ⟨u, rfl, ru⟩ := vals1 r
 cases ru
 obtain ⟨its, rv, pl, hz⟩ := I.list hq
 have ei := truths_of rv
 subst ei
 have hl := pl.isList
 have hp : p < s.heap.objs.size := let ⟨o, n, e, _⟩ := pl; Heap.lt_size e
 refine call_all_walk (wpAny_pyIter_list hl ?_)
 refine ⟨s.heap.objs.size, _, _, _, _, _, _, rfl, Walks.list (show X.A.in1.handled = none from I.ok.hd hc) s.heap.objs.size p (Nat.ne_of_lt hp) (bs.map Value.bool).toArray, ⟨⟨_, Heap.get?_push_size _ rfl, rfl, rfl⟩, hl.push _⟩, truth_bools bs, fun h' tk hk => ⟨.bl _, H, I.kept (fun b o e => hk b o (fun z => ?_) (Heap.get?_push_of_some _ e)), rfl, ?_⟩⟩
 ·have z' : b = s.heap.objs.size := by simpa using z
  exact absurd (Heap.lt_size e) (by rw [z']; exact Nat.lt_irrefl _)
 ·have e : (bs.map Value.bool).toArray.size = bs.length := by simp
  rw [e, range_all]
  exact q
def rIsi (K : PySem.W.Frag) : List V → Hp → VK → Prop := fun xs H Q => ∃ x n t b, xs = [x, V.ty n] ∧ TyOf K H x t ∧ PySem.W.kitOne K t (.type n) = some b ∧ Q (.bl b) H
theorem call_isi : aaw X (.builtin "isinstance") (rIsi X.K) := by
 intro pins s σ H xs us Q I r h
 obtain ⟨x, n, t, b, rfl, ty, e, q⟩ := h
 obtain ⟨u, w', rfl, ru, rw'⟩ := vals2 r
 cases (show w' = Value.type n from rw')
 exact isinst_ok I ru ty e fun tk => ⟨.bl b, H, I.tok tk, rfl, q⟩
theorem a5n {K : PySem.W.Frag} (n : String) : PySem.W.kitOne K (.type n) (.type n) = some true := by
 unfold PySem.W.kitOne
 rw [if_pos (by simp)]
theorem texts_are {ys : List Str} : ∀ {us : List Value}, Vals (ys.map V.str) us → StrsAre us ys := by
 induction ys with
 | nil => intro us r; cases r; exact .nil
 | cons y r ih =>
  intro us h
  cases h with
  | cons h1 h2 => obtain ⟨t, rfl⟩ := h1; exact .cons y t (ih h2)
def rJoin (K : PySem.W.Frag) : V → List V → Hp → VK → Prop := fun x vs H Q => ∃ sep p ys, x = .str sep ∧ vs = [.ref p] ∧ SqL K H p (ys.map V.str) ∧ (ys.map (·.length)).sum + ys.length * sep.length ≤ 16777216 ∧ Q (.str (Str.join sep ys)) H
theorem a7f : MtR X "str.join" (rJoin X.K) := by
 intro pins s σ H x xs v us Q I rx r h
 obtain ⟨sep, p, ys, rfl, rfl, hq, hz, q⟩ := h
 obtain ⟨u, rfl, ru⟩ := vals1 r
 cases ru
 obtain ⟨t, rfl⟩ := rx
 obtain ⟨its, rv, pl, _⟩ := I.list hq
 refine join_list pl.isList (by simpa using texts_are rv) hz fun t' k => ⟨.str (Txt.join sep ys), H, I.tok k, ⟨t', rfl⟩, ?_⟩
 have e : Txt.join sep ys = Str.join sep ys := by
  have := join_closes (sep := sep) (sep' := sep) (ys := ys) rfl
  exact eq_of_beq this
 rw [e]
 exact q
def rIxM (K : PySem.W.Frag) (P : Params) : R2 := fun x y H Q => ∃ a es n k v u, x = .ref a ∧ y = .str k ∧ K.lookup a = some ⟨.type "dict", none, .dict es n, #[]⟩ ∧ PySem.W.KeysLit P es.toList ∧ PySem.W.nsIn K a k = some (some u) ∧ RelV v u ∧ Q v H
theorem ix_mod : IxR X (rIxM X.K X.w.params) := by
 intro value slice pins s σ H x y v u Q I rx ry h hs
 obtain ⟨a, es, n, k, z, uz, rfl, rfl, lk, kl, ns, rz, q⟩ := h
 cases rx
 obtain ⟨t, rfl⟩ := ry
 obtain ⟨m, F⟩ := I.fr
 exact PySem.W.topItem_K F I.ok.mod.kin lk kl ns ⟨_, H, I.tok _, rz, q⟩ hs
end
end L2
namespace PySem
open Sem (wp)
namespace RV
theorem mro : mroOf (.type "reversed") = pure [.type "reversed", .type "object"] := by rw [mroOf_type]; kernel_rfl
theorem lookup_new : typeLookup (.type "reversed") "__new__" = pure (some (.builtin "reversed.__new__")) := by rw [typeLookup_type, builtinLookup_eq_fast]; kernel_rfl
theorem made : Bind.madeBy (.type "reversed") = pure (some "reversed.__new__") := madeBy_type mro lookup_new (by decide +kernel)
theorem typeCall_1 (a : Value) : checkTypeCall "reversed" ⟨[a], []⟩ = pure () := by kernel_rfl
theorem newCall_1 (a : Value) : checkBuiltinCall "reversed.__new__" ⟨[.type "reversed", a], []⟩ = pure () := by kernel_rfl
theorem entry_new : entryFor table "reversed.__new__" = some Builtin.«reversed.__new__» := entryFor_of_tree (by kernel_rfl)
theorem sub_self : isSubtype (.type "reversed") (.type "reversed") = pure true := by rw [isSubtype_type]; kernel_rfl
theorem slot_init : Slot "reversed" "__init__" "object.__init__" :=
 .of (owner := "object") (n := "__init__") (by rw [typeLookup_type, builtinLookup_eq_fast]; kernel_rfl) (by decide +kernel) (by decide +kernel) (by decide +kernel)
  (by first | exact .inl (by decide +kernel) | exact .inr (by decide +kernel)) (by rw [isSubtype_type]; kernel_rfl)
theorem called : TypeCalled "reversed" "reversed.__new__" "object.__init__" :=
 ⟨by decide +kernel, by decide +kernel, ⟨_, _, mro⟩, made, by decide +kernel, sub_self, slot_init⟩
theorem owner : Manifest.owners.lookup (String.ofList ['d', 'e', 's', 'r', 'e', 'v', 'e', 'r'].reverse) = some Manifest.sig_reversed := by kernel_rfl
theorem slot_next : Slot "reversed" "__next__" "reversed.__next__" :=
 .of (owner := "reversed") (n := "__next__") (by rw [typeLookup_type, builtinLookup_eq_fast]; kernel_rfl) (by decide +kernel) (by decide +kernel) (by decide +kernel)
  (by first | exact .inl (by decide +kernel) | exact .inr (by decide +kernel)) (by rw [isSubtype_type]; kernel_rfl)
theorem entry_next : entryFor table "reversed.__next__" = some Builtin.«reversed.__next__» := entryFor_of_tree (by kernel_rfl)
theorem acu (a : Value) : argsOk "reversed.__next__" ⟨[a], []⟩ := by
 unfold argsOk; rw [signature?_of (id := "reversed.__next__") (n := ['_', '_', 't', 'x', 'e', 'n', '_', '_']) (o := ['d', 'e', 's', 'r', 'e', 'v', 'e', 'r']) (by kernel_rfl) owner]; kernel_rfl
theorem slot_iter : Slot "reversed" "__iter__" "reversed.__iter__" :=
 .of (owner := "reversed") (n := "__iter__") (by rw [typeLookup_type, builtinLookup_eq_fast]; kernel_rfl) (by decide +kernel) (by decide +kernel) (by decide +kernel)
  (by first | exact .inl (by decide +kernel) | exact .inr (by decide +kernel)) (by rw [isSubtype_type]; kernel_rfl)
theorem args_iter_1 (a : Value) : argsOk "reversed.__iter__" ⟨[a], []⟩ := by
 unfold argsOk; rw [signature?_of (id := "reversed.__iter__") (n := ['_', '_', 'r', 'e', 't', 'i', '_', '_']) (o := ['d', 'e', 's', 'r', 'e', 'v', 'e', 'r']) (by kernel_rfl) owner]; kernel_rfl
theorem entry_iter : entryFor table "reversed.__iter__" = some Builtin.«dict_keyiterator.__iter__» :=
 entryFor_alias (id' := "dict_keyiterator.__iter__") (by kernel_rfl) (by first | rfl | decide +kernel | (unfold String.splitOn; simp +decide [String.splitOnAux])) (by decide +kernel) (by kernel_rfl)
theorem no_rev : typeLookup (.type "str") "__reversed__" = pure none := by rw [typeLookup_type, builtinLookup_eq_fast]; kernel_rfl
theorem sub_str_dict : isSubtype (.type "str") (.type "dict") = pure false := by rw [isSubtype_type]; kernel_rfl
theorem newClass (a : Value) : Builtin.SmallTypes.newClass "reversed" ⟨[.type "reversed", a], []⟩ = pure (.type "reversed", [a]) := by
 unfold Builtin.SmallTypes.newClass
 simp only [isType, sub_self, pure_bind, Bool.not_true, Bool.false_eq_true, if_false]
end RV
def Heap.a6q (h : Heap) (a : Addr) (x : Str) (t : Tok) (i : Int) : Prop := ∃ o, h.get? a = some o ∧ o.cls = .type "reversed" ∧ o.data = .fields #[.str x t, rawInt i]
theorem Heap.a6q.typeIs {s : Shared} {a : Addr} {x : Str} {t : Tok} {i : Int} (y : s.heap.a6q a x t i) : s.TypeIs (.ref a) "reversed" := let ⟨o, ho, hc, _⟩ := y; ⟨o, ho, hc⟩
section
variable {prog : Program} {w : World} {A : Around} {E : Value → Shared → Prop} {s : Shared}
theorem meets_rev_new (x : Str) (t : Tok) (hx : x.length ≤ sizeLine) : Meets (Builtin.«reversed.__new__» ⟨[.type "reversed", .str x t], []⟩)
  (fun _ R s => ∀ tk, R (.ok (.ret (.ref s.heap.objs.size))) { s with heap := s.heap.push { cls := .type "reversed", data := .fields #[.str x t, rawInt ((x.length : Int) - 1)] }, toks := tk }) := by
 intro prog w A R s h
 unfold Builtin.«reversed.__new__»
 refine wpAny_bind (wpAny_of_eq (RV.newClass _) ?_)
 try dsimp only
 refine wpAny_bind (wpAny_of_eq (a := ()) (by first | rfl | kernel_rfl) ?_)
 refine wpAny_bind (wpAny_of_eq (a := ()) (by first | rfl | kernel_rfl) ?_)
 try dsimp only
 refine wpAny_bind (wpAny_specialOf (typeIs_str _ _ _) RV.no_rev ?_)
 try dsimp only
 refine wpAny_bind ?_
 show wpAny _ _ (isInstance (Value.str x t) (.type "dict") >>= _) _ _ _
 refine wpAny_bind (wpAny_isInstance (T := "str") (b := false) (typeIs_str _ _ _) RV.sub_str_dict ?_)
 simp only [Bool.false_eq_true, if_false]
 refine wpAny_bind (wpAny_specialOf (typeIs_str _ _ _) F.slot_str_getitem.lookup ?_)
 dsimp only
 rw [if_pos (by decide)]
 refine wpAny_pure ?_
 simp only [Bool.not_true, Bool.false_eq_true, if_false]
 have hs : sizeLine = 16777216 := sizeLine_eq
 refine wpAny_bind (PySem.P.len_str (by omega) ?_)
 refine wpAny_bind (wpAny_of_eq (a := some (x.length : Int)) rfl ?_)
 dsimp only
 refine wpAny_bind ?_
 show wpAny _ _ (newObj (Value.type "reversed") (.fields [Value.str x t, rawInt ((x.length : Int) - 1)].toArray)) _ _ _
 refine wpAny_newObj_type (wpAny_pure (h _)) (by size_fits)
theorem call_rev_str {x : Str} {t : Tok} {Q : Value → Shared → Prop} (hx : x.length ≤ sizeLine)
  (h : ∀ tk, Q (.ref s.heap.objs.size) { s with heap := s.heap.push { cls := .type "reversed", data := .fields #[.str x t, rawInt ((x.length : Int) - 1)] }, toks := tk }) :
  wpAny (model prog w) A (call (.type "reversed") [.str x t]) Q E s :=
 callType_new RV.called (by decide) (RV.typeCall_1 _) (RV.newCall_1 _) (fun obj => F.args_object_init_2 obj _) RV.entry_new (meets_rev_new x t hx) fun tk => ⟨⟨_, Heap.get?_push_size _ rfl, rfl⟩, h tk⟩
theorem next_rev_item {it : Addr} {x : Str} {t : Tok} {i c : Nat} {Q : Option Value → Shared → Prop} (hx : x.length ≤ sizeLine) (hit : s.heap.a6q it x t (i : Int)) (hc : x.cps[i]? = some c)
  (hQ : ∀ h' tk tk', h'.a6q it x t ((i : Int) - 1) → Heap.SameBut it s.heap h' → Q (some (.str ⟨#[c]⟩ tk')) { s with heap := h', toks := tk }) :
  wpAny (model prog w) A (pyNext (.ref it)) Q E s := by
 obtain ⟨o, ho, hcl, hd⟩ := id hit
 have hs : sizeLine = 16777216 := sizeLine_eq
 have hi : i < x.cps.size := (Array.getElem?_eq_some_iff.mp hc).1
 have hi' : i < x.length := hi
 unfold pyNext
 refine wpAny_bind (wpAny_attempt (wpAny_callSpecial?_slot (name := Str.ofString "__next__") hit.typeIs RV.slot_next
  (wpAny_call_entry RV.slot_next hit.typeIs RV.entry_next ?_ (RV.acu _))))
 unfold Builtin.«reversed.__next__»
 refine wpAny_bind (wpAny_of_eq (a := (Value.ref it, [])) rfl ?_)
 try dsimp only
 refine wpAny_bind (wpAny_field ho hd (x := .str x t) rfl ?_)
 refine wpAny_bind (wpAny_field ho hd (x := rawInt (i : Int)) rfl ?_)
 show wpAny _ _ (if (i : Int) < 0 then _ else _) _ _ s
 rw [if_neg (by omega)]
 refine wpAny_bind (wpAny_specialOf (typeIs_str _ _ _) F.slot_str_getitem.lookup ?_)
 simp only [Option.isNone_some, Bool.false_eq_true, if_false]
 refine wpAny_bind (wpAny_mkInt ?_)
 have e1 : (seqIndex? (i : Int) x.length).bind (x.cps[·]?) = some c := by
  have e2 : seqIndex? (i : Int) x.length = some i := by
   unfold seqIndex?
   have h0 : ¬ (i : Int) < 0 := by omega
   simp only [h0, if_false]
   simp
   omega
  rw [e2]
  exact hc
 refine wpAny_bind (wpAny_attempt (PySem.P.getItem_str (c := c) (by simp; omega) e1 ?_))
 dsimp only
 refine wpAny_bind (wpAny_field ho hd (x := rawInt (i : Int)) rfl ?_)
 show wpAny _ _ (setField (.ref it) 1 (rawInt ((i : Int) - 1)) >>= _) _ _ _
 refine wpAny_bind (wpAny_setField ho hd (by simp) ?_)
 refine wpAny_pure ⟨_, rfl, wpAny_pure (hQ _ _ _ ?_ (Heap.SameBut.update ..))⟩
 exact ⟨_, Heap.get?_update_self _ ho (Obj.isFreed_of_fields (Obj.data_mapFields hd _)), (Obj.cls_mapFields ..).trans hcl, by
  rw [Obj.data_mapFields hd]; simp⟩
theorem next_rev_end {it : Addr} {x : Str} {t : Tok} {Q : Option Value → Shared → Prop} (hh : A.handled = none) (hit : s.heap.a6q it x t (-1))
  (hQ : ∀ h', Heap.ExtBut it s.heap h' → Q none { s with heap := h' }) : wpAny (model prog w) A (pyNext (.ref it)) Q E s := by
 obtain ⟨o, ho, hcl, hd⟩ := id hit
 unfold pyNext
 refine wpAny_bind (wpAny_attempt (wpAny_callSpecial?_slot (name := Str.ofString "__next__") hit.typeIs RV.slot_next
  (wpAny_call_entry RV.slot_next hit.typeIs RV.entry_next ?_ (RV.acu _))))
 unfold Builtin.«reversed.__next__»
 refine wpAny_bind (wpAny_of_eq (a := (Value.ref it, [])) rfl ?_)
 try dsimp only
 refine wpAny_bind (wpAny_field ho hd (x := .str x t) rfl ?_)
 refine wpAny_bind (wpAny_field ho hd (x := rawInt (-1)) rfl ?_)
 show wpAny _ _ (if (-1 : Int) < 0 then _ else _) _ _ s
 rw [if_pos (by decide)]
 refine wpAny_bind (wpAny_rule ?_)
 refine wpAny_bind ?_
 show wpAny _ _ (setField (.ref it) 1 (rawInt (-1)) >>= fun _ => setField (.ref it) 0 .none) _ _ _
 refine wpAny_bind (wpAny_setField ho hd (by simp) ?_)
 refine wpAny_setField (Heap.get?_update_self _ ho (Obj.isFreed_of_fields (Obj.data_mapFields hd _))) (Obj.data_mapFields hd _) (by simp) ?_
 refine wpAny_bind ?_
 show wpAny _ _ (newExc (.type "StopIteration") [] >>= _) _ _ _
 refine wpAny_bind ?_
 simp only [newExc, newTuple]
 refine wpAny_bind (wpAny_newObj_type ?_ (by size_fits))
 refine wpAny_bind (m := firstArgMember _ _) (wpAny_of_eq (a := Value.none) (by first | rfl | (simp only [firstArgMember]; rfl)) ?_)
 refine wpAny_newObj_type ?_ (by size_fits)
 simp only [raiseNew]
 refine wpAny_bind (wpAny_handled ?_)
 first | rw [show A.in1.handled = none from hh] | rw [hh]
 refine wpAny_bind (wpAny_pure (wpAny_throw ?_))
 refine wpAny_bind (wpAny_isInstance (T := "StopIteration") (b := true) ⟨_, Heap.get?_push_size _ rfl, rfl⟩ isSubtype_stop ?_)
 refine wpAny_pure (hQ _ ((Heap.ExtBut.push ?_ _).push _))
 exact ((Heap.SameBut.update ..).trans (Heap.SameBut.update ..)).extBut
theorem iter_rev {it : Addr} {x : Str} {t : Tok} {i : Int} {Q : Value → Shared → Prop} (hit : s.heap.a6q it x t i) (h : Q (.ref it) s) : wpAny (model prog w) A (pyIter (.ref it)) Q E s := by
 refine wpAny_pyIter_slot hit.typeIs RV.slot_iter (wpAny_call_entry RV.slot_iter hit.typeIs RV.entry_iter ?_ (RV.args_iter_1 _))
 show wpAny _ _ (ret (.ref it)) _ _ s
 exact wpAny_pure ⟨_, rfl, "reversed", _, hit.typeIs, RV.slot_next.lookup, h⟩
end
end PySem
namespace L2
open PySem PySem.Spec PyProof.Rows
def Itv (x : Str) : It := ⟨fun i _ => i < x.cps.size, fun i H v H' => H' = H ∧ ∃ c, x.cps[x.cps.size - 1 - i]? = some c ∧ v = .str ⟨#[c]⟩, fun i _ => x.cps.size ≤ i⟩
theorem a4o.rev {x : Str} : a4o (Itv x) (sgV x).reverse (fun _ => True) :=
 ⟨fun i H _ hi => by rw [List.length_reverse, a2s] at hi; exact hi, fun i H v H' _ hi y => by
  obtain ⟨e, c, hc, rfl⟩ := y
  refine ⟨e, ?_⟩
  rw [List.length_reverse] at hi
  rw [List.getElem?_reverse hi, a2s]
  unfold sgV
  rw [List.getElem?_map, Array.getElem?_toList, hc]
  rfl, fun i H _ hi => by rw [List.length_reverse, a2s] at hi; exact hi⟩
theorem turn_rev {P : Program} {w : World} {K : PySem.W.Frag} {tg : Expr} (it : Addr) (x : Str) (t : Tok) (hx : x.length ≤ sizeLine) :
  Turn P w K tg (Itv x) [it] it (fun i h => i ≤ x.cps.size ∧ h.a6q it x t ((x.cps.size : Int) - 1 - (i : Int))) where
 mem := by simp
 obj := fun i h st b hb => by
  have e : b = it := by simpa using hb
  subst e
  obtain ⟨_, o, e, c, d⟩ := st
  exact ⟨o, e, fun v z => by rw [d] at z; cases z⟩
 keep := fun i h h' st k => let ⟨l, o, e, c, d⟩ := st; ⟨l, o, k it (by simp) o e, c, d⟩
 item := by
  intro X hP hw hK hc i pins s σ H E I hf st hg
  subst hP hw hK
  obtain ⟨f0, f1, f2, f3, f4, f5⟩ := hf it (by simp)
  have hlt : i < x.cps.size := hg
  obtain ⟨_, st⟩ := st
  have e : (x.cps.size : Int) - 1 - (i : Int) = ((x.cps.size - 1 - i : Nat) : Int) := by omega
  rw [e] at st
  have hx2 : x.cps[x.cps.size - 1 - i]? = some (x.cps[x.cps.size - 1 - i]'(by omega)) := Array.getElem?_eq_getElem (by omega)
  refine next_rev_item hx st hx2 fun h' tk tk' st' sb => ?_
  have I1 : Inv X pins σ H { s with heap := h', toks := tk } := I.turned (fun b o hb e => (sb.2 b hb).trans e) f0 f1 f3 f4 f5
  have e2 : ((x.cps.size - 1 - i : Nat) : Int) - 1 = (x.cps.size : Int) - 1 - ((i + 1 : Nat) : Int) := by omega
  rw [e2] at st'
  obtain ⟨o, eo, c, d⟩ := id st'
  exact ⟨_, rfl, go_of (s := { s with heap := h', toks := tk }) eo c d (by decide) ⟨.str ⟨#[_]⟩, H, I1, ⟨_, rfl⟩, ⟨rfl, _, hx2, rfl⟩, ⟨hlt, st'⟩, fun b hb => (hf b hb).1⟩⟩
 done := by
  intro X hP hw hK hc i pins s σ H E I hf st hg
  subst hP hw hK
  obtain ⟨f0, f1, f2, f3, f4, f5⟩ := hf it (by simp)
  have hle : x.cps.size ≤ i := hg
  obtain ⟨hi, st⟩ := st
  have e : (x.cps.size : Int) - 1 - (i : Int) = -1 := by omega
  rw [e] at st
  exact next_rev_end (I.ok.hd hc) st fun h' eb => ⟨rfl, I.turned (t' := s.toks) (fun b o hb e => eb b o hb e) f0 f1 f3 f4 f5⟩
 self := fun _ _ _ _ _ st h => iter_rev st.2 h
def iRev (ta : TA) : TI := fun σ H R => ta σ H fun vs H1 => ∃ x, vs = [.str x] ∧ x.length ≤ sizeLine ∧ R (Itv x) H1
theorem pi_rev {X : Cx} {tg a : Expr} {ta : TA} {p pos : Pos} (hg : Gl X "reversed") (hm : X.mg "reversed" = none) (ha : PA X [a] ta) (hs : starEach [a] X.env = [(false, eval a X.env)] := by rfl) : PI X tg (.Call (.Name "reversed" p) [a] [] pos) (iRev ta) := by
 intro pins s σ H R I h
 refine Call_ (aaf I hg hm boot_reversed (PyProof.Rows.callWith_type1 (thn (ha pos pins s σ H _ I h) fun us s1 ⟨vs, H1, I1, r1, q1⟩ => ?_) hs rfl))
 obtain ⟨x, e, hx, q⟩ := q1
 subst e
 obtain ⟨u, rfl, ru⟩ := vals1 r1
 obtain ⟨t, rfl⟩ := ru
 refine call_rev_str hx fun tk => ?_
 have st : ({ s1 with heap := s1.heap.push { cls := .type "reversed", data := .fields #[.str x t, rawInt ((x.length : Int) - 1)] }, toks := tk } : Shared).heap.a6q s1.heap.objs.size x t ((x.length : Int) - 1) := ⟨_, Heap.get?_push_size _ rfl, rfl, rfl⟩
 refine iter_rev st ?_
 refine ⟨s1.heap.objs.size, [s1.heap.objs.size], _, _, H1, rfl, I1.kept (t' := tk) fun b o e => Heap.get?_push_of_some _ e, turn_rev _ x t hx, ⟨Nat.zero_le _, ?_⟩, fun b hb => ?_, q⟩
 ·have e : (x.cps.size : Int) - 1 - ((0 : Nat) : Int) = (x.length : Int) - 1 := by show (x.cps.size : Int) - 1 - ((0 : Nat) : Int) = (x.cps.size : Int) - 1; omega
  rw [e]; exact st
 ·have e : b = s1.heap.objs.size := by simpa using hb
  subst e
  exact I1.fpOk (Nat.le_refl _) (I1.hok.fresh (Nat.le_refl _))
structure LcS (os scope : Scope) (x : Str) (ys : List Str) : Prop where
 kind : scope.kind = .function
 nocell : ∀ y ∈ scope.names, y.2 ≠ .cell
 locs : ∀ y ∈ scope.names, y.2 = .local → scope.names.lookup y.1 = some .local
 own : scope.names.lookup x = some .local
 seen : ∀ y ∈ ys, scope.names.lookup y = some .free
 out : ∀ y ∈ scope.names, y.2 = .free → os.names.lookup y.1 = some .cell ∨ os.names.lookup y.1 = some .free
 nd : (x :: ys).Nodup
theorem LcS.to {X : Cx} {os scope : Scope} {x : Str} {ys : List Str} {js : List Nat} (h : LcS os scope x ys) (e : X.env.scope = os) (p : js.map (fun j => X.N[j]?) = ys.map some) : a6x X scope x ys js :=
 ⟨h.kind, h.nocell, h.locs, h.own, h.seen, fun y hy hf => by
  have q := h.out y hy hf
  rw [← e] at q
  exact q, p, h.nd⟩
theorem lc_on {J : It} {xs : List V} {Ok : Hp → Prop} (hJ : a4o J xs Ok) {tc : TT} {te : TE} {js : List Nat} {σ : St} {H : Hp} {Q : VK} (f : V → V) (hok : Ok H) (hz : xs.length ≤ sizeLine)
  (he : ∀ (i : Nat) x Q', xs[i]? = some x → Q' (f x) H → tc (some x :: a3f σ js) H fun b H3 => if b = true then te (some x :: a3f σ js) H3 Q' else False)
  (mono : ∀ σ' H' (R R' : Bool → Hp → Prop), (∀ b h, R b h → R' b h) → tc σ' H' R → tc σ' H' R')
  (q : ∀ p, H p = none → Q (.ref p) (upd H p (.lst (xs.map f)))) : LcW J tc te js σ Q H := by
 refine ⟨fun i m acc H' => H' = H ∧ i ≤ xs.length ∧ m = xs.length - i ∧ acc = (xs.take i).map f, ⟨xs.length, rfl, Nat.zero_le _, by simp, by simp⟩, ?_⟩
 rintro i m acc H' ⟨rfl, hi, rfl, rfl⟩
 have hlen : ((xs.take i).map f).length = i := by simp; omega
 refine ⟨by omega, ?_⟩
 by_cases hlt : i < xs.length
 ·refine .inr ⟨hJ.go i _ hok hlt, by omega, fun x H'' y => ?_⟩
  obtain ⟨e, hx⟩ := hJ.yld i _ x H'' hok hlt y
  subst e
  refine mono _ _ _ _ (fun b h z => ?_) (he i x (fun v H4 => ∃ m', m' < xs.length - i ∧ (H4 = H'' ∧ i + 1 ≤ xs.length ∧ m' = xs.length - (i + 1) ∧ (xs.take i).map f ++ [v] = (xs.take (i + 1)).map f)) hx ⟨xs.length - (i + 1), by omega, rfl, hlt, rfl, ?_⟩)
  ·cases b with
   | true => exact z
   | false => exact z.elim
  ·have e : xs.take (i + 1) = xs.take i ++ [x] := by
    rw [List.take_add_one, hx]
    rfl
   rw [e, List.map_append]
   rfl
 ·have e : i = xs.length := by omega
  subst e
  refine .inl ⟨hJ.stop _ _ hok (Nat.le_refl _), fun p hp => ?_⟩
  rw [List.take_length]
  exact q p hp
theorem lc_y {J : It} {xs : List V} {Ok : Hp → Prop} (hJ : a4o J xs Ok) {te : TE} {js : List Nat} {σ : St} {H : Hp} {Q : VK} (f : V → V) (hok : Ok H) (hz : xs.length ≤ sizeLine)
  (he : ∀ (i : Nat) x Q', xs[i]? = some x → Q' (f x) H → te (some x :: a3f σ js) H Q') (q : ∀ p, H p = none → Q (.ref p) (upd H p (.lst (xs.map f)))) : LcW J tYes te js σ Q H :=
 lc_on hJ f hok hz (fun i x Q' hx hq => by
  show if true = true then te (some x :: a3f σ js) H Q' else False
  rw [if_pos rfl]
  exact he i x Q' hx hq) (fun _ _ _ _ hR z => hR _ _ z) q
theorem bt_int : bootBuiltins "int" = some (.type "int") := by decide +kernel
theorem bt_str : bootBuiltins "str" = some (.type "str") := by decide +kernel
theorem bt_bool : bootBuiltins "bool" = some (.type "bool") := by decide +kernel
theorem ab4 : bootBuiltins "tuple" = some (.type "tuple") := by decide +kernel
theorem bt_list : bootBuiltins "list" = some (.type "list") := by decide +kernel
theorem a3u : bootBuiltins "len" = some (.builtin "len") := by decide +kernel
theorem bt_all : bootBuiltins "all" = some (.builtin "all") := by decide +kernel
theorem a0t : bootBuiltins "isinstance" = some (.builtin "isinstance") := by decide +kernel
theorem bt_abs : bootBuiltins "abs" = some (.builtin "abs") := by decide +kernel
section
variable {X : Cx}
def rAddS : R2 := fun x y H Q => ∃ i j, x = .str i ∧ y = .str j ∧ i.length + j.length ≤ sizeLine ∧ Q (.str (i ++ j)) H
def rPlus : R2 := fun x y H Q => rI0 (fun i j => .int (i + j)) x y H Q ∨ rAddS x y H Q
theorem a2o : OpR X (binaryOp .Add) rPlus := OpR.or op_add a0s
def rEqq (K : PySem.W.Frag) : R2 := fun x y H Q => rEq x y H Q ∨ rEqD K false x y H Q
theorem op_eqq (hu : X.A.units + 64 < cLine) : OpR X (compareOp .Eq) (rEqq X.K) := OpR.or a6f (op_eqD hu)
def rNee (K : PySem.W.Frag) : R2 := fun x y H Q => rNe x y H Q ∨ rEqD K true x y H Q
theorem op_nee (hu : X.A.units + 64 < cLine) : OpR X (compareOp .NotEq) (rNee X.K) := OpR.or op_ne (op_neD hu)
def rInS : R2 := fun x y H Q => ∃ i j, x = .str i ∧ y = .str j ∧ Q (.bl (!(Builtin.Str.occurrences j i 0 j.length 1).isEmpty)) H
def rNotInS : R2 := fun x y H Q => ∃ i j, x = .str i ∧ y = .str j ∧ Q (.bl (!(!(Builtin.Str.occurrences j i 0 j.length 1).isEmpty))) H
def rInn (K : PySem.W.Frag) : R2 := fun x y H Q => rIn K false x y H Q ∨ rInS x y H Q
theorem op_inn : OpR X (compareOp .In) (rInn X.K) := OpR.or op_in_seq ac3
def rNotInn (K : PySem.W.Frag) : R2 := fun x y H Q => rIn K true x y H Q ∨ rNotInS x y H Q
theorem op_notinn : OpR X (compareOp .NotIn) (rNotInn X.K) := OpR.or op_notIn_seq op_notIn_str
def rIxA (K : PySem.W.Frag) (P : Params) : R2 := fun x y H Q => rIx K x y H Q ∨ rIxM K P x y H Q
theorem ix_any : IxR X (rIxA X.K X.w.params) := IxR.or ix_seq ix_mod
end
section
variable {X : Cx} {K : PySem.W.Frag} {Pm : Params}
theorem a6t (hu : X.A.units + 64 < cLine) (e : X.K = K) : OpR X (compareOp .Eq) (rEqq K) := e ▸ op_eqq hu
theorem a7t (hu : X.A.units + 64 < cLine) (e : X.K = K) : OpR X (compareOp .NotEq) (rNee K) := e ▸ op_nee hu
theorem op_innK (e : X.K = K) : OpR X (compareOp .In) (rInn K) := e ▸ op_inn
theorem a9v (e : X.K = K) : OpR X (compareOp .NotIn) (rNotInn K) := e ▸ op_notinn
theorem a1g (e : X.K = K) (e2 : X.w.params = Pm) : IxR X (rIxA K Pm) := e ▸ e2 ▸ ix_any
theorem a3w (e : X.K = K) : aaw X (.builtin "isinstance") (rIsi K) := e ▸ call_isi
def rLen (K : PySem.W.Frag) : List V → Hp → VK → Prop := fun xs H Q => ∃ x n, xs = [x] ∧ LenV K x H n ∧ Q (.int n) H
theorem a1c (e : X.K = K) : aaw X (.builtin "len") (rLen K) := e ▸ call_len
theorem a80 (hc : X.calm = true) (e : X.K = K) : aaw X (.builtin "all") (rTruths K fun bs => bs.all id) := e ▸ call_all hc
end
structure Callee (P : Program) (w : World) (K : PySem.W.Frag) (mg : Str → Option Value) (base : Heap) (k : Nat) (x : Str) (ps : List Str) (sp : Sp) : Prop where
 ex : ∃ f fd, a1u P w K mg base CX0 k f fd ps sp ∧ mg x = some (.ref f) ∧ PySem.W.keepIn K (.ref f) = true ∧ Binds K fd ps []
theorem Callee.mono {P : Program} {w : World} {K : PySem.W.Frag} {mg : Str → Option Value} {base : Heap} {j k : Nat} {x : Str} {ps : List Str} {sp : Sp} (c : Callee P w K mg base j x ps sp) (h : j ≤ k) : Callee P w K mg base k x ps sp := by
 obtain ⟨f, fd, F, m, kp, b⟩ := c.ex
 exact ⟨f, fd, F.mono h, m, kp, b⟩
theorem a05 {X : Cx} {k : Nat} {x : Str} {ps : List Str} {sp : Sp} {e : Expr} {es : List Expr} {t : TA} {p pos : Pos} (c : Callee X.prog X.w X.K X.mg X.base k x ps sp) (hr : aa3 k X.A) (hg : Gl X x) (ha : PA X (e :: es) t)
  (hdb : (x == ("__debug__" : Str)) = false := by decide) (he : starEach (e :: es) X.env = (false, eval e X.env) :: starEach es X.env := by rfl) (hpl : (backTo pos (starEach es X.env)).any (·.1) = false := by rfl) :
  PE X (.Call (.Name x p) (e :: es) [] pos) (tCall sp [] E0 t) := by
 obtain ⟨f, fd, F, m, kp, b⟩ := c.ex
 exact pe_call F hr hg m kp b .nil (fun _ _ _ _ _ _ _ h => h.elim) ha hdb he hpl
theorem a09 {P : Program} {w : World} {K : PySem.W.Frag} {mg : Str → Option Value} {base : Heap} {k : Nat} {x qual : Str} {st : Stmt} {f : Addr} {fd : FuncData} {ps : List Str} {sp : Sp} (F : Fun K x qual st f fd) (G : a1u P w K mg base CX0 k f fd ps sp) (m : mg x = some (.ref f))
  (h : ∀ (kV doc pm : Value) (an : Option Addr) (cdv ct : Value) (us : List Value), us.length = ps.length → bindArgs (PySem.W.fnOf x qual (a0b st) (a0a st) (a03 st) .none kV doc pm an cdv ct) ⟨us, []⟩ = pure (ps.zip us)) : Callee P w K mg base k x ps sp :=
 ⟨f, fd, G, m, F.kp, F.binds h⟩
end L2
namespace L2
open PySem PySem.Spec PyProof.Rows
section
variable {M : Model} {A : Around} {E : Value → Shared → Prop} {s : Shared} {env : Env} {outer : List Env} {base : Heap} {L e : Addr} {oe : Obj} {vs : Array Value}
end
end L2
namespace L2
open PySem PySem.Spec PyProof.Rows
section
variable {CX : CXT} {P : Program} {w : World} {K : PySem.W.Frag} {mg : Str → Option Value} {base : Heap} {N : List Str} {qual : Str} {scope : Scope} {f : Addr} {cd : Value} {A : Around} {outer : List Env} {s s1 : Shared} {H H1 : Hp} {E : XK}
 {pins : List (Addr × Obj)} {σ : St} {e : Addr} {C : Value} {T0 : Option Addr}
end
end L2
namespace L2
open PySem PySem.Spec PyProof.Rows
section
variable {P : Program} {w : World} {K : PySem.W.Frag} {mg : Str → Option Value} {base : Heap} {N : List Str} {qual : Str} {scope : Scope} {f : Addr} {cd : Value} {A : Around} {outer : List Env} {s : Shared} {H : Hp} {E : XK}
end
section
variable {X : Cx} {pins : List (Addr × Obj)} {σ : St} {H : Hp} {s : Shared}
end
end L2
namespace L2
open PySem PySem.Spec PyProof.Rows
section
variable {prog : Program} {w : World} {A : Around} {E : Value → Shared → Prop} {s : Shared} {K : PySem.W.Frag} {x C : Addr} {ox : Obj} {tk : Tok}
end
section
variable {X : Cx}
end
end L2
namespace L2
open PySem PySem.Spec PyProof.Rows
section
variable {prog : Program} {w : World} {A : Around} {E : Value → Shared → Prop} {s : Shared}
end
end L2
namespace L2
open PySem PySem.Spec PyProof.Rows
def rSlS : V → Option Int → Option Int → Hp → VK → Prop := fun x lo hi H Q => ∃ y, x = .str y ∧ y.length ≤ sizeLine ∧ Q (.str (Txt.slice y lo hi)) H
theorem part_of {v : Value} {o : Option Int} (h : IsPart v o) : ∃ l : Option (Int × Tok), v = partValue l ∧ l.map (·.1) = o := by
 cases h with
 | none => exact ⟨none, rfl, rfl⟩
 | int i t => exact ⟨some (i, t), rfl, rfl⟩
theorem a8b {X : Cx} : SlR X rSlS := by
 intro pins s σ H x v vl vu lo hi sl Q I rx hs pl pu h
 obtain ⟨y, rfl, hz, q⟩ := h
 obtain ⟨t, rfl⟩ := rx
 obtain ⟨l, rfl, rfl⟩ := part_of pl
 obtain ⟨u, rfl, rfl⟩ := part_of pu
 obtain ⟨o, ho, hc, hd⟩ := hs
 refine ⟨"str", _, F.slot_str_getitem.lookup, typeIs_str _ _ _, wpAny_getItem_str_slice (l := l) (u := u) (st := none) ⟨o, ho, hc, hd⟩ rfl ?_⟩
 exact post_val_or_str ⟨Nat.le_trans (Txt.slice_le y _ _) hz, fun t' k => ⟨.str (Txt.slice y (l.map (·.1)) (u.map (·.1))), H, I.tok k, ⟨t', rfl⟩, q⟩⟩
def rSl (K : PySem.W.Frag) : V → Option Int → Option Int → Hp → VK → Prop := fun x lo hi H Q => rSlS x lo hi H Q ∨ rSlL K x lo hi H Q
theorem a7g {X : Cx} {K : PySem.W.Frag} (e : X.K = K) : SlR X (rSl K) := e ▸ SlR.or a8b sl_list
open Builtin Builtin.Str in
theorem cut_hi (l : Option Int) {b len : Nat} (h : len ≤ b) : strSliceIndices l (some (b : Int)) 1 len = strSliceIndices l (some (len : Int)) 1 len := by
 have a : ¬ ((len : Int) < 0) := by omega
 have c : ¬ ((b : Int) < 0) := by omega
 have e : min (b : Int) (len : Int) = min (len : Int) (len : Int) := by omega
 simp only [strSliceIndices, a, c, if_false, e, show ((1 : Int) > 0) = True from by simp, if_true]
theorem cut_mid (x : Str) {a m : Nat} (ha : a ≤ x.length) : Txt.slice x (some (a : Int)) (some ((a : Int) + (m : Int))) = ⟨((x.cps.toList.drop a).take m).toArray⟩ := by
 have e0 : (a : Int) + (m : Int) = ((a + m : Nat) : Int) := by omega
 rw [e0]
 by_cases h : a + m ≤ x.length
 ·have z := StrLaws.sliceText_nat x (a := a) (b := a + m) (by omega) h
  rw [show a + m - a = m by omega] at z
  exact z
 ·have z := StrLaws.sliceText_nat x (a := a) (b := x.length) ha (Nat.le_refl _)
  have e : Txt.slice x (some (a : Int)) (some ((a + m : Nat) : Int)) = Txt.slice x (some (a : Int)) (some (x.length : Int)) := by
   unfold Txt.slice
   rw [cut_hi _ (show x.length ≤ a + m by omega)]
  rw [e]
  refine Eq.trans z ?_
  have l : (x.cps.toList.drop a).length ≤ x.length - a := by rw [List.length_drop]; show x.cps.toList.length - a ≤ x.cps.size - a; rw [Array.length_toList]; exact Nat.le_refl _
  rw [List.take_of_length_le l, List.take_of_length_le (Nat.le_trans l (by omega))]
theorem cut_to (x : Str) {a : Nat} (ha : a ≤ x.length) : Txt.slice x none (some (a : Int)) = ⟨(x.cps.toList.take a).toArray⟩ := by
 have z := StrLaws.sliceText_nat x (a := 0) (b := a) (Nat.zero_le _) ha
 have e : Txt.slice x none (some (a : Int)) = Txt.slice x (some ((0 : Nat) : Int)) (some (a : Int)) := by
  unfold Txt.slice
  rw [StrLaws.sliceIdx_none_lo]
  rfl
 rw [e]
 exact z
theorem cut_from (x : Str) {a : Nat} (ha : a ≤ x.length) : Txt.slice x (some (a : Int)) none = ⟨(x.cps.toList.drop a).toArray⟩ := by
 have z := StrLaws.sliceText_nat x (a := a) (b := x.length) ha (Nat.le_refl _)
 have e : Txt.slice x (some (a : Int)) none = Txt.slice x (some (a : Int)) (some (x.length : Int)) := by
  unfold Txt.slice
  rw [StrLaws.sliceIdx_none_hi]
 rw [e]
 refine Eq.trans z ?_
 have l : (x.cps.toList.drop a).length ≤ x.length - a := by rw [List.length_drop]; show x.cps.toList.length - a ≤ x.cps.size - a; rw [Array.length_toList]; exact Nat.le_refl _
 rw [List.take_of_length_le l]
end L2
namespace L2
open PySem PySem.Spec PyProof.Rows
end L2
namespace L2
open PySem PySem.Spec PyProof.Rows
theorem lc_grow {J : It} {xs : List V} {Ok : Hp → Prop} (hJ : a4o J xs Ok) {te : TE} {js : List Nat} {σ : St} {H : Hp} {Q : VK} (f : V → V) (hok : ∀ H', a0r H H' → Ok H') (hz : xs.length ≤ sizeLine)
  (he : ∀ (i : Nat) x H' Q', xs[i]? = some x → a0r H H' → (∀ H'', a0r H' H'' → Q' (f x) H'') → te (some x :: a3f σ js) H' Q')
  (q : ∀ H' p, a0r H H' → H' p = none → Q (.ref p) (upd H' p (.lst (xs.map f)))) : LcW J tYes te js σ Q H := by
 refine ⟨fun i m acc H' => a0r H H' ∧ i ≤ xs.length ∧ m = xs.length - i ∧ acc = (xs.take i).map f, ⟨xs.length, a0r.refl _, Nat.zero_le _, by simp, by simp⟩, ?_⟩
 rintro i m acc H' ⟨hs, hi, rfl, rfl⟩
 have hlen : ((xs.take i).map f).length = i := by simp; omega
 refine ⟨by omega, ?_⟩
 by_cases hlt : i < xs.length
 ·refine .inr ⟨hJ.go i _ (hok _ hs) hlt, by omega, fun x H'' y => ?_⟩
  obtain ⟨e, hx⟩ := hJ.yld i _ x H'' (hok _ hs) hlt y
  subst e
  unfold tYes
  dsimp only
  rw [if_pos rfl]
  refine he i x H'' _ hx hs fun H4 s4 => ⟨xs.length - (i + 1), by omega, hs.trans s4, hlt, rfl, ?_⟩
  have e : xs.take (i + 1) = xs.take i ++ [x] := by
   rw [List.take_add_one, hx]
   rfl
  rw [e, List.map_append]
  rfl
 ·have e : i = xs.length := by omega
  subst e
  refine .inl ⟨hJ.stop _ _ (hok _ hs) (Nat.le_refl _), fun p hp => ?_⟩
  rw [List.take_length]
  exact q H' p hs hp
end L2
namespace TW
abbrev Fr := Int × Int
def mv (c : Nat) (f : Fr) : Fr :=
 if c = 116 then (f.1 + f.2, f.2) else if c = 117 then (f.1 - f.2, f.2)
 else if 0 < f.1 then (-f.2, f.1) else if f.1 < 0 then (f.2, -f.1) else (1, 0)
def walk (w : List Nat) (f : Fr) : Fr := w.foldl (fun f c => mv c f) f
def exch (c : Nat) : Nat := if c = 116 then 117 else if c = 117 then 116 else 114
def bk (w : List Nat) : List Nat := w.reverse.map exch
def IsL (c : Nat) : Prop := c = 116 ∨ c = 117 ∨ c = 114
def IsW (w : List Nat) : Prop := ∀ c ∈ w, IsL c
def IsF (f : Fr) : Prop := (f.1 = 1 ∧ f.2 = 0) ∨ (0 < f.2 ∧ Int.gcd f.1 f.2 = 1)
theorem a5b (c : Nat) (w : List Nat) (f : Fr) : walk (c :: w) f = walk w (mv c f) := rfl
theorem a1d (a b : List Nat) (f : Fr) : walk (a ++ b) f = walk b (walk a f) := by
 unfold walk; rw [List.foldl_append]
theorem ab8 (a : List Nat) (c : Nat) (f : Fr) : walk (a ++ [c]) f = mv c (walk a f) := by
 rw [a1d]; rfl
theorem IsW.nil : IsW [] := fun _ h => nomatch h
theorem IsW.cons {c : Nat} {w : List Nat} (h : IsL c) (hw : IsW w) : IsW (c :: w) := fun d hd => by
 rcases List.mem_cons.mp hd with rfl | hd
 ·exact h
 ·exact hw d hd
theorem IsW.append {a b : List Nat} (ha : IsW a) (hb : IsW b) : IsW (a ++ b) := fun d hd => by
 rcases List.mem_append.mp hd with hd | hd
 ·exact ha d hd
 ·exact hb d hd
theorem IsW.tail {c : Nat} {w : List Nat} (h : IsW (c :: w)) : IsW w := fun d hd => h d (List.mem_cons_of_mem _ hd)
theorem IsW.head {c : Nat} {w : List Nat} (h : IsW (c :: w)) : IsL c := h c List.mem_cons_self
theorem exch_L (c : Nat) : IsL (exch c) := by
 unfold exch IsL
 by_cases h1 : c = 116
 ·rw [if_pos h1]; exact .inr (.inl rfl)
 ·rw [if_neg h1]
  by_cases h2 : c = 117
  ·rw [if_pos h2]; exact .inl rfl
  ·rw [if_neg h2]; exact .inr (.inr rfl)
theorem bk_W (w : List Nat) : IsW (bk w) := fun d hd => by
 unfold bk at hd
 obtain ⟨c, _, rfl⟩ := List.mem_map.mp hd
 exact exch_L c
theorem exch_exch {c : Nat} (h : IsL c) : exch (exch c) = c := by
 rcases h with rfl | rfl | rfl <;> rfl
theorem bk_cons (c : Nat) (w : List Nat) : bk (c :: w) = bk w ++ [exch c] := by
 unfold bk; rw [List.reverse_cons, List.map_append]; rfl
theorem bk_snoc (c : Nat) (w : List Nat) : bk (w ++ [c]) = exch c :: bk w := by
 unfold bk; rw [List.reverse_append]; rfl
theorem bk_append (a b : List Nat) : bk (a ++ b) = bk b ++ bk a := by
 unfold bk; rw [List.reverse_append, List.map_append]
theorem bk_bk : ∀ {w : List Nat}, IsW w → bk (bk w) = w
 | [], _ => rfl
 | c :: w, h => by rw [bk_cons, bk_snoc, exch_exch h.head, bk_bk h.tail]
theorem a2r (w : List Nat) : (bk w).length = w.length := by unfold bk; simp
theorem gcd_add (a b : Int) : Int.gcd (a + b) b = Int.gcd a b := by simp
theorem gcd_sub (a b : Int) : Int.gcd (a - b) b = Int.gcd a b := by simp
theorem mv_F {c : Nat} {f : Fr} (h : IsF f) : IsF (mv c f) := by
 obtain ⟨a, b⟩ := f
 unfold mv IsF at *
 dsimp only at h ⊢
 rcases h with ⟨rfl, rfl⟩ | ⟨hb, hg⟩
 ·repeat' split <;> simp
 ·by_cases h1 : c = 116
  ·rw [if_pos h1]; right; exact ⟨hb, by rw [gcd_add]; exact hg⟩
  ·rw [if_neg h1]
   by_cases h2 : c = 117
   ·rw [if_pos h2]; right; exact ⟨hb, by rw [gcd_sub]; exact hg⟩
   ·rw [if_neg h2]
    by_cases h3 : 0 < a
    ·rw [if_pos h3]; right; refine ⟨h3, ?_⟩
     show Int.gcd (-b) a = 1
     rw [Int.neg_gcd, Int.gcd_comm]; exact hg
    ·rw [if_neg h3]
     by_cases h4 : a < 0
     ·rw [if_pos h4]; right
      refine ⟨by show 0 < -a; omega, ?_⟩
      show Int.gcd b (-a) = 1
      rw [Int.gcd_neg, Int.gcd_comm]; exact hg
     ·rw [if_neg h4]; left; exact ⟨rfl, rfl⟩
theorem a2f : ∀ {w : List Nat} {f : Fr}, IsF f → IsF (walk w f)
 | [], _, h => h
 | _ :: w, _, h => by rw [a5b]; exact a2f (w := w) (mv_F h)
theorem a6v {c : Nat} {f : Fr} (hc : IsL c) (h : IsF f) : mv (exch c) (mv c f) = f := by
 obtain ⟨a, b⟩ := f
 rcases hc with rfl | rfl | rfl
 ·show ((a + b) - b, b) = (a, b); congr 1; omega
 ·show ((a - b) + b, b) = (a, b); congr 1; omega
 ·show mv 114 (mv 114 (a, b)) = (a, b)
  unfold mv IsF at *
  dsimp only at h ⊢
  rcases h with ⟨rfl, rfl⟩ | ⟨hb, hg⟩
  ·decide
  ·by_cases h3 : 0 < a
   ·have hb' : ¬ (0 < -b) := by omega
    have hb2 : -b < 0 := by omega
    simp [h3, hb]; omega
   ·by_cases h4 : a < 0
    ·simp [h3, h4, hb]
    ·have e : a = 0 := by omega
     subst e
     have : b = 1 := by simp at hg; omega
     subst this; decide
theorem a8k : ∀ {w : List Nat} {f : Fr}, IsW w → IsF f → walk (bk w) (walk w f) = f
 | [], _, _, _ => rfl
 | c :: w, f, hw, hf => by
  rw [bk_cons, ab8, a5b, a8k hw.tail (mv_F hf), a6v hw.head hf]
theorem ab7 : IsF (0, 1) := Or.inr ⟨by decide, by decide⟩
theorem F_end : IsF (1, 0) := Or.inl ⟨rfl, rfl⟩
theorem F_one : IsF (1, 1) := Or.inr ⟨by decide, by decide⟩
theorem gcd_turn {a b : Int} (ha : 0 ≤ a) (hb : 0 < b) : Int.gcd b (a % b) = Int.gcd a b := by
 rw [Int.gcd_comm b, Int.emod_def]; simp
end TW
namespace TW
theorem mv_t (a b : Int) : mv 116 (a, b) = (a + b, b) := rfl
theorem aca {a : Int} (b : Int) (h : 0 < a) : mv 114 (a, b) = (-b, a) := by
 show (if 0 < a then _ else _) = _
 rw [if_pos h]
theorem mvr_neg {a : Int} (b : Int) (h : a < 0) : mv 114 (a, b) = (b, -a) := by
 show (if 0 < a then _ else if a < 0 then _ else _) = _
 rw [if_neg (by omega), if_pos h]
def pcs : List (List Nat) := [[116, 117], [117, 116], [114, 114], [116, 114, 116, 114, 116, 114]]
theorem quiet_tr {a b : Int} (hb : 0 < b) (hg : Int.gcd a b = 1) : walk [116, 114, 116, 114, 116, 114] (a, b) = (a, b) := by
 show mv 114 (mv 116 (mv 114 (mv 116 (mv 114 (mv 116 (a, b)))))) = (a, b)
 rw [mv_t a b]
 rcases Int.lt_trichotomy (a + b) 0 with h | h | h
 ·rw [mvr_neg _ h, mv_t b (-(a + b)), show b + -(a + b) = -a by omega, aca _ (show 0 < -a by omega), mv_t (- -(a + b)) (-a), show - -(a + b) + -a = b by omega, aca _ hb, Int.neg_neg]
 ·have hb1 : b = 1 := by
   have e : a = -b := by omega
   rw [e, Int.neg_gcd, Int.gcd_self] at hg
   omega
  subst hb1
  have ha : a = -1 := by omega
  subst ha
  rfl
 ·rw [aca _ h, mv_t (-b) (a + b), show -b + (a + b) = a by omega]
  rcases Int.lt_trichotomy a 0 with k | k | k
  ·rw [mvr_neg _ k, mv_t (a + b) (-a), show a + b + -a = b by omega, aca _ hb, Int.neg_neg]
  ·subst k
   have hb1 : b = 1 := by
    rw [Int.gcd_comm, Int.gcd_zero_right] at hg
    omega
   subst hb1
   rfl
  ·rw [aca _ k, mv_t (-(a + b)) a, show -(a + b) + a = -b by omega, mvr_neg _ (show -b < 0 by omega), Int.neg_neg]
theorem a99 {p : List Nat} {f : Fr} (hp : p ∈ pcs) (hf : IsF f) : walk p f = f := by
 obtain ⟨a, b⟩ := f
 have e : p = [116, 117] ∨ p = [117, 116] ∨ p = [114, 114] ∨ p = [116, 114, 116, 114, 116, 114] := by simpa [pcs] using hp
 rcases e with rfl | rfl | rfl | rfl
 ·exact a6v (c := 116) (.inl rfl) hf
 ·exact a6v (c := 117) (.inr (.inl rfl)) hf
 ·exact a6v (c := 114) (.inr (.inr rfl)) hf
 ·rcases hf with ⟨h1, h2⟩ | ⟨h1, h2⟩
  ·cases (show a = 1 from h1)
   cases (show b = 0 from h2)
   rfl
  ·exact quiet_tr h1 h2
theorem pcs_W {p : List Nat} (hp : p ∈ pcs) : IsW p := by
 have e : p = [116, 117] ∨ p = [117, 116] ∨ p = [114, 114] ∨ p = [116, 114, 116, 114, 116, 114] := by simpa [pcs] using hp
 intro c hc
 unfold IsL
 rcases e with rfl | rfl | rfl | rfl <;> simp at hc <;> omega
theorem a8o {p : List Nat} (hp : p ∈ pcs) : p.length ≤ 6 ∧ 2 ≤ p.length := by
 have e : p = [116, 117] ∨ p = [117, 116] ∨ p = [114, 114] ∨ p = [116, 114, 116, 114, 116, 114] := by simpa [pcs] using hp
 rcases e with rfl | rfl | rfl | rfl <;> simp
def due (u : List Nat) (isIn : Bool) (i : Int) (p : List Nat) : Option (List Nat) :=
 if i < 0 ∨ (u.length : Int) < i then none
 else if isIn = true then some (u.take i.toNat ++ p ++ u.drop i.toNat)
 else if (u.drop i.toNat).take p.length = p then some (u.take i.toNat ++ u.drop (i.toNat + p.length)) else none
theorem acq {u p : List Nat} {b : Bool} {i : Int} (h : i < 0 ∨ (u.length : Int) < i) : due u b i p = none := by
 unfold due
 rw [if_pos h]
theorem due_in {u p : List Nat} {i : Int} (h0 : 0 ≤ i) (h1 : i ≤ u.length) : due u true i p = some (u.take i.toNat ++ p ++ u.drop i.toNat) := by
 unfold due
 rw [if_neg (by omega), if_pos rfl]
theorem due_out {u p : List Nat} {i : Int} (h0 : 0 ≤ i) (h1 : i ≤ u.length) : due u false i p = if (u.drop i.toNat).take p.length = p then some (u.take i.toNat ++ u.drop (i.toNat + p.length)) else none := by
 unfold due
 rw [if_neg (by omega), if_neg (by decide)]
theorem out_room {u p : List Nat} {i : Int} (h0 : 0 ≤ i) (h1 : i ≤ u.length) (e : (u.drop i.toNat).take p.length = p) : i + p.length ≤ u.length := by
 have l := congrArg List.length e
 rw [List.length_take, List.length_drop] at l
 omega
theorem due_len {u v p : List Nat} {b : Bool} {i : Int} (hp : p ∈ pcs) (h : due u b i p = some v) : v.length ≤ u.length + 6 := by
 have l := (a8o hp).1
 unfold due at h
 split at h
 ·cases h
 ·split at h
  ·cases h
   simp only [List.length_append, List.length_take, List.length_drop]
   omega
  ·split at h
   ·cases h
    simp only [List.length_append, List.length_take, List.length_drop]
    omega
   ·cases h
theorem due_walk {u v p : List Nat} {b : Bool} {i : Int} {f : Fr} (hf : IsF f) (hp : p ∈ pcs) (h : due u b i p = some v) : walk v f = walk u f := by
 unfold due at h
 split at h
 ·cases h
 ·split at h
  ·cases h
   rw [a1d, a1d, a99 hp (a2f hf), ← a1d, List.take_append_drop]
  ·split at h
   ·rename_i e
    cases h
    have e1 : u = u.take i.toNat ++ (p ++ u.drop (i.toNat + p.length)) := by
     have z := List.take_append_drop i.toNat u
     have z2 := List.take_append_drop p.length (u.drop i.toNat)
     rw [e, List.drop_drop] at z2
     rw [z2]
     exact z.symm
    have e2 : walk u f = walk (u.take i.toNat ++ (p ++ u.drop (i.toNat + p.length))) f := congrArg (fun x => walk x f) e1
    rw [e2, a1d, a1d, a1d, a99 hp (a2f hf)]
   ·cases h
end TW
namespace TX
open PySem L2 TW
def S (w : List Nat) : Str := ⟨w.toArray⟩
theorem a2l (a b : List Nat) : S a ++ S b = S (a ++ b) := by
 show (⟨a.toArray ++ b.toArray⟩ : Str) = ⟨(a ++ b).toArray⟩
 simp
theorem a1a (w : List Nat) : (S w).length = w.length := by show w.toArray.size = w.length; simp
theorem aav {a b : List Nat} (h : S a = S b) : a = b := by
 have q := congrArg (fun x : Str => x.cps.toList) h
 simpa [S] using q
theorem S_eq (a b : List Nat) : (S a = S b) ↔ a = b := ⟨aav, fun h => by rw [h]⟩
theorem sg_S (w : List Nat) : sgV (S w) = w.map fun c => V.str (S [c]) := by unfold sgV S; simp
theorem small {n : Nat} (h : n ≤ 1000) : n ≤ sizeLine := Nat.le_of_lt (small1000 h)
def fT (f : Fr) : HO := .tup [.int f.1, .int f.2]
def fD (f : Fr) : PyData := .tuple [.int f.1, .int f.2]
theorem a2d {K : PySem.W.Frag} {H : Hp} {p : Addr} {f : Fr} (h : H p = some (fT f)) : RdD K H (.ref p) (fD f) := by
 unfold fD RdD
 refine ⟨p, _, rfl, SqT.of h, ?_⟩
 unfold a8v
 refine ⟨_, _, rfl, by unfold RdD; rfl, ?_⟩
 unfold a8v
 refine ⟨_, _, rfl, by unfold RdD; rfl, ?_⟩
 unfold a8v
 rfl
theorem a1k (f : Fr) : (fD f).depth ≤ 60 := by
 unfold fD
 simp [PyData.depth, PyData.depthAll]
theorem a6o (f g : Fr) : PyData.eqv (fD f) (fD g) = decide (f = g) := by
 obtain ⟨a, b⟩ := f
 obtain ⟨c, d⟩ := g
 unfold fD
 simp only [PyData.eqv, PyData.eqvAll, Bool.and_true]
 rw [Bool.eq_iff_iff]
 simp
theorem a06 {H : Hp} {p : Addr} (h : H p = none) (o : HO) : a0r H (upd H p o) := fun b u q => by rw [a0p (a0n q h)]; exact q
theorem mv_r (f : Fr) : mv 114 f = if 0 < f.1 then (-f.2, f.1) else if f.1 < 0 then (f.2, -f.1) else (1, 0) := rfl
theorem aah {K : PySem.W.Frag} : PySem.W.kitOne K (.type "int") (.type "bool") = some false := by
 unfold PySem.W.kitOne PySem.W.kitCls
 rfl
theorem in_tur {c : Nat} (h : IsL c) : inV (.str (S [c])) [.str (S [116]), .str (S [117]), .str (S [114])] = true := by
 rcases h with rfl | rfl | rfl <;> decide
theorem word_signs {u : List Nat} (h : IsW u) : (sgV (S u)).map (fun x => V.bl (inV x [.str (S [116]), .str (S [117]), .str (S [114])])) = (List.replicate u.length true).map V.bl := by
 rw [sg_S, List.map_map]
 induction u with
 | nil => rfl
 | cons c r ih =>
  rw [List.map_cons, List.length_cons, List.replicate_succ, List.map_cons, ih h.tail]
  show V.bl (inV (.str (S [c])) _) :: _ = _
  rw [in_tur h.head]
theorem all_true (n : Nat) : (List.replicate n true).all id = true := by simp
theorem a0u : 2 ≤ sizeLine := by decide
theorem eq_sign (c d : Nat) (x : Str) (hx : x = S [d]) : (decide (V.str (S [c]) = V.str x)) = decide (c = d) := by
 subst hx
 rw [Bool.eq_iff_iff]
 simp only [decide_eq_true_eq, V.str.injEq, S_eq, List.cons.injEq, and_true]
theorem lit_t : ("t" : Str) = S [116] := by decide +kernel
theorem lit_u : ("u" : Str) = S [117] := by decide +kernel
theorem a7a : ("r" : Str) = S [114] := by decide +kernel
theorem sg_at {u : List Nat} {i : Nat} {x : V} (h : (sgV (S u))[i]? = some x) : ∃ c, u[i]? = some c ∧ x = .str (S [c]) := by
 rw [sg_S, List.getElem?_map] at h
 cases e : u[i]? with
 | none => rw [e] at h; cases h
 | some c => rw [e] at h; cases h; exact ⟨c, rfl, rfl⟩
theorem take_snoc {u : List Nat} {i c : Nat} (h : u[i]? = some c) : u.take (i + 1) = u.take i ++ [c] := by
 rw [List.take_add_one, h]
 rfl
def letr (i : Int) : Nat := if i = 0 then 116 else if i = 1 then 117 else 114
theorem letr_L (i : Int) : IsL (letr i) := by
 unfold letr TW.IsL
 by_cases h1 : i = 0
 ·rw [if_pos h1]; exact .inl rfl
 ·rw [if_neg h1]
  by_cases h2 : i = 1
  ·rw [if_pos h2]; exact .inr (.inl rfl)
  ·rw [if_neg h2]; exact .inr (.inr rfl)
theorem a1h : 3 ≤ sizeLine := by decide
theorem a6h : 4 ≤ sizeLine := by decide
theorem S_tu : ("tu" : Str) = S [116, 117] := by decide +kernel
theorem S_ut : ("ut" : Str) = S [117, 116] := by decide +kernel
theorem S_rr : ("rr" : Str) = S [114, 114] := by decide +kernel
theorem S_tr : ("trtrtr" : Str) = S [116, 114, 116, 114, 116, 114] := by decide +kernel
theorem aak (u : List Nat) : (S u).cps.toList = u := by simp [S]
theorem S_to {u : List Nat} {i : Int} (h0 : 0 ≤ i) (h : i ≤ u.length) : Txt.slice (S u) none (some i) = S (u.take i.toNat) := by
 have e : i = ((i.toNat : Nat) : Int) := by omega
 rw [e, cut_to (S u) (by rw [a1a]; omega), aak]
 rfl
theorem S_from {u : List Nat} {i : Int} (h0 : 0 ≤ i) (h : i ≤ u.length) : Txt.slice (S u) (some i) none = S (u.drop i.toNat) := by
 have e : i = ((i.toNat : Nat) : Int) := by omega
 rw [e, cut_from (S u) (by rw [a1a]; omega), aak]
 rfl
theorem S_mid {u : List Nat} {i : Int} {m : Nat} (h0 : 0 ≤ i) (h : i ≤ u.length) : Txt.slice (S u) (some i) (some (i + (m : Int))) = S ((u.drop i.toNat).take m) := by
 have e : i = ((i.toNat : Nat) : Int) := by omega
 rw [e, cut_mid (S u) (by rw [a1a]; omega), aak]
 rfl
theorem eqS (x y : Str) : decide (V.str x = V.str y) = decide (x = y) := by
 rw [Bool.eq_iff_iff]
 simp
theorem inV_str (x : Str) (ts : List Str) : inV (.str x) (ts.map V.str) = ts.contains x := by
 unfold inV
 rw [List.any_map, Bool.eq_iff_iff, List.any_eq_true, List.contains_iff_mem]
 constructor
 ·rintro ⟨y, hy, e⟩
  have e' : (y == x) = true := e
  rw [← eq_of_beq e']
  exact hy
 ·intro h
  exact ⟨x, h, (show (x == x) = true from beq_self_eq_true x)⟩
end TX
namespace L2
open PySem PySem.Spec PyProof.Rows
section
variable {X : Cx}
def a2g (u : List Nat) (n : Int) : List Nat := (List.replicate n.toNat u).flatten
theorem aa0 (a : Array Nat) : ∀ (k : Nat) (b : Array Nat), (List.replicate k a).foldl (· ++ ·) b = b ++ ((List.replicate k a.toList).flatten).toArray
 | 0, b => by simp
 | k + 1, b => by
  rw [List.replicate_succ, List.foldl_cons, aa0 a k]
  rw [List.replicate_succ, List.flatten_cons]
  apply Array.toList_inj.mp
  simp
def rMulS : R2 := fun x y H Q => ∃ z n, x = .str z ∧ y = .int n ∧ -1000 ≤ n ∧ n ≤ 1000 ∧ z.length ≤ 10000 ∧ Q (.str ⟨(a2g z.cps.toList n).toArray⟩) H
theorem op_mulS : OpR X (binaryOp .Mult) rMulS := by
 intro pins s σ H x y v u Q I rx ry h
 obtain ⟨z, n, rfl, rfl, h1, h2, h3, q⟩ := h
 obtain ⟨t, rfl⟩ := rx
 obtain ⟨t', rfl⟩ := ry
 have sl := sizeLine_eq
 have hlen : z.length * n.toNat ≤ 10000 * 1000 := Nat.mul_le_mul h3 (by omega)
 refine P.mul_str ?_ (fun _ _ => ?_) (fun _ _ => ?_) ?_
 ·rw [decide_eq_false (by omega), decide_eq_false (by omega)]; rfl
 ·rename_i a b
  have p : (z.length : Int) * n ≤ 10000 * 1000 := Int.mul_le_mul (by omega) h2 (by omega) (by omega)
  have e : (z.length : Int) ≤ (2 ^ 63 - 1) / n := (Int.le_ediv_iff_mul_le (by omega)).mpr (by omega)
  omega
 ·refine decide_eq_false ?_
  omega
 ·by_cases hn : n < 1
  ·rw [if_pos hn]
   have e : a2g z.cps.toList n = [] := by
    unfold a2g
    rw [show n.toNat = 0 by omega]
    rfl
   rw [e] at q
   exact ⟨Nat.zero_le _, .str ⟨#[]⟩, H, I.tok _, ⟨_, rfl⟩, q⟩
  ·rw [if_neg hn]
   by_cases h0 : (n == 1 || z.length == 0) = true
   ·rw [if_pos h0]
    have e : (⟨(a2g z.cps.toList n).toArray⟩ : Str) = z := by
     rcases Bool.or_eq_true_iff.mp h0 with h | h
     ·have e1 : n = 1 := eq_of_beq h
      subst e1
      unfold a2g
      cases z
      simp
     ·have e1 : z.length = 0 := eq_of_beq h
      have e2 : z.cps = #[] := Array.eq_empty_of_size_eq_zero e1
      unfold a2g
      cases z
      simp only at e2
      subst e2
      simp
    rw [e] at q
    exact ⟨.str z, H, I, ⟨_, rfl⟩, q⟩
   ·rw [if_neg h0]
    have e : (List.replicate n.toNat z.cps).foldl (· ++ ·) #[] = (a2g z.cps.toList n).toArray := by
     rw [aa0]
     unfold a2g
     simp
    rw [e]
    refine ⟨?_, .str _, H, I.tok _, ⟨_, rfl⟩, q⟩
    show (a2g z.cps.toList n).toArray.size ≤ sizeLine
    rw [List.size_toArray]
    have l : (a2g z.cps.toList n).length = n.toNat * z.length := by
     unfold a2g
     simp
     rfl
    rw [l, Nat.mul_comm]
    omega
def rTimes : R2 := fun x y H Q => rI CMul (fun i j => .int (i * j)) x y H Q ∨ rMulS x y H Q
theorem a7s : OpR X (binaryOp .Mult) rTimes := OpR.or op_mul op_mulS
end
end L2
namespace L2
open PySem PySem.Spec PyProof.Rows
def Itr3 (lo c : Int) (n : Nat) : It := ⟨fun i _ => i < n, fun i H x H' => H' = H ∧ x = .int (lo + i * c), fun i _ => n ≤ i⟩
def aap (lo c : Int) (n : Nat) : List V := (List.range n).map fun i => V.int (lo + (i : Nat) * c)
theorem a4o.rng3 {lo c : Int} {n : Nat} : a4o (Itr3 lo c n) (aap lo c n) (fun _ => True) :=
 ⟨fun i H _ hi => by unfold aap at hi; show i < n; simpa using hi, fun i H v H' _ hi y => by
  obtain ⟨e, rfl⟩ := y
  refine ⟨e, ?_⟩
  unfold aap at hi ⊢
  have hi' : i < n := by simpa using hi
  simp [hi'], fun i H _ hi => by unfold aap at hi; show n ≤ i; simpa using hi⟩
theorem turn_range3 {P : Program} {w : World} {K : PySem.W.Frag} {tg : Expr} (it : Addr) (lo c : Int) (n : Nat) : Turn P w K tg (Itr3 lo c n) [it] it (fun i h => IsRangeIter h it (lo + (i : Nat) * c) ((n : Int) - (i : Nat)) c) where
 mem := by simp
 obj := fun i h st b hb => by
  have e : b = it := by simpa using hb
  subst e
  exact ⟨_, st, fun v z => by cases (show Data.fields _ = Data.cell v from z)⟩
 keep := fun i h h' st k => k it (by simp) _ st
 item := by
  intro X hP hw hK hc i pins s σ H E I hf st hg
  subst hP hw hK
  obtain ⟨f0, f1, f2, f3, f4, f5⟩ := hf it (by simp)
  have W := Walks.range (prog := X.prog) (w := X.w) (I.ok.hd hc) it lo c n
  refine W.item i s _ _ hg st fun v h' tk hv st' kk => ?_
  obtain ⟨t, rfl⟩ := hv
  have I1 : Inv X pins σ H { s with heap := h', toks := tk } := I.turned (fun b o hb e => kk b o (by simpa using hb) e) f0 f1 f3 f4 f5
  exact ⟨_, rfl, go_of (s := { s with heap := h', toks := tk }) (n := "range_iterator") st' rfl rfl (by decide) ⟨.int (lo + i * c), H, I1, ⟨t, rfl⟩, ⟨rfl, rfl⟩, st', fun b hb => (hf b hb).1⟩⟩
 done := by
  intro X hP hw hK hc i pins s σ H E I hf st hg
  subst hP hw hK
  obtain ⟨f0, f1, f2, f3, f4, f5⟩ := hf it (by simp)
  exact wpAny_pyNext_range_end (I.ok.hd hc) st (by have : n ≤ i := hg; omega) fun h' eb => ⟨rfl, I.turned (t' := s.toks) (fun b o hb e => eb b o hb e) f0 f1 f3 f4 f5⟩
 self := fun _ _ _ _ _ st h => wpAny_pyIter_rangeiter st h
def cnt3 (i j c : Int) : Nat := (Builtin.Range.rangeSize i j c).toNat
def iRng3 (ta : TA) : TI := fun σ H R => ta σ H fun vs H1 => ∃ i j c : Int, vs = [.int i, .int j, .int c] ∧ (-1000000 ≤ i ∧ i ≤ 1000000 ∧ -1000000 ≤ j ∧ j ≤ 1000000 ∧ 0 < c ∧ c ≤ 1000000) ∧ R (Itr3 i c (cnt3 i j c)) H1
theorem size3 {i j c : Int} (hc : 0 < c) (h1 : -1000000 ≤ i) (h2 : j ≤ 1000000) : 0 ≤ Builtin.Range.rangeSize i j c ∧ Builtin.Range.rangeSize i j c ≤ 2000001 := by
 unfold Builtin.Range.rangeSize
 rw [if_pos hc]
 split
 ·have e : 0 ≤ (j - i - 1) / c := Int.ediv_nonneg (by omega) (by omega)
  have e2 : (j - i - 1) / c ≤ j - i - 1 := Int.ediv_le_self _ (by omega)
  omega
 ·omega
theorem fits {x : Int} (h1 : -10000000 ≤ x) (h2 : x ≤ 10000000) : Builtin.Range.rangeFitsLong x = true := by
 unfold Builtin.Range.rangeFitsLong
 simp
 omega
section
variable {X : Cx} {tg : Expr}
theorem pi_range3 {a b d : Expr} {ta : TA} {p pos : Pos} (hg : Gl X "range") (hm : X.mg "range" = none) (ha : PA X [a, b, d] ta) (hs : starEach [a, b, d] X.env = (false, eval a X.env) :: starEach [b, d] X.env := by rfl) (hs2 : (backTo pos (starEach [b, d] X.env)).any (·.1) = false := by rfl) :
  PI X tg (.Call (.Name "range" p) [a, b, d] [] pos) (iRng3 ta) := by
 intro pins s σ H R I h
 refine Call_ (aaf I hg hm boot_range (PyProof.Rows.callWith_type1 (thn (ha pos pins s σ H _ I h) fun us s1 ⟨vs, H1, I1, r1, q1⟩ => ?_) hs hs2))
 obtain ⟨i, j, c, e, ⟨h1, h2, h3, h4, h5, h6⟩, q⟩ := q1
 subst e
 cases r1 with
 | cons r rr =>
  cases rr with
  | cons r' rr =>
   cases rr with
   | cons r'' rr =>
    cases rr
    obtain ⟨t, rfl⟩ := r
    obtain ⟨t', rfl⟩ := r'
    obtain ⟨t'', rfl⟩ := r''
    obtain ⟨z0, z1⟩ := size3 (i := i) (j := j) h5 h1 h4
    refine call_range_3 (by omega) ?_ (.inl (PyProof.noPylong_small (by omega)))
    have sm : Builtin.Range.small i j c = true := by
     unfold Builtin.Range.small
     rw [fits (x := i) (by omega) (by omega), fits (x := j) (by omega) (by omega), fits (x := c) (by omega) (by omega), fits (by omega) (by omega), if_pos h5, fits (x := j + (c - 1)) (by omega) (by omega)]
     simp
    refine wpAny_pyIter_range (IsRange.new ..) sm ?_
    generalize hob : ({ cls := .type "range", data := .fields #[.int i t, .int j t', .int c t''] } : Obj) = ob
    have I2 : Inv X pins σ H1 { s1 with heap := s1.heap.push ob } := I1.kept (t' := s1.toks) fun b o e => Heap.get?_push_of_some _ e
    refine ⟨(s1.heap.push ob).objs.size, [(s1.heap.push ob).objs.size], _, _, H1, rfl, I2.kept (t' := s1.toks) fun b o e => Heap.get?_push_of_some _ e, turn_range3 _ i c (cnt3 i j c), ?_, fun b hb => ?_, q⟩
    ·have e1 : i + ((0 : Nat) : Int) * c = i := by simp
     have e2 : ((cnt3 i j c : Nat) : Int) - ((0 : Nat) : Int) = Builtin.Range.rangeSize i j c := by unfold cnt3; omega
     show IsRangeIter _ _ (i + ((0 : Nat) : Int) * c) (((cnt3 i j c : Nat) : Int) - ((0 : Nat) : Int)) c
     rw [e1, e2]
     exact Heap.get?_push_size _ rfl
    ·have e : b = (s1.heap.push ob).objs.size := by simpa using hb
     subst e
     exact I2.fpOk (Nat.le_refl _) (I2.hok.fresh (Nat.le_refl _))
end
end L2
namespace L2
open PySem PySem.Spec PyProof.Rows
def Itvl (K : PySem.W.Frag) (a : Addr) (n : Nat) : It :=
 ⟨fun i H => i < n ∧ ∃ xs, SqL K H a xs ∧ xs.length = n, fun i H v H' => H' = H ∧ ∀ xs, SqL K H a xs → xs.length = n → xs[n - 1 - i]? = some v, fun i _ => n ≤ i⟩
theorem a4o.revl {K : PySem.W.Frag} {a : Addr} {xs : List V} : a4o (Itvl K a xs.length) xs.reverse (fun H => SqL K H a xs) :=
 ⟨fun i H h hi => ⟨by simpa using hi, xs, h, rfl⟩, fun i H v H' h hi y => ⟨y.1, by
  rw [List.length_reverse] at hi
  rw [List.getElem?_reverse hi]
  exact y.2 xs h rfl⟩, fun i H h hi => by rw [List.length_reverse] at hi; exact hi⟩
theorem turn_revl {P : Program} {w : World} {K : PySem.W.Frag} {tg : Expr} (a it : Addr) (n : Nat) :
  Turn P w K tg (Itvl K a n) [it] it (fun i h => i ≤ n ∧ h.IsRevIter it a ((n : Int) - 1 - (i : Int))) where
 mem := by simp
 obj := fun i h st b hb => by
  have e : b = it := by simpa using hb
  subst e
  obtain ⟨_, o, e, c, d⟩ := st
  exact ⟨o, e, fun v z => by rw [d] at z; cases z⟩
 keep := fun i h h' st k => ⟨st.1, st.2.at fun o e => k it (by simp) o e⟩
 item := by
  intro X hP hw hK hc i pins s σ H E I hf st hg
  subst hP hw hK
  obtain ⟨hlt, xs, hq, hn⟩ := hg
  obtain ⟨its, rv, p, hz⟩ := I.list hq
  have hl := rv.length
  have hx : xs[n - 1 - i]? = some (xs[n - 1 - i]'(by omega)) := List.getElem?_eq_getElem (by omega)
  obtain ⟨u, hu, ru⟩ := rv.get hx
  obtain ⟨f0, f1, f2, f3, f4, f5⟩ := hf it (by simp)
  obtain ⟨_, st⟩ := st
  have e : (n : Int) - 1 - (i : Int) = ((n - 1 - i : Nat) : Int) := by omega
  rw [e] at st
  refine wpAny_pyNext_rev_item st p.isList (x := u) (by simpa using hu) fun h' st' sb => ?_
  have e2 : ((n - 1 - i : Nat) : Int) - 1 = (n : Int) - 1 - ((i + 1 : Nat) : Int) := by omega
  rw [e2] at st'
  have I1 : Inv X pins σ H { s with heap := h' } := I.turned (t' := s.toks) (fun b o hb e => (sb.2 b hb).trans e) f0 f1 f3 f4 f5
  obtain ⟨o, eo, c, d⟩ := id st'
  exact ⟨u, rfl, go_of (s := { s with heap := h' }) eo c d (by decide) ⟨_, H, I1, ru, ⟨rfl, fun ys hy hyn => by rw [I.list_inj hy hq]; exact hx⟩, ⟨hlt, st'⟩, fun b hb => (hf b hb).1⟩⟩
 done := by
  intro X hP hw hK hc i pins s σ H E I hf st hg
  subst hP hw hK
  obtain ⟨f0, f1, f2, f3, f4, f5⟩ := hf it (by simp)
  have hle : n ≤ i := hg
  obtain ⟨hi, st⟩ := st
  have e : (n : Int) - 1 - (i : Int) = -1 := by omega
  rw [e] at st
  exact wpAny_pyNext_rev_end (I.ok.hd hc) st fun h' eb => ⟨rfl, I.turned (t' := s.toks) (fun b o hb e => eb b o hb e) f0 f1 f3 f4 f5⟩
 self := fun _ _ _ _ _ st h => wpAny_pyIter_revIter st.2 h
def iRevL (K : PySem.W.Frag) (ta : TA) : TI := fun σ H R => ta σ H fun vs H1 => ∃ a xs, vs = [.ref a] ∧ SqL K H1 a xs ∧ R (Itvl K a xs.length) H1
theorem pi_revl {X : Cx} {tg a : Expr} {ta : TA} {p pos : Pos} (hg : Gl X "reversed") (hm : X.mg "reversed" = none) (ha : PA X [a] ta) (hs : starEach [a] X.env = [(false, eval a X.env)] := by rfl) : PI X tg (.Call (.Name "reversed" p) [a] [] pos) (iRevL X.K ta) := by
 intro pins s σ H R I h
 refine Call_ (aaf I hg hm boot_reversed (PyProof.Rows.callWith_type1 (thn (ha pos pins s σ H _ I h) fun us s1 ⟨vs, H1, I1, r1, q1⟩ => ?_) hs rfl))
 obtain ⟨l, xs, e, hx, q⟩ := q1
 subst e
 obtain ⟨u, rfl, ru⟩ := vals1 r1
 cases ru
 obtain ⟨its, rv, pl, hz⟩ := I1.list hx
 have hl := rv.length
 refine call_reversed_list pl.isList ?_
 have hsz : its.toArray.size = xs.length := by rw [List.size_toArray]; exact hl.symm
 rw [hsz]
 have st : ({ s1 with heap := s1.heap.push (revObj l ((xs.length : Int) - 1)) } : Shared).heap.IsRevIter s1.heap.objs.size l ((xs.length : Int) - 1) := ⟨_, Heap.get?_push_size _ rfl, rfl, rfl⟩
 refine wpAny_pyIter_revIter st ?_
 refine ⟨s1.heap.objs.size, [s1.heap.objs.size], _, _, H1, rfl, I1.kept (t' := s1.toks) fun b o e => Heap.get?_push_of_some _ e, turn_revl l _ xs.length, ⟨Nat.zero_le _, ?_⟩, fun b hb => ?_, q⟩
 ·have e : (xs.length : Int) - 1 - ((0 : Nat) : Int) = (xs.length : Int) - 1 := by omega
  rw [e]; exact st
 ·have e : b = s1.heap.objs.size := by simpa using hb
  subst e
  exact I1.fpOk (Nat.le_refl _) (I1.hok.fresh (Nat.le_refl _))
section
variable {X : Cx}
def CDivL (_ j : Int) : Prop := 0 < j ∧ j.natAbs.log2 < 9000
theorem a2p : OpR X (binaryOp .FloorDiv) (rI CDivL fun i j => .int (i / j)) := opI fun i j _ _ _ _ _ hc q => by
 refine floordiv_int (by have := hc.1; omega) ?_ (.inl (PyProof.noPylong_of_log2 hc.2))
 rw [Int.fdiv_eq_ediv_of_nonneg _ (by have := hc.1; omega)]
 exact q
theorem log2_lt {n k : Nat} (h : n < 2 ^ k) (hk : 0 < k) : n.log2 < k := by
 by_cases h0 : n = 0
 ·subst h0; simpa using hk
 ·exact (Nat.log2_lt h0).mpr h
def rPlusL : R2 := fun x y H Q => rPlus x y H Q ∨ rCat x y H Q
theorem a9b : OpR X (binaryOp .Add) rPlusL := OpR.or a2o op_cat
def rIsiA (K : PySem.W.Frag) : List V → Hp → VK → Prop := fun xs H Q => rIsi K xs H Q ∨ ∃ x C t b, xs = [x, V.ref C] ∧ TyOf K H x t ∧ PySem.W.kitOne K t (.ref C) = some b ∧ Q (.bl b) H
theorem call_isiA : aaw X (.builtin "isinstance") (rIsiA X.K) := by
 intro pins s σ H xs us Q I r h
 rcases h with h | ⟨x, C, t, b, rfl, ty, e, q⟩
 ·exact call_isi pins s σ H xs us Q I r h
 obtain ⟨u, w', rfl, ru, rw'⟩ := vals2 r
 cases (show w' = Value.ref C from rw')
 exact isinst_ok I ru ty e fun tk => ⟨.bl b, H, I.tok tk, rfl, q⟩
theorem a7c {K : PySem.W.Frag} (e : X.K = K) : aaw X (.builtin "isinstance") (rIsiA K) := e ▸ call_isiA
structure KCls (K : PySem.W.Frag) (C : Addr) : Prop where
 cl : Cls K C
 ha : PySem.W.findIn K (.ref C) "__class__" = some (some (.builtin "object.__class__"))
 hn : PySem.W.specialIn K (.builtin "object.__class__") "__get__" = some (some (.builtin "getset_descriptor.__get__"))
 htk : PySem.W.takesIn K (.builtin "object.__class__") = some true
 hm : PySem.W.mroIn K C (.type "object") = some true
theorem KCls.ty {K : PySem.W.Frag} {C : Addr} (c : KCls K C) {H : Hp} {a dx : Addr} {fs : List (Str × V)} (e : H a = some (.ins C dx fs)) : TyOf K H (.ref a) (.ref C) := .ins e c.cl c.ha c.hn c.htk c.hm
end
structure Maker (P : Program) (w : World) (K : PySem.W.Frag) (mg : Str → Option Value) (base : Heap) (k : Nat) (x : Str) (C : Addr) (ps : List Str) (sp : Sp) : Prop where
 ex : ∃ f fd, Mk K C f ∧ a1u P w K mg base CX0 k f fd ps sp ∧ mg x = some (.ref C) ∧ Binds K fd ps []
theorem Maker.mono {P : Program} {w : World} {K : PySem.W.Frag} {mg : Str → Option Value} {base : Heap} {j k : Nat} {x : Str} {C : Addr} {ps : List Str} {sp : Sp} (c : Maker P w K mg base j x C ps sp) (h : j ≤ k) : Maker P w K mg base k x C ps sp := by
 obtain ⟨f, fd, M, F, m, b⟩ := c.ex
 exact ⟨f, fd, M, F.mono h, m, b⟩
theorem a3c {X : Cx} {k : Nat} {x : Str} {C : Addr} {ps : List Str} {sp : Sp} {e : Expr} {es : List Expr} {t : TA} {p pos : Pos} (c : Maker X.prog X.w X.K X.mg X.base k x C ps sp) (hr : aa3 (k + 1) X.A) (hg : Gl X x) (ha : PA X (e :: es) t)
  (hdb : (x == ("__debug__" : Str)) = false := by decide) (he : starEach (e :: es) X.env = (false, eval e X.env) :: starEach es X.env := by rfl) (hpl : (backTo pos (starEach es X.env)).any (·.1) = false := by rfl) :
  PE X (.Call (.Name x p) (e :: es) [] pos) (tMake C sp [] E0 t) := by
 obtain ⟨f, fd, M, F, m, b⟩ := c.ex
 exact pe_make M F hr hg m b .nil (fun _ _ _ _ _ _ _ h => h.elim) ha hdb he hpl
structure Method (P : Program) (w : World) (K : PySem.W.Frag) (mg : Str → Option Value) (base : Heap) (k : Nat) (C : Addr) (m : Str) (ps : List Str) (sp : Sp) : Prop where
 ex : ∃ f fd, Meth K C m f ∧ a1u P w K mg base CX0 k f fd ps sp ∧ Binds K fd ps []
theorem Method.mono {P : Program} {w : World} {K : PySem.W.Frag} {mg : Str → Option Value} {base : Heap} {j k : Nat} {C : Addr} {m : Str} {ps : List Str} {sp : Sp} (c : Method P w K mg base j C m ps sp) (h : j ≤ k) : Method P w K mg base k C m ps sp := by
 obtain ⟨f, fd, M, F, b⟩ := c.ex
 exact ⟨f, fd, M, F.mono h, b⟩
theorem a5l {X : Cx} {pl : Sem Bool} {k : Nat} {C : Addr} {m : Str} {ps : List Str} {sp : Sp} {o e : Expr} {es : List Expr} {ta : TE} {t : TA} {pos apos : Pos} (he : PE X o ta) (c : Cls X.K C) (hm : Method X.prog X.w X.K X.mg X.base k C m ps sp) (hr : aa3 k X.A) (ha : PA X (e :: es) t)
  (hst : starEach (e :: es) X.env = (false, eval e X.env) :: starEach es X.env := by rfl) (hpl : (backTo pos (starEach es X.env)).any (·.1) = false := by rfl)
  (ht : eval (.Call (.Attribute o m apos) (e :: es) [] pos) X.env = (do
   let ov ← eval o X.env
   standAt apos.atName
   let (f, first) ← holding [ov] (getMethod ov m pl)
   callWith pos f first (backTo pos (starEach (e :: es) X.env)) (backToKw pos (keywordEach [] X.env))) := by rfl) :
  PE X (.Call (.Attribute o m apos) (e :: es) [] pos) (tMeth C m sp [] E0 ta t) := by
 obtain ⟨f, fd, M, F, b⟩ := hm.ex
 exact pe_meth (pl := pl) he c M F hr b .nil (fun _ _ _ _ _ _ _ h => h.elim) ha hst hpl ht
theorem a6m {P : Program} {w : World} {K : PySem.W.Frag} {mg : Str → Option Value} {base : Heap} {k : Nat} {x nm qual : Str} {C : Addr} {st : Stmt} {f : Addr} {fd : FuncData} {ps : List Str} {sp : Sp} (M : Mk K C f) (F : Fun K nm qual st f fd) (G : a1u P w K mg base CX0 k f fd ps sp) (m : mg x = some (.ref C))
  (h : ∀ (kV doc pm : Value) (an : Option Addr) (cdv ct : Value) (us : List Value), us.length = ps.length → bindArgs (PySem.W.fnOf nm qual (a0b st) (a0a st) (a03 st) .none kV doc pm an cdv ct) ⟨us, []⟩ = pure (ps.zip us)) : Maker P w K mg base k x C ps sp :=
 ⟨f, fd, M, G, m, F.binds h⟩
theorem method_of {P : Program} {w : World} {K : PySem.W.Frag} {mg : Str → Option Value} {base : Heap} {k : Nat} {nm qual : Str} {C : Addr} {st : Stmt} {f : Addr} {fd : FuncData} {ps : List Str} {sp : Sp} (M : Meth K C nm f) (F : Fun K nm qual st f fd) (G : a1u P w K mg base CX0 k f fd ps sp)
  (h : ∀ (kV doc pm : Value) (an : Option Addr) (cdv ct : Value) (us : List Value), us.length = ps.length → bindArgs (PySem.W.fnOf nm qual (a0b st) (a0a st) (a03 st) .none kV doc pm an cdv ct) ⟨us, []⟩ = pure (ps.zip us)) : Method P w K mg base k C nm ps sp :=
 ⟨f, fd, M, G, F.binds h⟩
end L2
namespace L2
open PySem PySem.Spec PyProof.Rows
def MoE (t : TE) : Prop := ∀ σ H (Q Q' : VK), (∀ v h, Q v h → Q' v h) → t σ H Q → t σ H Q'
def MoT (t : TT) : Prop := ∀ σ H (Q Q' : Bool → Hp → Prop), (∀ v h, Q v h → Q' v h) → t σ H Q → t σ H Q'
def MoR (r : R2) : Prop := ∀ x y H (Q Q' : VK), (∀ v h, Q v h → Q' v h) → r x y H Q → r x y H Q'
def MoA (t : TA) : Prop := ∀ σ H (Q Q' : List V → Hp → Prop), (∀ v h, Q v h → Q' v h) → t σ H Q → t σ H Q'
theorem a5j {i : Nat} : MoE (tVar i) := fun _ _ _ _ h ⟨v, e, z⟩ => ⟨v, e, h _ _ z⟩
theorem acy {v : V} : MoE (tC v) := fun _ _ _ _ h z => h _ _ z
theorem a7x : MoA tNil := fun _ _ _ _ h z => h _ _ z
theorem a2z {ta : TE} {tr : TA} (ha : MoE ta) (hr : MoA tr) : MoA (tCons ta tr) := fun _ _ _ _ h z => ha _ _ _ _ (fun _ _ z1 => hr _ _ _ _ (fun _ _ z2 => h _ _ z2) z1) z
theorem a7w {r : R2} {ta tb : TE} (hr : MoR r) (ha : MoE ta) (hb : MoE tb) : MoE (tOp r ta tb) := fun _ _ _ _ h z => ha _ _ _ _ (fun _ _ z1 => hb _ _ _ _ (fun _ _ z2 => hr _ _ _ _ _ h z2) z1) z
theorem a6w {t : TE} (ht : MoE t) : MoT (tTest t) := fun _ _ _ _ h z => ht _ _ _ _ (fun _ _ ⟨k, e, z⟩ => ⟨k, e, h _ _ z⟩) z
theorem mo_and {t u : TT} (ht : MoT t) (hu : MoT u) : MoT (tAnd t u) := fun _ _ _ _ h z => ht _ _ _ _ (fun c _ z1 => by
 by_cases e : c = true
 ·rw [if_pos e] at z1 ⊢; exact hu _ _ _ _ h z1
 ·rw [if_neg e] at z1 ⊢; exact h _ _ z1) z
theorem mo_or {t u : TT} (ht : MoT t) (hu : MoT u) : MoT (tOr t u) := fun _ _ _ _ h z => ht _ _ _ _ (fun c _ z1 => by
 by_cases e : c = true
 ·rw [if_pos e] at z1 ⊢; exact h _ _ z1
 ·rw [if_neg e] at z1 ⊢; exact hu _ _ _ _ h z1) z
theorem mo_truth {K : PySem.W.Frag} {ta : TE} (ha : MoE ta) : MoT (fun σ H Q => ta σ H fun x H' => ∃ k, TruV K x H' k ∧ Q k H') := fun _ _ _ _ h z => ha _ _ _ _ (fun _ _ ⟨k, e, z⟩ => ⟨k, e, h _ _ z⟩) z
theorem mo_eqq {K : PySem.W.Frag} : MoR (rEqq K) := fun _ _ _ _ _ h z => by
 rcases z with ⟨a, z⟩ | ⟨dx, dy, a, b, c, z⟩
 ·exact .inl ⟨a, h _ _ z⟩
 ·exact .inr ⟨dx, dy, a, b, c, h _ _ z⟩
theorem mo_nee {K : PySem.W.Frag} : MoR (rNee K) := fun _ _ _ _ _ h z => by
 rcases z with ⟨a, z⟩ | ⟨dx, dy, a, b, c, z⟩
 ·exact .inl ⟨a, h _ _ z⟩
 ·exact .inr ⟨dx, dy, a, b, c, h _ _ z⟩
theorem mo_rI {C : Int → Int → Prop} {g : Int → Int → V} : MoR (rI C g) := fun _ _ _ _ _ h ⟨i, j, a, b, c, z⟩ => ⟨i, j, a, b, c, h _ _ z⟩
theorem mo_rI0 {g : Int → Int → V} : MoR (rI0 g) := fun _ _ _ _ _ h ⟨i, j, a, b, z⟩ => ⟨i, j, a, b, h _ _ z⟩
theorem mo_ix {K : PySem.W.Frag} {Pm : Params} : MoR (rIxA K Pm) := fun _ _ _ _ _ h z => by
 rcases z with (⟨p, xs, i, v, a, b, c, d, z⟩ | ⟨p, xs, i, v, a, b, c, d, z⟩ | ⟨p, i, v, a, b, c, d, z⟩) | ⟨a, es, n, k, v, u, a1, a2, a3, a4, a5, a6, z⟩
 ·exact .inl (.inl ⟨p, xs, i, v, a, b, c, d, h _ _ z⟩)
 ·exact .inl (.inr (.inl ⟨p, xs, i, v, a, b, c, d, h _ _ z⟩))
 ·exact .inl (.inr (.inr ⟨p, i, v, a, b, c, d, h _ _ z⟩))
 ·exact .inr ⟨a, es, n, k, v, u, a1, a2, a3, a4, a5, a6, h _ _ z⟩
theorem mo_len {K : PySem.W.Frag} {t : TA} (ht : MoA t) : MoE (tCB (rLen K) t) := fun _ _ _ _ h z => ht _ _ _ _ (fun _ _ ⟨x, n, a, b, z⟩ => ⟨x, n, a, b, h _ _ z⟩) z
def EvT (t : TT) (σ : St) (H : Hp) (b : Bool) : Prop := ∀ R : Bool → Hp → Prop, R b H → t σ H R
theorem ev_and {t u : TT} {σ : St} {H : Hp} {b c : Bool} (ht : EvT t σ H b) (hu : b = true → EvT u σ H c) : EvT (tAnd t u) σ H (b && c) := fun R r => ht _ (by
 by_cases e : b = true
 ·subst e; rw [if_pos rfl]; exact hu rfl _ r
 ·rw [if_neg e]
  have : b = false := Bool.eq_false_iff.mpr e
  subst this; exact r)
theorem ev_or {t u : TT} {σ : St} {H : Hp} {b c : Bool} (ht : EvT t σ H b) (hu : b = false → EvT u σ H c) : EvT (tOr t u) σ H (b || c) := fun R r => ht _ (by
 by_cases e : b = true
 ·subst e; rw [if_pos rfl]; exact r
 ·rw [if_neg e]
  have : b = false := Bool.eq_false_iff.mpr e
  subst this; exact hu rfl _ r)
end L2
namespace TX
open PySem L2 TW
structure Glo (mg : Str → Option Value) : Prop where
 n_len : mg "len" = none
 n_all : mg "all" = none
 n_any : mg "any" = none
 n_isinstance : mg "isinstance" = none
 n_abs : mg "abs" = none
 n_int : mg "int" = none
 n_bool : mg "bool" = none
 n_str : mg "str" = none
 n_tuple : mg "tuple" = none
 n_list : mg "list" = none
 n_reversed : mg "reversed" = none
 n_range : mg "range" = none
 n_max : mg "max" = none
def Letters (K : PySem.W.Frag) (mg : Str → Option Value) : Prop := ∃ a, mg "LETTERS" = some (.ref a) ∧ ∀ H, SqT K H a [.str (S [116]), .str (S [117]), .str (S [114])]
def Exch (K : PySem.W.Frag) (mg : Str → Option Value) (P : Params) : Prop := ∃ a es n, mg "EXCHANGED" = some (.ref a) ∧ K.lookup a = some ⟨.type "dict", none, .dict es n, #[]⟩ ∧ PySem.W.KeysLit P es.toList ∧
  ∀ c, IsL c → ∃ t, PySem.W.nsIn K a (S [c]) = some (some (.str (S [TW.exch c]) t))
theorem big {n : Nat} (h : n ≤ 1000000) : n ≤ sizeLine := by have := sizeLine_eq; omega
theorem ab3 {α : Type} {us : List α} (h : us.length = 1) : ∃ a, us = [a] := List.length_eq_one_iff.mp h
theorem lenS {α : Type} {us : List α} {n : Nat} (h : us.length = n + 1) : ∃ a r, us = a :: r ∧ r.length = n := by
 cases us with
 | nil => cases h
 | cons a r => exact ⟨a, r, rfl, Nat.succ.inj h⟩
theorem a7b {α : Type} {us : List α} (h : us.length = 2) : ∃ a b, us = [a, b] := by
 obtain ⟨a, r, rfl, h'⟩ := lenS h
 obtain ⟨b, rfl⟩ := ab3 h'
 exact ⟨a, b, rfl⟩
theorem len3 {α : Type} {us : List α} (h : us.length = 3) : ∃ a b c, us = [a, b, c] := by
 obtain ⟨a, r, rfl, h'⟩ := lenS h
 obtain ⟨b, c, rfl⟩ := a7b h'
 exact ⟨a, b, c, rfl⟩
theorem len4 {α : Type} {us : List α} (h : us.length = 4) : ∃ a b c d, us = [a, b, c, d] := by
 obtain ⟨a, r, rfl, h'⟩ := lenS h
 obtain ⟨b, c, d, rfl⟩ := len3 h'
 exact ⟨a, b, c, d, rfl⟩
theorem len5 {α : Type} {us : List α} (h : us.length = 5) : ∃ a b c d e, us = [a, b, c, d, e] := by
 obtain ⟨a, r, rfl, h'⟩ := lenS h
 obtain ⟨b, c, d, e, rfl⟩ := len4 h'
 exact ⟨a, b, c, d, e, rfl⟩
theorem gcd_abs (a b : Int) : Int.gcd (if a < 0 then -a else a) b = Int.gcd a b := by
 split
 ·rw [Int.neg_gcd]
 ·rfl
theorem abs_nonneg (a : Int) : 0 ≤ (if a < 0 then -a else a) := by split <;> omega
def letters (b : Int) (ns : List Int) : List Nat := ns.map fun n => letr (n / b % 3)
theorem acg (b : Int) (ns : List Int) : IsW (letters b ns) := fun c hc => by
 unfold letters at hc
 obtain ⟨n, _, rfl⟩ := List.mem_map.mp hc
 exact letr_L _
theorem a6g (b : Int) (ns : List Int) : (letters b ns).length = ns.length := by unfold letters; simp
theorem tur_at (n b : Int) : atI (("tur" : Str).cps.toList) (n / b % 3) = some (letr (n / b % 3)) := by
 have h0 := Int.emod_nonneg (n / b) (show (3 : Int) ≠ 0 by decide)
 have h1 := Int.emod_lt_of_pos (n / b) (show (0 : Int) < 3 by decide)
 generalize n / b % 3 = i at h0 h1
 have h : i = 0 ∨ i = 1 ∨ i = 2 := by omega
 rcases h with rfl | rfl | rfl <;> decide +kernel
theorem join_S : ∀ l : List Nat, Str.join ("" : Str) (l.map fun c => S [c]) = S l
 | [] => rfl
 | [c] => rfl
 | c :: d :: r => by
  have ih := join_S (d :: r)
  show S [c] ++ ("" : Str) ++ Str.join ("" : Str) ((d :: r).map fun c => S [c]) = _
  rw [ih, show ("" : Str) = S [] from rfl, a2l, a2l]
  rfl
theorem sum_ones (l : List Nat) : ((l.map fun c => S [c]).map (·.length)).sum = l.length := by
 induction l with
 | nil => rfl
 | cons c r ih =>
  rw [List.map_cons, List.map_cons, List.sum_cons, ih]
  show 1 + r.length = r.length + 1
  omega
def tab : List (Key × V) := [(.inr "t", .str "u"), (.inr "u", .str "t")]
theorem tab_get (c : Nat) : ((valV (acd [] tab) (.inr (S [c]))).getD (.str "r")) = V.str (S [TW.exch c]) := by
 have e : acd [] tab = tab := by decide +kernel
 rw [e]
 unfold tab TW.exch
 by_cases h1 : c = 116
 ·subst h1; decide +kernel
 ·rw [aay (p := ((.inr "t" : Key), V.str "u")) (fun z => h1 (by
   have z' := Sum.inr.inj z
   rw [lit_t] at z'
   exact (List.cons.inj (aav z')).1.symm)), if_neg h1]
  by_cases h2 : c = 117
  ·subst h2; decide +kernel
  ·rw [aay (p := ((.inr "u" : Key), V.str "t")) (fun z => h2 (by
    have z' := Sum.inr.inj z
    rw [lit_u] at z'
    exact (List.cons.inj (aav z')).1.symm)), if_neg h2]
   show V.str "r" = _
   rw [a7a]
def spWhole : Sp := fun vs H Q _ => ∃ i, vs = [.int i] ∧ Q (.bl true) H
def spWord : Sp := fun vs H Q _ => ∃ u, vs = [.str (S u)] ∧ IsW u ∧ u.length ≤ 100000 ∧ ∀ H', a0r H H' → Q (.bl true) H'
def spGcd : Sp := fun vs H Q _ => ∃ a b : Int, vs = [.int a, .int b] ∧ 0 ≤ a ∧ 0 ≤ b ∧ Q (.int (Int.gcd a b)) H
def spFrac : Sp := fun vs H Q _ => ∃ p g, vs = [.ref p] ∧ H p = some (fT g) ∧ IsF g ∧ ∀ H', a0r H H' → Q (.bl true) H'
def spChkW : Sp := fun vs H Q _ => ∃ u, vs = [.str (S u)] ∧ IsW u ∧ u.length ≤ 100000 ∧ ∀ H', a0r H H' → Q .non H'
def ab0 : Sp := fun vs H Q _ => ∃ g : Fr, vs = [.int g.1, .int g.2] ∧ ∀ p H', a0r H H' → H' p = some (fT (mv 114 g)) → Q (.ref p) H'
def spMoved : Sp := fun vs H Q _ => ∃ (c : Nat) (g : Fr), vs = [.str (S [c]), .int g.1, .int g.2] ∧ ∀ p H', a0r H H' → H' p = some (fT (mv c g)) → Q (.ref p) H'
def a8z : Sp := fun vs H Q _ => ∃ u p g, vs = [.str (S u), .ref p] ∧ H p = some (fT g) ∧ ∀ q H', a0r H H' → H' q = some (fT (walk u g)) → Q (.ref q) H'
def spBack : Sp := fun vs H Q _ => ∃ u, vs = [.str (S u)] ∧ IsW u ∧ u.length ≤ 100000 ∧ ∀ H', a0r H H' → Q (.str (S (bk u))) H'
def abg (K : PySem.W.Frag) : Sp := fun vs H Q _ => ∃ (a : Addr) (ns : List Int) (b : Int), vs = [.ref a, .int b] ∧ SqL K H a (ns.map V.int) ∧ ns.length ≤ 63 ∧ 0 < b ∧ b < 1000 ∧ Q (.str (S (letters b ns))) H
def ab1 : Sp := fun vs H Q _ => ∃ (c : Nat) (p : Addr) (g : Fr), vs = [.str (S [c]), .ref p] ∧ H p = some (fT g) ∧ ∀ q H', a0r H H' → H' q = some (fT (mv c g)) → Q (.ref q) H'
def spLBack : Sp := fun vs H Q _ => ∃ u, vs = [.str (S u)] ∧ u.length ≤ 100000 ∧ ∀ H', a0r H H' → Q (.str (S (bk u))) H'
def spLaw (K : PySem.W.Frag) : Sp := fun vs H Q _ => ∃ (a : Addr) (ns : List Int), vs = [.ref a] ∧ SqL K H a (ns.map V.int) ∧ ns.length ≤ 63 ∧ ∀ H', Q (.bl true) H'
end TX
namespace L2
open PySem PySem.Spec PyProof.Rows
def keepI (b : Nat → Bool) (f : Nat → V) (n : Nat) : List V := (List.range n).filterMap fun i => if b i = true then some (f i) else none
theorem a5z (b : Nat → Bool) (f : Nat → V) (n : Nat) : keepI b f (n + 1) = if b n = true then keepI b f n ++ [f n] else keepI b f n := by
 unfold keepI
 rw [List.range_succ, List.filterMap_append]
 by_cases h : b n = true
 ·simp [h]
 ·simp [h]
theorem keepI_len (b : Nat → Bool) (f : Nat → V) (n : Nat) : (keepI b f n).length ≤ n := by
 unfold keepI
 have := List.length_filterMap_le (fun i => if b i = true then some (f i) else none) (List.range n)
 rw [List.length_range] at this
 exact this
theorem keepI_all (f : Nat → V) (n : Nat) : keepI (fun _ => true) f n = (List.range n).map f := by
 induction n with
 | zero => rfl
 | succ n ih => rw [a5z, if_pos rfl, ih, List.range_succ, List.map_append]; rfl
theorem lc_gen {J : It} {xs : List V} {Ok : Hp → Prop} (hJ : a4o J xs Ok) {tc : TT} {te : TE} {js : List Nat} {σ : St} {H : Hp} {Q : VK} (b : Nat → Bool) (f : Nat → V) (hok : ∀ H', a0r H H' → Ok H') (hz : xs.length ≤ sizeLine)
  (ht : ∀ (i : Nat) x H' (R : Bool → Hp → Prop), xs[i]? = some x → a0r H H' → (∀ H'', a0r H' H'' → R (b i) H'') → tc (some x :: a3f σ js) H' R)
  (he : ∀ (i : Nat) x H' Q', xs[i]? = some x → b i = true → a0r H H' → (∀ H'', a0r H' H'' → Q' (f i) H'') → te (some x :: a3f σ js) H' Q')
  (q : ∀ H' p, a0r H H' → H' p = none → Q (.ref p) (upd H' p (.lst (keepI b f xs.length)))) : LcW J tc te js σ Q H := by
 refine ⟨fun i m acc H' => a0r H H' ∧ i ≤ xs.length ∧ m = xs.length - i ∧ acc = keepI b f i, ⟨xs.length, a0r.refl _, Nat.zero_le _, by simp, rfl⟩, ?_⟩
 rintro i m acc H' ⟨hs, hi, rfl, rfl⟩
 have hlen := keepI_len b f i
 refine ⟨by omega, ?_⟩
 by_cases hlt : i < xs.length
 ·refine .inr ⟨hJ.go i _ (hok _ hs) hlt, by omega, fun x H'' y => ?_⟩
  obtain ⟨e, hx⟩ := hJ.yld i _ x H'' (hok _ hs) hlt y
  subst e
  refine ht i x H'' _ hx hs fun H3 s3 => ?_
  by_cases hb : b i = true
  ·rw [if_pos hb]
   refine he i x H3 _ hx hb (hs.trans s3) fun H4 s4 => ⟨xs.length - (i + 1), by omega, (hs.trans s3).trans s4, hlt, rfl, ?_⟩
   rw [a5z, if_pos hb]
  ·rw [if_neg hb]
   refine ⟨xs.length - (i + 1), by omega, hs.trans s3, hlt, rfl, ?_⟩
   rw [a5z, if_neg hb]
 ·have e : i = xs.length := by omega
  subst e
  exact .inl ⟨hJ.stop _ _ (hok _ hs) (Nat.le_refl _), fun p hp => q H' p hs hp⟩
theorem a9i {J : It} {xs : List V} {Ok : Hp → Prop} (hJ : a4o J xs Ok) {te : TE} {js : List Nat} {σ : St} {H : Hp} {Q : VK} (f : Nat → V) (hok : ∀ H', a0r H H' → Ok H') (hz : xs.length ≤ sizeLine)
  (he : ∀ (i : Nat) x H' Q', xs[i]? = some x → a0r H H' → (∀ H'', a0r H' H'' → Q' (f i) H'') → te (some x :: a3f σ js) H' Q')
  (q : ∀ H' p, a0r H H' → H' p = none → Q (.ref p) (upd H' p (.lst ((List.range xs.length).map f)))) : LcW J tYes te js σ Q H :=
 lc_gen hJ (fun _ => true) f hok hz (fun i x H' R hx hs hr => hr _ (a0r.refl _)) (fun i x H' Q' hx _ hs hq => he i x H' Q' hx hs hq) (fun H' p hs hp => by rw [keepI_all]; exact q H' p hs hp)
end L2
namespace HT
open PySem PySem.Spec PyProof.Rows
section
variable {prog : Program} {w : World} {A : Around} {E : Value → Shared → Prop} {s : Shared}
end
end HT
namespace L2
open PySem PySem.Spec PyProof.Rows
section
variable {X : Cx} {e st : Expr} {te ts : TE} {pos p2 : Pos}
def rMulS1 : R2 := fun x y H Q => ∃ z n, x = .str z ∧ y = .int n ∧ -100000 ≤ n ∧ n ≤ 100000 ∧ z.length ≤ 100 ∧ Q (.str ⟨(a2g z.cps.toList n).toArray⟩) H
theorem op_mulS1 : OpR X (binaryOp .Mult) rMulS1 := by
 intro pins s σ H x y v u Q I rx ry h
 obtain ⟨z, n, rfl, rfl, h1, h2, h3, q⟩ := h
 obtain ⟨t, rfl⟩ := rx
 obtain ⟨t', rfl⟩ := ry
 have sl := sizeLine_eq
 have hlen : z.length * n.toNat ≤ 100 * 100000 := Nat.mul_le_mul h3 (by omega)
 refine P.mul_str ?_ (fun _ _ => ?_) (fun _ _ => ?_) ?_
 ·rw [decide_eq_false (by omega), decide_eq_false (by omega)]; rfl
 ·rename_i a b
  have p : (z.length : Int) * n ≤ 100 * 100000 := Int.mul_le_mul (by omega) h2 (by omega) (by omega)
  have e : (z.length : Int) ≤ (2 ^ 63 - 1) / n := (Int.le_ediv_iff_mul_le (by omega)).mpr (by omega)
  omega
 ·refine decide_eq_false ?_
  omega
 ·by_cases hn : n < 1
  ·rw [if_pos hn]
   have e : a2g z.cps.toList n = [] := by
    unfold a2g
    rw [show n.toNat = 0 by omega]
    rfl
   rw [e] at q
   exact ⟨Nat.zero_le _, .str ⟨#[]⟩, H, I.tok _, ⟨_, rfl⟩, q⟩
  ·rw [if_neg hn]
   by_cases h0 : (n == 1 || z.length == 0) = true
   ·rw [if_pos h0]
    have e : (⟨(a2g z.cps.toList n).toArray⟩ : Str) = z := by
     rcases Bool.or_eq_true_iff.mp h0 with h | h
     ·have e1 : n = 1 := eq_of_beq h
      subst e1
      unfold a2g
      cases z
      simp
     ·have e1 : z.length = 0 := eq_of_beq h
      have e2 : z.cps = #[] := Array.eq_empty_of_size_eq_zero e1
      unfold a2g
      cases z
      simp only at e2
      subst e2
      simp
    rw [e] at q
    exact ⟨.str z, H, I, ⟨_, rfl⟩, q⟩
   ·rw [if_neg h0]
    have e : (List.replicate n.toNat z.cps).foldl (· ++ ·) #[] = (a2g z.cps.toList n).toArray := by
     rw [aa0]
     unfold a2g
     simp
    rw [e]
    refine ⟨?_, .str _, H, I.tok _, ⟨_, rfl⟩, q⟩
    show (a2g z.cps.toList n).toArray.size ≤ sizeLine
    rw [List.size_toArray]
    have l : (a2g z.cps.toList n).length = n.toNat * z.length := by
     unfold a2g
     simp
     rfl
    rw [l, Nat.mul_comm]
    omega
end
end L2
namespace L2
open PySem PySem.Spec PyProof.Rows
def MoS (t : TS) : Prop := ∀ (D : Ends) (N N' : St → Hp → Prop) (σ : St) (H : Hp), (∀ σ' H', N σ' H' → N' σ' H') → t { D with nx := N } σ H → t { D with nx := N' } σ H
theorem mo_next : MoS tNext := fun _ _ _ _ _ h z => h _ _ z
theorem mo_if {c : TT} {t u : TS} (hc : MoT c) (ht : MoS t) (hu : MoS u) : MoS (tIfS c t u) := fun D N N' σ H h z => hc _ _ _ _ (fun b H1 z1 => by
 by_cases e : b = true
 ·rw [if_pos e] at z1 ⊢; exact ht D N N' σ H1 h z1
 ·rw [if_neg e] at z1 ⊢; exact hu D N N' σ H1 h z1) z
theorem mo_set {i : Nat} {te : TE} (he : MoE te) : MoS (tAsg te (aau i)) := fun _ _ _ _ _ h z => he _ _ _ _ (fun _ _ z1 => h _ _ z1) z
theorem seq_by {t u : TS} {D : Ends} {σ : St} {H : Hp} (N : St → Hp → Prop) (mo : MoS t) (h1 : t { D with nx := N } σ H) (h2 : ∀ σ' H', N σ' H' → u D σ' H') : tSeq t u D σ H := mo D N (u D) σ H h2 h1
theorem acb {t : TA} (h : MoA t) : MoE (tTup t) := fun _ _ _ _ hq z => h _ _ _ _ (fun _ _ ⟨a, b⟩ => ⟨a, fun p hp => hq _ _ (b p hp)⟩) z
theorem mo_lst {t : TA} (h : MoA t) : MoE (tLst t) := fun _ _ _ _ hq z => h _ _ _ _ (fun _ _ ⟨a, b⟩ => ⟨a, fun p hp => hq _ _ (b p hp)⟩) z
def MoSp (sp : Sp) : Prop := ∀ vs H (Q Q' : VK) E, (∀ v h, Q v h → Q' v h) → sp vs H Q E → sp vs H Q' E
theorem mo_call {sp : Sp} {E : XK} {t : TA} (hs : MoSp sp) (h : MoA t) : MoE (tCall sp [] E t) := fun _ _ _ _ hq z => h _ _ _ _ (fun _ _ z1 => hs _ _ _ _ _ hq z1) z
theorem mo_un {r : V → Hp → VK → Prop} {ta : TE} (hr : ∀ x H (Q Q' : VK), (∀ v h, Q v h → Q' v h) → r x H Q → r x H Q') (ha : MoE ta) : MoE (tUn r ta) := fun _ _ _ _ h z => ha _ _ _ _ (fun _ _ z1 => hr _ _ _ _ h z1) z
theorem mo_rU {g : Int → V} : ∀ x H (Q Q' : VK), (∀ v h, Q v h → Q' v h) → rU g x H Q → rU g x H Q' := fun _ _ _ _ h ⟨i, e, z⟩ => ⟨i, e, h _ _ z⟩
end L2
namespace L2
open PySem PySem.Spec PyProof.Rows
section
variable {X : Cx} {K : PySem.W.Frag}
theorem a0e (e : X.K = K) : IxR X (rIxT K) := e ▸ ix_tup
theorem a6u (hu : X.A.units + 64 < cLine) (e : X.K = K) : OpR X (compareOp .Eq) (rEqD K false) := e ▸ op_eqD hu
theorem a7e (hu : X.A.units + 64 < cLine) (e : X.K = K) : OpR X (compareOp .NotEq) (rEqD K true) := e ▸ op_neD hu
end
theorem cmul_of {i j : Int} (h : i.natAbs ≤ 1000000) : CMul i j := .inl ⟨by omega, by omega⟩
theorem mo_ixT {K : PySem.W.Frag} : MoR (rIxT K) := fun _ _ _ _ _ h ⟨p, xs, i, v, a, b, c, d, z⟩ => ⟨p, xs, i, v, a, b, c, d, h _ _ z⟩
theorem mo_ne : MoR rNe := fun _ _ _ _ _ h ⟨a, z⟩ => ⟨a, h _ _ z⟩
theorem mo_eq : MoR rEq := fun _ _ _ _ _ h ⟨a, z⟩ => ⟨a, h _ _ z⟩
end L2
namespace TW
def lts (k : Int) : List Nat := if k < 0 then List.replicate (-k).toNat 117 else List.replicate k.toNat 116
def sh (k : Int) (f : Fr) : Fr := (f.1 + k * f.2, f.2)
def pre (ks : List Int) (f : Fr) : Fr := ks.foldl (fun g k => mv 114 (sh k g)) f
def post (ks : List Int) (f : Fr) : Fr := ks.foldl (fun g k => sh k (mv 114 g)) f
def act : List Int → Fr → Fr
 | [], f => f
 | k :: ks, f => post ks (sh k f)
def spell : List Int → List Nat
 | [] => []
 | [k] => lts k
 | k :: l :: r => lts k ++ 114 :: spell (l :: r)
def bw (ks : List Int) : List Int := ks.reverse.map fun k => -k
def sab (ks : List Int) : Nat := (ks.map Int.natAbs).sum
theorem walk_t (n : Nat) (f : Fr) : walk (List.replicate n 116) f = (f.1 + n * f.2, f.2) := by
 induction n generalizing f with
 | zero => simp [walk]
 | succ n ih =>
  rw [List.replicate_succ, a5b, ih]
  show (f.1 + f.2 + n * f.2, f.2) = _
  refine Prod.ext ?_ rfl
  show f.1 + f.2 + n * f.2 = f.1 + ((n + 1 : Nat) : Int) * f.2
  grind
theorem walk_u (n : Nat) (f : Fr) : walk (List.replicate n 117) f = (f.1 - n * f.2, f.2) := by
 induction n generalizing f with
 | zero => simp [walk]
 | succ n ih =>
  rw [List.replicate_succ, a5b, ih]
  show (f.1 - f.2 - n * f.2, f.2) = _
  refine Prod.ext ?_ rfl
  show f.1 - f.2 - n * f.2 = f.1 - ((n + 1 : Nat) : Int) * f.2
  grind
theorem walk_lts (k : Int) (f : Fr) : walk (lts k) f = sh k f := by
 unfold lts sh
 split
 ·rename_i h
  rw [walk_u]
  refine Prod.ext ?_ rfl
  show f.1 - ((-k).toNat : Int) * f.2 = _
  rw [Int.toNat_of_nonneg (by omega)]
  grind
 ·rename_i h
  rw [walk_t]
  refine Prod.ext ?_ rfl
  show f.1 + (k.toNat : Int) * f.2 = _
  rw [Int.toNat_of_nonneg (by omega)]
theorem a2e : ∀ (ks : List Int) (f : Fr), walk (spell ks) f = act ks f
 | [], f => rfl
 | [k], f => by rw [spell, walk_lts]; rfl
 | k :: l :: r, f => by
  rw [spell, a1d, walk_lts, a5b, a2e (l :: r)]
  rfl
theorem lts_W (k : Int) : IsW (lts k) := fun c hc => by
 unfold lts at hc
 split at hc
 ·exact .inr (.inl (List.eq_of_mem_replicate hc))
 ·exact .inl (List.eq_of_mem_replicate hc)
theorem abb : ∀ ks : List Int, IsW (spell ks)
 | [] => IsW.nil
 | [k] => lts_W k
 | k :: l :: r => by rw [spell]; exact (lts_W k).append (IsW.cons (.inr (.inr rfl)) (abb (l :: r)))
theorem lts_len (k : Int) : (lts k).length = k.natAbs := by
 unfold lts
 split <;> rw [List.length_replicate] <;> omega
theorem a3a (k : Int) (ks : List Int) : sab (k :: ks) = k.natAbs + sab ks := by unfold sab; simp
theorem a5o (a b : List Int) : sab (a ++ b) = sab a + sab b := by unfold sab; simp
theorem a7n : ∀ ks : List Int, (spell ks).length ≤ sab ks + ks.length
 | [] => Nat.zero_le _
 | [k] => by rw [spell, lts_len, a3a]; omega
 | k :: l :: r => by
  have := a7n (l :: r)
  rw [spell, List.length_append, List.length_cons, lts_len, a3a, List.length_cons]
  omega
theorem bw_len (ks : List Int) : (bw ks).length = ks.length := by unfold bw; simp
theorem a8u (ks : List Int) (k : Int) : bw (ks ++ [k]) = -k :: bw ks := by unfold bw; simp
theorem sab_bw (ks : List Int) : sab (bw ks) = sab ks := by
 unfold sab bw
 rw [List.map_map, ← List.sum_reverse, ← List.map_reverse, List.reverse_reverse]
 congr 1
 apply List.map_congr_left
 intro k _
 simp
theorem sh_F {k : Int} {f : Fr} (h : IsF f) : IsF (sh k f) := by rw [← walk_lts]; exact a2f h
theorem pre_F {ks : List Int} {f : Fr} (h : IsF f) : IsF (pre ks f) := by
 induction ks generalizing f with
 | nil => exact h
 | cons k r ih => exact ih (mv_F (sh_F h))
theorem post_F {ks : List Int} {f : Fr} (h : IsF f) : IsF (post ks f) := by
 induction ks generalizing f with
 | nil => exact h
 | cons k r ih => exact ih (sh_F (mv_F h))
theorem pre_snoc (ks : List Int) (k : Int) (f : Fr) : pre (ks ++ [k]) f = mv 114 (sh k (pre ks f)) := by
 unfold pre; rw [List.foldl_append]; rfl
theorem post_cons (ks : List Int) (k : Int) (f : Fr) : post (k :: ks) f = post ks (sh k (mv 114 f)) := rfl
theorem sh_sh (k l : Int) (f : Fr) : sh k (sh l f) = sh (l + k) f := by
 unfold sh
 refine Prod.ext ?_ rfl
 show f.1 + l * f.2 + k * f.2 = f.1 + (l + k) * f.2
 grind
theorem sh_zero (f : Fr) : sh 0 f = f := by unfold sh; simp
theorem ab9 {f : Fr} (h : IsF f) : mv 114 (mv 114 f) = f := by
 have := a99 (p := [114, 114]) (f := f) (by unfold pcs; simp) h
 exact this
theorem aa2 : ∀ (a b : List Int) (k : Int) (f : Fr), act (a ++ k :: b) f = post b (sh k (pre a f)) := by
 intro a b k f
 cases a with
 | nil => rfl
 | cons l r =>
  show post (r ++ k :: b) (sh l f) = _
  have h : ∀ (r : List Int) (l : Int) (g : Fr), post (r ++ k :: b) (sh l g) = post b (sh k (pre (l :: r) g)) := by
   intro r
   induction r with
   | nil => intro l g; rfl
   | cons m r ih =>
    intro l g
    show post (r ++ k :: b) (sh m (mv 114 (sh l g))) = _
    rw [ih m (mv 114 (sh l g))]
    rfl
  exact h r l f
theorem post_back (a : List Int) : ∀ {f : Fr}, IsF f → post (bw a) (pre a f) = f := by
 induction h : a.length generalizing a with
 | zero =>
  intro f _
  have e : a = [] := List.eq_nil_of_length_eq_zero h
  subst e; rfl
 | succ n ih =>
  intro f hf
  obtain ⟨b, k, rfl⟩ : ∃ b k, a = b ++ [k] := by
   refine ⟨a.dropLast, a.getLast (fun e => by subst e; cases h), ?_⟩
   rw [List.dropLast_concat_getLast]
  rw [a8u, pre_snoc, post_cons, ab9 (sh_F (pre_F hf)), sh_sh, show k + -k = 0 by omega, sh_zero]
  exact ih b (by simp at h; exact h) hf
theorem act_back {a : List Int} {k : Int} {f : Fr} (hf : IsF f) : act (bw (a ++ [k])) (act (a ++ [k]) f) = f := by
 rw [a8u]
 show post (bw a) (sh (-k) (act (a ++ [k]) f)) = f
 rw [aa2]
 show post (bw a) (sh (-k) (sh k (pre a f))) = f
 rw [sh_sh, show k + -k = 0 by omega, sh_zero]
 exact post_back a hf
theorem act_F {a : List Int} {f : Fr} (hf : IsF f) : IsF (act a f) := by
 cases a with
 | nil => exact hf
 | cons k r => exact post_F (sh_F hf)
def qs (m n : Nat) : Nat := if h : n = 0 then 0 else m / n + qs n (m % n)
termination_by n
decreasing_by exact Nat.mod_lt _ (by omega)
theorem a8l (m : Nat) : qs m 0 = 0 := by rw [qs]; simp
theorem a9r {m n : Nat} (h : 0 < n) : qs m n = m / n + qs n (m % n) := by rw [qs]; rw [dif_neg (by omega)]
theorem qs_zero' (n : Nat) : qs 0 n = 0 := by
 by_cases h : n = 0
 ·rw [h, a8l]
 ·rw [a9r (by omega)]; simp [a8l]
theorem qs_lt {m n : Nat} (h : m < n) : qs m n = qs n m := by
 rw [a9r (by omega), Nat.div_eq_of_lt h, Nat.mod_eq_of_lt h, Nat.zero_add]
theorem a8m (m n : Nat) : qs m n = qs n m := by
 rcases Nat.lt_trichotomy m n with h | h | h
 ·exact qs_lt h
 ·rw [h]
 ·exact (qs_lt h).symm
theorem qs_add {m n : Nat} (h : 0 < n) : qs (m + n) n = qs m n + 1 := by
 rw [a9r h, a9r (m := m) h, Nat.add_div_right _ h, Nat.add_mod_right]
 omega
def qf (f : Fr) : Nat := qs f.1.natAbs f.2.natAbs
theorem qs_sub {m b : Nat} (h0 : 0 < m) (h : m < b) : qs (b - m) b = qs m b := by
 rw [a8m (b - m) b, a8m m b]
 have e1 : qs b (b - m) = qs m (b - m) + 1 := by
  have := qs_add (m := m) (n := b - m) (by omega)
  rwa [show m + (b - m) = b by omega] at this
 have e2 : qs b m = qs (b - m) m + 1 := by
  have := qs_add (m := b - m) (n := m) h0
  rwa [show b - m + m = b by omega] at this
 rw [e1, e2, a8m m (b - m)]
theorem qf_up {a b : Int} (hb : 0 ≤ b) : qf (a + b, b) ≤ qf (a, b) + 1 := by
 unfold qf
 show qs (a + b).natAbs b.natAbs ≤ qs a.natAbs b.natAbs + 1
 by_cases h0 : b = 0
 ·subst h0; simp
 by_cases h : 0 ≤ a
 ·rw [show (a + b).natAbs = a.natAbs + b.natAbs by omega, qs_add (by omega)]
  exact Nat.le_refl _
 ·by_cases h2 : a + b ≤ 0
  ·have := qs_add (m := (a + b).natAbs) (n := b.natAbs) (by omega)
   rw [show (a + b).natAbs + b.natAbs = a.natAbs by omega] at this
   omega
  ·have := qs_sub (m := a.natAbs) (b := b.natAbs) (by omega) (by omega)
   rw [show b.natAbs - a.natAbs = (a + b).natAbs by omega] at this
   omega
theorem qf_neg (a b : Int) : qf (-a, b) = qf (a, b) := by unfold qf; simp
theorem qf_mv {c : Nat} {f : Fr} (hf : IsF f) : qf (mv c f) ≤ qf f + 1 := by
 obtain ⟨a, b⟩ := f
 have hb : 0 ≤ b := by
  rcases hf with ⟨_, h⟩ | ⟨h, _⟩
  ·have h' : b = 0 := h; omega
  ·have h' : 0 < b := h; omega
 unfold mv
 split
 ·exact qf_up hb
 split
 ·have := qf_up (a := -a) hb
  rw [qf_neg] at this
  have e : qf (a - b, b) = qf (-a + b, b) := by rw [← qf_neg, show -(a - b) = -a + b by omega]
  show qf (a - b, b) ≤ _
  omega
 split
 ·show qs (-b).natAbs a.natAbs ≤ qs a.natAbs b.natAbs + 1
  rw [Int.natAbs_neg, a8m]; omega
 split
 ·show qs b.natAbs (-a).natAbs ≤ qs a.natAbs b.natAbs + 1
  rw [Int.natAbs_neg, a8m]; omega
 ·show qs 1 0 ≤ _
  rw [a8l]; omega
theorem qf_walk (w : List Nat) {f : Fr} (hf : IsF f) : qf (walk w f) ≤ qf f + w.length := by
 induction w generalizing f with
 | nil => exact Nat.le_refl _
 | cons c r ih =>
  rw [a5b, List.length_cons]
  have := ih (mv_F (c := c) hf)
  have := qf_mv (c := c) hf
  omega
theorem qf_end : qf (1, 0) = 0 := a8l _
theorem qf_nought : qf (0, 1) = 0 := qs_zero' _
theorem qf_floor {f : Fr} (h : 0 < f.2) : (f.1 / f.2).natAbs ≤ qf f + 1 := by
 obtain ⟨a, b⟩ := f
 have hb : 0 < b := h
 unfold qf
 show (a / b).natAbs ≤ qs a.natAbs b.natAbs + 1
 rw [a9r (by omega)]
 have e : a.natAbs / b.natAbs ≤ a.natAbs / b.natAbs + qs b.natAbs (a.natAbs % b.natAbs) := Nat.le_add_right _ _
 suffices (a / b).natAbs ≤ a.natAbs / b.natAbs + 1 by omega
 have eb : ((b.natAbs : Nat) : Int) = b := by omega
 by_cases ha : 0 ≤ a
 ·have ea : ((a.natAbs : Nat) : Int) = a := by omega
  have e1 : ((a.natAbs / b.natAbs : Nat) : Int) = a / b := by rw [Int.natCast_ediv, ea, eb]
  generalize a.natAbs / b.natAbs = Q at e1 ⊢
  generalize a / b = R at e1 ⊢
  omega
 ·have ea : ((a.natAbs : Nat) : Int) = -a := by omega
  have e1 : ((a.natAbs / b.natAbs : Nat) : Int) = -a / b := by rw [Int.natCast_ediv, ea, eb]
  have h1 := Int.mul_ediv_add_emod a b
  have h2 := Int.mul_ediv_add_emod (-a) b
  have h3 := Int.emod_nonneg a (show b ≠ 0 by omega)
  have h4 := Int.emod_lt_of_pos a hb
  have h5 := Int.emod_nonneg (-a) (show b ≠ 0 by omega)
  have h6 := Int.emod_lt_of_pos (-a) hb
  have h7 : b * (a / b + (-a) / b + 1) > -b := by
   have : b * (a / b + (-a) / b + 1) = b * (a / b) + b * (-a / b) + b := by grind
   omega
  have h8 : a / b + (-a) / b + 1 ≥ 0 := by
   rcases Int.lt_or_le (a / b + (-a) / b + 1) 0 with q | q
   ·exfalso
    have : b * (a / b + (-a) / b + 1) ≤ b * (-1) := Int.mul_le_mul_of_nonneg_left (by omega) (by omega)
    omega
   ·exact q
  have h9 : a / b ≤ 0 := by
   have : a / b < 0 := Int.ediv_neg_of_neg_of_pos (by omega) hb
   omega
  generalize a.natAbs / b.natAbs = Q at e1 ⊢
  generalize a / b = R at e1 h8 h9 ⊢
  generalize -a / b = R2 at e1 h8
  omega
theorem mv_size (c : Nat) (f : Fr) : (mv c f).1.natAbs + (mv c f).2.natAbs ≤ 2 * (f.1.natAbs + f.2.natAbs) + 1 := by
 unfold mv
 split
 ·show (f.1 + f.2).natAbs + f.2.natAbs ≤ _; omega
 split
 ·show (f.1 - f.2).natAbs + f.2.natAbs ≤ _; omega
 split
 ·show (-f.2).natAbs + f.1.natAbs ≤ _; omega
 split
 ·show f.2.natAbs + (-f.1).natAbs ≤ _; omega
 ·show 1 + 0 ≤ _; omega
theorem walk_size (w : List Nat) (f : Fr) : (walk w f).1.natAbs + (walk w f).2.natAbs + 1 ≤ 2 ^ w.length * (f.1.natAbs + f.2.natAbs + 1) := by
 induction w generalizing f with
 | nil => simp [walk]
 | cons c r ih =>
  rw [a5b, List.length_cons]
  have h1 := ih (mv c f)
  have h2 := mv_size c f
  have h3 : 2 ^ r.length * ((mv c f).1.natAbs + (mv c f).2.natAbs + 1) ≤ 2 ^ r.length * (2 * (f.1.natAbs + f.2.natAbs + 1)) := Nat.mul_le_mul_left _ (by omega)
  have h4 : 2 ^ r.length * (2 * (f.1.natAbs + f.2.natAbs + 1)) = 2 ^ (r.length + 1) * (f.1.natAbs + f.2.natAbs + 1) := by rw [Nat.pow_succ, Nat.mul_assoc]
  omega
end TW
namespace TW
def runOf (g : Fr) : Int := if g.1 < 0 then (if g.1 < 0 then -g.1 else g.1) / g.2 else -((if g.1 < 0 then -g.1 else g.1) / g.2)
theorem run_rest {g : Fr} (hb : 0 < g.2) : (runOf g).natAbs = g.1.natAbs / g.2.natAbs ∧ (sh (runOf g) g).1.natAbs = g.1.natAbs % g.2.natAbs := by
 obtain ⟨a, b⟩ := g
 have hb' : 0 < b := hb
 unfold runOf sh
 dsimp only
 have eb : ((b.natAbs : Nat) : Int) = b := by omega
 by_cases h : a < 0
 ·simp only [h, if_true]
  have ea : ((a.natAbs : Nat) : Int) = -a := by omega
  have e1 : ((a.natAbs / b.natAbs : Nat) : Int) = -a / b := by rw [Int.natCast_ediv, ea, eb]
  have e2 : ((a.natAbs % b.natAbs : Nat) : Int) = -a % b := by rw [Int.natCast_emod, ea, eb]
  have h1 := Int.mul_ediv_add_emod (-a) b
  have h3 : a + -a / b * b = -(-a % b) := by
   have : -a / b * b = b * (-a / b) := Int.mul_comm _ _
   omega
  rw [h3]
  generalize a.natAbs / b.natAbs = Q at e1 ⊢
  generalize a.natAbs % b.natAbs = R at e2 ⊢
  omega
 ·simp only [h, if_false]
  have ea : ((a.natAbs : Nat) : Int) = a := by omega
  have e1 : ((a.natAbs / b.natAbs : Nat) : Int) = a / b := by rw [Int.natCast_ediv, ea, eb]
  have e2 : ((a.natAbs % b.natAbs : Nat) : Int) = a % b := by rw [Int.natCast_emod, ea, eb]
  have h1 := Int.mul_ediv_add_emod a b
  have h3 : a + -(a / b) * b = a % b := by
   have : -(a / b) * b = -(b * (a / b)) := by rw [Int.neg_mul, Int.mul_comm]
   omega
  rw [h3]
  generalize a.natAbs / b.natAbs = Q at e1 ⊢
  generalize a.natAbs % b.natAbs = R at e2 ⊢
  omega
theorem turn_abs (f : Fr) : (mv 114 f).2.natAbs = f.1.natAbs ∧ (f.1 ≠ 0 → (mv 114 f).1.natAbs = f.2.natAbs) ∧ (f.1 = 0 → mv 114 f = (1, 0)) := by
 unfold mv
 rw [if_neg (by decide), if_neg (by decide)]
 split
 ·refine ⟨rfl, fun _ => ?_, fun h => by omega⟩
  show (-f.2).natAbs = f.2.natAbs
  omega
 split
 ·refine ⟨?_, fun _ => rfl, fun h => by omega⟩
  show (-f.1).natAbs = f.1.natAbs
  omega
 ·refine ⟨?_, fun h => by omega, fun _ => rfl⟩
  show (0 : Int).natAbs = f.1.natAbs
  omega
theorem run_step {g : Fr} (hb : 0 < g.2) : (runOf g).natAbs + qf (mv 114 (sh (runOf g) g)) = qf g ∧ (mv 114 (sh (runOf g) g)).2.natAbs < g.2.natAbs ∧ (mv 114 (sh (runOf g) g)).2.natAbs ≤ (mv 114 (sh (runOf g) g)).1.natAbs ∧ (g.2.natAbs ≤ g.1.natAbs → 1 ≤ (runOf g).natAbs) := by
 obtain ⟨e1, e2⟩ := run_rest hb
 obtain ⟨t1, t2, t3⟩ := turn_abs (sh (runOf g) g)
 have hsh : (sh (runOf g) g).2 = g.2 := rfl
 have hb2 : 0 < g.2.natAbs := by omega
 have hlt := Nat.mod_lt g.1.natAbs hb2
 rw [e2] at t1
 refine ⟨?_, by rw [t1]; exact hlt, ?_, fun h => by rw [e1]; exact Nat.div_pos h hb2⟩
 ·have e : qf (mv 114 (sh (runOf g) g)) = qs g.2.natAbs (g.1.natAbs % g.2.natAbs) := by
   unfold qf
   rw [t1]
   by_cases h : (sh (runOf g) g).1 = 0
   ·have e3 : g.1.natAbs % g.2.natAbs = 0 := by rw [← e2, h]; rfl
    rw [e3, a8l, a8l]
   ·rw [t2 h, hsh]
  rw [e, e1]
  unfold qf
  rw [a9r hb2 (m := g.1.natAbs)]
 ·rw [t1]
  by_cases h : (sh (runOf g) g).1 = 0
  ·have e3 : g.1.natAbs % g.2.natAbs = 0 := by rw [← e2, h]; rfl
   rw [e3]; exact Nat.zero_le _
  ·rw [t2 h, hsh]; omega
theorem F_pos {g : Fr} (h : IsF g) (h0 : g.2 ≠ 0) : 0 < g.2 := by
 rcases h with ⟨_, h⟩ | ⟨h, _⟩
 ·exact absurd h h0
 ·exact h
theorem F_fin {g : Fr} (h : IsF g) (h0 : g.2 = 0) : g = (1, 0) := by
 rcases h with ⟨h, _⟩ | ⟨h, _⟩
 ·exact Prod.ext h h0
 ·omega
end TW
namespace TX
open PySem L2 TW
theorem _root_.L2.a0r.up {H H' : Hp} {p : Addr} {o : HO} (h : a0r H H') (n : H p = none) : a0r H (upd H' p o) := fun b u q => by rw [a0p (a0n q n)]; exact h b u q
theorem join_spell : ∀ ks : List Int, Str.join ("r" : Str) (ks.map fun k => S (lts k)) = S (spell ks)
 | [] => rfl
 | [k] => rfl
 | k :: l :: r => by
  have ih := join_spell (l :: r)
  show S (lts k) ++ ("r" : Str) ++ Str.join ("r" : Str) ((l :: r).map fun k => S (lts k)) = _
  rw [ih, a7a, a2l, a2l, spell]
  simp
theorem times_lts_u {k : Int} (h : k < 0) : (⟨(a2g ("u" : Str).cps.toList (-k)).toArray⟩ : Str) = S (lts k) := by
 rw [show ("u" : Str).cps.toList = [117] by decide +kernel]
 unfold a2g lts S
 rw [if_pos h]
 congr 2
 simp [List.flatten_replicate_singleton]
theorem times_lts_t {k : Int} (h : ¬ k < 0) : (⟨(a2g ("t" : Str).cps.toList k).toArray⟩ : Str) = S (lts k) := by
 rw [show ("t" : Str).cps.toList = [116] by decide +kernel]
 unfold a2g lts S
 rw [if_neg h]
 congr 2
 simp [List.flatten_replicate_singleton]
def fb (o : Option HO) : Nat := match o with | some (.tup [_, .int b]) => b.natAbs | _ => 0
theorem pick2 {b : Bool} {ta tb : TE} {σ : St} {H : Hp} {Q : VK} {v : V} (h1 : b = true → ∀ Q : VK, Q v H → ta σ H Q) (h2 : b = false → ∀ Q : VK, Q v H → tb σ H Q) (q : Q v H) : if b = true then ta σ H Q else tb σ H Q := by
 cases b with
 | true => exact a7k (h1 rfl _ q)
 | false => exact a5a (h2 rfl _ q)
def iV (ks : List Int) : List V := ks.map V.int
theorem a7y (ks : List Int) : (iV ks).length = ks.length := by unfold iV; simp
theorem a9k (a b : List Int) : iV (a ++ b) = iV a ++ iV b := by unfold iV; simp
theorem sum_lts (ks : List Int) : ((ks.map fun k => S (lts k)).map (·.length)).sum = sab ks := by
 induction ks with
 | nil => rfl
 | cons k r ih =>
  rw [List.map_cons, List.map_cons, List.sum_cons, ih, a3a, a1a, lts_len]
theorem sab_mem {ks : List Int} {k : Int} (h : k ∈ ks) : k.natAbs ≤ sab ks := by
 induction ks with
 | nil => cases h
 | cons l r ih =>
  rw [a3a]
  rcases List.mem_cons.mp h with rfl | h
  ·omega
  ·have := ih h; omega
def abf : Sp := fun vs H Q _ => ∃ k : Int, vs = [.int k] ∧ k.natAbs ≤ 5000 ∧ Q (.str (S (lts k))) H
def spSpelled : Sp := fun vs H Q _ => ∃ (a : Addr) (ks : List Int), vs = [.ref a] ∧ H a = some (.lst (iV ks)) ∧ sab ks ≤ 5000 ∧ ks.length ≤ 5000 ∧ ∀ H', a0r H H' → Q (.str (S (spell ks))) H'
def abj : Sp := fun vs H Q _ => ∃ (a : Addr) (ks : List Int), vs = [.ref a] ∧ H a = some (.lst (iV ks)) ∧ ks.length ≤ 5000 ∧ ∀ p H', a0r H H' → H' p = some (.lst (iV (bw ks))) → Q (.ref p) H'
def spJoined : Sp := fun vs H Q _ => ∃ (a b : Addr) (A : List Int) (x y : Int) (B : List Int), vs = [.ref a, .ref b] ∧ H a = some (.lst (iV (A ++ [x]))) ∧ H b = some (.lst (iV (y :: B))) ∧ A.length ≤ 5000 ∧ B.length ≤ 5000 ∧
 ∀ p H' C z D, a0r H H' → H' p = some (.lst (iV (C ++ z :: D))) → (∀ f, IsF f → act (C ++ z :: D) f = act (y :: B) (act (A ++ [x]) f)) → sab (C ++ z :: D) ≤ sab (A ++ [x]) + sab (y :: B) → (C ++ z :: D).length ≤ (A ++ [x]).length + (y :: B).length → (B = [] → D = []) → Q (.ref p) H'
def spRuns : Sp := fun vs H Q _ => ∃ (p : Addr) (g : Fr), vs = [.ref p] ∧ H p = some (fT g) ∧ IsF g ∧ g.2.natAbs < 2 ^ 8000 ∧ qf g ≤ 500 ∧
 ∀ q H' ks, a0r H H' → H' q = some (.lst (iV (ks ++ [0]))) → pre ks g = (1, 0) → sab ks ≤ qf g → ks.length ≤ qf g + 1 → Q (.ref q) H'
theorem atI_zero {xs : List V} {v : V} (h : xs[0]? = some v) : atI xs 0 = some v := a3v (j := 0) h
theorem a4n (xs : List V) {n : Nat} (h : n ≤ xs.length) : a8i xs (some (n : Int)) none = xs.drop n := by
 unfold a8i HT.sIx
 have h1 : ¬ ((n : Int) < 0) := by omega
 simp only [h1, if_false]
 first
  | rw [List.take_of_length_le] <;> simp <;> omega
  | (simp; omega)
end TX
namespace L2
open PySem PySem.Spec PyProof.Rows
theorem ps_setlc {X : Cx} {elt iter : Expr} {ifs : List Expr} {scope : Scope} {pos px py spos : Pos} {x y : Str} {i0 : Nat} {ys : List Str} {js : List Nat} {wi : TI} {tc : TT} {te : TE} (hN : X.N.Nodup) (hiy : X.N[i0]? = some y) (hxy : Loc X.env.scope y) (hc : X.calm = true) (L : a6x X scope x ys js) (hi : PI X (.Name x px) iter wi)
  (ht : ∀ C s₀ H₀ fp, PTs (a7z X (x :: ys) scope C s₀ H₀ fp) ifs tc) (he : ∀ C s₀ H₀ fp, PE (a7z X (x :: ys) scope C s₀ H₀ fp) elt te)
  (hsw : swapsWith (.ListComp elt [⟨.Name x px, iter, ifs, 0⟩] scope pos) (some (.Name y py)) spos.line X.env = pure true := by rfl)
  (hs : ∀ z, foldedSetIterable iter X.env z = pure z := by intro _; rfl) (hf : X.fn y = true ∨ X.env.scope.names.lookup y = some .local := by first | exact .inl rfl | exact .inr rfl | assumption) :
  PS X (.Assign [.Name y py] (.ListComp elt [⟨.Name x px, iter, ifs, 0⟩] scope pos) spos) (tAsg (tLc wi tc te js) (aau i0)) := by
 intro pins s σ H Dn I h
 have hgy : PG X (.Name y py) (aau i0) := a0q (i := i0) hN hiy hxy hf
 rw [exec_Assign_Name_used _ _ _ _ hsw]
 refine wpAny_bind (wpAny_standAt (wpAny_bind ?_))
 show wpAny _ X.A (do let _ ← comprehension (.ListComp elt [⟨.Name x px, iter, ifs, 0⟩] scope pos) scope X.env _ (newList []) false (eval iter X.env) (some (assign (.Name y py) X.env))) _ _ s
 refine wpAny_bind (wpAny_mono (wpAny_comprehension_free (use := some (assign (.Name y py) X.env)) (Q := fun _ s' => SP X pins Dn .next s') rfl hs (closure_of (L.cells I)) L.kind L.locs (thn (hi pins s σ H _ I h) fun v s1 h1 => thn h1 fun itv s2 h2 => ?_)) (fun _ s' hq => wpAny_pure (wpAny_pure hq)) fun _ _ e => e)
 obtain ⟨it, fp, tn, J, H2, e, I2, T, st2, f2, W, ⟨m0, w0⟩, turn⟩ := h2
 subst e
 have ho2 : ∀ b ∈ fp, ∃ o, s2.heap.get? b = some o := fun b hb => let ⟨o, e, _⟩ := T.obj _ _ st2 b hb; ⟨o, e⟩
 refine wpAny_newObj_type (wpAny_newFunctionEnv L.nocell (by intro y hy; simp at hy) (fun h1 hns1 hsb1 => ?_) L.kind)
 dsimp only at hns1 hsb1 ⊢
 generalize hH2 : s2.heap.push { cls := .type "list", dict := none, data := .seq ([] : List Value).toArray } = G2 at hns1 hsb1 ⊢
 have hC : G2.objs.size = s2.heap.objs.size + 1 := by rw [← hH2, Heap.size_push]
 have hCle : s2.heap.objs.size ≤ G2.objs.size := by rw [hC]; exact Nat.le_succ _
 have hDC : s2.heap.objs.size ≠ G2.objs.size := by rw [hC]; exact Nat.ne_of_lt (Nat.lt_succ_self _)
 have old : ∀ b o, s2.heap.get? b = some o → h1.get? b = some o := fun b o e => hsb1.extBut b o (by rw [hC]; exact Nat.ne_of_lt (Nat.lt_succ_of_lt (Heap.lt_size e))) (Heap.get?_push_of_some _ (hH2 ▸ Heap.get?_push_of_some _ e))
 have hacc : h1.PlainList s2.heap.objs.size #[] := ⟨_, hsb1.extBut _ _ hDC (Heap.get?_push_of_some _ (hH2 ▸ Heap.get?_push_size _ rfl))⟩
 generalize hCe : G2.objs.size = C at *
 generalize hDe : s2.heap.objs.size = D at *
 have hDle : s2.heap.objs.size ≤ D := by rw [hDe]; exact Nat.le_refl _
 have hCle' : s2.heap.objs.size ≤ C := by rw [hDe]; exact hCle
 have fpD : ∀ b ∈ fp, b ≠ D := fun b hb z => by
  obtain ⟨o, e⟩ := ho2 b hb
  have := Heap.lt_size e
  rw [z, ← hDe] at this
  exact Nat.lt_irrefl _ this
 have fpC : ∀ b ∈ fp, b ≠ C := fun b hb z => by
  obtain ⟨o, e⟩ := ho2 b hb
  have := Nat.lt_of_lt_of_le (Heap.lt_size e) hCle'
  rw [z] at this
  exact Nat.lt_irrefl _ this
 have I3 : Inv (a7z X (x :: ys) scope C s2 H2 fp) [] (none :: a3f σ js) H2 { s2 with heap := h1, toks := s2.toks + ([] : List (Str × Value)).length } := I2.block L f2 ho2 hCle' old hns1
 have cellD : ∀ y c, (a7z X (x :: ys) scope C s2 H2 fp).env.cells.lookup y = some c → c ≠ D := fun y c e z => by
  obtain ⟨v, q⟩ := I2.cell y c (L.sub e).1
  have := q.lt
  rw [z, ← hDe] at this
  exact Nat.lt_irrefl _ this
 have stat : ∀ {H' : Hp} {pc : List (Addr × Obj)}, (∀ b ∈ fp, H' b = none) → (∀ p ∈ pc, p.1 = D) → ∀ b ∈ fp, FpOk (a7z X (x :: ys) scope C s2 H2 fp) pc H' b := fun {H' pc} hn hp b hb =>
  ⟨hn b hb, fpC b hb, fun z => by
   rcases List.mem_cons.mp (I2.stkSub b z) with z | z
   ·exact (f2 b hb).2.1 z
   ·exact (f2 b hb).2.2.1 z, .inl hb, fun y c e => (f2 b hb).2.2.2.2.1 y c (L.sub e).1, fun p hq => by
   have hq' : p ∈ pc := hq
   rw [hp p hq']; exact Ne.symm (fpD b hb)⟩
 have loop : ∀ s3 : Shared, s3 = { s2 with heap := h1, toks := s2.toks + ([] : List (Str × Value)).length } →
   codeAny (model X.prog X.w) X.A (.compLoop (.ListComp elt [⟨.Name x px, iter, ifs, 0⟩] scope pos) 0 (.ref it) (.ref D) (compEnvC scope (clOf X.env scope.names []) C X.env))
    (compPost (model X.prog X.w) X.A X.xe (some (assign (.Name y py) X.env)) (fun _ s' => SP X pins Dn .next s') (.ref D) C) s3 := by
  rintro s3 rfl
  refine a8j (fun n s' => ∃ i acc its H' k, Inv (a7z X (x :: ys) scope C s2 H2 fp) [] (none :: a3f σ js) H' s' ∧ tn i s'.heap ∧ (∀ b ∈ fp, H' b = none) ∧ H' D = none ∧ s'.heap.get? D = some { cls := .type "list", data := .seq its k } ∧ Vals acc its.toList ∧ W i n acc H') ?_ m0 ?_
  ·rintro n s4 ⟨i, acc, its, H4, k, I4, st4, fr4, hD4, ob4, rv4, w4⟩
   obtain ⟨hz, w4⟩ := turn i n acc H4 w4
   have I4' : Inv (a7z X (x :: ys) scope C s2 H2 fp) [(D, { cls := .type "list", data := .seq its k })] (none :: a3f σ js) H4 s4 := I4.a6r fun p hp => by
    have e : p = (D, { cls := .type "list", data := .seq its k }) := by simpa using hp
    subst e
    refine ⟨ob4, hD4, hDC, fun z => ?_, fun v z => (nomatch z)⟩
    obtain ⟨_, o, ho, _⟩ := I2.stack.mem (show D ∈ frs X.stack from z)
    have := Heap.lt_size ho
    rw [← hDe] at this
    exact Nat.lt_irrefl _ this
   have one : ∀ p ∈ ([(D, { cls := .type "list", data := .seq its k })] : List (Addr × Obj)), p.1 = D := fun p hp => by
    have e : p = (D, { cls := .type "list", data := .seq its k }) := by simpa using hp
    rw [e]
   rcases w4 with ⟨stop, qn⟩ | ⟨go, hlt, step⟩
   ·refine thn (T.done (a7z X (x :: ys) scope C s2 H2 fp) rfl rfl rfl hc i _ s4 _ H4 _ I4' (stat fr4 one) st4 stop) fun r s5 ⟨hr, I5⟩ => ?_
    subst hr
    obtain ⟨m, hn, _⟩ := I5.loc
    have hCn : upd H4 D (.lst acc) C = none := by rw [a0p (Ne.symm hDC)]; exact I5.free
    have IX : Inv X pins σ (upd H4 D (.lst acc)) s5 := I2.unblock (its := its.toList) (h' := s5.heap) f2 hDle hCle' hDC I5 hD4 rv4 hz (by
     have q := (I5.pin (D, { cls := .type "list", data := .seq its k }) (by simp)).1
     simpa using q) ⟨rfl, fun _ _ => rfl⟩
    have fC : FpOk X pins (upd H4 D (.lst acc)) C := I2.fpOk hCle' hCn
    obtain ⟨oC, es, ep, hoC, hdC, rest⟩ := id hn
    have IP : Inv X (pins ++ a6k [C] s5.heap) σ (upd H4 D (.lst acc)) s5 := IX.pinned (fp := [C]) (fun b hb => by
     have e : b = C := by simpa using hb
     subst e; exact fC) (fun b hb => by
     have e : b = C := by simpa using hb
     subst e
     exact ⟨oC, hoC, fun v z => by rw [hdC] at z; cases z⟩)
    refine thn (hgy (pins ++ a6k [C] s5.heap) s5 σ (upd H4 D (.lst acc)) (.ref D) (.ref D) Dn.nx IP rfl (qn D hD4)) fun _ s6 ⟨σ6, H6, I6, q6⟩ => ?_
    have pC := I6.pin (C, oC) (List.mem_append_right _ (List.mem_append_right _ (a4z (by simp) hoC)))
    refine ⟨m, hn.at' fun o e => ?_, fun h' sb => ⟨σ6, H6, ?_, q6⟩⟩
    ·have e' : s5.heap.get? C = some o := e
     have hoC' : s5.heap.get? C = some oC := hoC
     rw [hoC'] at e'
     cases e'
     exact pC.1
    ·exact I6.aaz.turned (t' := s6.toks) (it := C) (fun b o hb e => (sb.2 b hb).trans e) pC.2.1 fC.2.1 fC.2.2.2.1 fC.2.2.2.2.1 fC.2.2.2.2.2
   ·refine thn (T.item (a7z X (x :: ys) scope C s2 H2 fp) rfl rfl rfl hc i _ s4 _ H4 _ I4' (stat fr4 one) st4 go) fun r s5 ⟨u, hr, h5⟩ => ?_
    subst hr
    refine thn h5 fun _ s6 ⟨xv, H6, I6, r6, y6, st6, fr6⟩ => ?_
    have I6' := I6.pinned (stat fr6 one) (T.obj _ _ st6)
    have ownL : (a7z X (x :: ys) scope C s2 H2 fp).env.scope.names.lookup x = some .local := lookup_relabel_local L.own
    have hg : PG (a7z X (x :: ys) scope C s2 H2 fp) (.Name x px) (aau 0) := a0q (i := 0) L.nd rfl (.inl ownL) (.inr ownL)
    refine wpAny_mono (hg _ s6 _ H6 xv u (fun σ2 H2' => σ2 = some xv :: a3f σ js ∧ H2' = H6) I6' r6 ⟨rfl, rfl⟩) (fun _ s7 ⟨σ7, H7, I7, e7, e7'⟩ => ?_) fun _ _ z => z.elim
    subst e7 e7'
    have q7 := step xv _ y6
    refine wpAny_mono ((ht C s2 H2 fp).run I7 q7) (fun ok s8 ⟨H8, I8, q8⟩ => ?_) fun _ _ z => z.elim
    have hσ : ∀ {pc : List (Addr × Obj)} {Hc : Hp} {sc : Shared}, Inv (a7z X (x :: ys) scope C s2 H2 fp) pc (some xv :: a3f σ js) Hc sc → Inv (a7z X (x :: ys) scope C s2 H2 fp) pc (none :: a3f σ js) Hc sc := fun Ic => Ic.weak rfl fun i v e => by
     cases i with
     | zero => exact absurd e (by simp)
     | succ i => simpa using e
    have keepT : ∀ {Hc : Hp} {sc : Shared}, Inv (a7z X (x :: ys) scope C s2 H2 fp) ([(D, { cls := .type "list", data := .seq its k })] ++ a6k fp s6.heap) (some xv :: a3f σ js) Hc sc → tn (i + 1) sc.heap ∧ (∀ b ∈ fp, Hc b = none) ∧ Hc D = none ∧ sc.heap.get? D = some { cls := .type "list", data := .seq its k } := fun {Hc sc} Ic => by
     refine ⟨T.keep _ _ _ st6 fun b hb o e => (Ic.pin (b, o) (List.mem_append_right _ (List.mem_append_right _ (a4z hb e)))).1, fun b hb => ?_, (Ic.pin (D, { cls := .type "list", data := .seq its k }) (List.mem_append_right _ (List.mem_append_left _ List.mem_cons_self))).2.1, (Ic.pin (D, { cls := .type "list", data := .seq its k }) (List.mem_append_right _ (List.mem_append_left _ List.mem_cons_self))).1⟩
     obtain ⟨o, e, d⟩ := T.obj _ _ st6 b hb
     exact (Ic.pin (b, o) (List.mem_append_right _ (List.mem_append_right _ (a4z hb e)))).2.1
    cases ok with
    | false =>
     obtain ⟨m', hm, w8⟩ := q8
     obtain ⟨a1, a2, a3, a4⟩ := keepT I8
     exact ⟨m', hm, i + 1, acc, its, H8, k, (hσ I8).a6r (fun p hp => (nomatch hp)), a1, a2, a3, a4, rv4, w8⟩
    | true =>
     refine wpAny_mono (he C s2 H2 fp _ s8 _ H8 _ I8 q8) (fun ev s9 ⟨v9, H9, I9, r9, m', hm, w9⟩ => ?_) fun _ _ z => z.elim
     obtain ⟨a1, a2, a3, a4⟩ := keepT I9
     have hlen : its.size ≤ sizeLine := by
      have e1 := rv4.length
      have e2 : its.toList.length = its.size := by simp
      omega
     refine wpAny_list_append_plain (hsz := hlen) ⟨k, a4⟩ fun h10 pl sb => ?_
     obtain ⟨k', e10⟩ := pl
     have I10 : Inv (a7z X (x :: ys) scope C s2 H2 fp) (a6k fp s6.heap) (none :: a3f σ js) H9 s9 := (hσ I9).a6r fun p hp => I9.pin p (List.mem_append_right _ (List.mem_append_right _ hp))
     have I11 : Inv (a7z X (x :: ys) scope C s2 H2 fp) (a6k fp s6.heap) (none :: a3f σ js) H9 { s9 with heap := h10 } :=
      I10.turned (t' := s9.toks) (it := D) (fun b o hb e => (sb.2 b hb).trans e) a3 hDC (.inr hDle) cellD fun p hp z => by
       have hp' : p ∈ a6k fp s6.heap := hp
       exact fpD p.1 (ac9 hp').1 z
     refine ⟨m', hm, i + 1, acc ++ [v9], its.push ev, H9, k', I11.a6r (fun p hp => (nomatch hp)), T.keep _ _ _ a1 (fun b hb o e => (sb.2 b (fpD b hb)).trans e), a2, a3, e10, ?_, w9⟩
     rw [Array.toList_push]
     exact rv4.append (.cons r9 .nil)
  ·exact ⟨0, [], #[], H2, _, I3, T.keep _ _ _ st2 fun b hb o e => old b o e, fun b hb => (f2 b hb).1, I2.hok.fresh hDle, hacc.choose_spec, .nil, w0⟩
 exact codeAny_compStart_list (loop _ rfl) (T.self _ 0 _ _ _ (T.keep _ _ _ st2 fun b hb o e => old b o e) (loop _ rfl))
end L2
namespace TW
end TW
namespace TW
def rp (n : Nat) (w : List Nat) : List Nat := (List.replicate n w).flatten
end TW
namespace TX
open PySem L2 TW
def al (u v : List Nat) : Bool := decide (walk u (0, 1) = walk v (0, 1)) && (decide (walk u (1, 0) = walk v (1, 0)) && decide (walk u (1, 1) = walk v (1, 1)))
theorem al_iff (u v : List Nat) : al u v = true ↔ walk u (0, 1) = walk v (0, 1) ∧ walk u (1, 0) = walk v (1, 0) ∧ walk u (1, 1) = walk v (1, 1) := by
 unfold al
 rw [Bool.and_eq_true, Bool.and_eq_true, decide_eq_true_eq, decide_eq_true_eq, decide_eq_true_eq]
def Telling (K : PySem.W.Frag) (mg : Str → Option Value) : Prop := ∃ a a0 a1 a2, mg "TELLING_FRACTIONS" = some (.ref a) ∧ (∀ H, SqT K H a [.ref a0, .ref a1, .ref a2]) ∧ (∀ H, SqT K H a0 [.int 0, .int 1]) ∧ (∀ H, SqT K H a1 [.int 1, .int 0]) ∧ ∀ H, SqT K H a2 [.int 1, .int 1]
def tf (i : Nat) : Fr := if i = 0 then (0, 1) else if i = 1 then (1, 0) else (1, 1)
theorem tf_F (i : Nat) : IsF (tf i) := by
 unfold tf
 split
 ·exact ab7
 split
 ·exact F_end
 ·exact F_one
theorem three_at {K : PySem.W.Frag} {a0 a1 a2 : Addr} (h0 : ∀ H, SqT K H a0 [.int 0, .int 1]) (h1 : ∀ H, SqT K H a1 [.int 1, .int 0]) (h2 : ∀ H, SqT K H a2 [.int 1, .int 1]) {i : Nat} {x : V} (hx : [V.ref a0, V.ref a1, V.ref a2][i]? = some x) :
  ∃ p, x = .ref p ∧ ∀ H, SqT K H p [.int (tf i).1, .int (tf i).2] := by
 match i with
 | 0 => cases hx; exact ⟨a0, rfl, h0⟩
 | 1 => cases hx; exact ⟨a1, rfl, h1⟩
 | 2 => cases hx; exact ⟨a2, rfl, h2⟩
 | n + 3 => cases hx
def alI (u v : List Nat) (i : Nat) : Bool := decide (walk u (tf i) = walk v (tf i))
theorem ab6 (u v : List Nat) : [alI u v 0, alI u v 1, alI u v 2].all id = al u v := by
 unfold al alI tf
 simp
def a5c (K : PySem.W.Frag) : Sp := fun vs H Q _ => ∃ u p g, vs = [.str (S u), .ref p] ∧ SqT K H p [.int g.1, .int g.2] ∧ ∀ q H', a0r H H' → H' q = some (fT (walk u g)) → Q (.ref q) H'
def abh : Sp := fun vs H Q _ => ∃ u v, vs = [.str (S u), .str (S v)] ∧ ∀ H', a0r H H' → Q (.bl (al u v)) H'
def spQuiet : Sp := fun vs H Q _ => ∃ u, vs = [.str (S u)] ∧ ∀ H', a0r H H' → Q (.bl (al u [])) H'
def qshow (u : List Nat) (n : Int) : Bool := (decide (n = 1) && al (rp 1 u) []) || ((decide (n = 2) && (!al (rp 1 u) [] && al (rp 2 u) [])) || (decide (n = 3) && (!al (rp 1 u) [] && (!al (rp 2 u) [] && al (rp 3 u) []))))
def aa6 (C : Addr) : Sp := fun vs H Q _ => ∃ o dx u n, vs = [.ref o, .str (S u)] ∧ H o = some (.ins C dx [("many", .int n)]) ∧ u.length ≤ 10000 ∧ ∀ H', a0r H H' → Q (.bl (qshow u n)) H'
def a8y (C : Addr) : Sp := fun vs H Q _ => ∃ o dx u p g, vs = [.ref o, .str (S u)] ∧ H o = some (.ins C dx [("fraction", .ref p)]) ∧ H p = some (fT g) ∧ u.length ≤ 10000 ∧ ∀ H', a0r H H' → Q (.bl (!decide (walk (rp 6 u) g = g))) H'
def a4q (C : Addr) (fld : Str) : Sp := fun vs H Q _ => ∃ o dx v, vs = [.ref o, v] ∧ H o = some (.ins C dx []) ∧ Q .non (upd H o (.ins C dx [(fld, v)]))
def spTelling : Sp := fun vs H Q _ => ∃ u v, vs = [.str (S u), .str (S v)] ∧ (al u v = true → ∀ H', a0r H H' → Q .non H') ∧ (al u v = false → ∀ p g H', a0r H H' → H' p = some (fT g) → IsF g → walk u g ≠ walk v g → Q (.ref p) H')
theorem a2b {H : Hp} {x dx : Addr} {o o' : HO} (hx : H x = none) (hd : H dx = none) : a0r H (upd (upd H dx o) x o') := fun b u q => by
 rw [a0p (a0n q hx), a0p (a0n q hd)]
 exact q
theorem a8w (u : List Nat) (n : Int) : (⟨(a2g (S u).cps.toList n).toArray⟩ : Str) = S (rp n.toNat u) := by
 rw [aak]
 rfl
def duel (u : List Nat) : List Int := (if al (rp 1 u) [] = true then [1] else []) ++ ((if al (rp 2 u) [] = true then [2] else []) ++ (if al (rp 3 u) [] = true then [3] else []))
theorem keep_due (u : List Nat) : keepI (fun i => al (rp (i + 1) u) []) (fun i => V.int (1 + (i : Nat))) 3 = iV (duel u) := by
 unfold duel
 rw [a5z, a5z, a5z]
 have e0 : keepI (fun i => al (rp (i + 1) u) []) (fun i => V.int (1 + (i : Nat))) 0 = [] := rfl
 rw [e0]
 cases h1 : al (rp 1 u) [] <;> cases h2 : al (rp 2 u) [] <;> cases h3 : al (rp 3 u) [] <;> simp [h1, h2, h3, iV]
theorem rd_ints {K : PySem.W.Frag} {H : Hp} (ks : List Int) : a8v K H (iV ks) (ks.map PyData.int) := by
 induction ks with
 | nil => unfold a8v iV; rfl
 | cons k r ih => unfold a8v; exact ⟨_, _, rfl, by unfold RdD; rfl, ih⟩
theorem rd_list {K : PySem.W.Frag} {H : Hp} {a : Addr} {ks : List Int} (h : H a = some (.lst (iV ks))) : RdD K H (.ref a) (.list (ks.map PyData.int)) := by
 unfold RdD
 exact ⟨a, _, rfl, SqL.of h, rd_ints ks⟩
theorem depth_ints (ks : List Int) : PyData.depthAll (ks.map PyData.int) ≤ 10 := by
 induction ks with
 | nil => simp [PyData.depthAll]
 | cons k r ih => simp [PyData.depthAll, PyData.depth] at ih ⊢ <;> omega
theorem aa1 (ks : List Int) : (PyData.list (ks.map PyData.int)).depth ≤ 60 := by
 have := depth_ints ks
 simp [PyData.depth]
 omega
theorem acf (k : Int) (ks : List Int) : PyData.eqv (.list ((k :: ks).map PyData.int)) (.list []) = false := by
 simp [PyData.eqv, PyData.eqvAll]
theorem aai {g g' : Fr} {A B : Prop} (h1 : g = g' → A) (h2 : g ≠ g' → B) : if PyData.eqv (fD g) (fD g') = true then A else B := by
 rw [a6o]
 exact a5h (fun c => h1 (of_decide_eq_true c)) (fun c => h2 (of_decide_eq_false (Bool.eq_false_iff.mpr c)))
end TX
namespace L2
open PySem PySem.Spec PyProof.Rows
section
variable {X : Cx}
def rInM (K : PySem.W.Frag) (P : Params) (neg : Bool) : R2 := fun x y H Q => ∃ a es n k r, y = .ref a ∧ x = .str k ∧ K.lookup a = some ⟨.type "dict", none, .dict es n, #[]⟩ ∧ PySem.W.KeysLit P es.toList ∧ PySem.W.nsIn K a k = some r ∧ (a == sysModules) = false ∧
 Q (.bl (if neg = true then !r.isSome else r.isSome)) H
theorem op_inM : OpR X (compareOp .In) (rInM X.K X.w.params false) := by
 intro pins s σ H x y v u Q I rx ry h
 obtain ⟨a, es, n, k, r, rfl, rfl, lk, kl, ns, lo, q⟩ := h
 cases ry
 obtain ⟨t, rfl⟩ := rx
 obtain ⟨m, F⟩ := I.fr
 exact PySem.W.topIn_K F I.ok.mod.kin lk kl ns lo ⟨.bl r.isSome, H, I.tok _, rfl, q⟩
theorem op_notInM : OpR X (compareOp .NotIn) (rInM X.K X.w.params true) := by
 intro pins s σ H x y v u Q I rx ry h
 obtain ⟨a, es, n, k, r, rfl, rfl, lk, kl, ns, lo, q⟩ := h
 cases ry
 obtain ⟨t, rfl⟩ := rx
 obtain ⟨m, F⟩ := I.fr
 refine wpAny_notIn_of (strKind_is X.prog X.w k t) lo (PySem.W.mapOf_K (prog := X.prog) (I.ok.mod.kin.keeps F.keep) lk kl) ?_
 rw [PySem.W.find_K lk ns]
 exact ⟨.bl (!r.isSome), H, I.tok _, rfl, q⟩
theorem op_inMK {K : PySem.W.Frag} {Pm : Params} (e : X.K = K) (e2 : X.w.params = Pm) : OpR X (compareOp .In) (rInM K Pm false) := e ▸ e2 ▸ op_inM
theorem op_notInMK {K : PySem.W.Frag} {Pm : Params} (e : X.K = K) (e2 : X.w.params = Pm) : OpR X (compareOp .NotIn) (rInM K Pm true) := e ▸ e2 ▸ op_notInM
def rFind : V → List V → Hp → VK → Prop := fun x vs H Q => ∃ a b, x = .str a ∧ vs = [.str b] ∧ Q (.int (match Builtin.Str.occurrences a b 0 a.length 1 with | i :: _ => (i : Int) | [] => -1)) H
theorem mt_find : MtR X "str.find" rFind := by
 intro pins s σ H x xs v us Q I rx r h
 obtain ⟨a, b, rfl, rfl, q⟩ := h
 obtain ⟨u, rfl, ru⟩ := vals1 r
 obtain ⟨t, rfl⟩ := rx
 obtain ⟨t2, rfl⟩ := ru
 exact SC.find ⟨.int _, H, I.tok _, ⟨_, rfl⟩, q⟩
end
def But (l m : Addr) (H H' : Hp) : Prop := ∀ b o, b ≠ l → b ≠ m → H b = some o → H' b = some o
theorem But.refl (l m : Addr) (H : Hp) : But l m H H := fun _ _ _ _ h => h
theorem But.trans {l m : Addr} {H H1 H2 : Hp} (a : But l m H H1) (b : But l m H1 H2) : But l m H H2 := fun c o h1 h2 h => b c o h1 h2 (a c o h1 h2 h)
theorem But.updL {l m : Addr} {H H' : Hp} {o : HO} (a : But l m H H') : But l m H (upd H' l o) := fun c u h1 h2 h => by rw [a0p h1]; exact a c u h1 h2 h
theorem But.updM {l m : Addr} {H H' : Hp} {o : HO} (a : But l m H H') : But l m H (upd H' m o) := fun c u h1 h2 h => by rw [a0p h2]; exact a c u h1 h2 h
theorem But.same {l m : Addr} {H H1 H2 : Hp} (a : But l m H H1) (b : a0r H1 H2) : But l m H H2 := fun c o h1 h2 h => b c o (a c o h1 h2 h)
theorem But.out {l m : Addr} {H0 H H' : Hp} (a : But l m H H') (s : a0r H0 H) (hl : H0 l = none) (hm : H0 m = none) : a0r H0 H' := fun c o h => a c o (a0n h hl) (a0n h hm) (s c o h)
end L2
namespace TW
inductive Syl | r | s | z
 deriving DecidableEq
namespace Syl
def wd : Syl → List Nat
 | r => [114]
 | s => [116, 114]
 | z => [114, 117]
def isR : Syl → Bool
 | r => true
 | _ => false
def inv : Syl → Syl
 | r => r
 | s => z
 | z => s
end Syl
open Syl
def tw (l : List Syl) : List Nat := l.flatMap wd
theorem tw_nil : tw [] = [] := rfl
theorem tw_cons (x : Syl) (l : List Syl) : tw (x :: l) = wd x ++ tw l := rfl
theorem tw_append (a b : List Syl) : tw (a ++ b) = tw a ++ tw b := by unfold tw; simp
def alt : List Syl → Prop
 | [] => True
 | [_] => True
 | x :: y :: l => x.isR ≠ y.isR ∧ alt (y :: l)
theorem alt_tail {x : Syl} {l : List Syl} (h : alt (x :: l)) : alt l := by
 cases l with
 | nil => trivial
 | cons y l => exact h.2
theorem wd_W (x : Syl) : IsW (wd x) := by
 intro c hc
 unfold IsL
 cases x <;> simp [wd] at hc <;> omega
theorem tw_W (l : List Syl) : IsW (tw l) := by
 induction l with
 | nil => exact IsW.nil
 | cons x l ih => exact (wd_W x).append ih
theorem wd_inv (x : Syl) {f : Fr} (hf : IsF f) : walk (wd x.inv) (walk (wd x) f) = f := by
 cases x with
 | r => exact a6v (c := 114) (.inr (.inr rfl)) hf
 | s =>
  show mv 117 (mv 114 (mv 114 (mv 116 f))) = f
  have e1 : mv 114 (mv 114 (mv 116 f)) = mv 116 f := a6v (c := 114) (.inr (.inr rfl)) (mv_F hf)
  rw [e1]
  exact a6v (c := 116) (.inl rfl) hf
 | z =>
  show mv 114 (mv 116 (mv 117 (mv 114 f))) = f
  have e1 : mv 116 (mv 117 (mv 114 f)) = mv 114 f := a6v (c := 117) (.inr (.inl rfl)) (mv_F hf)
  rw [e1]
  exact a6v (c := 114) (.inr (.inr rfl)) hf
theorem wd_two {x : Syl} (hx : x.isR = false) {f : Fr} (hf : IsF f) : walk (wd x) (walk (wd x) f) = walk (wd x.inv) f := by
 have q : walk [116, 114, 116, 114, 116, 114] f = f := a99 (by simp [pcs]) hf
 cases x with
 | r => cases hx
 | s =>
  have e : walk (wd s) (walk (wd s) (walk (wd s) f)) = f := q
  have g := wd_inv s (f := walk (wd s) (walk (wd s) f)) (a2f (a2f hf))
  rw [e] at g
  exact g.symm
 | z =>
  have q2 : ∀ g, IsF g → walk (wd s) (walk (wd s) (walk (wd s) g)) = g := fun g hg => a99 (p := [116, 114, 116, 114, 116, 114]) (by simp [pcs]) hg
  have i : ∀ g, IsF g → walk (wd s) (walk (wd z) g) = g := fun g hg => wd_inv z hg
  have e := q2 (walk (wd z) (walk (wd z) f)) (a2f (a2f hf))
  rw [i _ (a2f hf), i _ hf] at e
  exact e.symm
def Same3 (u v : List Nat) : Prop := ∀ f, IsF f → walk u f = walk v f
theorem alt_append : ∀ {a b : List Syl}, alt a → alt b → (∀ x y, a.getLast? = some x → b.head? = some y → x.isR ≠ y.isR) → alt (a ++ b)
 | [], _, _, hb, _ => hb
 | [x], [], h, _, _ => h
 | [x], y :: b, _, hb, j => ⟨j x y rfl rfl, hb⟩
 | x :: y :: a, b, h, hb, j => ⟨h.1, alt_append (a := y :: a) h.2 hb (fun p q e1 e2 => j p q (by rw [List.getLast?_cons_cons]; exact e1) e2)⟩
theorem alt_rev : ∀ {l : List Syl}, alt l → alt l.reverse
 | [], _ => trivial
 | x :: l, h => by
  rw [List.reverse_cons]
  refine alt_append (alt_rev (alt_tail h)) trivial fun p q e1 e2 => ?_
  rw [List.getLast?_reverse] at e1
  cases l with
  | nil => cases e1
  | cons y l =>
   cases e1
   cases e2
   exact fun z => h.1 z.symm
def psh : Syl → List Syl → List Syl
 | r, r :: l => l
 | s, s :: l => z :: l
 | s, z :: l => l
 | z, z :: l => s :: l
 | z, s :: l => l
 | x, l => x :: l
theorem a9t {x : Syl} {l : List Syl} (h : alt l) : alt (psh x l) := by
 cases x <;> cases l with
 | nil => trivial
 | cons y l =>
  cases y <;> first
   | exact alt_tail h
   | exact ⟨by simp [isR], h⟩
   | (cases l with
     | nil => trivial
     | cons c l => exact ⟨by have := h.1; simpa [isR] using this, h.2⟩)
theorem a4l (l : List Syl) (x : Syl) (f : Fr) : walk (tw ((x :: l).reverse)) f = walk (wd x) (walk (tw l.reverse) f) := by
 rw [List.reverse_cons, tw_append, a1d, tw_cons, tw_nil, List.append_nil]
theorem a88 (x : Syl) (l : List Syl) {f : Fr} (hf : IsF f) : walk (tw (psh x l).reverse) f = walk (wd x) (walk (tw l.reverse) f) := by
  cases x <;> cases l with
  | nil => exact a4l _ _ _
  | cons y l =>
    cases y <;> first
      | exact a4l _ _ _
      | (rw [a4l l]
         exact (wd_inv _ (a2f hf)).symm)
      | (rw [a4l l]
         show walk (tw (_ :: l).reverse) f = _
         rw [a4l l]
         first | exact (wd_two (x := s) rfl (a2f hf)).symm | exact (wd_two (x := z) rfl (a2f hf)).symm)
def stp (l : List Syl) (c : Nat) : List Syl := if c = 116 then psh r (psh s l) else if c = 117 then psh z (psh r l) else psh r l
def row (w : List Nat) : List Syl := w.foldl stp []
theorem stp_alt {l : List Syl} {c : Nat} (h : alt l) : alt (stp l c) := by
 unfold stp
 split
 ·exact a9t (a9t h)
 ·split
  ·exact a9t (a9t h)
  ·exact a9t h
theorem stp_walk (l : List Syl) {c : Nat} (hc : IsL c) {f : Fr} (hf : IsF f) : walk (tw (stp l c).reverse) f = mv c (walk (tw l.reverse) f) := by
 have rr : ∀ g, IsF g → mv 114 (mv 114 g) = g := fun g hg => a6v (c := 114) (.inr (.inr rfl)) hg
 rcases hc with rfl | rfl | rfl
 ·show walk (tw (psh r (psh s l)).reverse) f = _
  rw [a88 r _ hf, a88 s l hf]
  exact rr _ (mv_F (a2f hf))
 ·show walk (tw (psh z (psh r l)).reverse) f = _
  rw [a88 z _ hf, a88 r l hf]
  show mv 117 (mv 114 (mv 114 _)) = _
  rw [rr _ (a2f hf)]
 ·show walk (tw (psh r l).reverse) f = _
  rw [a88 r l hf]
  rfl
theorem foldl_alt : ∀ (w : List Nat) {l : List Syl}, alt l → alt (w.foldl stp l)
 | [], _, h => h
 | _ :: w, _, h => foldl_alt w (stp_alt h)
theorem foldl_walk : ∀ (w : List Nat) (l : List Syl), IsW w → ∀ {f : Fr}, IsF f → walk (tw (w.foldl stp l).reverse) f = walk w (walk (tw l.reverse) f)
 | [], _, _, _, _ => rfl
 | c :: w, l, h, f, hf => by
  rw [List.foldl_cons, foldl_walk w _ h.tail hf, stp_walk l h.head hf, a5b]
theorem row_alt (w : List Nat) : alt (row w) := foldl_alt w trivial
theorem row_walk {w : List Nat} (h : IsW w) {f : Fr} (hf : IsF f) : walk (tw (row w).reverse) f = walk w f := foldl_walk w [] h hf
end TW
namespace TW
open Syl
end TW
namespace TW
open Syl
def sy (y : Bool) : Syl := if y = true then s else z
def rnd (ys : List Bool) : List Syl := ys.flatMap fun y => [r, sy y]
theorem rnd_cons (y : Bool) (ys : List Bool) : rnd (y :: ys) = r :: sy y :: rnd ys := rfl
inductive Rd : List Syl → Prop
 | none : Rd []
 | lone (x : Syl) : Rd [x]
 | many (ys : List Bool) : Rd (rnd ys)
end TW
namespace TW
open Syl
def a6i (B : List Syl) (x : Syl) : List Syl := (psh x B.reverse).reverse
def tog : Syl → Syl → Option (Option Syl)
 | r, r => some none
 | s, s => some (some z)
 | z, z => some (some s)
 | s, z => some none
 | z, s => some none
 | _, _ => none
theorem pushB_nil (x : Syl) : a6i [] x = [x] := by cases x <;> rfl
theorem a78 (B : List Syl) (y x : Syl) : a6i (B ++ [y]) x = (match tog y x with | none => B ++ [y, x] | some none => B | some (some w) => B ++ [w]) := by
 unfold a6i
 rw [List.reverse_append]
 show (psh x (y :: B.reverse)).reverse = _
 cases y <;> cases x <;> simp [psh, tog]
theorem a9m {α : Type} {l : List α} (h : l ≠ []) : ∃ a b, l = a ++ [b] := ⟨l.dropLast, l.getLast h, (List.dropLast_concat_getLast h).symm⟩
theorem pushB_app (P : List Syl) {C : List Syl} (x : Syl) (h : C ≠ []) : a6i (P ++ C) x = P ++ a6i C x := by
 obtain ⟨D, y, rfl⟩ := a9m h
 rw [← List.append_assoc, a78, a78]
 cases tog y x with
 | none => simp
 | some w => cases w <;> simp
theorem pushB_walk (C : List Syl) (x : Syl) {f : Fr} (hf : IsF f) : walk (tw (a6i C x)) f = walk (wd x) (walk (tw C) f) := by
 unfold a6i
 rw [a88 x C.reverse hf, List.reverse_reverse]
theorem pushB_alt {C : List Syl} {x : Syl} (h : alt C) : alt (a6i C x) := alt_rev (a9t (alt_rev h))
theorem pushB_len (C : List Syl) (x : Syl) : (a6i C x).length ≤ C.length + 1 := by
 by_cases h : C = []
 ·subst h; rw [pushB_nil]; simp
 ·obtain ⟨D, y, rfl⟩ := a9m h
  rw [a78]
  cases tog y x with
  | none => simp
  | some w => cases w <;> simp <;> omega
def a3z (u : List Nat) : List Syl := (row u).reverse
def bts (c : Nat) : List Syl := if c = 116 then [s, r] else if c = 117 then [r, z] else [r]
theorem beats_snoc (u : List Nat) (c : Nat) : a3z (u ++ [c]) = (bts c).foldl a6i (a3z u) := by
 unfold a3z row bts
 rw [List.foldl_append]
 show (stp (u.foldl stp []) c).reverse = _
 unfold stp
 split
 ·simp [a6i]
 split
 ·simp [a6i]
 ·simp [a6i]
theorem beats_alt (u : List Nat) : alt (a3z u) := alt_rev (row_alt u)
theorem beats_walk {u : List Nat} (h : IsW u) {f : Fr} (hf : IsF f) : walk (tw (a3z u)) f = walk u f := row_walk h hf
theorem stp_len (l : List Syl) (c : Nat) : (stp l c).length ≤ l.length + 2 := by
 have h : ∀ (x : Syl) (m : List Syl), (psh x m).length ≤ m.length + 1 := fun x m => by
  have := pushB_len m.reverse x
  unfold a6i at this
  simpa using this
 unfold stp
 split
 ·have := h r (psh s l); have := h s l; omega
 split
 ·have := h z (psh r l); have := h r l; omega
 ·have := h r l; omega
theorem beats_len (u : List Nat) : (a3z u).length ≤ 2 * u.length := by
 unfold a3z row
 rw [List.length_reverse]
 have h : ∀ (w : List Nat) (l : List Syl), (w.foldl stp l).length ≤ l.length + 2 * w.length := by
  intro w
  induction w with
  | nil => intro l; simp
  | cons c r ih =>
   intro l
   rw [List.foldl_cons, List.length_cons]
   have := ih (stp l c)
   have := stp_len l c
   omega
 have := h u []
 simpa using this
theorem tw_len (l : List Syl) : (tw l).length ≤ 2 * l.length := by
 induction l with
 | nil => simp [tw]
 | cons x r ih =>
  rw [tw_cons, List.length_append, List.length_cons]
  have : (wd x).length ≤ 2 := by cases x <;> simp [wd]
  omega
def mu (B : List Syl) : Nat := 2 * B.length + (if B.head? = some r then 0 else 1)
theorem mu_le (B : List Syl) : mu B ≤ 2 * B.length + 1 := by unfold mu; split <;> omega
theorem mu_ge (B : List Syl) : 2 * B.length ≤ mu B := by unfold mu; omega
theorem acj (x : Syl) : x.isR = true ↔ x = r := by cases x <;> simp [isR]
theorem turn_mu {b : Syl} {C : List Syl} (hC : C ≠ []) (ha : alt (b :: C)) (h : b ≠ r ∨ C.getLast? = some r) : mu (a6i C b) < mu (b :: C) := by
 obtain ⟨D, y, rfl⟩ := a9m hC
 have hl : (b :: (D ++ [y])).length = D.length + 2 := by simp
 have g := mu_ge (b :: (D ++ [y]))
 rw [hl] at g
 rw [a78]
 have hy : (D ++ [y]).getLast? = some y := by simp
 rw [hy] at h
 cases e : tog y b with
 | none =>
  have hbr : b ≠ r := by
   rcases h with h | h
   ·exact h
   ·have e2 : y = r := Option.some.inj h
    subst e2
    intro z
    subst z
    cases e
  have hmu : mu (b :: (D ++ [y])) = 2 * (D.length + 2) + 1 := by
   unfold mu
   rw [hl, if_neg (by simpa using hbr)]
  rw [hmu]
  show mu (D ++ [y, b]) < _
  have hh : (D ++ [y, b]).head? = some r := by
   cases D with
   | nil =>
    have := ha.1
    have hb : b.isR = false := by rw [Bool.eq_false_iff]; intro z; exact hbr ((acj b).mp z)
    rw [hb] at this
    have : y.isR = true := by cases q : y.isR with | true => rfl | false => rw [q] at this; exact absurd rfl this
    simp [(acj y).mp this]
   | cons c D =>
    have := ha.1
    have hb : b.isR = false := by rw [Bool.eq_false_iff]; intro z; exact hbr ((acj b).mp z)
    rw [hb] at this
    have : c.isR = true := by cases q : c.isR with | true => rfl | false => rw [q] at this; exact absurd rfl this
    simp [(acj c).mp this]
  unfold mu
  rw [if_pos hh]
  simp
 | some w =>
  cases w with
  | none =>
   show mu D < _
   have := mu_le D
   omega
  | some w =>
   show mu (D ++ [w]) < _
   have := mu_le (D ++ [w])
   have hd : (D ++ [w]).length = D.length + 1 := by simp
   rw [hd] at this
   omega
theorem rnd_of : ∀ (n : Nat) (B : List Syl), B.length ≤ n → alt B → B.head? = some r → B.getLast? ≠ some r → ∃ ys, B = rnd ys := by
 intro n
 induction n with
 | zero =>
  intro B hl _ hh _
  have : B = [] := List.eq_nil_of_length_eq_zero (by omega)
  subst this; cases hh
 | succ n ih =>
  intro B hl ha hh hg
  match B, hh with
  | [x], hh =>
   have : x = r := Option.some.inj hh
   subst this
   exact absurd rfl hg
  | [x, y], hh =>
   have : x = r := Option.some.inj hh
   subst this
   have h1 : y.isR = false := by
    cases q : y.isR with
    | false => rfl
    | true => exact absurd q.symm ha.1
   cases y with
   | r => cases h1
   | s => exact ⟨[true], rfl⟩
   | z => exact ⟨[false], rfl⟩
  | x :: y :: c :: R, hh =>
   have : x = r := Option.some.inj hh
   subst this
   have h1 : y.isR = false := by
    cases q : y.isR with
    | false => rfl
    | true => exact absurd q.symm ha.1
   have h2 : c.isR = true := by
    have := ha.2.1
    rw [h1] at this
    cases q : c.isR with
    | true => rfl
    | false => rw [q] at this; exact absurd rfl this
   have hc : c = r := (acj c).mp h2
   subst hc
   obtain ⟨ys, e⟩ := ih (r :: R) (by simp at hl ⊢; omega) ha.2.2 rfl (by
    rw [List.getLast?_cons_cons, List.getLast?_cons_cons] at hg
    exact hg)
   cases y with
   | r => cases h1
   | s => exact ⟨true :: ys, by rw [rnd_cons, ← e]; rfl⟩
   | z => exact ⟨false :: ys, by rw [rnd_cons, ← e]; rfl⟩
theorem exit_Rd {B : List Syl} (ha : alt B) (h : B.length ≤ 1 ∨ (B.head? = some r ∧ B.getLast? ≠ some r)) : Rd B := by
 rcases h with h | ⟨h1, h2⟩
 ·match B, h with
  | [], _ => exact .none
  | [x], _ => exact .lone x
 ·obtain ⟨ys, rfl⟩ := rnd_of _ B (Nat.le_refl _) ha h1 h2
  exact .many ys
theorem infix_rot {u v : List Nat} {i : Nat} (hl : u.length = v.length) (hi : i + u.length ≤ (v ++ v).length) (h : ((v ++ v).drop i).take u.length = u) : i ≤ v.length ∧ u = v.drop i ++ v.take i := by
 have h1 : i ≤ v.length := by rw [List.length_append] at hi; omega
 refine ⟨h1, ?_⟩
 rw [List.drop_append_of_le_length h1, List.take_append, List.take_of_length_le (by rw [List.length_drop]; omega)] at h
 rw [List.length_drop] at h
 have e : u.length - (v.length - i) = i := by omega
 rw [e] at h
 exact h.symm
theorem rot_infix {u v p q : List Nat} (hu : u = p ++ q) (hv : v = q ++ p) : u.length = v.length ∧ p.length + v.length ≤ (u ++ u).length ∧ ((u ++ u).drop p.length).take v.length = v := by
 subst hu hv
 refine ⟨by simp; omega, by simp, ?_⟩
 rw [List.append_assoc p q (p ++ q), List.drop_left' rfl]
 have : q ++ (p ++ q) = (q ++ p) ++ q := by simp
 rw [this, List.take_left' rfl]
def Cj (u a b : List Nat) : Prop := ∀ f, IsF f → walk a (walk u f) = walk b (walk a f)
theorem Cj.turn {u : List Nat} {A C : List Syl} {b : Syl} (h : Cj u (tw A) (tw (b :: C))) : Cj u (tw (A ++ [b])) (tw (a6i C b)) := fun f hf => by
 have e : tw (A ++ [b]) = tw A ++ wd b := by rw [tw_append, tw_cons, tw_nil, List.append_nil]
 rw [e, a1d, a1d, h f hf, pushB_walk C b (a2f (a2f hf)), tw_cons, a1d]
theorem Cj.alike {u a a' b : List Nat} (h : Cj u a b) (e : Same3 a a') : Cj u a' b := fun f hf => by rw [← e _ (a2f hf), ← e f hf, h f hf]
theorem else_word {x y a1 a2 p q : List Nat} (hx : Cj x a1 (q ++ p)) (hy : Cj y a2 (p ++ q)) (h1 : IsW a1) (h2 : IsW a2) (hp : IsW p) {f : Fr} (hf : IsF f) : walk ((a1 ++ bk p ++ bk a2) ++ y ++ bk (a1 ++ bk p ++ bk a2)) f = walk x f := by
 have inv : ∀ {w : List Nat} {g : Fr}, IsW w → IsF g → walk w (walk (bk w) g) = g := fun {w g} hw hg => by
  have e := a8k (w := bk w) (bk_W w) hg
  rwa [bk_bk hw] at e
 have eb : bk (a1 ++ bk p ++ bk a2) = a2 ++ (p ++ bk a1) := by rw [bk_append, bk_append, bk_bk h2, bk_bk hp]
 rw [eb]
 simp only [a1d]
 have F1 : IsF (walk a1 f) := a2f hf
 have F2 : IsF (walk (bk p) (walk a1 f)) := a2f F1
 have F3 : IsF (walk (bk a2) (walk (bk p) (walk a1 f))) := a2f F2
 rw [hy _ F3, inv h2 F2, a1d, inv hp F1]
 have e := hx f hf
 rw [a1d] at e
 rw [← e, a8k h1 (a2f hf)]
theorem bk_same {a b : List Nat} (ha : IsW a) (hb : IsW b) (h : Same3 a b) : Same3 (bk a) (bk b) := fun f hf => by
 have e := a8k (w := bk b) (bk_W b) hf
 rw [bk_bk hb] at e
 have h2 := h (walk (bk b) f) (a2f hf)
 rw [e] at h2
 rw [← h2, a8k ha (a2f hf)]
 rw [h2]
theorem begun_same {a b y : List Nat} (ha : IsW a) (hb : IsW b) (h : Same3 a b) : Same3 (a ++ y ++ bk a) (b ++ y ++ bk b) := fun f hf => by
 simp only [a1d]
 rw [h f hf, bk_same ha hb h _ (a2f (a2f hf))]
end TW
namespace TW
abbrev Stp := Bool × Int × List Nat
def prs : List (List Nat) := [[116, 117], [117, 116], [114, 114]]
def pr (x : List Nat) : List Nat := if x.take 1 = [114] then x.drop 1 else 114 :: x
def sett (x : List Nat) : List Nat :=
 if (x.take 2).reverse ∈ prs then x.drop 2
 else if x.take 3 = [116, 114, 116] then 114 :: 117 :: pr (x.drop 3)
 else if x.take 3 = [117, 114, 117] then 114 :: 116 :: pr (x.drop 3) else x
def ovT (n : Nat) : List Stp := [(true, (n : Int) + 3, [114, 114]), (true, (n : Int) + 4, [116, 117]), (true, (n : Int) + 5, [114, 114]), (false, (n : Int) + 0, [116, 114, 116, 114, 116, 114])]
def ovU (n : Nat) : List Stp := [(true, (n : Int) + 1, [116, 114, 116, 114, 116, 114]), (false, (n : Int) + 0, [117, 116]), (false, (n : Int) + 4, [114, 114]), (false, (n : Int) + 3, [116, 117])]
def prS (x : List Nat) : List Stp := if x.take 1 = [114] then [(false, ((x.length - 1 : Nat) : Int), [114, 114])] else []
def a2h (x : List Nat) : List Stp :=
 if (x.take 2).reverse ∈ prs then [(false, ((x.length - 2 : Nat) : Int), (x.take 2).reverse)]
 else if x.take 3 = [116, 114, 116] then ovT (x.length - 3) ++ prS (x.drop 3)
 else if x.take 3 = [117, 114, 117] then ovU (x.length - 3) ++ prS (x.drop 3) else []
def rns : List Stp → List Nat → Option (List Nat)
 | [], u => some u
 | (b, i, p) :: r, u => (due u b i p).bind (rns r)
theorem a9q (a b : List Stp) (u : List Nat) : rns (a ++ b) u = (rns a u).bind (rns b) := by
 induction a generalizing u with
 | nil => rfl
 | cons t a ih =>
  obtain ⟨x, i, p⟩ := t
  show (due u x i p).bind (rns (a ++ b)) = ((due u x i p).bind (rns a)).bind (rns b)
  cases due u x i p with
  | none => rfl
  | some v => exact ih v
theorem at_in (a b p : List Nat) {i : Int} (hi : i = a.length) : due (a ++ b) true i p = some (a ++ p ++ b) := by
 subst hi
 rw [due_in (by omega) (by simp; omega)]
 simp
theorem at_out (a p b : List Nat) {i : Int} (hi : i = a.length) : due (a ++ p ++ b) false i p = some (a ++ b) := by
 subst hi
 rw [due_out (by omega) (by simp; omega)]
 have e1 : ((a.length : Int)).toNat = a.length := by omega
 rw [e1, List.append_assoc, List.drop_left' rfl, List.take_left' rfl, if_pos rfl, List.take_left' rfl]
 congr 2
 rw [← List.append_assoc, List.drop_left' (by simp)]
theorem ovT_run (L rest : List Nat) : rns (ovT L.length) (L ++ [116, 114, 116] ++ rest) = some (L ++ [114, 117, 114] ++ rest) := by
 unfold ovT
 have e1 := at_in (L ++ [116, 114, 116]) rest [114, 114] (i := (L.length : Int) + 3) (by simp)
 have e2 := at_in (L ++ [116, 114, 116, 114]) ([114] ++ rest) [116, 117] (i := (L.length : Int) + 4) (by simp)
 have e3 := at_in (L ++ [116, 114, 116, 114, 116]) ([117, 114] ++ rest) [114, 114] (i := (L.length : Int) + 5) (by simp)
 have e4 := at_out L [116, 114, 116, 114, 116, 114] ([114, 117, 114] ++ rest) (i := (L.length : Int) + 0) (by simp)
 simp only [List.append_assoc, List.cons_append, List.nil_append] at e1 e2 e3 e4 ⊢
 unfold rns
 rw [e1]
 show (due _ _ _ _).bind _ = _
 rw [e2]
 show (due _ _ _ _).bind _ = _
 rw [e3]
 show (due _ _ _ _).bind _ = _
 rw [e4]
 rfl
theorem ovU_run (L rest : List Nat) : rns (ovU L.length) (L ++ [117, 114, 117] ++ rest) = some (L ++ [114, 116, 114] ++ rest) := by
 unfold ovU
 have e1 := at_in (L ++ [117]) ([114, 117] ++ rest) [116, 114, 116, 114, 116, 114] (i := (L.length : Int) + 1) (by simp)
 have e2 := at_out L [117, 116] ([114, 116, 114, 116, 114, 114, 117] ++ rest) (i := (L.length : Int) + 0) (by simp)
 have e3 := at_out (L ++ [114, 116, 114, 116]) [114, 114] ([117] ++ rest) (i := (L.length : Int) + 4) (by simp)
 have e4 := at_out (L ++ [114, 116, 114]) [116, 117] rest (i := (L.length : Int) + 3) (by simp)
 simp only [List.append_assoc, List.cons_append, List.nil_append] at e1 e2 e3 e4 ⊢
 unfold rns
 rw [e1]
 show (due _ _ _ _).bind _ = _
 rw [e2]
 show (due _ _ _ _).bind _ = _
 rw [e3]
 show (due _ _ _ _).bind _ = _
 rw [e4]
 rfl
theorem take1_cons {x : List Nat} {a : Nat} (h : x.take 1 = [a]) : x = a :: x.drop 1 := by
 have := List.take_append_drop 1 x
 rw [h] at this
 exact this.symm
theorem prS_run (x rest : List Nat) : rns (prS x) (x.reverse ++ [114] ++ rest) = some ((pr x).reverse ++ rest) := by
 unfold prS pr
 split
 ·rename_i h
  have e := take1_cons h
  have e2 : x.reverse = (x.drop 1).reverse ++ [114] := by
   have z := congrArg List.reverse e
   rw [List.reverse_cons] at z
   exact z
  have hl : (x.length - 1 : Nat) = (x.drop 1).reverse.length := by simp
  rw [hl]
  have e3 := at_out (x.drop 1).reverse [114, 114] rest (i := (((x.drop 1).reverse.length : Nat) : Int)) rfl
  rw [e2]
  simp only [List.append_assoc, List.cons_append, List.nil_append] at e3 ⊢
  unfold rns
  rw [e3]
  rfl
 ·show some _ = some _
  rw [List.reverse_cons]
theorem rev_take3 {x : List Nat} {a b c : Nat} (h : x.take 3 = [a, b, c]) : x.reverse = (x.drop 3).reverse ++ [c, b, a] ∧ (x.length - 3 : Nat) = (x.drop 3).reverse.length := by
 have := List.take_append_drop 3 x
 rw [h] at this
 refine ⟨?_, by simp⟩
 conv => lhs; rw [← this]
 simp
theorem stepsOf_run (x rest : List Nat) : rns (a2h x) (x.reverse ++ rest) = some ((sett x).reverse ++ rest) := by
 unfold a2h sett
 split
 ·have e : x.reverse = (x.drop 2).reverse ++ (x.take 2).reverse := by
   rw [← List.reverse_append, List.take_append_drop]
  have hl : (x.length - 2 : Nat) = (x.drop 2).reverse.length := by simp
  rw [hl]
  have e3 := at_out (x.drop 2).reverse (x.take 2).reverse rest (i := (((x.drop 2).reverse.length : Nat) : Int)) rfl
  rw [← e] at e3
  unfold rns
  rw [e3]
  rfl
 split
 ·rename_i h
  obtain ⟨e, hl⟩ := rev_take3 h
  rw [a9q, e, hl, ovT_run]
  show rns (prS (x.drop 3)) ((x.drop 3).reverse ++ [114, 117, 114] ++ rest) = _
  have := prS_run (x.drop 3) ([117, 114] ++ rest)
  simp only [List.append_assoc, List.cons_append, List.nil_append, List.reverse_cons] at this ⊢
  exact this
 split
 ·rename_i h
  obtain ⟨e, hl⟩ := rev_take3 h
  rw [a9q, e, hl, ovU_run]
  show rns (prS (x.drop 3)) ((x.drop 3).reverse ++ [114, 116, 114] ++ rest) = _
  have := prS_run (x.drop 3) ([116, 114] ++ rest)
  simp only [List.append_assoc, List.cons_append, List.nil_append, List.reverse_cons] at this ⊢
  exact this
 ·rfl
theorem rns_walk {sts : List Stp} {u v : List Nat} (hp : ∀ t ∈ sts, t.2.2 ∈ pcs) (h : rns sts u = some v) : Same3 u v := by
 induction sts generalizing u with
 | nil => cases h; exact fun _ _ => rfl
 | cons t r ih =>
  obtain ⟨b, i, p⟩ := t
  have h' : (due u b i p).bind (rns r) = some v := h
  cases e : due u b i p with
  | none => rw [e] at h'; cases h'
  | some w =>
   rw [e] at h'
   have := ih (fun t ht => hp t (List.mem_cons_of_mem _ ht)) h'
   exact fun f hf => by rw [← this f hf]; exact (due_walk hf (hp _ List.mem_cons_self) e).symm
theorem prs_pcs {p : List Nat} (h : p ∈ prs) : p ∈ pcs := by
 unfold prs at h
 unfold pcs
 simp only [List.mem_cons, List.not_mem_nil, or_false] at h ⊢
 rcases h with h | h | h
 ·exact .inl h
 ·exact .inr (.inl h)
 ·exact .inr (.inr (.inl h))
theorem prS_pcs {x : List Nat} : ∀ t ∈ prS x, t.2.2 ∈ pcs := by
 intro t ht
 unfold prS at ht
 split at ht
 ·have := List.mem_singleton.mp ht
  subst this
  simp [pcs]
 ·cases ht
theorem stepsOf_pcs {x : List Nat} : ∀ t ∈ a2h x, t.2.2 ∈ pcs := by
 intro t ht
 unfold a2h at ht
 split at ht
 ·rename_i h
  have := List.mem_singleton.mp ht
  subst this
  exact prs_pcs h
 split at ht
 ·rcases List.mem_append.mp ht with ht | ht
  ·unfold ovT at ht
   simp only [List.mem_cons, List.not_mem_nil, or_false] at ht
   rcases ht with rfl | rfl | rfl | rfl <;> simp [pcs]
  ·exact prS_pcs t ht
 split at ht
 ·rcases List.mem_append.mp ht with ht | ht
  ·unfold ovU at ht
   simp only [List.mem_cons, List.not_mem_nil, or_false] at ht
   rcases ht with rfl | rfl | rfl | rfl <;> simp [pcs]
  ·exact prS_pcs t ht
 ·cases ht
theorem stepsOf_len (x : List Nat) : (a2h x).length ≤ 5 := by
 have h : ∀ y, (prS y).length ≤ 1 := fun y => by unfold prS; split <;> simp
 unfold a2h
 split
 ·simp
 split
 ·rw [List.length_append]; have := h (x.drop 3); simp [ovT]; omega
 split
 ·rw [List.length_append]; have := h (x.drop 3); simp [ovU]; omega
 ·simp
theorem pr_len (x : List Nat) : (pr x).length ≤ x.length + 1 := by
 unfold pr
 split
 ·rw [List.length_drop]; omega
 ·simp
theorem sett_len (x : List Nat) : (sett x).length ≤ x.length := by
 unfold sett
 split
 ·rw [List.length_drop]; omega
 split
 ·rename_i h
  have l := congrArg List.length h
  rw [List.length_take] at l
  have := pr_len (x.drop 3)
  rw [List.length_drop] at this
  simp only [List.length_cons, List.length_nil] at l ⊢
  omega
 split
 ·rename_i h
  have l := congrArg List.length h
  rw [List.length_take] at l
  have := pr_len (x.drop 3)
  rw [List.length_drop] at this
  simp only [List.length_cons, List.length_nil] at l ⊢
  omega
 ·exact Nat.le_refl _
theorem pr_W {x : List Nat} (h : IsW x) : IsW (pr x) := by
 unfold pr
 split
 ·exact fun c hc => h c (List.mem_of_mem_drop hc)
 ·exact IsW.cons (.inr (.inr rfl)) h
theorem sett_W {x : List Nat} (h : IsW x) : IsW (sett x) := by
 have hd : ∀ n, IsW (x.drop n) := fun n c hc => h c (List.mem_of_mem_drop hc)
 unfold sett
 split
 ·exact hd 2
 split
 ·exact IsW.cons (.inr (.inr rfl)) (IsW.cons (.inr (.inl rfl)) (pr_W (hd 3)))
 split
 ·exact IsW.cons (.inr (.inr rfl)) (IsW.cons (.inl rfl) (pr_W (hd 3)))
 ·exact h
def mps (u : List Nat) : List Stp × List Nat := u.foldl (fun a c => (a.1 ++ a2h (c :: a.2), sett (c :: a.2))) ([], [])
theorem a9e (u : List Nat) (c : Nat) : mps (u ++ [c]) = ((mps u).1 ++ a2h (c :: (mps u).2), sett (c :: (mps u).2)) := by
 unfold mps; rw [List.foldl_append]; rfl
def aae (u : List Nat) : List Nat := (mps u).2.reverse
theorem snoc_ind {P : List Nat → Prop} (h0 : P []) (h1 : ∀ u c, P u → P (u ++ [c])) (u : List Nat) : P u := by
 have : ∀ n (u : List Nat), u.length = n → P u := by
  intro n
  induction n with
  | zero => intro u h; rw [List.eq_nil_of_length_eq_zero h]; exact h0
  | succ n ih =>
   intro u h
   obtain ⟨a, b, rfl⟩ := a9m (l := u) (fun e => by subst e; cases h)
   exact h1 a b (ih a (by simpa using h))
 exact this _ u rfl
theorem mps_run (u : List Nat) : ∀ rest, rns (mps u).1 (u ++ rest) = some ((mps u).2.reverse ++ rest) := by
 refine snoc_ind (P := fun u => ∀ rest, rns (mps u).1 (u ++ rest) = some ((mps u).2.reverse ++ rest)) (fun rest => rfl) (fun u c ih rest => ?_) u
 rw [a9e, a9q, List.append_assoc, ih]
 show rns (a2h (c :: (mps u).2)) ((mps u).2.reverse ++ ([c] ++ rest)) = _
 have := stepsOf_run (c :: (mps u).2) rest
 rw [List.reverse_cons, List.append_assoc] at this
 exact this
theorem mps_pcs (u : List Nat) : ∀ t ∈ (mps u).1, t.2.2 ∈ pcs := by
 refine snoc_ind (P := fun u => ∀ t ∈ (mps u).1, t.2.2 ∈ pcs) (fun t ht => by cases ht) (fun u c ih t ht => ?_) u
 rw [a9e] at ht
 rcases List.mem_append.mp ht with ht | ht
 ·exact ih t ht
 ·exact stepsOf_pcs t ht
theorem a8q (u : List Nat) : (mps u).1.length ≤ 5 * u.length ∧ (mps u).2.length ≤ u.length := by
 refine snoc_ind (P := fun u => (mps u).1.length ≤ 5 * u.length ∧ (mps u).2.length ≤ u.length) ⟨Nat.le_refl _, Nat.le_refl _⟩ (fun u c ih => ?_) u
 rw [a9e]
 have h1 := stepsOf_len (c :: (mps u).2)
 have h2 := sett_len (c :: (mps u).2)
 simp only [List.length_append, List.length_cons, List.length_nil] at h2 ⊢
 omega
theorem mps_W {u : List Nat} (h : IsW u) : IsW (mps u).2 := by
 refine snoc_ind (P := fun u => IsW u → IsW (mps u).2) (fun _ => IsW.nil) (fun u c ih hw => ?_) u h
 rw [a9e]
 exact sett_W (IsW.cons (hw c (by simp)) (ih fun d hd => hw d (List.mem_append_left _ hd)))
theorem a9u (u : List Nat) : Same3 u (aae u) := by
 have := mps_run u []
 rw [List.append_nil, List.append_nil] at this
 exact rns_walk (mps_pcs u) this
theorem plain_W {u : List Nat} (h : IsW u) : IsW (aae u) := fun c hc => mps_W h c (List.mem_reverse.mp hc)
theorem plain_len (u : List Nat) : (aae u).length ≤ u.length := by
 unfold aae
 rw [List.length_reverse]
 exact (a8q u).2
end TW
namespace TX
open PySem L2 TW
open TW.Syl (wd)
theorem ns_none {K : PySem.W.Frag} {a : Addr} {es : Array DictEntry} {n : Nat} {k : Str} (lk : K.lookup a = some ⟨.type "dict", none, .dict es n, #[]⟩) (h : ∀ e ∈ es.toList, ∃ x t, e.key = .str x t ∧ x ≠ k) : PySem.W.nsIn K a k = some none := by
 unfold PySem.W.nsIn
 rw [lk]
 have h1 : es.toList.find? (fun e => e.key.isStr k) = none := by
  rw [List.find?_eq_none]
  intro e he
  obtain ⟨x, t, e1, e2⟩ := h e he
  rw [e1]
  show ¬ ((x == k) = true)
  rw [beq_iff_eq]
  exact e2
 have h2 : es.toList.any (fun e => e.refKey) = false := by
  rw [List.any_eq_false]
  intro e he
  obtain ⟨x, t, e1, e2⟩ := h e he
  unfold DictEntry.refKey
  rw [e1]
  simp
 simp only [h1, h2]
 simp
theorem keys_ne {es : Array DictEntry} {ks : List Value} {k : Str} (h : es.toList.map (·.key) = ks) (h2 : ∀ v ∈ ks, ∃ x t, v = .str x t ∧ x ≠ k) : ∀ e ∈ es.toList, ∃ x t, e.key = .str x t ∧ x ≠ k := fun e he => h2 _ (h ▸ List.mem_map_of_mem he)
theorem _root_.L2.a9w {X : Cx} {K : PySem.W.Frag} (e : X.K = K) : OpR X (compareOp .In) (rIn K false) := e ▸ op_in_seq
theorem _root_.L2.a91 {X : Cx} {K : PySem.W.Frag} (e : X.K = K) : SlR X (rSlL K) := e ▸ sl_list
theorem _root_.L2.a8r {X : Cx} {K : PySem.W.Frag} (e : X.K = K) : IxR X (rIxL K) := e ▸ ix_list
theorem _root_.L2.ix_modK {X : Cx} {K : PySem.W.Frag} {Pm : Params} (e : X.K = K) (e2 : X.w.params = Pm) : IxR X (rIxM K Pm) := e ▸ e2 ▸ ix_mod
theorem _root_.L2.mt_joinK {X : Cx} {K : PySem.W.Frag} (e : X.K = K) : MtR X "str.join" (rJoin K) := e ▸ a7f
theorem _root_.L2.pe_bmK {X : Cx} {K : PySem.W.Frag} {o e : Expr} {es : List Expr} {to : TE} {t : TA} {name : Str} {apos cpos : Pos} {T id : String} {r : V → List V → Hp → VK → Prop} (eK : X.K = K) (pa : PySem.PlainAttrs T) (slot : PySem.Slot T name id) (hty : typeOf (.builtin id) = pure (.type "method_descriptor")) (hm : MtR X id r) (ho : PE X o to) (ha : PA X (e :: es) t)
  (hbase : attributeBase o name X.env (eval o X.env) = eval o X.env := by rfl)
  (hfew : ((backTo cpos (starEach (e :: es) X.env)).all (fun x => !x.1) && (backToKw cpos (keywordEach [] X.env)).all (fun x => x.1.isSome)
   && decide ((e :: es).length + ([] : List Keyword).length + (if ([] : List Keyword).isEmpty then 0 else 1) < 30)) = true := by rfl)
  (hline : (apos.endLine == cpos.line) = true := by rfl) (hs : starEach (e :: es) X.env = (false, eval e X.env) :: starEach es X.env := by rfl) (hplain : (backTo cpos (starEach es X.env)).any (·.1) = false := by rfl) :
  PE X (.Call (.Attribute o name apos) (e :: es) [] cpos) (tBM K T r to t) := eK ▸ a6s pa slot hty hm ho ha hbase hfew hline hs hplain
theorem cnt3_eq (n : Nat) : cnt3 0 (n : Int) 3 = (n + 2) / 3 := by
 unfold cnt3 Builtin.Range.rangeSize
 rw [if_pos (by decide)]
 split <;> omega
theorem a9s {f : Str} {v : V} {fs : List (Str × V)} {n : Nat} (h : fs.length ≤ n) : (putF f v fs).length ≤ n + 1 := by
 induction fs generalizing n with
 | nil => simp [putF]
 | cons p r ih =>
  obtain ⟨g, x⟩ := p
  unfold putF
  split
  ·rw [List.length_cons] at h ⊢; omega
  ·rw [List.length_cons] at h ⊢
   have := ih (n := n - 1) (by omega)
   omega
def exV (x : V) : V := match x with | .str y => V.str (S [TW.exch (y.cps.getD 0 0)]) | z => z
theorem back_signs2 {u : List Nat} (h : IsW u) : (sgV (S u)).reverse.map exV = ((bk u).map fun c => S [c]).map V.str := by
 rw [sg_S, ← List.map_reverse, List.map_map, bk, List.map_map, List.map_map]
 rfl
def lv (x : List Nat) : List V := x.map fun c => V.str (S [c])
theorem a79 (a b : List Nat) : lv (a ++ b) = lv a ++ lv b := by unfold lv; simp
theorem lv_len (a : List Nat) : (lv a).length = a.length := by unfold lv; simp
def sV (x : List (List Nat)) : List V := x.map fun c => V.str (S c)
theorem a98 (a b : List (List Nat)) : sV (a ++ b) = sV a ++ sV b := by unfold sV; simp
theorem a7i (a : List (List Nat)) : (sV a).length = a.length := by unfold sV; simp
theorem sV_strs (a : List (List Nat)) : sV a = (a.map S).map V.str := by unfold sV; simp
theorem sV_at {a : List (List Nat)} {i : Nat} {x : V} (h : (sV a)[i]? = some x) : ∃ c, a[i]? = some c ∧ x = .str (S c) := by
 unfold sV at h
 rw [List.getElem?_map] at h
 cases e : a[i]? with
 | none => rw [e] at h; cases h
 | some c => rw [e] at h; cases h; exact ⟨c, rfl, rfl⟩
theorem inV_S (u : List Nat) (ls : List (List Nat)) : inV (.str (S u)) (sV ls) = ls.contains u := by
 rw [sV_strs, inV_str, Bool.eq_iff_iff, List.contains_iff_mem, List.contains_iff_mem]
 constructor
 ·intro h
  obtain ⟨x, hx, e⟩ := List.mem_map.mp h
  rw [← aav e]; exact hx
 ·intro h
  exact List.mem_map_of_mem h
theorem flat_sV (ls : List (List Nat)) : (sV ls).all acp = true := by
 rw [List.all_eq_true]
 intro x hx
 unfold sV at hx
 obtain ⟨c, _, rfl⟩ := List.mem_map.mp hx
 rfl
theorem lv_sV (x : List Nat) : lv x = sV (x.map fun c => [c]) := by unfold lv sV; simp
theorem a6n : ∀ ls : List (List Nat), Str.join ("" : Str) (ls.map S) = S ls.flatten
 | [] => rfl
 | [c] => by show S c = _; simp
 | c :: d :: r => by
  have ih := a6n (d :: r)
  show S c ++ ("" : Str) ++ Str.join ("" : Str) ((d :: r).map S) = _
  rw [ih, show ("" : Str) = S [] from rfl, a2l, a2l]
  simp
theorem flat1 (x : List Nat) : (x.map fun c => [c]).flatten = x := by induction x <;> simp_all
theorem sum_len (ls : List (List Nat)) : ((ls.map S).map (·.length)).sum = ls.flatten.length := by
 induction ls with
 | nil => rfl
 | cons c r ih =>
  rw [List.map_cons, List.map_cons, List.sum_cons, ih, a1a]
  simp
def bV (B : List Syl) : List V := sV (B.map wd)
theorem a81 (a b : List Syl) : bV (a ++ b) = bV a ++ bV b := by unfold bV; rw [List.map_append, a98]
theorem aaj (a : List Syl) : (bV a).length = a.length := by unfold bV; rw [a7i, List.length_map]
theorem bV_one (b : Syl) : bV [b] = [V.str (S (wd b))] := rfl
theorem bV_cons (b : Syl) (B : List Syl) : bV (b :: B) = V.str (S (wd b)) :: bV B := rfl
theorem bV_take (B : List Syl) (n : Nat) : (bV B).take n = bV (B.take n) := by unfold bV sV; simp
theorem bV_drop (B : List Syl) (n : Nat) : (bV B).drop n = bV (B.drop n) := by unfold bV sV; simp
theorem flat_tw (B : List Syl) : (B.map wd).flatten = tw B := by unfold tw; rw [List.flatMap_def]
theorem acs (xs : List V) {n : Nat} (h : n ≤ xs.length) : a8i xs none (some (n : Int)) = xs.take n := by
 unfold a8i HT.sIx
 have h1 : ¬ ((n : Int) < 0) := by omega
 simp only [h1, if_false]
 simp
theorem cut_last (xs : List V) (k : Nat) (hk : 0 < k) : a8i xs (some (-(k : Int))) none = xs.drop (xs.length - k) := by
 unfold a8i HT.sIx
 have h1 : (-(k : Int)) < 0 := by omega
 simp only [h1, if_true]
 have e : (max (-(k : Int) + (xs.length : Int)) 0).toNat = xs.length - k := by omega
 first
  | (rw [List.take_of_length_le] <;> simp <;> omega)
  | simp
theorem aba {ls : List (List Nat)} (h : ls.flatten.length ≤ 1000000) : ((ls.map S).map (·.length)).sum + (ls.map S).length * ("" : Str).length ≤ 16777216 := by
 rw [sum_len]
 show ls.flatten.length + _ * 0 ≤ _
 omega
theorem acw {K : PySem.W.Frag} {H : Hp} {p : Addr} {xs : List V} {ls : List (List Nat)} (h : H p = some (.lst xs)) (e : xs = sV ls) : SqL K H p ((ls.map S).map V.str) := by
 rw [← sV_strs, ← e]
 exact SqL.of h
theorem a9j (xs : List V) (v : V) : (xs ++ [v])[(xs ++ [v]).length - 1]? = some v := by simp
theorem eq_r (b : TW.Syl) : decide (V.str (S (wd b)) = V.str "r") = decide (b = TW.Syl.r) := by cases b <;> decide +kernel
theorem tw_one (b : TW.Syl) : tw [b] = wd b := by unfold tw; simp
theorem wd_ne (b : TW.Syl) : S (wd b) ≠ "" := by cases b <;> decide +kernel
theorem _root_.L2.mo_ixL {K : PySem.W.Frag} : MoR (rIxL K) := fun _ _ _ _ _ h ⟨p, xs, i, v, a, b, c, d, z⟩ => ⟨p, xs, i, v, a, b, c, d, h _ _ z⟩
theorem fold_push_len (xs : List TW.Syl) : ∀ B : List TW.Syl, (xs.foldl a6i B).length ≤ B.length + xs.length := by
 induction xs with
 | nil => intro B; simp
 | cons x r ih =>
  intro B
  rw [List.foldl_cons, List.length_cons]
  have := ih (a6i B x)
  have := pushB_len B x
  omega
theorem bts_len (c : Nat) : (bts c).length ≤ 2 := by
 unfold bts
 split
 ·simp
 split
 ·simp
 ·simp
theorem occ_all {x y : Str} {hi limit : Nat} (Pr : Nat → Prop) (hP : ∀ i, i + y.length ≤ hi → Builtin.Str.subAt x y i = true → Pr i) : ∀ (l : List Nat) (st : Array Nat × Nat), (∀ i ∈ st.1.toList, Pr i) → ∀ i ∈ (forIn l st (StrLaws.occBody x y hi limit)).run.fst.toList, Pr i
 | [], st, h => h
 | a :: l, st, h => by
  rw [List.forIn_cons]
  unfold StrLaws.occBody
  split
  ·rename_i c
   refine occ_all Pr hP l _ fun i hi' => ?_
   have hi2 : i ∈ (st.1.push a).toList := hi'
   rw [Array.toList_push] at hi2
   rcases List.mem_append.mp hi2 with z | z
   ·exact h i z
   ·rw [List.mem_singleton.mp z]
    exact hP a c.1.2 c.2
  ·exact occ_all Pr hP l _ h
theorem sub_S (u v : List Nat) (i : Nat) : Builtin.Str.subAt (S u) (S v) i = true ↔ (u.drop i).take v.length = v := by
 rw [StrLaws.subAt_eq, aak, aak, a1a, beq_iff_eq]
theorem occ_head {u v : List Nat} {i : Nat} {rest : List Nat} (h : Builtin.Str.occurrences (S u) (S v) 0 (S u).length 1 = i :: rest) : i + v.length ≤ u.length ∧ (u.drop i).take v.length = v := by
 rw [StrLaws.occ_eq] at h
 have := occ_all (x := S u) (y := S v) (hi := (S u).length) (limit := 1) (fun i => i + v.length ≤ u.length ∧ (u.drop i).take v.length = v) (fun i h1 h2 => ⟨by rwa [a1a, a1a] at h1, (sub_S u v i).mp h2⟩) _ ((#[] : Array Nat), 0) (fun i hi => by cases hi) i (by rw [h]; exact List.mem_cons_self)
 exact this
theorem found_S (u v : List Nat) : (!(Builtin.Str.occurrences (S u) (S v) 0 (S u).length 1).isEmpty) = true ↔ ∃ i, i + v.length ≤ u.length ∧ (u.drop i).take v.length = v := by
 rw [StrLaws.found_iff]
 constructor
 ·rintro ⟨i, h1, h2⟩
  exact ⟨i, by rwa [a1a, a1a] at h1, (sub_S u v i).mp h2⟩
 ·rintro ⟨i, h1, h2⟩
  exact ⟨i, by rw [a1a, a1a]; exact h1, (sub_S u v i).mpr h2⟩
def a5k (u v : List Nat) : Bool := decide (u.length = v.length) && !(Builtin.Str.occurrences (S (u ++ u)) (S v) 0 (S (u ++ u)).length 1).isEmpty
theorem a6b (u v : List Nat) : a5k u v = true ↔ ∃ p q, u = p ++ q ∧ v = q ++ p := by
 unfold a5k
 rw [Bool.and_eq_true, decide_eq_true_eq, found_S]
 constructor
 ·rintro ⟨hl, i, h1, h2⟩
  obtain ⟨_, e⟩ := infix_rot hl.symm h1 h2
  exact ⟨u.take i, u.drop i, (List.take_append_drop i u).symm, e⟩
 ·rintro ⟨p, q, hu, hv⟩
  obtain ⟨h1, h2, h3⟩ := rot_infix hu hv
  exact ⟨h1, p.length, h2, h3⟩
def chunks (u : List Nat) : List (List Nat) := (List.range ((u.length + 2) / 3)).map fun i => (u.drop (3 * i)).take 3
def lones : List (List Nat) := [[], [114], [116, 114], [114, 117]]
def aao : List (List Nat) := [[114, 116, 114], [114, 114, 117]]
def a7m (u : List Nat) : Bool := lones.contains u || (chunks u).all fun p => aao.contains p
def a1n (u : List Nat) : List (List Nat) := if (chunks u).all (fun p => aao.contains p) = true then chunks u else []
theorem a8t (p u : List Nat) (hp : p.length = 3) : chunks (p ++ u) = p :: chunks u := by
 unfold chunks
 have e : ((p ++ u).length + 2) / 3 = (u.length + 2) / 3 + 1 := by
  rw [List.length_append, hp]
  omega
 rw [e, List.range_succ_eq_map, List.map_cons, List.map_map]
 congr 1
 ·rw [Nat.mul_zero, List.drop_zero, List.take_append_of_le_length (by omega), List.take_of_length_le (by omega)]
 ·refine List.map_congr_left fun i _ => ?_
  show ((p ++ u).drop (3 * (i + 1))).take 3 = _
  rw [show 3 * (i + 1) = p.length + 3 * i by omega, List.drop_append, List.drop_of_length_le (by omega)]
  simp
def aag (u : List Nat) : Bool := lones.contains u || !(a1n u).isEmpty
theorem a8s (u : List Nat) : (chunks u).flatten = u := by
 have h : ∀ n (u : List Nat), u.length ≤ n → (chunks u).flatten = u := by
  intro n
  induction n with
  | zero => intro u hu; have : u = [] := List.eq_nil_of_length_eq_zero (by omega); subst this; rfl
  | succ n ih =>
   intro u hu
   by_cases h3 : 3 ≤ u.length
   ·have e : u = u.take 3 ++ u.drop 3 := (List.take_append_drop 3 u).symm
    have hl : (u.take 3).length = 3 := by rw [List.length_take]; omega
    have := ih (u.drop 3) (by rw [List.length_drop]; omega)
    have z : (chunks (u.take 3 ++ u.drop 3)).flatten = u := by rw [a8t _ _ hl, List.flatten_cons, this, List.take_append_drop]
    rwa [List.take_append_drop] at z
   ·match u, h3 with
    | [], _ => rfl
    | [a], _ => (unfold chunks; simp [List.range_succ])
    | [a, b], _ => (unfold chunks; simp [List.range_succ])
    | a :: b :: c :: r, h => exact absurd (by simp) h
 exact h _ u (Nat.le_refl _)
theorem pcs_flat {u : List Nat} (h : a1n u ≠ []) : (a1n u).flatten = u := by
 unfold a1n at h ⊢
 split
 ·exact a8s u
 ·rename_i c; rw [if_neg c] at h; exact absurd rfl h
theorem chunks_len (u : List Nat) : (chunks u).length ≤ u.length + 2 := by unfold chunks; simp; omega
theorem a8o (u : List Nat) : (a1n u).length ≤ u.length + 2 := by
 unfold a1n
 split
 ·exact chunks_len u
 ·simp
theorem turn_same {u v : List Nat} {k : Nat} (h : u = ((a1n v).drop k ++ (a1n v).take k).flatten) (hn : a1n v ≠ []) : a5k u v = true := by
 rw [a6b]
 refine ⟨((a1n v).drop k).flatten, ((a1n v).take k).flatten, by rw [h, List.flatten_append], ?_⟩
 rw [← List.flatten_append, List.take_append_drop, pcs_flat hn]
theorem samer_refl (u : List Nat) : a5k u u = true := (a6b u u).mpr ⟨u, [], by simp, by simp⟩
def Lones (K : PySem.W.Frag) (mg : Str → Option Value) : Prop := ∃ a, mg "LONE_ROUNDS" = some (.ref a) ∧ ∀ H, SqT K H a (sV lones)
def RPieces (K : PySem.W.Frag) (mg : Str → Option Value) : Prop := ∃ a, mg "ROUND_PIECES" = some (.ref a) ∧ ∀ H, SqT K H a (sV aao)
def PairsOut (K : PySem.W.Frag) (mg : Str → Option Value) : Prop := ∃ a, mg "PAIRS_OUT" = some (.ref a) ∧ ∀ H, SqT K H a (sV prs)
def Together (K : PySem.W.Frag) (mg : Str → Option Value) (P : Params) : Prop := ∃ a es n, mg "TOGETHER" = some (.ref a) ∧ K.lookup a = some ⟨.type "dict", none, .dict es n, #[]⟩ ∧ PySem.W.KeysLit P es.toList ∧ (a == sysModules) = false ∧
 PySem.W.nsIn K a (S []) = some none ∧ ∀ y x : Syl, match tog y x with | none => PySem.W.nsIn K a (S (wd y ++ wd x)) = some none | some w => ∃ t, PySem.W.nsIn K a (S (wd y ++ wd x)) = some (some (.str (S (tw w.toList)) t))
def Beats (K : PySem.W.Frag) (mg : Str → Option Value) (P : Params) : Prop := ∃ a es n, mg "BEATS" = some (.ref a) ∧ K.lookup a = some ⟨.type "dict", none, .dict es n, #[]⟩ ∧ PySem.W.KeysLit P es.toList ∧
 ∀ c, IsL c → ∃ b, PySem.W.nsIn K a (S [c]) = some (some (.ref b)) ∧ ∀ H, SqT K H b (bV (bts c))
def stM (t : Stp) : List V := [.str (if t.1 = true then "in" else "out"), .int t.2.1, .str (S t.2.2)]
def Four (K : PySem.W.Frag) (b : Addr) (ts : List Stp) : Prop := ∃ p0 p1 p2 p3 t0 t1 t2 t3, ts = [t0, t1, t2, t3] ∧ (∀ H, SqT K H b [.ref p0, .ref p1, .ref p2, .ref p3]) ∧ (∀ H, SqT K H p0 (stM t0)) ∧ (∀ H, SqT K H p1 (stM t1)) ∧ (∀ H, SqT K H p2 (stM t2)) ∧ ∀ H, SqT K H p3 (stM t3)
def Over (K : PySem.W.Frag) (mg : Str → Option Value) (P : Params) : Prop := ∃ a es n bT bU, mg "OVER" = some (.ref a) ∧ K.lookup a = some ⟨.type "dict", none, .dict es n, #[]⟩ ∧ PySem.W.KeysLit P es.toList ∧ (a == sysModules) = false ∧
 PySem.W.nsIn K a (S [116, 114, 116]) = some (some (.ref bT)) ∧ PySem.W.nsIn K a (S [117, 114, 117]) = some (some (.ref bU)) ∧ Four K bT (ovT 0) ∧ Four K bU (ovU 0) ∧
 ∀ k, k ≠ [116, 114, 116] → k ≠ [117, 114, 117] → PySem.W.nsIn K a (S k) = some none
theorem lit_e : ("" : Str) = S [] := rfl
theorem lit_tr : ("tr" : Str) = S [116, 114] := by decide +kernel
theorem lit_ru : ("ru" : Str) = S [114, 117] := by decide +kernel
theorem lit_rtr : ("rtr" : Str) = S [114, 116, 114] := by decide +kernel
theorem lit_rru : ("rru" : Str) = S [114, 114, 117] := by decide +kernel
theorem lit_trr : ("trr" : Str) = S [116, 114, 114] := by decide +kernel
theorem lit_rur : ("rur" : Str) = S [114, 117, 114] := by decide +kernel
theorem lit_rr : ("rr" : Str) = S [114, 114] := S_rr
theorem lit_tu : ("tu" : Str) = S [116, 117] := S_tu
theorem lit_ut : ("ut" : Str) = S [117, 116] := S_ut
theorem lit_trtr : ("trtr" : Str) = S [116, 114, 116, 114] := by decide +kernel
theorem lit_ruru : ("ruru" : Str) = S [114, 117, 114, 117] := by decide +kernel
theorem lit_trru : ("trru" : Str) = S [116, 114, 114, 117] := by decide +kernel
theorem lit_rutr : ("rutr" : Str) = S [114, 117, 116, 114] := by decide +kernel
theorem lit_trt : ("trt" : Str) = S [116, 114, 116] := by decide +kernel
theorem lit_uru : ("uru" : Str) = S [117, 114, 117] := by decide +kernel
theorem tog_mk {K : PySem.W.Frag} {mg : Str → Option Value} {P : Params} {a : Addr} {es : Array DictEntry} {n : Nat} {g1 g2 g3 g4 g5 : Tok} (g : mg "TOGETHER" = some (.ref a)) (lk : K.lookup a = some ⟨.type "dict", none, .dict es n, #[]⟩) (kl : PySem.W.KeysLit P es.toList) (sm : (a == sysModules) = false)
  (t0 : PySem.W.nsIn K a "" = some none) (t1 : PySem.W.nsIn K a "rr" = some (some (.str "" g1))) (t2 : PySem.W.nsIn K a "trtr" = some (some (.str "ru" g2))) (t3 : PySem.W.nsIn K a "ruru" = some (some (.str "tr" g3))) (t4 : PySem.W.nsIn K a "trru" = some (some (.str "" g4))) (t5 : PySem.W.nsIn K a "rutr" = some (some (.str "" g5)))
  (t6 : PySem.W.nsIn K a "rtr" = some none) (t7 : PySem.W.nsIn K a "rru" = some none) (t8 : PySem.W.nsIn K a "trr" = some none) (t9 : PySem.W.nsIn K a "rur" = some none) : Together K mg P := by
 refine ⟨a, es, n, g, lk, kl, sm, t0, fun y x => ?_⟩
 rw [lit_rr] at t1
 rw [lit_trtr, lit_ru] at t2
 rw [lit_ruru, lit_tr] at t3
 rw [lit_trru] at t4
 rw [lit_rutr] at t5
 rw [lit_rtr] at t6
 rw [lit_rru] at t7
 rw [lit_trr] at t8
 rw [lit_rur] at t9
 cases y <;> cases x
 ·exact ⟨g1, t1⟩
 ·exact t6
 ·exact t7
 ·exact t8
 ·exact ⟨g2, t2⟩
 ·exact ⟨g4, t4⟩
 ·exact t9
 ·exact ⟨g5, t5⟩
 ·exact ⟨g3, t3⟩
theorem beats_mk {K : PySem.W.Frag} {mg : Str → Option Value} {P : Params} {a bt bu br : Addr} {es : Array DictEntry} {n nt nu nr : Nat} {t1 t2 t3 t4 t5 : Tok} {ot ou orr : Option Addr} {st su sr : Array (Option Value)} (g : mg "BEATS" = some (.ref a)) (lk : K.lookup a = some ⟨.type "dict", none, .dict es n, #[]⟩) (kl : PySem.W.KeysLit P es.toList)
  (x1 : PySem.W.nsIn K a "t" = some (some (.ref bt))) (x2 : PySem.W.nsIn K a "u" = some (some (.ref bu))) (x3 : PySem.W.nsIn K a "r" = some (some (.ref br)))
  (l1 : K.lookup bt = some ⟨.type "tuple", ot, .seq [Value.str "tr" t1, Value.str "r" t2].toArray nt, st⟩) (l2 : K.lookup bu = some ⟨.type "tuple", ou, .seq [Value.str "r" t3, Value.str "ru" t4].toArray nu, su⟩) (l3 : K.lookup br = some ⟨.type "tuple", orr, .seq [Value.str "r" t5].toArray nr, sr⟩) : Beats K mg P := by
 refine ⟨a, es, n, g, lk, kl, fun c hc => ?_⟩
 rw [lit_t] at x1
 rw [lit_u] at x2
 rw [a7a] at x3
 rcases hc with rfl | rfl | rfl
 ·exact ⟨bt, x1, fun H => .inr ⟨_, _, _, l1, rfl, rfl, a0u, .cons ⟨t1, by rw [lit_tr]; rfl⟩ (.cons ⟨t2, by rw [a7a]; rfl⟩ .nil)⟩⟩
 ·exact ⟨bu, x2, fun H => .inr ⟨_, _, _, l2, rfl, rfl, a0u, .cons ⟨t3, by rw [a7a]; rfl⟩ (.cons ⟨t4, by rw [lit_ru]; rfl⟩ .nil)⟩⟩
 ·exact ⟨br, x3, fun H => .inr ⟨_, _, _, l3, rfl, rfl, small (show 1 ≤ 1000 by decide), .cons ⟨t5, by rw [a7a]; rfl⟩ .nil⟩⟩
theorem over_mk {K : PySem.W.Frag} {mg : Str → Option Value} {P : Params} {a bT bU : Addr} {es : Array DictEntry} {n : Nat} {t1 t2 : Tok} (g : mg "OVER" = some (.ref a)) (lk : K.lookup a = some ⟨.type "dict", none, .dict es n, #[]⟩) (kl : PySem.W.KeysLit P es.toList) (sm : (a == sysModules) = false)
  (mk : es.toList.map (·.key) = [Value.str "trt" t1, Value.str "uru" t2]) (x1 : PySem.W.nsIn K a "trt" = some (some (.ref bT))) (x2 : PySem.W.nsIn K a "uru" = some (some (.ref bU))) (f1 : Four K bT (ovT 0)) (f2 : Four K bU (ovU 0)) : Over K mg P := by
 rw [lit_trt] at x1
 rw [lit_uru] at x2
 refine ⟨a, es, n, bT, bU, g, lk, kl, sm, x1, x2, f1, f2, fun k h1 h2 => ns_none lk (keys_ne mk fun v hv => ?_)⟩
 rcases List.mem_cons.mp hv with rfl | hv
 ·exact ⟨_, _, rfl, by rw [lit_trt]; exact fun e => h1 (aav e).symm⟩
 ·have := List.mem_singleton.mp hv
  subst this
  exact ⟨_, _, rfl, by rw [lit_uru]; exact fun e => h2 (aav e).symm⟩
def inRp (x : V) : V := match x with | .str y => V.bl (aao.contains y.cps.toList) | z => z
theorem inRp_S (c : List Nat) : inRp (.str (S c)) = V.bl (aao.contains c) := by
 show V.bl (aao.contains (S c).cps.toList) = _
 rw [aak]
theorem inRp_all (ls : List (List Nat)) : (sV ls).map inRp = (ls.map fun p => aao.contains p).map V.bl := by
 unfold sV
 rw [List.map_map, List.map_map]
 exact List.map_congr_left fun c _ => inRp_S c
theorem rpcs_lit : [V.str "rtr", V.str "rru"] = sV aao := by rw [lit_rtr, lit_rru]; rfl
theorem lones_lit : [V.str "", V.str "r", V.str "tr", V.str "ru"] = sV lones := by rw [a7a, lit_tr, lit_ru]; rfl
theorem rd_strs {K : PySem.W.Frag} {H : Hp} : ∀ (ls : List (List Nat)), (∀ c ∈ ls, PyData.strOk (S c) = true) → a8v K H (sV ls) (ls.map fun c => PyData.str (S c))
 | [], _ => by unfold a8v sV; rfl
 | k :: r, h => by
  unfold a8v
  exact ⟨_, _, rfl, by unfold RdD; exact ⟨rfl, h k List.mem_cons_self⟩, rd_strs r fun c hc => h c (List.mem_cons_of_mem _ hc)⟩
theorem rd_slist {K : PySem.W.Frag} {H : Hp} {a : Addr} {ls : List (List Nat)} (h : H a = some (.lst (sV ls))) (ok : ∀ c ∈ ls, PyData.strOk (S c) = true) : RdD K H (.ref a) (.list (ls.map fun c => PyData.str (S c))) := by
 unfold RdD
 exact ⟨a, _, rfl, SqL.of h, rd_strs ls ok⟩
theorem pcs_ok (u : List Nat) : ∀ c ∈ a1n u, PyData.strOk (S c) = true := by
 intro c hc
 unfold a1n at hc
 split at hc
 ·rename_i h
  have := List.all_eq_true.mp h c hc
  have hm := List.contains_iff_mem.mp this
  unfold aao at hm
  simp only [List.mem_cons, List.not_mem_nil, or_false] at hm
  rcases hm with rfl | rfl <;> decide +kernel
 ·cases hc
theorem rd_nil2 {K : PySem.W.Frag} {H : Hp} {m : Addr} (h : H m = some (.lst [])) : RdD K H (.ref m) (.list []) := by
 unfold RdD
 exact ⟨m, [], rfl, SqL.of h, by unfold a8v; rfl⟩
theorem depth_strs (ls : List (List Nat)) : PyData.depthAll (ls.map fun c => PyData.str (S c)) ≤ 10 := by
 induction ls with
 | nil => simp [PyData.depthAll]
 | cons k r ih => simp [PyData.depthAll, PyData.depth] at ih ⊢ <;> omega
theorem depth_slist (ls : List (List Nat)) : (PyData.list (ls.map fun c => PyData.str (S c))).depth ≤ 60 := by
 have := depth_strs ls
 simp [PyData.depth]
 omega
theorem ne_slist (ls : List (List Nat)) : (if true = true then !PyData.eqv (.list (ls.map fun c => PyData.str (S c))) (.list []) else PyData.eqv (.list (ls.map fun c => PyData.str (S c))) (.list [])) = !ls.isEmpty := by
 rw [if_pos rfl]
 cases ls <;> simp [PyData.eqv, PyData.eqvAll]
def abk : Sp := fun vs H Q _ => ∃ (l : Addr) (B : List Syl) (b : Syl), vs = [.ref l, .str (S (wd b))] ∧ H l = some (.lst (bV B)) ∧ B.length ≤ 1000000 ∧ Q .non (upd H l (.lst (bV (a6i B b))))
def spBeatsOf : Sp := fun vs H Q _ => ∃ u, vs = [.str (S u)] ∧ IsW u ∧ u.length ≤ 10000 ∧ ∀ l H', H l = none → a0r H H' → H' l = some (.lst (bV (a3z u))) → Q (.ref l) H'
structure WRok (u : List Nat) (A R : List Syl) : Prop where
 cj : Cj u (tw A) (tw R)
 rd : Rd R
 la : A.length ≤ 4 * u.length + 1
 lr : R.length ≤ 2 * u.length + 1
def spWR : Sp := fun vs H Q _ => ∃ u, vs = [.str (S u)] ∧ IsW u ∧ u.length ≤ 10000 ∧ ∀ t A R H', a0r H H' → H' t = some (.tup [.str (S (tw A)), .str (S (tw R))]) → WRok u A R → Q (.ref t) H'
def stV (t : Stp) : HO := .tup (stM t)
def StpAt (H : Hp) (v : V) (t : Stp) : Prop := ∃ p, v = .ref p ∧ H p = some (stV t)
def a0y (H : Hp) : List V → List Stp → Prop
 | [], [] => True
 | v :: vs, t :: ts => StpAt H v t ∧ a0y H vs ts
 | _, _ => False
theorem a0y.append {H : Hp} : ∀ {vs ws : List V} {ts us : List Stp}, a0y H vs ts → a0y H ws us → a0y H (vs ++ ws) (ts ++ us)
 | [], _, [], _, _, h => h
 | _ :: _, _, _ :: _, _, a, h => ⟨a.1, a0y.append a.2 h⟩
theorem a0y.map {H H' : Hp} (f : ∀ p t, H p = some (stV t) → H' p = some (stV t)) : ∀ {vs : List V} {ts : List Stp}, a0y H vs ts → a0y H' vs ts
 | [], [], _ => trivial
 | _ :: _, _ :: _, ⟨⟨p, e, h⟩, r⟩ => ⟨⟨p, e, f p _ h⟩, a0y.map f r⟩
theorem a0y.same {H H' : Hp} (s : a0r H H') {vs : List V} {ts : List Stp} (h : a0y H vs ts) : a0y H' vs ts := h.map fun p _ e => s p _ e
theorem tup_ne {H : Hp} {p l : Addr} {xs ys : List V} (h : H p = some (.tup xs)) (h2 : H l = some (.lst ys)) : p ≠ l := by
 intro e
 subst e
 rw [h] at h2
 cases h2
theorem a0y.but {l m : Addr} {H H' : Hp} {xs ys : List V} (s : But l m H H') (hl : H l = some (.lst xs)) (hm : H m = some (.lst ys)) {vs : List V} {ts : List Stp} (h : a0y H vs ts) : a0y H' vs ts := h.map fun p t e => s p _ (tup_ne e hl) (tup_ne e hm) e
theorem a0y.len {H : Hp} : ∀ {vs : List V} {ts : List Stp}, a0y H vs ts → vs.length = ts.length
 | [], [], _ => rfl
 | _ :: _, _ :: _, ⟨_, r⟩ => by rw [List.length_cons, List.length_cons, a0y.len r]
def spTake : Sp := fun vs H Q _ => ∃ (l m : Addr) (a b : Nat) (y : List Nat) (zs : List V), vs = [.ref l, .ref m] ∧ l ≠ m ∧ H l = some (.lst (lv (y ++ [a, b]))) ∧ H m = some (.lst zs) ∧ y.length ≤ 1000000 ∧ zs.length ≤ 1000000 ∧
 ∀ p H', But l m H H' → H' l = some (.lst (lv y)) → H' p = some (stV (false, (y.length : Int), [a, b])) → H' m = some (.lst (zs ++ [.ref p])) → Q .non H'
def a82 (l m : Addr) (x : List Nat) (zs : List V) (H H' : Hp) : Prop := ∃ ps, But l m H H' ∧ H' l = some (.lst (lv (sett x).reverse)) ∧ H' m = some (.lst (zs ++ ps)) ∧ a0y H' ps (a2h x)
def spSettle (R : List Nat → Prop) (N : Nat) : Sp := fun vs H Q _ => ∃ (l m : Addr) (x : List Nat) (zs : List V), vs = [.ref l, .ref m] ∧ l ≠ m ∧ R x ∧ H l = some (.lst (lv x.reverse)) ∧ H m = some (.lst zs) ∧ x.length ≤ 100000 ∧ zs.length ≤ N ∧ ∀ H', a82 l m x zs H H' → Q .non H'
def spTurn (R : List Nat → Prop) (N : Nat) : Sp := fun vs H Q _ => ∃ (l m : Addr) (x : List Nat) (zs : List V), vs = [.ref l, .ref m] ∧ l ≠ m ∧ R x ∧ (x.take 3 = [116, 114, 116] ∨ x.take 3 = [117, 114, 117]) ∧ H l = some (.lst (lv x.reverse)) ∧ H m = some (.lst zs) ∧ x.length ≤ 100000 ∧ zs.length ≤ N ∧ ∀ H', a82 l m x zs H H' → Q .non H'
theorem a82.same {l m : Addr} {x : List Nat} {zs : List V} {H H1 H' : Hp} (s : a0r H H1) (h : a82 l m x zs H1 H') : a82 l m x zs H H' :=
 let ⟨ps, b, e⟩ := h
 ⟨ps, ((But.refl l m H).same s).trans b, e⟩
theorem rev_drop (x : List Nat) (k : Nat) : x.reverse.drop (x.length - k) = (x.take k).reverse := (List.reverse_take ..).symm
theorem cut_lv (x : List Nat) (k : Nat) (hk : 0 < k) : a8i (lv x.reverse) (some (-(k : Int))) none = sV ((x.take k).reverse.map fun c => [c]) := by
 rw [cut_last _ _ hk, lv_len, List.length_reverse, ← lv_sV, ← rev_drop]
 unfold lv
 rw [List.map_drop]
theorem mem_prs {x : List Nat} (h : (x.take 2).reverse ∈ prs) : ∃ a b y, x = b :: a :: y := by
 have h2 : (x.take 2).length = 2 := by
  rw [← List.length_reverse]
  unfold prs at h
  simp only [List.mem_cons, List.not_mem_nil, or_false] at h
  rcases h with h | h | h <;> rw [h] <;> rfl
 match x, h2 with
 | b :: a :: y, _ => exact ⟨a, b, y, rfl⟩
theorem take3_ne {x : List Nat} {e : Nat} (h : x.take 3 ≠ [e, 114, e]) : (x.take 3).reverse ≠ [e, 114, e] := fun z => h (by
 have := congrArg List.reverse z
 rw [List.reverse_reverse] at this
 exact this)
theorem sett_no {x : List Nat} (h1 : ¬ (x.take 2).reverse ∈ prs) (h2 : x.take 3 ≠ [116, 114, 116]) (h3 : x.take 3 ≠ [117, 114, 117]) : sett x = x ∧ a2h x = [] := by
 unfold sett a2h
 rw [if_neg h1, if_neg h2, if_neg h3, if_neg h1, if_neg h2, if_neg h3]
 exact ⟨rfl, rfl⟩
structure TurnAs (K : PySem.W.Frag) (a : Addr) (x : List Nat) (e d : Nat) (ov : Nat → List Stp) (b : Addr) : Prop where
 tk : x.take 3 = [e, 114, e]
 ns : PySem.W.nsIn K a (S [e, 114, e]) = some (some (.ref b))
 four : Four K b (ov 0)
 W : IsL e
 bk : TW.bk [e] = [d]
 st : sett x = 114 :: d :: pr (x.drop 3)
 sp : a2h x = ov (x.length - 3) ++ prS (x.drop 3)
 at_ : ∀ (n j : Nat) (t : Stp), (ov 0)[j]? = some t → (ov n)[j]? = some (t.1, (n : Int) + t.2.1, t.2.2)
 len : ∀ n, (ov n).length = 4
theorem ov_at {f : Nat → List Stp} (h : f = ovT ∨ f = ovU) (n j : Nat) (t : Stp) (ht : (f 0)[j]? = some t) : (f n)[j]? = some (t.1, (n : Int) + t.2.1, t.2.2) := by
 rcases h with rfl | rfl
 ·unfold ovT at ht ⊢
  match j, ht with
  | 0, ht => cases ht; simp
  | 1, ht => cases ht; simp
  | 2, ht => cases ht; simp
  | 3, ht => cases ht; simp
  | k + 4, ht => cases ht
 ·unfold ovU at ht ⊢
  match j, ht with
  | 0, ht => cases ht; simp
  | 1, ht => cases ht; simp
  | 2, ht => cases ht; simp
  | 3, ht => cases ht; simp
  | k + 4, ht => cases ht
theorem take2_of {x : List Nat} {e : Nat} (h : x.take 3 = [e, 114, e]) : x.take 2 = [e, 114] := by
 have : x.take 2 = (x.take 3).take 2 := by rw [List.take_take]; rfl
 rw [this, h]
 rfl
theorem turn_as {K : PySem.W.Frag} {a bT bU : Addr} {x : List Nat} (h : x.take 3 = [116, 114, 116] ∨ x.take 3 = [117, 114, 117]) (x1 : PySem.W.nsIn K a (S [116, 114, 116]) = some (some (.ref bT))) (x2 : PySem.W.nsIn K a (S [117, 114, 117]) = some (some (.ref bU))) (f1 : Four K bT (ovT 0)) (f2 : Four K bU (ovU 0)) :
  ∃ e d ov b, TurnAs K a x e d ov b := by
 rcases h with h | h
 ·have h2 := take2_of h
  refine ⟨116, 117, ovT, bT, h, x1, f1, .inl rfl, rfl, ?_, ?_, ov_at (.inl rfl), fun _ => rfl⟩
  ·unfold sett
   rw [h2, if_neg (by decide), if_pos h]
  ·unfold a2h
   rw [h2, if_neg (by decide), if_pos h]
 ·have h2 := take2_of h
  refine ⟨117, 116, ovU, bU, h, x2, f2, .inr (.inl rfl), rfl, ?_, ?_, ov_at (.inr rfl), fun _ => rfl⟩
  ·unfold sett
   rw [h2, if_neg (by decide), if_neg (by rw [h]; decide), if_pos h]
  ·unfold a2h
   rw [h2, if_neg (by decide), if_neg (by rw [h]; decide), if_pos h]
theorem Four.at {K : PySem.W.Frag} {b : Addr} {ts : List Stp} (h : Four K b ts) : ∃ rs : List V, (∀ H, SqT K H b rs) ∧ rs.length = 4 ∧ ∀ (j : Nat) (v : V), rs[j]? = some v → ∃ p t, v = .ref p ∧ ts[j]? = some t ∧ ∀ H, SqT K H p (stM t) := by
 obtain ⟨p0, p1, p2, p3, t0, t1, t2, t3, rfl, hb, h0, h1, h2, h3⟩ := h
 refine ⟨_, hb, rfl, fun j v hj => ?_⟩
 match j, hj with
 | 0, hj => cases hj; exact ⟨p0, t0, rfl, rfl, h0⟩
 | 1, hj => cases hj; exact ⟨p1, t1, rfl, rfl, h1⟩
 | 2, hj => cases hj; exact ⟨p2, t2, rfl, rfl, h2⟩
 | 3, hj => cases hj; exact ⟨p3, t3, rfl, rfl, h3⟩
 | k + 4, hj => cases hj
theorem a0y.snoc {H : Hp} {vs : List V} {ts : List Stp} {p : Addr} {t : Stp} (h : a0y H vs ts) (e : H p = some (stV t)) : a0y H (vs ++ [.ref p]) (ts ++ [t]) := h.append ⟨⟨p, rfl, e⟩, trivial⟩
theorem a0y.upd {H : Hp} {l : Addr} {xs : List V} {o : HO} (hl : H l = some (.lst xs)) {vs : List V} {ts : List Stp} (h : a0y H vs ts) : a0y (L2.upd H l o) vs ts := h.map fun p t e => by rw [a0p (tup_ne e hl)]; exact e
def Rr (x : List Nat) : Prop := ∃ y, x = 114 :: y
def Rall (_ : List Nat) : Prop := True
theorem sett_r (y : List Nat) : sett (114 :: y) = pr y := by
 unfold sett pr prs
 cases y with
 | nil => simp
 | cons c y =>
  by_cases h : c = 114
  ·subst h; simp
  ·simp [h, Ne.symm h]
theorem steps_r (y : List Nat) : a2h (114 :: y) = prS y := by
 unfold a2h prS prs
 cases y with
 | nil => simp
 | cons c y =>
  by_cases h : c = 114
  ·subst h; simp
  ·simp [h, Ne.symm h]
def spPlain : Sp := fun vs H Q _ => ∃ u, vs = [.str (S u)] ∧ IsW u ∧ u.length ≤ 20000 ∧ ∀ t m ps H', H m = none → a0r H H' → H' t = some (.tup [.str (S (aae u)), .ref m]) → H' m = some (.lst ps) → a0y H' ps (mps u).1 → Q (.ref t) H'
def spBegun : Sp := fun vs H Q _ => ∃ a u, vs = [.str (S a), .str (S u)] ∧ IsW a ∧ a.length ≤ 20000 ∧ u.length ≤ 20000 ∧ ∀ H', a0r H H' → Q (.str (S (a ++ u ++ bk a))) H'
def spIsRound : Sp := fun vs H Q _ => ∃ u, vs = [.str (S u)] ∧ u.length ≤ 100000 ∧ ∀ H', a0r H H' → Q (.bl (a7m u)) H'
def spSameR : Sp := fun vs H Q _ => ∃ u v, vs = [.str (S u), .str (S v)] ∧ u.length ≤ 100000 ∧ v.length ≤ 100000 ∧ Q (.bl (a5k u v)) H
def ElseAt (C : Addr) (H : Hp) (o : Addr) (u : List Nat) : Prop := ∃ dx, H o = some (.ins C dx [("word", .str (S u))])
def RndsAt (C : Addr) (H : Hp) (o : Addr) (a b c d : List Nat) : Prop := ∃ dx, H o = some (.ins C dx [("there", .str (S a)), ("first", .str (S b)), ("back", .str (S c)), ("second", .str (S d))])
def abi (C : Addr) : Sp := fun vs H Q _ => ∃ o a x y, vs = [.ref o, .str (S x), .str (S y)] ∧ ElseAt C H o a ∧ IsW a ∧ a.length ≤ 20000 ∧ y.length ≤ 20000 ∧ ∀ H', a0r H H' → Q (.bl (al (a ++ y ++ bk a) x)) H'
def rndsB (a b c d x y : List Nat) : Bool := a7m b && (a7m d && (!a5k b d && (al (a ++ b ++ bk a) x && al (c ++ d ++ bk c) y)))
def abd (C : Addr) : Sp := fun vs H Q _ => ∃ o a b c d x y, vs = [.ref o, .str (S x), .str (S y)] ∧ RndsAt C H o a b c d ∧ IsW a ∧ IsW c ∧ a.length ≤ 20000 ∧ b.length ≤ 20000 ∧ c.length ≤ 20000 ∧ d.length ≤ 20000 ∧ ∀ H', a0r H H' → Q (.bl (rndsB a b c d x y)) H'
def spInit4 (C : Addr) (f1 f2 f3 f4 : Str) : Sp := fun vs H Q _ => ∃ o dx v1 v2 v3 v4, vs = [.ref o, v1, v2, v3, v4] ∧ H o = some (.ins C dx []) ∧ Q .non (upd H o (.ins C dx [(f1, v1), (f2, v2), (f3, v3), (f4, v4)]))
def spLBegun : Sp := fun vs H Q _ => ∃ a u, vs = [.str (S a), .str (S u)] ∧ a.length ≤ 20000 ∧ u.length ≤ 20000 ∧ ∀ H', a0r H H' → Q (.str (S (a ++ u ++ bk a))) H'
def spPieces : Sp := fun vs H Q _ => ∃ u, vs = [.str (S u)] ∧ u.length ≤ 20000 ∧ ∀ p H', a0r H H' → H' p = some (.lst (sV (a1n u))) → Q (.ref p) H'
def spLRound : Sp := fun vs H Q _ => ∃ u, vs = [.str (S u)] ∧ u.length ≤ 20000 ∧ ∀ H', a0r H H' → Q (.bl (aag u)) H'
end TX
namespace L2
open PySem PySem.Spec PyProof.Rows
open Builtin Builtin.Str
theorem gives_repl1 (x y z : Str) (t u v k : Tok) (h0 : (u == 0 || v == 0) = false) (hyz : (y == z) = false) (hl : tooLong (x.length + (occurrences x y 0 x.length 1).length * z.length) = false) :
    Gives («str.replace» ⟨[.str x t, .str y u, .str z v, .int 1 k], []⟩) (if ((occurrences x y 0 x.length 1).isEmpty || (y.length == 0 && z.length == 0)) = true ∨ u = v then .val (.str x t) else .str (glued z (partsBetween x (occurrences x y 0 x.length 1) y.length))) := by
  show Gives (if ((occurrences x y 0 x.length 1).isEmpty || (y.length == 0 && z.length == 0)) = true then (do rule "str.replace.nothing"; ret (.str x t)) else
          (do let same ← isSame (.str y u) (.str z v)
              if same = true then (do rule "str.replace.old-is-new"; ret (.str x t)) else
              if tooLong (x.length + (occurrences x y 0 x.length 1).length * z.length) = true then unsupported "str.replace:memory" else
              retStr (glued z (partsBetween x (occurrences x y 0 x.length 1) y.length)))) _
  cases hc : ((occurrences x y 0 x.length 1).isEmpty || (y.length == 0 && z.length == 0))
  · by_cases huv : u = v
    · have e : isSame (.str y u) (.str z v) = pure true := by
        subst huv
        show isSame.created (y == z) u u = pure true
        unfold isSame.created
        rw [if_neg (by rw [h0]; decide), if_pos (by simp)]
      rw [e, if_pos (Or.inr huv)]
      exact .rule (.of_eq rfl)
    · have no : ¬ (false = true ∨ u = v) := fun h => Or.elim h Bool.false_ne_true huv
      rw [isSame_str_other y z u v h0 (by simpa using huv) hyz, hl, if_neg no]
      exact .of_eq rfl
  · rw [if_pos (Or.inl rfl)]
    exact .rule (.of_eq rfl)
section
variable {X : Cx} {a b e : Expr} {es : List Expr} {ta tb te : TE} {t : TA} {pos : Pos}
def rRepl : V → List V → Hp → VK → Prop := fun x vs H Q => ∃ w y u z v, x = .str w ∧ vs = [.stk y u, .stk z v, .int 1] ∧ (y == z) = false ∧ w.length ≤ 100000 ∧ z.length ≤ 10 ∧
 Q (.str w) H ∧ Q (.str (glued z (partsBetween w (occurrences w y 0 w.length 1) y.length))) H
theorem mt_repl : MtR X "str.replace" rRepl := by
 intro pins s σ H x xs v us Q I rx r h
 obtain ⟨w, y, u, z, k, rfl, rfl, hyz, hw, hz, q1, q2⟩ := h
 obtain ⟨tx, rfl⟩ := rx
 cases r with
 | cons r1 r =>
  cases r with
  | cons r2 r =>
   cases r with
   | cons r3 r =>
    cases r
    obtain ⟨rfl, hu⟩ := r1
    obtain ⟨rfl, hv⟩ := r2
    obtain ⟨ti, rfl⟩ := r3
    have hlen := StrLaws.occ_length_le w y 0 w.length 1
    have hl : tooLong (w.length + (occurrences w y 0 w.length 1).length * z.length) = false := by
     have h2 : (occurrences w y 0 w.length 1).length * z.length ≤ 1 * z.length := Nat.mul_le_mul_right _ hlen
     have e : (2 : Nat) ^ 24 = 16777216 := by decide
     unfold tooLong sizeLine
     exact decide_eq_false (by omega)
    refine call_gives F.slot_str_replace (typeIs_str _ _ _) F.entry_str_replace (F.args_str_replace_4 _ _ _ _) (gives_repl1 w y z tx u k ti (by simp [hu, hv]) hyz hl) ?_
    by_cases c : ((occurrences w y 0 w.length 1).isEmpty || (y.length == 0 && z.length == 0)) = true ∨ u = k
    ·rw [if_pos c]
     exact ⟨.str w, H, I, ⟨_, rfl⟩, q1⟩
    ·rw [if_neg c]
     refine ⟨?_, .str _, H, I.tok _, ⟨_, rfl⟩, q2⟩
     show (glued z (partsBetween w (occurrences w y 0 w.length 1) y.length)).length ≤ sizeLine
     have hy : (glued y (partsBetween w (occurrences w y 0 w.length 1) y.length)).length = w.length := by rw [StrLaws.glued_between_self]
     rw [size_glued, length_partsBetween, Nat.add_sub_cancel] at hy
     rw [size_glued, length_partsBetween, Nat.add_sub_cancel, sizeLine_eq]
     have h2 : (occurrences w y 0 w.length 1).length * z.length ≤ 1 * z.length := Nat.mul_le_mul_right _ hlen
     omega
def PEa (X : Cx) (e : Expr) (t : TE) : Prop :=
 ∀ (pins : List (Addr × Obj)) (s : Shared) (σ : St) (H : Hp) (Q : VK), 1 ≤ s.toks → Inv X pins σ H s → t σ H Q → wpAny (model X.prog X.w) X.A (eval e X.env) (EP X pins σ Q) X.xe s
def PEp (X : Cx) (e : Expr) (t : TE) : Prop :=
 ∀ (pins : List (Addr × Obj)) (s : Shared) (σ : St) (H : Hp) (Q : VK), Inv X pins σ H s → t σ H Q → wpAny (model X.prog X.w) X.A (eval e X.env) (fun u s' => 1 ≤ s'.toks ∧ EP X pins σ Q u s') X.xe s
def PAa (X : Cx) (es : List Expr) (t : TA) : Prop :=
 ∀ (pos : Pos) (pins : List (Addr × Obj)) (s : Shared) (σ : St) (H : Hp) (Q : List V → Hp → Prop), 1 ≤ s.toks → Inv X pins σ H s → t σ H Q → wpAny (model X.prog X.w) X.A (spliced (backTo pos (starEach es X.env))) (AP X pins σ Q) X.xe s
def PTp (X : Cx) (e : Expr) (t : TT) : Prop :=
 ∀ (pins : List (Addr × Obj)) (s : Shared) (σ : St) (H : Hp) (Q : Bool → Hp → Prop), Inv X pins σ H s → t σ H Q → wpAny (model X.prog X.w) X.A (isTrue e X.env (eval e X.env)) (fun b s' => 1 ≤ s'.toks ∧ TP X pins σ Q b s') X.xe s
def PSa (X : Cx) (st : Stmt) (t : TS) : Prop :=
 ∀ (pins : List (Addr × Obj)) (s : Shared) (σ : St) (H : Hp) (D : Ends), 1 ≤ s.toks → Inv X pins σ H s → t D σ H → wpAny (model X.prog X.w) X.A (exec st X.env) (SP X pins D) X.xe s
def PSsa (X : Cx) (st : List Stmt) (t : TS) : Prop :=
 ∀ (pins : List (Addr × Obj)) (s : Shared) (σ : St) (H : Hp) (D : Ends), 1 ≤ s.toks → Inv X pins σ H s → t D σ H → wpAny (model X.prog X.w) X.A (execs st X.env) (SP X pins D) X.xe s
theorem pea_of (h : PE X e te) : PEa X e te := fun pins s σ H Q _ I q => h pins s σ H Q I q
theorem tkp {α : Type} {M : Model} {A : Around} {c : Sem α} {Q : α → Shared → Prop} {E : Value → Shared → Prop} {s : Shared} (h : 1 ≤ s.toks) (w : wpAny M A c Q E s) : wpAny M A c (fun a s' => 1 ≤ s'.toks ∧ Q a s') E s := wpAny_mono (wpAny_toks_of h w) (fun _ _ x => x) (fun _ _ x => x.2)
def tStk (x : Str) : TE := fun _ H Q => ∀ t, t ≠ 0 → Q (.stk x t) H
theorem ac0 {x : Str} {j p} : PEa X (.Constant (.str x) j p) (tStk x) := fun pins s σ H Q hs I h => Calls.Constant_str ⟨.stk x s.toks, H, I.tok _, ⟨rfl, Nat.ne_of_gt hs⟩, h _ (Nat.ne_of_gt hs)⟩
theorem paa_nil : PAa X [] tNil := fun pos pins s σ H Q _ I h => a01 pos pins s σ H Q I h
theorem a6l (ha : PEa X e te) (hr : PAa X es t) (hs : starEach (e :: es) X.env = (false, eval e X.env) :: starEach es X.env := by rfl) : PAa X (e :: es) (tCons te t) := by
 intro pos pins s σ H Q hk I h
 rw [hs]
 show wpAny _ _ (spliced ((false, eval e X.env) :: backTo pos (starEach es X.env))) _ _ s
 refine Calls.spliced_cons (thn (tkp hk (ha pins s σ H _ hk I h)) fun u s1 ⟨k1, x, H1, I1, r1, q1⟩ => ?_)
 exact thn (hr pos pins s1 σ H1 _ k1 I1 q1) fun us s2 ⟨xs, H2, I2, r2, q2⟩ => ⟨x :: xs, H2, I2, .cons r1 r2, q2⟩
theorem pea_tup {x1} (h : PAa X es t) : PEa X (.Tuple es x1 pos) (tTup t) := by
 intro pins s σ H Q hk I hq
 refine wpAny_Tuple_spliced (thn (h pos pins s σ H _ hk I hq) fun us s1 ⟨xs, H1, I1, r, z, q⟩ => ⟨by rw [← r.length]; exact z, ?_⟩)
 have hf : H1 s1.heap.objs.size = none := I1.hok.fresh (Nat.le_refl _)
 refine ⟨.ref s1.heap.objs.size, upd H1 s1.heap.objs.size (.tup xs), I1.laid (t' := s1.toks) (fun b u e => Heap.get?_push_of_some _ e) (Nat.le_refl _) ?_, rfl, q _ hf⟩
 exact ⟨z, us, r, ⟨_, Heap.get?_push_size _ rfl, rfl, _, rfl⟩⟩
theorem pea_ix {r : R2} (hr : IxR X r) (ha : PEa X a ta) (hb : PE X b tb) (hs : PlainIx b) : PEa X (.Subscript a b pos) (tOp r ta tb) := by
 intro pins s σ H Q hk I h
 refine Subscript_ (thn (ha pins s σ H _ hk I h) fun v s1 ⟨x, H1, I1, r1, q1⟩ => thn (hb pins s1 σ H1 _ I1 q1) fun u s2 ⟨y, H2, I2, r2, q2⟩ => ?_)
 exact hr a b pins s2 σ H2 x y v u Q I2 r1 r2 q2 (hs _ _)
theorem pep_strix {r : R2} {x : Str} {j p} (hr : IxR X r) (hb : PE X b tb) (hs : PlainIx b) : PEp X (.Subscript (.Constant (.str x) j p) b pos) (tOp r (tC (.str x)) tb) := by
 intro pins s σ H Q I h
 refine Subscript_ (Calls.Constant_str ?_)
 have h1 : 1 ≤ ({ s with toks := s.toks + 1 } : Shared).toks := by show 1 ≤ s.toks + 1; omega
 refine thn (tkp h1 (hb pins _ σ H _ (I.tok _) h)) fun u s2 ⟨k2, y, H2, I2, r2, q2⟩ => ?_
 exact tkp k2 (hr _ b pins s2 σ H2 (.str x) y _ u Q I2 ⟨_, rfl⟩ r2 q2 (hs _ _))
theorem pa_two (h1 : PEp X a ta) (h2 : PEa X b tb) (hs : starEach [a, b] X.env = (false, eval a X.env) :: starEach [b] X.env := by rfl) (hs2 : starEach [b] X.env = (false, eval b X.env) :: starEach [] X.env := by rfl) : PA X [a, b] (tCons ta (tCons tb tNil)) := by
 intro ps pins s σ H Q I h
 rw [hs]
 show wpAny _ _ (spliced ((false, eval a X.env) :: backTo ps (starEach [b] X.env))) _ _ s
 refine Calls.spliced_cons (thn (h1 pins s σ H _ I h) fun u s1 ⟨k1, x, H1, I1, r1, q1⟩ => ?_)
 exact thn (a6l h2 paa_nil hs2 ps pins s1 σ H1 _ k1 I1 q1) fun us s2 ⟨xs, H2, I2, r2, q2⟩ => ⟨x :: xs, H2, I2, .cons r1 r2, q2⟩
theorem pep_opI {op : Operator} {r : R2} {i : Int} {j p} (ho : OpR X (binaryOp op) r) (ha : PE X a ta) : PEp X (.BinOp a op (.Constant (.int i) j p) pos) (tOp r ta (tC (.int i))) := by
 intro pins s σ H Q I h
 refine wpAny_BinOp (thn (ha pins s σ H _ I h) fun v s1 ⟨x, H1, I1, r1, q1⟩ => wpAny_Constant_int ?_)
 exact tkp (by show 1 ≤ s1.toks + 1; omega) (ho pins _ σ H1 x (.int i) v _ Q (I1.tok _) r1 ⟨_, rfl⟩ q1)
theorem ptp_cmp {op : CmpOp} {r : R2} (ho : OpR X (compareOp op) r) (ha : PEp X a ta) (hb : PE X b tb) (hm : behindInMarks op b = false) : PTp X (.Compare a [op] [b] pos) (tTest (tOp r ta tb)) := by
 intro pins s σ H Q I h
 refine wpAny_isTrue_Compare1 (thn (ha pins s σ H _ I h) fun v s1 ⟨k1, x, H1, I1, r1, q1⟩ => thn (tkp k1 (hb pins s1 σ H1 _ I1 q1)) fun u s2 ⟨k2, y, H2, I2, r2, q2⟩ =>
  thn (tkp k2 (ho pins s2 σ H2 x y v u _ I2 r1 r2 q2)) fun d s3 ⟨k3, z, H3, I3, r3, k, e, q3⟩ => ?_) hm
 subst e
 cases r3
 exact wpAny_truthy_bool ⟨k3, H3, I3, q3⟩
theorem ptp_and {rest : List Expr} {tA tB' : TT} (ha : PTp X a tA) (hb : PW X (.BoolOp .And (b :: rest) pos) tB') : PTp X (.BoolOp .And (a :: b :: rest) pos) (tAnd tA tB') := by
 intro pins s σ H Q I h
 refine isTrue_and (thn (ha pins s σ H _ I h) fun c s1 ⟨k1, H1, I1, q1⟩ => ?_)
 cases c with
 | true => exact tkp k1 (hb _ pins s1 σ H1 Q I1 q1)
 | false => exact ⟨k1, H1, I1, q1⟩
theorem ps_ifp {c : Expr} {x y : List Stmt} {tc : TT} {tx ty : TS} (hc : PTp X c tc) (ha : PSsa X x tx) (hb : PSs X y ty) : PS X (.If c x y pos) (tIfS tc tx ty) := by
 intro pins s σ H D I h
 refine wpAny_If (thn (hc pins s σ H _ I h) fun d s1 ⟨k1, H1, I1, q1⟩ => ?_)
 cases d with
 | true => exact ha pins s1 σ H1 D k1 I1 q1
 | false => exact hb pins s1 σ H1 D I1 q1
theorem psa_set {i : Nat} {x : Str} {pos' : Pos} (hN : X.N.Nodup) (hi : X.N[i]? = some x) (hx : Loc X.env.scope x) (he : PEa X e te) (hs : swapsWith e (some (.Name x pos')) pos.line X.env = pure false := by rfl) (hf : X.fn x = true ∨ X.env.scope.names.lookup x = some .local := by first | exact .inl rfl | exact .inr rfl | assumption) :
  PSa X (.Assign [.Name x pos'] e pos) (tAsg te (aau i)) := by
 intro pins s σ H D hk I h
 refine wpAny_Assign_Name (thn (he pins s σ H _ hk I h) fun v s1 ⟨y, H1, I1, r1, q1⟩ => ?_) hs
 exact a83 I1 hN hi hx r1 (fun s2 I2 => ⟨_, H1, I2, q1⟩) hf
theorem pssa_one {st : Stmt} {ts : TS} (h1 : PSa X st ts) : PSsa X [st] ts := by
 intro pins s σ H D hk I h
 refine wpAny_execs_cons (thn (h1 pins s σ H D hk I h) fun f s1 q => ?_)
 cases f with
 | next => exact wpAny_execs_nil q
 | ret v => exact q
 | brk => exact q
 | cont => exact q
theorem pea_bm {o : Expr} {to : TE} {name : Str} {apos cpos : Pos} {T id : String} {r : V → List V → Hp → VK → Prop} (pa : PlainAttrs T) (slot : Slot T name id) (hty : typeOf (.builtin id) = pure (.type "method_descriptor")) (hm : MtR X id r) (ho : PE X o to) (ha : PAa X (e :: es) t)
  (hbase : attributeBase o name X.env (eval o X.env) = eval o X.env := by rfl)
  (hfew : ((backTo cpos (starEach (e :: es) X.env)).all (fun x => !x.1) && (backToKw cpos (keywordEach [] X.env)).all (fun x => x.1.isSome)
   && decide ((e :: es).length + ([] : List Keyword).length + (if ([] : List Keyword).isEmpty then 0 else 1) < 30)) = true := by rfl)
  (hline : (apos.endLine == cpos.line) = true := by rfl) (hs : starEach (e :: es) X.env = (false, eval e X.env) :: starEach es X.env := by rfl) (hplain : (backTo cpos (starEach es X.env)).any (·.1) = false := by rfl) :
  PEa X (.Call (.Attribute o name apos) (e :: es) [] cpos) (tBM X.K T r to t) := by
 intro pins s σ H Q hk I h
 refine wpAny_Call_method_late hbase hfew hline rfl (thn (tkp hk (ho pins s σ H _ I h)) fun v s1 ⟨k1, x, H1, I1, r1, ty, q1⟩ => ?_)
 obtain ⟨h1, h2⟩ := tyV_is I1 r1 ty
 refine ⟨T, id, pa, slot, hty, h1, h2, ?_⟩
 have hA := ha cpos pins s1 σ H1 _ k1 I1 q1
 rw [hs] at hA ⊢
 refine Calls.callWith_builtin (by show (false || (backTo cpos (starEach es X.env)).any (·.1)) = false; rw [hplain] <;> rfl) (Calls.evalArgs_plain ?_)
 exact thn hA fun us s2 ⟨vs, H2, I2, r2, q2⟩ => hm pins s2 σ H2 x vs v us Q I2 r1 r2 q2
def tVarS (i : Nat) : TE := fun σ H Q => ∃ y t, σ[i]? = some (some (.stk y t)) ∧ Q (.str y) H
theorem pvS (i : Nat) {x : Str} {p : Pos} (hN : X.N[i]? = some x := by rfl) (hv : Vis X.env.scope x := by first | exact Or.inl rfl | exact Or.inr (Or.inl rfl) | exact Or.inr (Or.inr rfl)) (hd : (x == ("__debug__" : Str)) = false := by decide)
  (hcd : (x == ("__classdict__" : Str)) = false := by decide) : PE X (.Name x p) (tVarS i) := by
 intro pins s σ H Q I ⟨y, t, ev, q⟩
 refine thn (pe_var hN hv hd hcd pins s σ H (fun v H' => v = .stk y t ∧ Q (.str y) H') I ⟨_, ev, rfl, q⟩) fun u s1 ⟨v, H1, I1, r1, e1, q1⟩ => ?_
 subst e1
 obtain ⟨rfl, _⟩ := r1
 exact ⟨.str y, H1, I1, ⟨t, rfl⟩, q1⟩
end
end L2
namespace TW
open Syl
def undo1 (t : Stp) : Stp := (!t.1, t.2.1, t.2.2)
def steps2 (u v : List Nat) : List Stp := (mps u).1 ++ (mps v).1.reverse.map undo1
theorem steps2_pcs (u v : List Nat) : ∀ t ∈ steps2 u v, t.2.2 ∈ pcs := by
 intro t ht
 rcases List.mem_append.mp ht with ht | ht
 ·exact mps_pcs u t ht
 ·obtain ⟨s, hs, rfl⟩ := List.mem_map.mp ht
  exact mps_pcs v s (List.mem_reverse.mp hs)
theorem steps2_len (u v : List Nat) : (steps2 u v).length ≤ 5 * u.length + 5 * v.length := by
 unfold steps2
 rw [List.length_append, List.length_map, List.length_reverse]
 have := (a8q u).1
 have := (a8q v).1
 omega
end TW
namespace L2
open PySem PySem.Spec PyProof.Rows
theorem lc_rel {J : It} {xs : List V} {Ok : Hp → Prop} (hJ : a4o J xs Ok) {te : TE} {js : List Nat} {σ : St} {H : Hp} {Q : VK} (R : Hp → Nat → List V → Prop) (hok : ∀ H', a0r H H' → Ok H') (hz : xs.length ≤ sizeLine) (h0 : R H 0 [])
  (he : ∀ (i : Nat) x H' acc (Q' : VK), xs[i]? = some x → a0r H H' → R H' i acc → (∀ v H'', a0r H' H'' → R H'' (i + 1) (acc ++ [v]) → Q' v H'') → te (some x :: a3f σ js) H' Q')
  (q : ∀ H' p acc, a0r H H' → H' p = none → R H' xs.length acc → acc.length = xs.length → Q (.ref p) (upd H' p (.lst acc))) : LcW J tYes te js σ Q H := by
 refine ⟨fun i m acc H' => a0r H H' ∧ i ≤ xs.length ∧ m = xs.length - i ∧ acc.length = i ∧ R H' i acc, ⟨xs.length, a0r.refl _, Nat.zero_le _, by simp, rfl, h0⟩, ?_⟩
 rintro i m acc H' ⟨hs, hi, rfl, hlen, hR⟩
 refine ⟨by omega, ?_⟩
 by_cases hlt : i < xs.length
 ·refine .inr ⟨hJ.go i _ (hok _ hs) hlt, by omega, fun x H'' y => ?_⟩
  obtain ⟨e, hx⟩ := hJ.yld i _ x H'' (hok _ hs) hlt y
  subst e
  unfold tYes
  dsimp only
  rw [if_pos rfl]
  refine he i x H'' acc _ hx hs hR fun v H4 s4 r4 => ⟨xs.length - (i + 1), by omega, hs.trans s4, hlt, rfl, ?_, r4⟩
  rw [List.length_append, hlen]
  rfl
 ·have e : i = xs.length := by omega
  subst e
  exact .inl ⟨hJ.stop _ _ (hok _ hs) (Nat.le_refl _), fun p hp => q H' p acc hs hp hR hlen⟩
end L2
namespace TX
open PySem L2 TW
def dS (b : Bool) : Str := if b = true then "in" else "out"
def dS2 : List Str := ["out", "in"]
def pcS : List Str := ["tu", "ut", "rr", "trtrtr"]
theorem dS_in (b : Bool) : decide (V.str (dS b) = V.str "in") = b := by cases b <;> decide +kernel
theorem dS_out (b : Bool) : decide (V.str (dS b) = V.str "out") = !b := by cases b <;> decide +kernel
theorem flat_strs (ts : List Str) : (ts.map V.str).all acp = true := by
 rw [List.all_map, List.all_eq_true]
 exact fun _ _ => rfl
theorem len_S {K : PySem.W.Frag} {H : Hp} {u : List Nat} (h : u.length ≤ 1000000) : LenV K (.str (S u)) H u.length := ⟨by rw [a1a]; exact big h, (a1a u).symm⟩
theorem sz2 {a c : List Nat} (h : a.length + c.length ≤ 1000000) : (S a).length + (S c).length ≤ sizeLine := by
 rw [a1a, a1a]
 exact big h
def Deeds (K : PySem.W.Frag) (mg : Str → Option Value) : Prop := ∃ a, mg "DEEDS" = some (.ref a) ∧ ∀ H, SqT K H a (dS2.map V.str)
def Pieces (K : PySem.W.Frag) (mg : Str → Option Value) : Prop := ∃ a, mg "PIECES" = some (.ref a) ∧ ∀ H, SqT K H a (pcS.map V.str)
theorem a0y.at {H : Hp} : ∀ {vs : List V} {ts : List Stp}, a0y H vs ts → ∀ {i : Nat} {v : V}, vs[i]? = some v → ∃ p t, v = .ref p ∧ ts[i]? = some t ∧ H p = some (stV t)
 | [], [], _, _, _, h => by cases h
 | _ :: _, _ :: _, ⟨⟨p, e, h⟩, _⟩, 0, v, hv => by
  cases hv
  exact ⟨p, _, e, rfl, h⟩
 | _ :: _, _ :: _, ⟨_, r⟩, i + 1, v, hv => a0y.at r (i := i) hv
theorem a0y.rev {H : Hp} : ∀ {vs : List V} {ts : List Stp}, a0y H vs ts → a0y H vs.reverse ts.reverse
 | [], [], _ => trivial
 | _ :: _, _ :: _, ⟨a, r⟩ => by
  rw [List.reverse_cons, List.reverse_cons]
  exact (a0y.rev r).append ⟨a, trivial⟩
def spAmong (K : PySem.W.Frag) : Sp := fun vs H Q _ => ∃ (x : Str) (a : Addr) (ts : List Str), vs = [.str x, .ref a] ∧ SqT K H a (ts.map V.str) ∧ Q (.bl (ts.contains x)) H
def spAfter : Sp := fun vs H Q _ => ∃ u p b i pc v, vs = [.str (S u), .ref p] ∧ H p = some (stV (b, i, pc)) ∧ pc ∈ pcs ∧ u.length ≤ 100000 ∧ due u b i pc = some v ∧ Q (.str (S v)) H
def dueV : Option (List Nat) → V
 | none => .non
 | some v => .str (S v)
def UnlikeAt (C : Addr) (H : Hp) (o : Addr) (g : Fr) : Prop := ∃ dx p, H o = some (.ins C dx [("fraction", .ref p)]) ∧ H p = some (fT g)
def spInitA (C : Addr) : Sp := fun vs H Q _ => ∃ o dx m0 ps, vs = [.ref o, .ref m0] ∧ H o = some (.ins C dx []) ∧ H m0 = some (.lst ps) ∧ ∀ m, H m = none → Q .non (upd (upd H m (.lst ps)) o (.ins C dx [("steps", .ref m)]))
def a8x (C : Addr) : Sp := fun vs H Q _ => ∃ o x y g, vs = [.ref o, .str (S x), .str (S y)] ∧ UnlikeAt C H o g ∧ ∀ H', a0r H H' → Q (.bl (!decide (walk x g = walk y g))) H'
def spUndone : Sp := fun vs H Q _ => ∃ m ps ts, vs = [.ref m] ∧ H m = some (.lst ps) ∧ a0y H ps ts ∧ ts.length ≤ 1000000 ∧ ∀ p ps' H', a0r H H' → H' p = some (.lst ps') → a0y H' ps' (ts.reverse.map undo1) → Q (.ref p) H'
def spAlike (CA CU : Addr) : Sp := fun vs H Q _ => ∃ x y, vs = [.str (S x), .str (S y)] ∧ IsW x ∧ IsW y ∧ x.length ≤ 1000 ∧ y.length ≤ 1000 ∧
 (al x y = true → ∀ o dx m ps H', a0r H H' → H m = none → H' o = some (.ins CA dx [("steps", .ref m)]) → H' m = some (.lst ps) → a0y H' ps (steps2 x y) → Q (.ref o) H') ∧
 (al x y = false → ∀ o g H', a0r H H' → UnlikeAt CU H' o g → IsF g → walk x g ≠ walk y g → Q (.ref o) H')
def spTwo (K : PySem.W.Frag) : Sp := fun vs H Q _ => ∃ (a : Addr) (ns : List Int), vs = [.ref a] ∧ SqL K H a (ns.map V.int) ∧ ns.length ≤ 63 ∧ ∀ p x y H', a0r H H' → H' p = some (.tup [.str (S x), .str (S y)]) → IsW x → IsW y → x.length ≤ 400 → y.length ≤ 400 → Q (.ref p) H'
theorem pick4 (n b : Int) (t1 t2 t3 t4 : Tok) : ∃ pc t, pc ∈ pcs ∧ (t = t1 ∨ t = t2 ∨ t = t3 ∨ t = t4) ∧ atI [V.stk "tu" t1, V.stk "ut" t2, V.stk "rr" t3, V.stk "trtrtr" t4] (n / b % 4) = some (.stk (S pc) t) := by
 have h0 := Int.emod_nonneg (n / b) (show (4 : Int) ≠ 0 by decide)
 have h1 := Int.emod_lt_of_pos (n / b) (show (0 : Int) < 4 by decide)
 generalize n / b % 4 = i at h0 h1
 have h : i = ((0 : Nat) : Int) ∨ i = ((1 : Nat) : Int) ∨ i = ((2 : Nat) : Int) ∨ i = ((3 : Nat) : Int) := by omega
 rcases h with rfl | rfl | rfl | rfl
 ·exact ⟨[116, 117], t1, by simp [pcs], .inl rfl, by rw [a3v rfl, lit_tu]⟩
 ·exact ⟨[117, 116], t2, by simp [pcs], .inr (.inl rfl), by rw [a3v rfl, lit_ut]⟩
 ·exact ⟨[114, 114], t3, by simp [pcs], .inr (.inr (.inl rfl)), by rw [a3v rfl, lit_rr]⟩
 ·exact ⟨[116, 114, 116, 114, 116, 114], t4, by simp [pcs], .inr (.inr (.inr rfl)), by rw [a3v rfl, S_tr]⟩
theorem pcs_ne {pc : List Nat} (h : pc ∈ pcs) : (S pc == ("" : Str)) = false := by
 have e : pc = [116, 117] ∨ pc = [117, 116] ∨ pc = [114, 114] ∨ pc = [116, 114, 116, 114, 116, 114] := by simpa [pcs] using h
 rcases e with rfl | rfl | rfl | rfl <;> decide +kernel
theorem S_of (y : Str) : y = S y.cps.toList := by cases y; simp [S]
theorem repl_word {x : List Nat} (hx : IsW x) (y : Str) (n : Nat) : ∃ z, Builtin.Str.glued ("" : Str) (Builtin.Str.partsBetween (S x) (Builtin.Str.occurrences (S x) y 0 (S x).length 1) n) = S z ∧ IsW z ∧ z.length ≤ x.length := by
 have hl := StrLaws.occ_length_le (S x) y 0 (S x).length 1
 generalize Builtin.Str.occurrences (S x) y 0 (S x).length 1 = cs at hl
 have ex : ∀ i j, IsW ((Builtin.Str.strSub (S x) i j).cps.toList) ∧ ((Builtin.Str.strSub (S x) i j).cps.toList).length = min j x.length - i := fun i j => by
  have e : (Builtin.Str.strSub (S x) i j).cps.toList = (x.take j).drop i := by
   show ((x.toArray).extract i j).toList = _
   simp [List.extract_eq_take_drop, List.drop_take]
  rw [e]
  refine ⟨fun c hc => hx c (List.mem_of_mem_take (List.mem_of_mem_drop hc)), ?_⟩
  rw [List.length_drop, List.length_take]
 match cs, hl with
 | [], _ =>
  have e : Builtin.Str.glued ("" : Str) (Builtin.Str.partsBetween (S x) [] n) = Builtin.Str.strSub (S x) 0 (S x).length := rfl
  have := ex 0 (S x).length
  exact ⟨_, e.trans (S_of _), this.1, by rw [this.2]; omega⟩
 | [i], _ =>
  have a := ex 0 i
  have b := ex (i + n) (S x).length
  refine ⟨(Builtin.Str.strSub (S x) 0 i).cps.toList ++ (Builtin.Str.strSub (S x) (i + n) (S x).length).cps.toList, ?_, a.1.append b.1, by rw [List.length_append, a.2, b.2, a1a]; omega⟩
  show (⟨(Builtin.Str.strSub (S x) 0 i).cps ++ ("" : Str).cps ++ (Builtin.Str.strSub (S x) (i + n) (S x).length).cps⟩ : Str) = _
  unfold S
  congr 1
  rw [show ("" : Str).cps = #[] from rfl]
  simp
 | _ :: _ :: _, h => exact absurd h (by simp)
theorem slice_word {x : List Nat} (hx : IsW x) (l u : Option Int) : ∃ z, Txt.slice (S x) l u = S z ∧ IsW z ∧ z.length ≤ x.length := by
 refine ⟨(Txt.slice (S x) l u).cps.toList, S_of _, fun c hc => ?_, ?_⟩
 ·unfold Txt.slice at hc
  split at hc
  ·rw [aak] at hc
   exact hx c hc
  ·rw [List.toList_toArray] at hc
   obtain ⟨i, _, hi⟩ := List.mem_filterMap.mp hc
   have h2 : x[i]? = some c := by
    have e : (S x).cps[i]? = x[i]? := by show x.toArray[i]? = _; simp
    rw [← e]; exact hi
   exact hx c (List.mem_of_getElem? h2)
 ·have := Txt.slice_le (S x) l u
  rw [a1a] at this
  have e : (Txt.slice (S x) l u).cps.toList.length = (Txt.slice (S x) l u).length := by rw [Array.length_toList]; rfl
  omega
theorem _root_.L2.a0r.non {H H' : Hp} {p : Addr} (s : a0r H H') (n : H' p = none) : H p = none := by
 cases e : H p with
 | none => rfl
 | some o => rw [s _ _ e] at n; cases n
end TX
namespace TW
theorem walk_inj {u : List Nat} {f g : Fr} (hu : IsW u) (hf : IsF f) (hg : IsF g) (h : walk u f = walk u g) : f = g := by
 have := congrArg (walk (bk u)) h
 rwa [a8k hu hf, a8k hu hg] at this
end TW
namespace TX
open PySem L2 TW
def a4k (H : Hp) (p : Addr) (g h : Fr) : Prop := ∃ a b, H p = some (.tup [.ref a, .ref b]) ∧ H a = some (fT g) ∧ H b = some (fT h)
theorem a4k.same {H H' : Hp} {p : Addr} {g h : Fr} (x : a4k H p g h) (s : a0r H H') : a4k H' p g h := let ⟨a, b, e1, e2, e3⟩ := x; ⟨a, b, s _ _ e1, s _ _ e2, s _ _ e3⟩
structure acx (g : Fr) : Prop where
 F : IsF g
 sz : g.1.natAbs + g.2.natAbs + 1 ≤ 2 ^ 1000
 q : qf g ≤ 200
theorem pow_le {a b : Nat} (h : a ≤ b) : 2 ^ a ≤ 2 ^ b := Nat.pow_le_pow_right (by decide) h
theorem abl {u : List Nat} {g : Fr} {n m : Nat} (hl : u.length ≤ n) (hs : g.1.natAbs + g.2.natAbs + 1 ≤ 2 ^ m) : (walk u g).1.natAbs + (walk u g).2.natAbs + 1 ≤ 2 ^ (n + m) := by
 refine Nat.le_trans (walk_size u g) ?_
 rw [Nat.pow_add]
 exact Nat.mul_le_mul (pow_le hl) hs
theorem a89 {u : List Nat} {g : Fr} {n m c : Nat} (hg : IsF g) (hl : u.length ≤ n) (hs : g.1.natAbs + g.2.natAbs + 1 ≤ 2 ^ m) (hq : qf g ≤ c) (h1 : n + m ≤ 1000) (h2 : c + n ≤ 200) : acx (walk u g) := by
 refine ⟨a2f hg, Nat.le_trans (abl hl hs) (pow_le h1), ?_⟩
 have := qf_walk u hg
 omega
structure Fair (g : Fr) : Prop where
 F : IsF g
 sz : g.1.natAbs + g.2.natAbs + 1 ≤ 2 ^ 66
 q : qf g ≤ 64
theorem turn_size {f : Fr} (h : IsF f) : (mv 114 f).1.natAbs + (mv 114 f).2.natAbs ≤ f.1.natAbs + f.2.natAbs := by
 obtain ⟨t1, t2, t3⟩ := turn_abs f
 by_cases z : f.1 = 0
 ·rw [t3 z]
  have : f.2 ≠ 0 := by
   intro e
   have := F_fin h e
   rw [this] at z
   cases z
  show 1 + 0 ≤ _
  omega
 ·have := t2 z
  omega
theorem turn_qf (f : Fr) : qf (mv 114 f) ≤ qf f := by
 unfold mv
 rw [if_neg (by decide), if_neg (by decide)]
 split
 ·show qs (-f.2).natAbs f.1.natAbs ≤ qs f.1.natAbs f.2.natAbs
  rw [Int.natAbs_neg, a8m]; exact Nat.le_refl _
 split
 ·show qs f.2.natAbs (-f.1).natAbs ≤ qs f.1.natAbs f.2.natAbs
  rw [Int.natAbs_neg, a8m]; exact Nat.le_refl _
 ·show qs 1 0 ≤ _
  rw [a8l]; exact Nat.zero_le _
theorem a9l : Fair (1, 0) := ⟨F_end, by decide, by rw [qf_end]; decide⟩
theorem fair_nought : Fair (0, 1) := ⟨ab7, by decide, by rw [qf_nought]; decide⟩
theorem mo_spLMoved : MoSp ab1 := fun _ _ _ _ _ h ⟨c, p, g, e, hp, z⟩ => ⟨c, p, g, e, hp, fun q H' s t => h _ _ (z q H' s t)⟩
theorem rd_script {K : PySem.W.Frag} {H : Hp} {a : Addr} {ns : List Int} (h : SqL K H a (ns.map V.int)) : RdD K H (.ref a) (.list (ns.map PyData.int)) := by
 unfold RdD
 exact ⟨a, _, rfl, h, rd_ints ns⟩
theorem rd_nil {K : PySem.W.Frag} {H : Hp} {m : Addr} (h : H m = some (.lst [])) : RdD K H (.ref m) (.list []) := by
 unfold RdD
 exact ⟨m, [], rfl, SqL.of h, by unfold a8v; rfl⟩
theorem neL {ns : List Int} {A B : Prop} (h1 : ns = [] → B) (h2 : ns ≠ [] → A) : if (if true = true then !PyData.eqv (.list (ns.map PyData.int)) (.list []) else PyData.eqv (.list (ns.map PyData.int)) (.list [])) = true then A else B := by
 rw [if_pos (c := (true = true)) rfl]
 cases ns with
 | nil => exact a5a (h1 rfl)
 | cons k r => rw [acf]; exact a7k (h2 (by simp))
theorem last_at {ns : List Int} (h : ns ≠ []) : ∃ n, atI (ns.map V.int) (-1) = some (V.int n) := by
 obtain ⟨r, n, rfl⟩ : ∃ r n, ns = r ++ [n] := ⟨ns.dropLast, ns.getLast h, (List.dropLast_concat_getLast h).symm⟩
 refine ⟨n, ?_⟩
 rw [List.map_append]
 exact ab5 _ _
def a7o : Sp := fun vs H Q _ => ∃ (a p : Addr) (k : Int) (ks : List Int) (g : Fr), vs = [.ref a, .ref p] ∧ H a = some (.lst (iV (k :: ks))) ∧ H p = some (fT g) ∧ sab (k :: ks) ≤ 1000000 ∧ ks.length ≤ 100000 ∧ ∀ q H', a0r H H' → H' q = some (fT (act (k :: ks) g)) → Q (.ref q) H'
def aa5 : Sp := fun vs H Q _ => ∃ (p : Addr) (g h : Fr), vs = [.ref p] ∧ a4k H p g h ∧ acx g ∧ acx h ∧ g ≠ h ∧
 ∀ q H' C z, a0r H H' → H' q = some (.lst (iV (C ++ [z]))) → act (C ++ [z]) g = (1, 0) → 0 ≤ (act (C ++ [z]) h).1 ∧ (act (C ++ [z]) h).1 < (act (C ++ [z]) h).2 → sab (C ++ [z]) ≤ 1000 → (C ++ [z]).length ≤ 1000 → Q (.ref q) H'
def spIsPair : Sp := fun vs H Q _ => ∃ (p : Addr) (g h : Fr), vs = [.ref p] ∧ a4k H p g h ∧ IsF g ∧ IsF h ∧ ∀ H', a0r H H' → Q (.bl true) H'
def LedOk (u : List Nat) (g h g' h' : Fr) : Prop := IsW u ∧ u.length ≤ 10000 ∧ walk u g = g' ∧ walk u h = h'
def inU (f : Fr) : Prop := 0 ≤ f.1 ∧ f.1 < f.2
def PartsOk (u v : List Nat) (g h g' h' : Fr) : Prop := IsW u ∧ IsW v ∧ u.length ≤ 10000 ∧ v.length ≤ 10000 ∧ walk u g = (1, 0) ∧ walk v g' = (1, 0) ∧ inU (walk u h) ∧ inU (walk v h') ∧ walk u h ≠ walk v h'
def LedAt (C : Addr) (H : Hp) (o : Addr) (u : List Nat) : Prop := ∃ dx, H o = some (.ins C dx [("word", .str (S u))])
def PartsAt (C : Addr) (H : Hp) (o : Addr) (u v : List Nat) : Prop := ∃ dx, H o = some (.ins C dx [("there", .str (S u)), ("back", .str (S v))])
def spLed (CL CP : Addr) : Sp := fun vs H Q _ => ∃ (p r : Addr) (g h g' h' : Fr), vs = [.ref p, .ref r] ∧ a4k H p g h ∧ a4k H r g' h' ∧ acx g ∧ acx h ∧ acx g' ∧ acx h' ∧ g ≠ h ∧ g' ≠ h' ∧
 (∀ o H' u, a0r H H' → LedAt CL H' o u → LedOk u g h g' h' → Q (.ref o) H') ∧ (∀ o H' u v, a0r H H' → PartsAt CP H' o u v → PartsOk u v g h g' h' → Q (.ref o) H')
def ppb (u : List Nat) (g h : Fr) : Bool := decide (walk u g = (1, 0)) && (decide (0 ≤ (walk u h).1) && decide ((walk u h).1 < (walk u h).2))
def abe : Sp := fun vs H Q _ => ∃ (u : List Nat) (p : Addr) (g h : Fr), vs = [.str (S u), .ref p] ∧ a4k H p g h ∧ ∀ H', a0r H H' → Q (.bl (ppb u g h)) H'
def spLedShows (C : Addr) : Sp := fun vs H Q _ => ∃ (o p r : Addr) (u : List Nat) (g h g' h' : Fr), vs = [.ref o, .ref p, .ref r] ∧ LedAt C H o u ∧ a4k H p g h ∧ a4k H r g' h' ∧ ∀ H', a0r H H' → Q (.bl (decide (walk u g = g') && decide (walk u h = h'))) H'
def aa7 (C : Addr) : Sp := fun vs H Q _ => ∃ (o p r : Addr) (u v : List Nat) (g h g' h' : Fr), vs = [.ref o, .ref p, .ref r] ∧ PartsAt C H o u v ∧ a4k H p g h ∧ a4k H r g' h' ∧ ∀ H', a0r H H' → Q (.bl (ppb u g h && (ppb v g' h' && !decide (walk u h = walk v h')))) H'
def spInit2 (C : Addr) (f1 f2 : Str) : Sp := fun vs H Q _ => ∃ o dx v1 v2, vs = [.ref o, v1, v2] ∧ H o = some (.ins C dx []) ∧ Q .non (upd H o (.ins C dx [(f1, v1), (f2, v2)]))
def spLPairs (K : PySem.W.Frag) : Sp := fun vs H Q _ => ∃ (a : Addr) (ns : List Int), vs = [.ref a] ∧ SqL K H a (ns.map V.int) ∧ ns.length ≤ 63 ∧
 ∀ t p r g h g' h' H', a0r H H' → H' t = some (.tup [.ref p, .ref r]) → a4k H' p g h → a4k H' r g' h' → acx g → acx h → acx g' → acx h' → g ≠ h → g' ≠ h' → Q (.ref t) H'
end TX
namespace TW
theorem take3_get {u : List Nat} {n a b c : Nat} (h : (u.drop n).take 3 = [a, b, c]) : u[n]? = some a ∧ u[n + 1]? = some b ∧ u[n + 2]? = some c := by
 have g : ∀ j, j < 3 → u[n + j]? = [a, b, c][j]? := fun j hj => by
  rw [← h, List.getElem?_take, if_pos hj, List.getElem?_drop]
 exact ⟨g 0 (by decide), g 1 (by decide), g 2 (by decide)⟩
def Thr (u : List Nat) : Prop := u.length % 3 = 0 ∧ ∀ i, 3 * i < u.length → u[3 * i]? = some 114 ∧ ((u[3 * i + 1]? = some 116 ∧ u[3 * i + 2]? = some 114) ∨ (u[3 * i + 1]? = some 114 ∧ u[3 * i + 2]? = some 117))
theorem Thr.rot {p q : List Nat} (h1 : Thr (p ++ q)) (h2 : Thr (q ++ p)) : p.length % 3 = 0 := by
 obtain ⟨l1, a1⟩ := h1
 obtain ⟨l2, a2⟩ := h2
 rw [List.length_append] at l1 l2
 have gu : ∀ j, j < q.length → (p ++ q)[p.length + j]? = q[j]? := fun j hj => by rw [List.getElem?_append_right (by omega)]; congr 1; omega
 have gp : ∀ j, j < p.length → (p ++ q)[j]? = p[j]? := fun j hj => by rw [List.getElem?_append_left hj]
 have gv : ∀ j, j < q.length → (q ++ p)[j]? = q[j]? := fun j hj => by rw [List.getElem?_append_left hj]
 have gw : ∀ j, j < p.length → (q ++ p)[q.length + j]? = p[j]? := fun j hj => by rw [List.getElem?_append_right (by omega)]; congr 1; omega
 by_cases hp : p = []
 ·subst hp; rfl
 have pl : 0 < p.length := List.length_pos_iff.mpr hp
 have z := a2 0 (by rw [List.length_append]; omega)
 simp only [Nat.mul_zero, Nat.zero_add] at z
 have hm : p.length % 3 = 0 ∨ p.length % 3 = 1 ∨ p.length % 3 = 2 := by omega
 rcases hm with h | h | h
 ·exact h
 ·exfalso
  have hq : 2 ≤ q.length := by omega
  have y := a1 (p.length / 3) (by rw [List.length_append]; omega)
  have e1 : 3 * (p.length / 3) + 1 = p.length + 0 := by omega
  have e2 : 3 * (p.length / 3) + 2 = p.length + 1 := by omega
  rw [e1, e2, gu 0 (by omega), gu 1 (by omega)] at y
  rw [gv 0 (by omega), gv 1 (by omega)] at z
  rcases y.2 with ⟨y1, y2⟩ | ⟨y1, y2⟩
  ·rw [y1] at z
   cases z.1
  ·rw [y2] at z
   rcases z.2 with ⟨w1, _⟩ | ⟨w1, _⟩ <;> cases w1
 ·exfalso
  have hq : 1 ≤ q.length := by omega
  have y := a1 (p.length / 3) (by rw [List.length_append]; omega)
  by_cases q1 : q.length = 1
  ·have y0 := a1 0 (by rw [List.length_append]; omega)
   simp only [Nat.mul_zero, Nat.zero_add] at y0
   rw [gp 0 (by omega), gp 1 (by omega)] at y0
   have g1 := gw 0 (by omega)
   have g2 := gw 1 (by omega)
   rw [q1] at g1 g2
   rw [show (1 + 0 : Nat) = 1 from rfl] at g1
   rw [show (1 + 1 : Nat) = 2 from rfl] at g2
   rw [g1, g2] at z
   rcases z.2 with ⟨w1, _⟩ | ⟨_, w2⟩
   ·rw [y0.1] at w1; cases w1
   ·rcases y0.2 with ⟨v1, _⟩ | ⟨v1, _⟩ <;> rw [v1] at w2 <;> cases w2
  ·have hq4 : 4 ≤ q.length := by omega
   have y0 := a1 (p.length / 3 + 1) (by rw [List.length_append]; omega)
   rw [show 3 * (p.length / 3 + 1) = p.length + 1 by omega, show p.length + 1 + 1 = p.length + 2 from rfl, show p.length + 1 + 2 = p.length + 3 from rfl, gu 1 (by omega), gu 2 (by omega), gu 3 (by omega)] at y0
   rw [gv 0 (by omega), gv 1 (by omega), gv 2 (by omega)] at z
   rcases z.2 with ⟨w1, _⟩ | ⟨_, w2⟩
   ·rw [y0.1] at w1; cases w1
   ·rcases y0.2 with ⟨v1, _⟩ | ⟨v1, _⟩ <;> rw [v1] at w2 <;> cases w2
end TW
namespace L2
open PySem PySem.Spec PyProof.Rows
theorem pick_take {α : Type} (l : List α) : ∀ m, (List.range m).filterMap (l[·]?) = l.take m
 | 0 => by simp
 | m + 1 => by
  rw [List.range_succ, List.filterMap_append, pick_take l m, List.take_add_one]
  congr 1
theorem fm_congr {α β : Type} {f g : α → Option β} : ∀ {l : List α}, (∀ x ∈ l, f x = g x) → l.filterMap f = l.filterMap g
 | [], _ => rfl
 | a :: l, h => by
  rw [List.filterMap_cons, List.filterMap_cons, h a List.mem_cons_self, fm_congr fun x hx => h x (List.mem_cons_of_mem _ hx)]
theorem pick_back {α : Type} (l : List α) : ((List.range l.length).map fun i => l.length - 1 - i).filterMap (l[·]?) = l.reverse := by
 have e : (List.range l.length).filterMap (l.reverse[·]?) = l.reverse := by rw [pick_take, ← List.length_reverse, List.take_length]
 rw [List.filterMap_map]
 refine Eq.trans (fm_congr fun i hi => ?_) e
 show l[l.length - 1 - i]? = l.reverse[i]?
 rw [List.getElem?_reverse (List.mem_range.mp hi)]
theorem slicePick_rev (its : List Value) : slicePick its.toArray none none (some (-1)) = its.reverse.toArray := by
 have e : ∀ n : Nat, sliceRange ((n : Int) - 1) (-1) (-1) = (List.range n).map fun i => n - 1 - i := fun n => by
  unfold sliceRange
  dsimp only
  rw [if_neg (by decide)]
  have c : (if (n : Int) - 1 > -1 then ((n : Int) - 1 - -1 - -1 - 1) / (- -1) else 0).toNat = n := by
   split
   ·rw [show ((n : Int) - 1 - -1 - -1 - 1) = n by omega, show (- -1 : Int) = 1 by decide, Int.ediv_one]
    omega
   ·omega
  rw [c]
  refine List.map_congr_left fun i hi => ?_
  have := List.mem_range.mp hi
  omega
 have b : sliceBounds none none (some (-1)) its.toArray.size = ((its.length : Int) - 1, -1, -1) := by
  rw [List.size_toArray]
  rfl
 unfold slicePick
 rw [b]
 dsimp only
 rw [e]
 have := pick_back its
 rw [← this]
 congr 2
 funext i
 simp
section
variable {X : Cx} {e st : Expr} {te ts : TE} {pos p2 : Pos}
def tRevL (K : PySem.W.Frag) (te ts : TE) : TE := fun σ H Q => te σ H fun x H1 => ts σ H1 fun y H2 => ∃ a xs, x = .ref a ∧ y = .int (-1) ∧ SqL K H2 a xs ∧ ∀ p, H2 p = none → Q (.ref p) (upd H2 p (.lst xs.reverse))
theorem pe_revL (he : PE X e te) (hs : PE X st ts) : PE X (.Subscript e (.Slice none none (some st) p2) pos) (tRevL X.K te ts) := by
 intro pins s σ H Q I h
 refine Subscript_ (thn (he pins s σ H _ I h) fun v s1 ⟨x, H1, I1, r1, q1⟩ => ?_)
 refine wpAny_Slice ?_
 rw [evalPart_none]
 refine wpAny_pure (wpAny_pure ?_)
 rw [evalPart_some]
 refine thn (hs pins s1 σ H1 _ I1 q1) fun vs s3 ⟨y, H3, I3, r3, q3⟩ => ?_
 obtain ⟨a, xs, rfl, rfl, ha, q⟩ := q3
 cases r1
 obtain ⟨tk, rfl⟩ := r3
 have I4 : Inv X pins σ H3 { s3 with heap := s3.heap.push { cls := .type "slice", data := .fields #[.none, .none, .int (-1) tk] } } := I3.kept (t' := s3.toks) fun b ob q => Heap.get?_push_of_some _ q
 obtain ⟨its, r, pl, hz⟩ := I4.list ha
 have hl := r.length
 show wpAny (model X.prog X.w) X.A (subscriptTail e (.Slice none none (some st) p2) (.ref a) (.ref s3.heap.objs.size)) (EP X pins σ Q) X.xe { s3 with heap := s3.heap.push { cls := .type "slice", data := .fields #[.none, .none, .int (-1) tk] } }
 refine tail_any (ops := [.ref a, .ref s3.heap.objs.size]) (T := "list") pl.isList.typeIs list_getitem_lookup ?_ (by with_unfolding_all rfl)
 refine wpAny_getItem_list_slice pl.isList (Heap.IsSliceOf.new ..) .none .none (.int (-1) tk) (by decide) ?_ (by rw [List.size_toArray, ← hl]; exact hz)
 rw [slicePick_rev]
 refine ⟨.ref _, _, I4.lnew (t' := s3.toks) (ys := xs.reverse) (its := its.reverse) ?_ (by rw [List.length_reverse]; exact hz), rfl, q _ I4.fresh⟩
 clear q I4 pl hz ha h q1 hl
 induction r with
 | nil => exact .nil
 | cons a r ih => rw [List.reverse_cons, List.reverse_cons]; exact ih.append (.cons a .nil)
end
section
variable {prog : Program} {w : World} {A : Around} {E : Value → Shared → Prop}
theorem draw_list {it t : Addr} {items : Array Value} (hne : t ≠ it) : ∀ (n i : Nat) (s : Shared) (Q : List Value → Shared → Prop), s.heap.IsListIter it t i → s.heap.IsList t items → i + n ≤ items.size →
  (∀ h' : Heap, h'.IsListIter it t (i + n) → Heap.SameBut it s.heap h' → Q ((items.toList.drop i).take n) { s with heap := h' }) → wpAny (model prog w) A (draw (.ref it) n) Q E s
 | 0, i, s, Q, hit, _, _, hQ => by
  show wpAny _ _ (pure []) Q E s
  exact wpAny_pure (by simpa using hQ s.heap hit (Heap.SameBut.refl ..))
 | n + 1, i, s, Q, hit, ht, hle, hQ => by
  have hlt : i < items.size := by omega
  show wpAny _ _ (pyNext (.ref it) >>= _) Q E s
  refine wpAny_bind (wpAny_pyNext_list_item hit ht (x := items[i]) (by simp [hlt]) fun h₁ hit₁ hs₁ => ?_)
  refine wpAny_bind (wpAny_holding (draw_list hne n (i + 1) _ _ hit₁ (ht.extBut hs₁.extBut hne) (by omega) fun h₂ hit₂ hs₂ => wpAny_pure ?_))
  have hd : items.toList.drop i = items[i] :: items.toList.drop (i + 1) := by simp [List.drop_eq_getElem_cons, hlt]
  have := hQ h₂ (by rw [show i + (n + 1) = i + 1 + n by omega]; exact hit₂) (hs₁.trans hs₂)
  rw [hd, List.take_succ_cons] at this
  exact this
theorem aal {s : Shared} {t : Addr} {items : Array Value} {Q : List Value → Shared → Prop} (hh : A.handled = none) (ht : s.heap.IsList t items)
  (hQ : ∀ h', Heap.ExtBut s.heap.objs.size s.heap h' → Q items.toList { s with heap := h' }) : wpAny (model prog w) A (unpackItems (.ref t) items.size none) Q E s := by
 have hlt : t ≠ s.heap.objs.size := by obtain ⟨o, ho, _⟩ := ht; exact Nat.ne_of_lt (Heap.lt_size ho)
 unfold unpackItems
 refine wpAny_bind ?_
 ·unfold notIterableAtAll
  refine wpAny_bind (wpAny_specialOf ht.typeIs slot_list_iter.lookup ?_)
  refine wpAny_pure ?_
  simp only [Bool.false_eq_true, if_false]
  refine wpAny_bind (wpAny_holding (wpAny_pyIter_list ht ?_))
  refine wpAny_bind (wpAny_holding (draw_list hlt items.size 0 _ _ ⟨_, Heap.get?_push_size _ rfl, rfl, rfl⟩ (ht.push _) (by omega) fun h₁ hit₁ hs₁ => ?_))
  have hall : List.take items.size (List.drop 0 items.toList) = items.toList := by
   rw [List.drop_zero]; exact List.take_of_length_le (by simp)
  rw [hall]
  rw [if_neg (by simp)]
  have ht₁ : h₁.IsList t items := (ht.push _).extBut hs₁.extBut hlt
  refine wpAny_bind (wpAny_holding (wpAny_pyNext_list_end hh hit₁ ht₁ (by simp) fun h₂ he₂ => ?_))
  simp only [Option.isSome_none, Bool.false_eq_true, if_false]
  refine wpAny_pure (hQ h₂ fun b o hb e => he₂ b o hb (hs₁.extBut b o hb (Heap.get?_push_of_some _ e)))
theorem unpack_list {s : Shared} {t : Addr} {items : Array Value} {targets : List (Bool × (Value → Sem Unit))} {Q : Unit → Shared → Prop} (hh : A.handled = none) (ht : s.heap.IsList t items)
  (hn : targets.length = items.size) (hstar : targets.findIdx? (·.1) = none)
  (h : ∀ h', Heap.ExtBut s.heap.objs.size s.heap h' → wpAny (model prog w) A (assignInOrder (targets.map (·.2)) items.toList) Q E { s with heap := h' }) :
  wpAny (model prog w) A (unpack (.ref t) targets) Q E s := by
 unfold unpack
 rw [hn, hstar]
 exact wpAny_bind (wpAny_holding (aal hh ht h))
end
def gLst (K : PySem.W.Frag) (n : Nat) (t : TGs) : TG := fun v σ H Q => ∃ a xs, v = .ref a ∧ SqL K H a xs ∧ xs.length = n ∧ t xs σ H Q
theorem pg_lst {X : Cx} {pos : Pos} {es : List Expr} {k : Nat} {t : TGs} {n : Nat} (hc : X.calm = true) (h : PGs X es t)
  (hn : (assignEach es X.env).length = n := by rfl) (hst : (assignEach es X.env).findIdx? (·.1) = none := by rfl) : PG X (.Tuple es k pos) (gLst X.K n t) := by
 intro pins s σ H v u Q I r hw
 obtain ⟨a, xs, e1, hq, hl, hw⟩ := hw
 subst e1
 cases r
 obtain ⟨its, rv, ht, hz⟩ := I.list hq
 rw [assign_Tuple]
 refine wpAny_bind (wpAny_standAt (unpack_list (I.ok.hd hc) ht.isList (by simp [hn, ← hl, rv.length]) hst fun h' hx => ?_))
 have I1 : Inv X pins σ H { s with heap := h' } := I.kept (t' := s.toks) fun b o e => hx b o (Nat.ne_of_lt (Heap.lt_size e)) e
 exact h pins _ σ H xs _ Q I1 (by simpa using rv) hw
end L2
namespace TX
open PySem L2 TW
abbrev Gst := Str × Int × List Nat
def gM (t : Gst) : List V := [.str t.1, .int t.2.1, .str (S t.2.2)]
def gV (t : Gst) : HO := .tup (gM t)
def gOf (t : Stp) : Gst := (dS t.1, t.2.1, t.2.2)
def gok (t : Gst) : Bool := dS2.contains t.1 && pcS.contains (S t.2.2)
def acz (u : List Nat) (t : Gst) : Option (List Nat) := if gok t = true then due u (decide (t.1 = "in")) t.2.1 t.2.2 else none
theorem piece_of {pc : List Nat} (h : pcS.contains (S pc) = true) : pc ∈ pcs := by
 have h2 := List.contains_iff_mem.mp h
 unfold pcS at h2
 simp only [List.mem_cons, List.not_mem_nil, or_false] at h2
 unfold pcs
 rcases h2 with e | e | e | e
 ·rw [lit_tu] at e; rw [aav e]; simp
 ·rw [lit_ut] at e; rw [aav e]; simp
 ·rw [lit_rr] at e; rw [aav e]; simp
 ·rw [S_tr] at e; rw [aav e]; simp
theorem g_ok {t : Gst} (h : gok t = true) : ∃ b, t.1 = dS b ∧ t.2.2 ∈ pcs ∧ ∀ u, acz u t = due u b t.2.1 t.2.2 := by
 have h' := h
 unfold gok at h'
 rw [Bool.and_eq_true] at h'
 obtain ⟨h1, h2⟩ := h'
 have h1 := List.contains_iff_mem.mp h1
 unfold dS2 at h1
 simp only [List.mem_cons, List.not_mem_nil, or_false] at h1
 have hp := piece_of h2
 rcases h1 with e | e
 ·refine ⟨false, e, hp, fun u => ?_⟩
  unfold acz
  rw [if_pos h, e]
  rfl
 ·refine ⟨true, e, hp, fun u => ?_⟩
  unfold acz
  rw [if_pos h, e]
  rfl
theorem g_no {t : Gst} (h : ¬ gok t = true) (u : List Nat) : acz u t = none := by
 unfold acz
 rw [if_neg h]
theorem gdue_len {u v : List Nat} {t : Gst} (h : acz u t = some v) : v.length ≤ u.length + 6 := by
 by_cases c : gok t = true
 ·obtain ⟨b, _, hp, e⟩ := g_ok c
  rw [e] at h
  exact due_len hp h
 ·rw [g_no c] at h
  cases h
def grns : List Gst → List Nat → Option (List Nat)
 | [], u => some u
 | t :: r, u => (acz u t).bind (grns r)
theorem acn (a b : List Gst) (u : List Nat) : grns (a ++ b) u = (grns a u).bind (grns b) := by
 induction a generalizing u with
 | nil => rfl
 | cons t a ih =>
  show (acz u t).bind (grns (a ++ b)) = ((acz u t).bind (grns a)).bind (grns b)
  cases acz u t with
  | none => rfl
  | some v => exact ih v
theorem grns_len {ts : List Gst} {u v : List Nat} (h : grns ts u = some v) : v.length ≤ u.length + 6 * ts.length := by
 induction ts generalizing u with
 | nil => cases h; simp
 | cons t r ih =>
  have h' : (acz u t).bind (grns r) = some v := h
  cases e : acz u t with
  | none => rw [e] at h'; cases h'
  | some w =>
   rw [e] at h'
   have a1 := ih h'
   have a2 := gdue_len e
   simp only [List.length_cons]
   omega
theorem grns_next {ts : List Gst} {i : Nat} {t : Gst} {x w v : List Nat} (h : grns (ts.take i) x = some w) (ht : ts[i]? = some t) (hd : acz w t = some v) : grns (ts.take (i + 1)) x = some v := by
 rw [List.take_add_one, ht, acn, h]
 show (acz w t).bind (grns []) = some v
 rw [hd]
 rfl
theorem grns_stop {ts : List Gst} {i : Nat} {t : Gst} {x w : List Nat} (h : grns (ts.take i) x = some w) (ht : ts[i]? = some t) (hd : acz w t = none) : grns ts x = none := by
 have e : ts = ts.take i ++ t :: ts.drop (i + 1) := by
  obtain ⟨hi, e⟩ := List.getElem?_eq_some_iff.mp ht
  rw [← e, List.getElem_cons_drop, List.take_append_drop]
 rw [e, acn, h]
 show (acz w t).bind _ = none
 rw [hd]
 rfl
theorem acl {ts : List Gst} {i : Nat} {x w : List Nat} (hl : x.length + 6 * ts.length ≤ 100000) (h : grns (ts.take i) x = some w) : w.length ≤ 100000 := by
 have := grns_len h
 rw [List.length_take] at this
 omega
def GAt (H : Hp) : List V → List Gst → Prop
 | [], [] => True
 | v :: vs, t :: ts => (∃ p, v = .ref p ∧ H p = some (gV t)) ∧ GAt H vs ts
 | _, _ => False
theorem GAt.append {H : Hp} : ∀ {vs ws : List V} {ts us : List Gst}, GAt H vs ts → GAt H ws us → GAt H (vs ++ ws) (ts ++ us)
 | [], _, [], _, _, h => h
 | _ :: _, _, _ :: _, _, a, h => ⟨a.1, GAt.append a.2 h⟩
theorem GAt.map {H H' : Hp} (f : ∀ p t, H p = some (gV t) → H' p = some (gV t)) : ∀ {vs : List V} {ts : List Gst}, GAt H vs ts → GAt H' vs ts
 | [], [], _ => trivial
 | _ :: _, _ :: _, ⟨⟨p, e, h⟩, r⟩ => ⟨⟨p, e, f p _ h⟩, GAt.map f r⟩
theorem GAt.same {H H' : Hp} (s : a0r H H') {vs : List V} {ts : List Gst} (h : GAt H vs ts) : GAt H' vs ts := h.map fun p _ e => s p _ e
theorem GAt.len {H : Hp} : ∀ {vs : List V} {ts : List Gst}, GAt H vs ts → vs.length = ts.length
 | [], [], _ => rfl
 | _ :: _, _ :: _, ⟨_, r⟩ => by rw [List.length_cons, List.length_cons, GAt.len r]
theorem GAt.at {H : Hp} : ∀ {vs : List V} {ts : List Gst}, GAt H vs ts → ∀ {i : Nat} {v : V}, vs[i]? = some v → ∃ p t, v = .ref p ∧ ts[i]? = some t ∧ H p = some (gV t)
 | [], [], _, _, _, h => by cases h
 | _ :: _, _ :: _, ⟨⟨p, e, h⟩, _⟩, 0, v, hv => by
  cases hv
  exact ⟨p, _, e, rfl, h⟩
 | _ :: _, _ :: _, ⟨_, r⟩, i + 1, v, hv => GAt.at r (i := i) hv
theorem GAt.snoc {H : Hp} {vs : List V} {ts : List Gst} {p : Addr} {t : Gst} (h : GAt H vs ts) (e : H p = some (gV t)) : GAt H (vs ++ [.ref p]) (ts ++ [t]) := h.append ⟨⟨p, rfl, e⟩, trivial⟩
theorem GAt.rev {H : Hp} : ∀ {vs : List V} {ts : List Gst}, GAt H vs ts → GAt H vs.reverse ts.reverse
 | [], [], _ => trivial
 | _ :: _, _ :: _, ⟨a, r⟩ => by
  rw [List.reverse_cons, List.reverse_cons]
  exact (GAt.rev r).append ⟨a, trivial⟩
theorem GAt.drop {H : Hp} : ∀ (n : Nat) {vs : List V} {ts : List Gst}, GAt H vs ts → GAt H (vs.drop n) (ts.drop n)
 | 0, _, _, h => h
 | n + 1, [], [], _ => trivial
 | n + 1, _ :: _, _ :: _, ⟨_, r⟩ => GAt.drop n r
theorem GAt.set {H : Hp} {p : Addr} {t : Gst} (e : H p = some (gV t)) : ∀ (n : Nat) {vs : List V} {ts : List Gst}, GAt H vs ts → GAt H (vs.set n (.ref p)) (ts.set n t)
 | _, [], [], _ => trivial
 | 0, _ :: _, _ :: _, ⟨_, r⟩ => ⟨⟨p, rfl, e⟩, r⟩
 | n + 1, _ :: _, _ :: _, ⟨a, r⟩ => ⟨a, GAt.set e n r⟩
theorem GAt.of {H : Hp} : ∀ {vs : List V} {ts : List Stp}, a0y H vs ts → GAt H vs (ts.map gOf)
 | [], [], _ => trivial
 | _ :: _, _ :: _, ⟨a, r⟩ => ⟨a, GAt.of r⟩
def GOk (t : Gst) : Prop := PyData.strOk t.1 = true ∧ PyData.strOk (S t.2.2) = true
def gD (t : Gst) : PyData := .tuple [.str t.1, .int t.2.1, .str (S t.2.2)]
theorem rd_gst {K : PySem.W.Frag} {H : Hp} {p : Addr} {t : Gst} (h : H p = some (gV t)) (ok : GOk t) : RdD K H (.ref p) (gD t) := by
 unfold gD RdD
 refine ⟨p, _, rfl, SqT.of h, ?_⟩
 unfold a8v
 refine ⟨_, _, rfl, by unfold RdD; exact ⟨rfl, ok.1⟩, ?_⟩
 unfold a8v
 refine ⟨_, _, rfl, by unfold RdD; rfl, ?_⟩
 unfold a8v
 refine ⟨_, _, rfl, by unfold RdD; exact ⟨rfl, ok.2⟩, ?_⟩
 unfold a8v
 rfl
theorem rd_gsts {K : PySem.W.Frag} {H : Hp} : ∀ {vs : List V} {ts : List Gst}, GAt H vs ts → (∀ t ∈ ts, GOk t) → a8v K H vs (ts.map gD)
 | [], [], _, _ => by unfold a8v; rfl
 | _ :: _, t :: ts, ⟨⟨p, e, h⟩, r⟩, ok => by
  subst e
  unfold a8v
  exact ⟨_, _, rfl, rd_gst h (ok t List.mem_cons_self), rd_gsts r fun t ht => ok t (List.mem_cons_of_mem _ ht)⟩
theorem rd_glist {K : PySem.W.Frag} {H : Hp} {m : Addr} {vs : List V} {ts : List Gst} (hm : H m = some (.lst vs)) (h : GAt H vs ts) (ok : ∀ t ∈ ts, GOk t) : RdD K H (.ref m) (.list (ts.map gD)) := by
 unfold RdD
 exact ⟨m, _, rfl, SqL.of hm, rd_gsts h ok⟩
theorem depth_gs (ts : List Gst) : PyData.depthAll (ts.map gD) ≤ 10 := by
 induction ts with
 | nil => simp [PyData.depthAll]
 | cons k r ih => simp [PyData.depthAll, PyData.depth, gD] at ih ⊢ <;> omega
theorem acr (ts : List Gst) : (PyData.list (ts.map gD)).depth ≤ 60 := by
 have := depth_gs ts
 simp [PyData.depth]
 omega
theorem gD_refl (t : Gst) : PyData.eqv (gD t) (gD t) = true := by
 unfold gD
 simp [PyData.eqv, PyData.eqvAll]
theorem gDs_refl : ∀ ts : List Gst, PyData.eqvAll (ts.map gD) (ts.map gD) = true
 | [] => by simp [PyData.eqvAll]
 | t :: ts => by
  have h1 := gD_refl t
  have h2 := gDs_refl ts
  simp only [List.map_cons, PyData.eqvAll, h1, h2, Bool.and_self]
theorem gList_refl (ts : List Gst) : PyData.eqv (.list (ts.map gD)) (.list (ts.map gD)) = true := by
 have := gDs_refl ts
 simp only [PyData.eqv, this]
theorem gList_nil (t : Gst) (ts : List Gst) : PyData.eqv (.list ((t :: ts).map gD)) (.list []) = false := by
 simp [PyData.eqv, PyData.eqvAll]
theorem gOf_ok {t : Stp} (h : t.2.2 ∈ pcs) : GOk (gOf t) := by
 have e : t.2.2 = [116, 117] ∨ t.2.2 = [117, 116] ∨ t.2.2 = [114, 114] ∨ t.2.2 = [116, 114, 116, 114, 116, 114] := by simpa [pcs] using h
 refine ⟨?_, ?_⟩
 ·show PyData.strOk (dS t.1) = true
  cases t.1 <;> decide +kernel
 ·show PyData.strOk (S t.2.2) = true
  rcases e with e | e | e | e <;> rw [e] <;> decide +kernel
def aco (u v : List Nat) : Bool := decide (u = v) || ((List.range (a1n v).length).map fun i => ((a1n v).drop i ++ (a1n v).take i).flatten).contains u
theorem law_rnd (u : List Nat) : aag u = a7m u := by
 unfold aag a7m a1n
 by_cases c : (chunks u).all (fun p => aao.contains p) = true
 ·rw [if_pos c, c, Bool.or_true]
  cases u with
  | nil => decide
  | cons a r =>
   have : (chunks (a :: r)).length ≠ 0 := by unfold chunks; simp
   have e : (chunks (a :: r)).isEmpty = false := by
    cases h : chunks (a :: r) with
    | nil => rw [h] at this; exact absurd rfl this
    | cons _ _ => rfl
   rw [e]
   simp
 ·rw [if_neg c, Bool.eq_false_iff.mpr c]
  simp
theorem thr_of {u : List Nat} (h : (chunks u).all (fun p => aao.contains p) = true) : Thr u := by
 have g : ∀ i, 3 * i < u.length → (u.drop (3 * i)).take 3 = [114, 116, 114] ∨ (u.drop (3 * i)).take 3 = [114, 114, 117] := fun i hi => by
  have hm : (u.drop (3 * i)).take 3 ∈ chunks u := by
   unfold chunks
   exact List.mem_map.mpr ⟨i, List.mem_range.mpr (by omega), rfl⟩
  have := List.contains_iff_mem.mp (List.all_eq_true.mp h _ hm)
  unfold aao at this
  simpa using this
 refine ⟨?_, fun i hi => ?_⟩
 ·by_cases z : u.length % 3 = 0
  ·exact z
  ·exfalso
   have := g (u.length / 3) (by omega)
   have hl : ((u.drop (3 * (u.length / 3))).take 3).length < 3 := by
    rw [List.length_take, List.length_drop]
    omega
   rcases this with e | e <;> rw [e] at hl <;> exact absurd hl (by decide)
 ·rcases g i hi with e | e
  ·obtain ⟨a, b, c⟩ := take3_get e
   exact ⟨a, .inl ⟨b, c⟩⟩
  ·obtain ⟨a, b, c⟩ := take3_get e
   exact ⟨a, .inr ⟨b, c⟩⟩
theorem chunks_app : ∀ (n : Nat) (p q : List Nat), p.length = 3 * n → chunks (p ++ q) = chunks p ++ chunks q
 | 0, p, q, h => by
  have : p = [] := List.eq_nil_of_length_eq_zero (by omega)
  subst this
  rfl
 | n + 1, p, q, h => by
  have e : p = p.take 3 ++ p.drop 3 := (List.take_append_drop 3 p).symm
  have l3 : (p.take 3).length = 3 := by rw [List.length_take]; omega
  have ih := chunks_app n (p.drop 3) q (by rw [List.length_drop]; omega)
  rw [e, List.append_assoc, a8t _ _ l3, a8t _ _ l3, ih]
  rfl
theorem rot_rounds {u v : List Nat} (hu : (chunks u).all (fun p => aao.contains p) = true) (hv : (chunks v).all (fun p => aao.contains p) = true) (h : a5k u v = true) : aco u v = true := by
 obtain ⟨p, q, rfl, rfl⟩ := (a6b u v).mp h
 have h3 := Thr.rot (thr_of hu) (thr_of hv)
 have l1 := (thr_of hu).1
 rw [List.length_append] at l1
 unfold aco
 rw [Bool.or_eq_true]
 by_cases hp : p = []
 ·left
  subst hp
  simp
 ·right
  rw [List.contains_iff_mem, List.mem_map]
  have e : a1n (q ++ p) = chunks q ++ chunks p := by
   unfold a1n
   rw [if_pos hv, chunks_app (q.length / 3) q p (by omega)]
  refine ⟨(chunks q).length, ?_, ?_⟩
  ·rw [e, List.mem_range, List.length_append]
   have : 0 < (chunks p).length := by
    unfold chunks
    rw [List.length_map, List.length_range]
    have := List.length_pos_iff.mpr hp
    omega
   omega
  ·rw [e]
   simp only [List.drop_left, List.take_left]
   rw [List.flatten_append, a8s, a8s]
theorem from_same {u v : List Nat} (h : aco u v = true) : a5k u v = true := by
 unfold aco at h
 rw [Bool.or_eq_true] at h
 rcases h with h | h
 ·rw [of_decide_eq_true h]
  exact samer_refl v
 ·obtain ⟨i, hi, e⟩ := List.mem_map.mp (List.contains_iff_mem.mp h)
  refine turn_same e.symm fun z => ?_
  rw [z] at hi
  cases List.mem_range.mp hi
theorem samer_len {u v : List Nat} (h : a5k u v = true) : u.length = v.length := by
 unfold a5k at h
 rw [Bool.and_eq_true, decide_eq_true_eq] at h
 exact h.1
theorem lone_len {u : List Nat} (h : lones.contains u = true) : u = [] ∨ u = [114] ∨ u = [116, 114] ∨ u = [114, 117] := by
 have := List.contains_iff_mem.mp h
 unfold lones at this
 simpa using this
theorem lone_same {u v : List Nat} (hu : lones.contains u = true) (hv : a7m v = true) (h : a5k u v = true) : u = v := by
 have hl := samer_len h
 unfold a7m at hv
 rw [Bool.or_eq_true] at hv
 rcases hv with hv | hv
 ·rcases lone_len hu with rfl | rfl | rfl | rfl <;> rcases lone_len hv with rfl | rfl | rfl | rfl <;> first | rfl | (exact absurd hl (by decide)) | (exfalso; revert h; decide +kernel)
 ·have l3 := (thr_of hv).1
  rcases lone_len hu with rfl | rfl | rfl | rfl
  ·exact (List.eq_nil_of_length_eq_zero hl.symm).symm
  ·exfalso; rw [← hl] at l3; exact absurd l3 (by decide)
  ·exfalso; rw [← hl] at l3; exact absurd l3 (by decide)
  ·exfalso; rw [← hl] at l3; exact absurd l3 (by decide)
theorem samer_symm {u v : List Nat} (h : a5k u v = true) : a5k v u = true := by
 obtain ⟨p, q, h1, h2⟩ := (a6b _ _).mp h
 exact (a6b _ _).mpr ⟨q, p, h2, h1⟩
theorem from_eq {u v : List Nat} (hu : a7m u = true) (hv : a7m v = true) : aco u v = a5k u v := by
 rw [Bool.eq_iff_iff]
 refine ⟨from_same, fun h => ?_⟩
 have hu' := hu
 have hv' := hv
 unfold a7m at hu' hv'
 rw [Bool.or_eq_true] at hu' hv'
 rcases hu' with a | a
 ·rw [lone_same a hv h]
  unfold aco
  simp
 ·rcases hv' with b | b
  ·rw [lone_same b hu (samer_symm h)]
   unfold aco
   simp
  ·exact rot_rounds a b h
theorem al_comm (u v : List Nat) : al u v = al v u := by
 rw [Bool.eq_iff_iff, al_iff, al_iff]
 exact ⟨fun ⟨a, b, c⟩ => ⟨a.symm, b.symm, c.symm⟩, fun ⟨a, b, c⟩ => ⟨a.symm, b.symm, c.symm⟩⟩
theorem gok_eq (d : Str) (i : Int) (pc : List Nat) : gok (d, i, pc) = (dS2.contains d && pcS.contains (S pc)) := rfl
theorem gdue_off {u : List Nat} {d : Str} {i : Int} {pc : List Nat} (h : i < 0 ∨ (u.length : Int) < i) : acz u (d, i, pc) = none := by
 unfold acz
 split
 ·exact acq h
 ·rfl
theorem in_pcS (pc : List Nat) : inV (.str (S pc)) [.str "tu", .str "ut", .str "rr", .str "trtrtr"] = pcS.contains (S pc) := inV_str (S pc) pcS
theorem in_dS (d : Str) : inV (.str d) [.str "in", .str "out"] = dS2.contains d := by
 have := inV_str d ["in", "out"]
 refine Eq.trans this ?_
 rw [Bool.eq_iff_iff, List.contains_iff_mem, List.contains_iff_mem]
 unfold dS2
 simp [or_comm]
theorem isT {i j : Int} {A B : Prop} (h : i = j) (a : A) : if decide (V.int i = V.int j) = true then A else B := by
 subst h
 rw [decide_eq_true rfl]
 exact a7k a
theorem isF {i j : Int} {A B : Prop} (h : i ≠ j) (b : B) : if decide (V.int i = V.int j) = true then A else B := by
 rw [decide_eq_false (fun z => h (V.int.inj z))]
 exact a5a b
theorem cut_one (xs : List V) : a8i xs (some (1 : Int)) none = xs.drop 1 := by
 cases xs with
 | nil => rfl
 | cons a r => exact a4n (a :: r) (n := 1) (by simp)
theorem saysF {a b : Bool} {A B : Prop} (e : a = b) (h : B) : if (!decide (a = b)) = true then A else B := by
 subst e
 rw [decide_eq_true rfl]
 exact a5a h
theorem _root_.L2.a7p {t u : TS} {D : Ends} {σ : St} {H : Hp} (N : St → Hp → Prop) (h1 : ∀ M : St → Hp → Prop, (∀ σ' H', N σ' H' → M σ' H') → t { D with nx := M } σ H) (h2 : ∀ σ' H', N σ' H' → u D σ' H') : tSeq t u D σ H := h1 (u D) h2
theorem _root_.L2.seq_cut2 {t1 t2 u : TS} {D : Ends} {σ : St} {H : Hp} (N : St → Hp → Prop) (h1 : ∀ M : St → Hp → Prop, (∀ σ' H', N σ' H' → M σ' H') → tSeq t1 t2 { D with nx := M } σ H) (h2 : ∀ σ' H', N σ' H' → u D σ' H') : tSeq t1 (tSeq t2 u) D σ H := h1 (u D) h2
theorem _root_.L2.seq_cut4 {t1 t2 t3 t4 u : TS} {D : Ends} {σ : St} {H : Hp} (N : St → Hp → Prop) (h1 : ∀ M : St → Hp → Prop, (∀ σ' H', N σ' H' → M σ' H') → tSeq t1 (tSeq t2 (tSeq t3 t4)) { D with nx := M } σ H) (h2 : ∀ σ' H', N σ' H' → u D σ' H') : tSeq t1 (tSeq t2 (tSeq t3 (tSeq t4 u))) D σ H := h1 (u D) h2
theorem slice_S (x : List Nat) (l u : Option Int) : ∃ z, Txt.slice (S x) l u = S z ∧ z.length ≤ x.length := by
 refine ⟨(Txt.slice (S x) l u).cps.toList, S_of _, ?_⟩
 have := Txt.slice_le (S x) l u
 rw [a1a] at this
 have e : (Txt.slice (S x) l u).cps.toList.length = (Txt.slice (S x) l u).length := by rw [Array.length_toList]; rfl
 omega
structure ElseOk8 (x y a : List Nat) : Prop where
 W : IsW a
 l : a.length ≤ 10000
 e : ∀ f, IsF f → walk (a ++ y ++ bk a) f = walk x f
structure RndsOk8 (x y a c : List Nat) (R R' : List Syl) : Prop where
 Wa : IsW a
 Wc : IsW c
 la : a.length ≤ 10000
 lc : c.length ≤ 10000
 lb : (tw R).length ≤ 10000
 ld : (tw R').length ≤ 10000
 ha : Cj x a (tw R)
 hc : Cj y c (tw R')
 hR : Rd R
 hR' : Rd R'
 no : a5k (tw R) (tw R') = false
def spElse8 (CE CR : Addr) : Sp := fun vs H Q _ => ∃ x y, vs = [.str (S x), .str (S y)] ∧ IsW x ∧ IsW y ∧ x.length ≤ 400 ∧ y.length ≤ 400 ∧
 (∀ o H' a, a0r H H' → ElseAt CE H' o a → ElseOk8 x y a → Q (.ref o) H') ∧ (∀ o H' a c R R', a0r H H' → RndsAt CR H' o a (tw R) c (tw R') → RndsOk8 x y a c R R' → Q (.ref o) H')
def TwoAt (H : Hp) (v : V) : Prop := ∃ p m t, v = .ref p ∧ H p = some (.tup [.str (S m), .str (S t)]) ∧ m.length ≤ 20000 ∧ t.length ≤ 20000
theorem TwoAt.same {H H' : Hp} {v : V} (s : a0r H H') (h : TwoAt H v) : TwoAt H' v :=
 let ⟨p, m, t, e, a, b, c⟩ := h
 ⟨p, m, t, e, s _ _ a, b, c⟩
theorem rnds_says (a c m t x y : List Nat) : rndsB a m c t x y = ((aag m && (aag t && !aco m t)) && (al x (a ++ m ++ bk a) && al y (c ++ t ++ bk c))) := by
 unfold rndsB
 rw [law_rnd, law_rnd, al_comm x, al_comm y]
 cases h1 : a7m m with
 | false => rfl
 | true =>
  cases h2 : a7m t with
  | false => rfl
  | true =>
   rw [from_eq h1 h2]
   simp only [Bool.true_and]
def spIsStepG : Sp := fun vs H Q _ => ∃ p t, vs = [.ref p] ∧ H p = some (gV t) ∧ Q (.bl (gok t)) H
def spCanG : Sp := fun vs H Q _ => ∃ u p t, vs = [.str (S u), .ref p] ∧ H p = some (gV t) ∧ u.length ≤ 100000 ∧ Q (.bl (acz u t).isSome) H
def spDoneG : Sp := fun vs H Q _ => ∃ u p t, vs = [.str (S u), .ref p] ∧ H p = some (gV t) ∧ u.length ≤ 100000 ∧ ∀ H', a0r H H' → Q (dueV (acz u t)) H'
def GAlikeAt (C : Addr) (H : Hp) (o : Addr) (ts : List Gst) : Prop := ∃ dx m ps, H o = some (.ins C dx [("steps", .ref m)]) ∧ H m = some (.lst ps) ∧ GAt H ps ts
def a90 (C : Addr) : Sp := fun vs H Q _ => ∃ o x y ts, vs = [.ref o, .str (S x), .str (S y)] ∧ GAlikeAt C H o ts ∧ x.length + 6 * ts.length ≤ 100000 ∧ ∀ H', a0r H H' → Q (.bl (decide (grns ts x = some y))) H'
def spLedG : Sp := fun vs H Q _ => ∃ x y m ps ts, vs = [.str (S x), .ref m, .str (S y)] ∧ H m = some (.lst ps) ∧ GAt H ps ts ∧ x.length + 6 * ts.length ≤ 100000 ∧ ∀ H', a0r H H' → Q (.bl (decide (grns ts x = some y))) H'
def spSays : Sp := fun vs H Q _ => ∃ a b : Bool, vs = [.bl a, .bl b] ∧ Q (.bl (decide (a = b))) H
def spBent (K : PySem.W.Frag) : Sp := fun vs H Q _ => ∃ (m a : Addr) (ps : List V) (ts : List Gst) (ns : List Int), vs = [.ref m, .ref a] ∧ H m = some (.lst ps) ∧ GAt H ps ts ∧ (∀ t ∈ ts, GOk t) ∧ ts.length ≤ 10000 ∧ SqL K H a (ns.map V.int) ∧ ns.length ≤ 63 ∧
 ∀ p ps' ts' H', a0r H H' → H' p = some (.lst ps') → GAt H' ps' ts' → (∀ t ∈ ts', GOk t) → ts'.length ≤ 10063 → Q (.ref p) H'
def spFromG : Sp := fun vs H Q _ => ∃ u v, vs = [.str (S u), .str (S v)] ∧ u.length ≤ 20000 ∧ v.length ≤ 20000 ∧ ∀ H', a0r H H' → Q (.bl (aco u v)) H'
def spHand (K : PySem.W.Frag) : Sp := fun vs H Q _ => ∃ (a : Addr) (ns : List Int) (x y : List Nat), vs = [.ref a, .str (S x), .str (S y)] ∧ SqL K H a (ns.map V.int) ∧ ns.length ≤ 63 ∧ IsW x ∧ IsW y ∧ x.length ≤ 400 ∧ y.length ≤ 400 ∧ ∀ H', a0r H H' → Q (.bl true) H'
def spHandR : Sp := fun vs H Q _ => ∃ x y, vs = [.str (S x), .str (S y)] ∧ IsW x ∧ IsW y ∧ x.length ≤ 400 ∧ y.length ≤ 400 ∧ ∀ H', a0r H H' → Q (.bl true) H'
theorem pick3 (n : Int) : ∃ d, PyData.strOk d = true ∧ atI [V.str "in", V.str "out", V.str "on"] (n % 3) = some (.str d) := by
 have h0 := Int.emod_nonneg n (show (3 : Int) ≠ 0 by decide)
 have h1 := Int.emod_lt_of_pos n (show (0 : Int) < 3 by decide)
 generalize n % 3 = i at h0 h1
 have h : i = ((0 : Nat) : Int) ∨ i = ((1 : Nat) : Int) ∨ i = ((2 : Nat) : Int) := by omega
 rcases h with rfl | rfl | rfl
 ·exact ⟨"in", by decide +kernel, a3v rfl⟩
 ·exact ⟨"out", by decide +kernel, a3v rfl⟩
 ·exact ⟨"on", by decide +kernel, a3v rfl⟩
theorem pick5 (n b : Int) : ∃ pc, PyData.strOk (S pc) = true ∧ atI [V.str "tu", V.str "ut", V.str "rr", V.str "trtrtr", V.str "ru"] (n / b % 5) = some (.str (S pc)) := by
 have h0 := Int.emod_nonneg (n / b) (show (5 : Int) ≠ 0 by decide)
 have h1 := Int.emod_lt_of_pos (n / b) (show (0 : Int) < 5 by decide)
 generalize n / b % 5 = i at h0 h1
 have h : i = ((0 : Nat) : Int) ∨ i = ((1 : Nat) : Int) ∨ i = ((2 : Nat) : Int) ∨ i = ((3 : Nat) : Int) ∨ i = ((4 : Nat) : Int) := by omega
 rcases h with rfl | rfl | rfl | rfl | rfl
 ·exact ⟨[116, 117], by decide +kernel, by rw [a3v rfl, lit_tu]⟩
 ·exact ⟨[117, 116], by decide +kernel, by rw [a3v rfl, lit_ut]⟩
 ·exact ⟨[114, 114], by decide +kernel, by rw [a3v rfl, lit_rr]⟩
 ·exact ⟨[116, 114, 116, 114, 116, 114], by decide +kernel, by rw [a3v rfl, S_tr]⟩
 ·exact ⟨[114, 117], by decide +kernel, by rw [a3v rfl, lit_ru]⟩
theorem duel_says (u : List Nat) (n : Int) : qshow u n = (!(duel u).isEmpty && decide ((duel u).head? = some n)) := by
 unfold qshow duel
 cases h1 : al (rp 1 u) [] <;> cases h2 : al (rp 2 u) [] <;> cases h3 : al (rp 3 u) [] <;> simp [h1, h2, h3, eq_comm]
end TX
namespace K08
open PySem L2 TW TX
seal L2.PE L2.PT L2.PA L2.PS L2.PSs L2.PI L2.PG L2.PGs L2.PPs L2.PW L2.PTs L2.PO
def top (i : Nat) : Stmt := PySem.Challenge.pw_twistturn_k08_answers_by_hand.main.body.getD i (.Pass ⟨0, 0, 0, 0⟩)
def meth (i j : Nat) : Stmt := match top i with | .ClassDef _ _ _ b _ _ _ _ _ _ _ => b.getD j (.Pass ⟨0, 0, 0, 0⟩) | s => s
section
variable {P : Program} {w : World} {K : PySem.W.Frag} {mg : Str → Option Value} {base : Heap} {f : Addr} {fd : FuncData} {k : Nat}
abbrev a5s : Stmt := top 13
theorem sc_is_whole : a0c ["value"] ["value"] (a03 a5s) := ⟨rfl, rfl, rfl, by decide +kernel, rfl, by decide +kernel, by decide +kernel⟩
theorem ok_is_whole (G : Glo mg) (F : Fun K "is_whole" "is_whole" a5s f fd) : a1u P w K mg base CX0 (k + 1) f fd ["value"] spWhole := by
 refine F.ok sc_is_whole (fun vs H Q E h => ?_) (fun cdv A outer s H vs Q E hr h => ?_)
 ·obtain ⟨i, rfl, _⟩ := h; rfl
 obtain ⟨i, rfl, q⟩ := h
 refine ⟨_, (a08 (a0d (a3d (a0k (a3w (K := K) rfl) rfl G.n_isinstance a0t (a00 (pv 0) (a00 (a6e (v := .ty "int") rfl G.n_int bt_int rfl) a01))) (a4j (pe_not (a0k (a3w (K := K) rfl) rfl G.n_isinstance a0t (a00 (pv 0) (a00 (a6e (v := .ty "bool") rfl G.n_bool bt_bool rfl) a01)))))))), ?_⟩
 refine ⟨_, rfl, _, _, _, _, rfl, .int i, a5n "int", _, rfl, ?_⟩
 refine a7k ?_
 exact ⟨_, rfl, _, _, _, _, rfl, .int i, aah, _, rfl, q⟩
abbrev a6d : Stmt := top 14
theorem sc_is_word : a0c ["value"] ["value"] (a03 a6d) := ⟨rfl, rfl, rfl, by decide +kernel, rfl, by decide +kernel, by decide +kernel⟩
theorem ok_is_word (G : Glo mg) (cLETTERS : Letters K mg) (F : Fun K "is_word" "is_word" a6d f fd) : a1u P w K mg base CX0 (k + 1) f fd ["value"] spWord := by
 refine F.ok sc_is_word (fun vs H Q E h => ?_) (fun cdv A outer s H vs Q E hr h => ?_)
 ·obtain ⟨u, rfl, _⟩ := h; rfl
 obtain ⟨u, rfl, hw, hl, q⟩ := h
 obtain ⟨aL, gL, hL⟩ := cLETTERS
 refine ⟨_, (a08 (a0d (a3d (a0k (a3w (K := K) rfl) rfl G.n_isinstance a0t (a00 (pv 0) (a00 (a6e (v := .ty "str") rfl G.n_str bt_str rfl) a01))) (a4j (a0k (a80 (K := K) rfl rfl) rfl G.n_all bt_all (a00 (ac2 (ys := []) (js := []) rfl (LcS.to (os := a03 a6d) ⟨rfl, by decide +kernel, by decide +kernel, rfl, by decide +kernel, by decide +kernel, by decide +kernel⟩ rfl rfl) (aby (pv 0)) (fun _ _ _ _ => a3t) (fun _ _ _ _ => (a0z (op_innK (K := K) rfl) (pv 0) (a2n (v := .ref aL) rfl gL rfl) rfl))) a01)))))), ?_⟩
 refine ⟨_, rfl, _, _, _, _, rfl, .str _, a5n "str", _, rfl, ?_⟩
 refine a7k ?_
 refine ⟨_, rfl, _, rfl, ?_⟩
 refine lc_y (Ok := fun _ => True) a4o.str (fun x => V.bl (inV x [.str (S [116]), .str (S [117]), .str (S [114])])) trivial (by rw [a2s]; show (S u).length ≤ _; rw [a1a]; exact big (by omega)) (fun i x Q' hx hq => ?_) (fun p hp => ?_)
 ·refine ⟨_, rfl, ?_⟩
  have hf : acp x = true := by
   rw [sg_S, List.getElem?_map] at hx
   cases e : u[i]? with
   | none => rw [e] at hx; cases hx
   | some c => rw [e] at hx; cases hx; rfl
  exact .inl ⟨aL, _, rfl, .inr (hL _), hf, rfl, hq⟩
 ·rw [word_signs hw]
  refine ⟨p, _, rfl, SqL.of a02, ?_⟩
  show Q (V.bl ((List.replicate u.length true).all id)) _
  rw [all_true]
  exact q _ (a06 hp _)
abbrev a1x : Stmt := top 15
theorem a6z : a0c ["one", "other", "larger", "smaller", "rest"] ["one", "other"] (a03 a1x) := ⟨rfl, rfl, rfl, by decide +kernel, rfl, by decide +kernel, by decide +kernel⟩
theorem a9y (F : Fun K "common_divisor" "common_divisor" a1x f fd) : a1u P w K mg base CX0 (k + 1) f fd ["one", "other"] spGcd := by
 refine F.ok a6z (fun vs H Q E h => ?_) (fun cdv A outer s H vs Q E hr h => ?_)
 ·obtain ⟨a, b, rfl, _⟩ := h; rfl
 obtain ⟨a, b, rfl, ha, hb, q⟩ := h
 have nd := a6z.nd
 have hu := hr.units
 refine ⟨_, (a04 (a0f (i := 2) nd rfl (Or.inl rfl) (pv 0))
   (a04 (a0f (i := 3) nd rfl (Or.inl rfl) (pv 1))
   (a04 (ab2 PassesOwn.never (a0h (a7t (K := K) hu rfl) (pv 3) a07 (a0g _)) (a04 (a0f (i := 4) nd rfl (Or.inl rfl) (a0o a4m (pv 2) (pv 3)))
   (a04 (a0f (i := 2) nd rfl (Or.inl rfl) (pv 3))
   (a08 (a0f (i := 3) nd rfl (Or.inl rfl) (pv 4))))))
   (a08 (a0d (pv 2)))))), ?_⟩
 refine ⟨_, rfl, _, rfl, ?_⟩
 refine aax (fun σ' H' => H' = H ∧ ∃ (x y : Int) (r : Option V), σ' = [some (.int a), some (.int b), some (.int x), some (.int y), r] ∧ 0 ≤ x ∧ 0 ≤ y ∧ Int.gcd x y = Int.gcd a b) (fun σ' _ => match σ' with | [_, _, _, some (.int y), _] => y.toNat | _ => 0) ⟨rfl, a, b, _, rfl, ha, hb, rfl⟩ ?_ ?_
 ·rintro σ' H' ⟨rfl, x, y, r, rfl, hx, hy, hg⟩
  refine ⟨_, rfl, .inl ⟨rfl, _, rfl, ?_⟩⟩
  by_cases hy0 : y = 0
  ·subst hy0
   refine a5a ?_
   refine ⟨_, rfl, ?_⟩
   have e : x = ((Int.gcd a b : Nat) : Int) := by
    rw [← hg, Int.gcd_zero_right]
    omega
   rw [e]
   exact q
  ·have c : (!decide (V.int y = V.int 0)) = true := by simp [hy0]
   show if (!decide (V.int y = V.int 0)) = true then _ else _
   rw [if_pos c]
   refine ⟨_, rfl, _, rfl, _, _, rfl, rfl, (by omega), _, rfl, _, rfl, ⟨rfl, y, x % y, _, rfl, hy, Int.emod_nonneg _ hy0, ?_⟩, ?_⟩
   ·rw [gcd_turn hx (by omega)]; exact hg
   ·have := Int.emod_lt_of_pos x (show 0 < y by omega)
    have := Int.emod_nonneg x hy0
    show (x % y).toNat < y.toNat
    omega
 ·intro σ' H' R R' hR z
  obtain ⟨v, e, z⟩ := z
  refine ⟨v, e, ?_⟩
  rcases z with ⟨z1, k, z2, z3⟩ | ⟨dx, dy, z1, z2, z3, k, z4, z5⟩
  ·exact .inl ⟨z1, k, z2, hR _ _ z3⟩
  ·exact .inr ⟨dx, dy, z1, z2, z3, k, z4, hR _ _ z5⟩
abbrev a3l : Stmt := top 16
theorem a8e : a0c ["value", "a", "b"] ["value"] (a03 a3l) := ⟨rfl, rfl, rfl, by decide +kernel, rfl, by decide +kernel, by decide +kernel⟩
theorem ok_is_fraction (G : Glo mg) (F : Fun K "is_fraction" "is_fraction" a3l f fd) (c_is_whole : Callee P w K mg base k "is_whole" ["value"] spWhole) (c_common_divisor : Callee P w K mg base k "common_divisor" ["one", "other"] spGcd) : a1u P w K mg base CX0 (k + 1) f fd ["value"] spFrac := by
 refine F.ok a8e (fun vs H Q E h => ?_) (fun cdv A outer s H vs Q E hr h => ?_)
 ·obtain ⟨p, g, rfl, _⟩ := h; rfl
 obtain ⟨p, g, rfl, hp, hg, q⟩ := h
 have nd := a8e.nd
 have hu := hr.units
 obtain ⟨a, b⟩ := g
 have hp' : H p = some (.tup [.int a, .int b]) := hp
 refine ⟨_, (a04 (a1i (PW.pt (pw_or (a1v (a1j (a0k (a3w (K := K) rfl) rfl G.n_isinstance a0t (a00 (pv 0) (a00 (a6e (v := .ty "tuple") rfl G.n_tuple ab4 rfl) a01))))) (pw_or1 (a0h op_ne (a0k (a1c (K := K) rfl) rfl G.n_len a3u (a00 (pv 0) a01)) a07 (a0g _))))) (a08 (a0d a5f)) a0m)
   (a04 (a0f (i := 1) nd rfl (Or.inl rfl) (a0j (a0e (K := K) rfl) (pv 0) a07 (fun _ _ => rfl)))
   (a04 (a0f (i := 2) nd rfl (Or.inl rfl) (a0j (a0e (K := K) rfl) (pv 0) a07 (fun _ _ => rfl)))
   (a04 (a1i (PW.pt (pw_or (a1v (a1j (a05 c_is_whole hr rfl (a00 (pv 1) a01)))) (pw_or1 (a1v (a1j (a05 c_is_whole hr rfl (a00 (pv 2) a01))))))) (a08 (a0d a5f)) a0m)
   (a04 (a1i (a0h a6f (pv 2) a07 (a0g _)) (a08 (a0d (a0z a6f (pv 1) a07 (a0g _)))) a0m)
   (a08 (a0d (a3d (a0z op_gt (pv 2) a07 (a0g _)) (a4j (a0z a6f (a05 c_common_divisor hr rfl (a00 (a0k call_abs rfl G.n_abs bt_abs (a00 (pv 1) a01)) (a00 (pv 2) a01))) a07 (a0g _))))))))))), ?_⟩
 refine ⟨_, rfl, _, _, _, _, rfl, .tup hp', a5n "tuple", _, rfl, ?_⟩
 refine a5a ?_
 refine ⟨_, rfl, .ref p, 2, rfl, ?len, ⟨rfl, _, rfl, ?_⟩⟩
 case len => exact .inr ⟨_, SqT.of hp', rfl⟩
 refine a5a ?_
 refine ⟨_, rfl, ⟨p, _, 0, .int a, rfl, rfl, SqT.of hp', rfl, ?_⟩⟩
 refine ⟨_, rfl, ⟨p, _, 1, .int b, rfl, rfl, SqT.of hp', rfl, ?_⟩⟩
 refine ⟨_, rfl, _, rfl, _, rfl, ?_⟩
 refine a5a ?_
 refine ⟨_, rfl, _, rfl, _, rfl, ?_⟩
 refine a5a ?_
 refine ⟨_, rfl, ⟨rfl, _, rfl, ?_⟩⟩
 refine a5h (fun c => ?_) (fun c => ?_)
 ·have hb : b = 0 := by simpa using c
  rcases hg with ⟨h1, h2⟩ | ⟨h1, h2⟩
  ·refine ⟨_, rfl, ⟨rfl, ?_⟩⟩
   have ha : a = 1 := h1
   subst ha
   exact q _ (a0r.refl _)
  ·have h1' : 0 < b := h1
   omega
 ·have hb : b ≠ 0 := by simpa using c
  rcases hg with ⟨h1, h2⟩ | ⟨h1, h2⟩
  ·exact absurd h2 hb
  ·have h1' : 0 < b := h1
   refine ⟨_, rfl, _, _, rfl, rfl, _, rfl, ?_⟩
   have c2 : decide ((0 : Int) < b) = true := decide_eq_true h1'
   show if decide ((0 : Int) < b) = true then _ else _
   rw [if_pos c2]
   refine ⟨_, rfl, _, rfl, _, rfl, _, _, rfl, abs_nonneg a, by omega, ⟨rfl, ?_⟩⟩
   rw [gcd_abs]
   have e : Int.gcd a b = 1 := h2
   rw [e]
   exact q _ (a0r.refl _)
abbrev a2j : Stmt := top 17
theorem aam : a0c ["value", "texts"] ["value", "texts"] (a03 a2j) := ⟨rfl, rfl, rfl, by decide +kernel, rfl, by decide +kernel, by decide +kernel⟩
theorem aas (G : Glo mg) (F : Fun K "is_text_among" "is_text_among" a2j f fd) : a1u P w K mg base CX0 (k + 1) f fd ["value", "texts"] (spAmong K) := by
 refine F.ok aam (fun vs H Q E h => ?_) (fun cdv A outer s H vs Q E hr h => ?_)
 ·obtain ⟨x, a, ts, rfl, _⟩ := h; rfl
 obtain ⟨x, a, ts, rfl, hS, q⟩ := h
 refine ⟨_, (a08 (a0d (a3d (a0k (a3w (K := K) rfl) rfl G.n_isinstance a0t (a00 (pv 0) (a00 (a6e (v := .ty "str") rfl G.n_str bt_str rfl) a01))) (a4j (a0z (op_innK (K := K) rfl) (pv 0) (pv 1) rfl))))), ?_⟩
 refine ⟨_, rfl, _, _, _, _, rfl, .str _, a5n "str", _, rfl, ?_⟩
 refine a7k ?_
 refine ⟨_, rfl, _, rfl, .inl ⟨a, _, rfl, .inr hS, rfl, flat_strs _, ?_⟩⟩
 show Q (V.bl (inV (.str x) (ts.map V.str))) H
 rw [inV_str]
 exact q
abbrev a76 : Stmt := top 18
theorem sc_is_step : a0c ["value"] ["value"] (a03 a76) := ⟨rfl, rfl, rfl, by decide +kernel, rfl, by decide +kernel, by decide +kernel⟩
theorem ok_is_step (G : Glo mg) (cD : Deeds K mg) (cP : Pieces K mg) (F : Fun K "is_step" "is_step" a76 f fd) (c_is_whole : Callee P w K mg base k "is_whole" ["value"] spWhole) (c_is_text_among : Callee P w K mg base k "is_text_among" ["value", "texts"] (spAmong K)) : a1u P w K mg base CX0 (k + 1) f fd ["value"] spIsStepG := by
 refine F.ok sc_is_step (fun vs H Q E h => ?_) (fun cdv A outer s H vs Q E hr h => ?_)
 ·obtain ⟨p, t, rfl, _⟩ := h; rfl
 obtain ⟨p, ⟨d, i, pc⟩, rfl, hp, q⟩ := h
 have hu := hr.units
 obtain ⟨aD, gD, hD⟩ := cD
 obtain ⟨aP, gP, hP⟩ := cP
 have hp' : H p = some (.tup [.str d, .int i, .str (S pc)]) := hp
 refine ⟨_, (a04 (a1i (PW.pt (pw_or (a1v (a1j (a0k (a3w (K := K) rfl) rfl G.n_isinstance a0t (a00 (pv 0) (a00 (a6e (v := .ty "tuple") rfl G.n_tuple ab4 rfl) a01))))) (pw_or1 (a0h (a7t (K := K) hu rfl) (a0k (a1c (K := K) rfl) rfl G.n_len a3u (a00 (pv 0) a01)) a07 (a0g _))))) (a08 (a0d a5f)) a0m)
   (a08 (a0d (a3d (a05 c_is_text_among hr rfl (a00 (a0j (a1g (K := K) (Pm := w.params) rfl rfl) (pv 0) a07 (fun _ _ => rfl)) (a00 (a2n (v := .ref aD) rfl gD rfl) a01))) (a3d (a05 c_is_whole hr rfl (a00 (a0j (a1g (K := K) (Pm := w.params) rfl rfl) (pv 0) a07 (fun _ _ => rfl)) a01)) (a4j (a05 c_is_text_among hr rfl (a00 (a0j (a1g (K := K) (Pm := w.params) rfl rfl) (pv 0) a07 (fun _ _ => rfl)) (a00 (a2n (v := .ref aP) rfl gP rfl) a01))))))))), ?_⟩
 refine ⟨_, rfl, _, _, _, _, rfl, .tup hp', a5n "tuple", _, rfl, ?_⟩
 refine a5a ?_
 refine ⟨_, rfl, .ref p, 3, rfl, ?len, .inl ⟨rfl, _, rfl, ?_⟩⟩
 case len => exact .inr ⟨_, SqT.of hp', rfl⟩
 refine a5a ?_
 refine ⟨_, rfl, .inl (.inr (.inl ⟨p, _, 0, .str d, rfl, rfl, SqT.of hp', rfl, ?_⟩))⟩
 refine ⟨_, aD, _, rfl, hD H, _, rfl, ?_⟩
 have eg : gok (d, i, pc) = (dS2.contains d && pcS.contains (S pc)) := rfl
 rw [eg] at q
 cases h1 : dS2.contains d with
 | false =>
  rw [h1, Bool.false_and] at q
  exact a5a q
 | true =>
  rw [h1, Bool.true_and] at q
  refine a7k ?_
  refine ⟨_, rfl, .inl (.inr (.inl ⟨p, _, 1, .int i, rfl, rfl, SqT.of hp', rfl, ?_⟩))⟩
  refine ⟨_, rfl, _, rfl, ?_⟩
  refine a7k ?_
  refine ⟨_, rfl, .inl (.inr (.inl ⟨p, _, 2, .str (S pc), rfl, rfl, SqT.of hp', rfl, ?_⟩))⟩
  exact ⟨_, aP, _, rfl, hP H, q⟩
abbrev a4e : Stmt := top 19
theorem sc_check_word : a0c ["word"] ["word"] (a03 a4e) := ⟨rfl, rfl, rfl, by decide +kernel, rfl, by decide +kernel, by decide +kernel⟩
theorem ok_check_word (F : Fun K "check_word" "check_word" a4e f fd) (c_is_word : Callee P w K mg base k "is_word" ["value"] spWord) : a1u P w K mg base CX0 (k + 1) f fd ["word"] spChkW := by
 refine F.ok sc_check_word (fun vs H Q E h => ?_) (fun cdv A outer s H vs Q E hr h => ?_)
 ·obtain ⟨u, rfl, _⟩ := h; rfl
 obtain ⟨u, rfl, hw, hl, q⟩ := h
 refine ⟨_, (a08 (a1i (a1v (a1j (a05 c_is_word hr rfl (a00 (pv 0) a01)))) (a08 ps_never) a0m)), ?_⟩
 refine ⟨_, rfl, u, rfl, hw, hl, fun H' hs => ⟨_, rfl, ?_⟩⟩
 exact a5a (q _ hs)
abbrev a84 : Stmt := top 20
theorem sc_turned : a0c ["a", "b"] ["a", "b"] (a03 a84) := ⟨rfl, rfl, rfl, by decide +kernel, rfl, by decide +kernel, by decide +kernel⟩
theorem ok_turned (F : Fun K "turned" "turned" a84 f fd) : a1u P w K mg base CX0 (k + 1) f fd ["a", "b"] ab0 := by
 refine F.ok sc_turned (fun vs H Q E h => ?_) (fun cdv A outer s H vs Q E hr h => ?_)
 ·obtain ⟨g, rfl, _⟩ := h; rfl
 obtain ⟨g, rfl, q⟩ := h
 refine ⟨_, (a04 (a1i (a0h op_gt (pv 0) a07 (a0g _)) (a08 (a0d (a0x (a00 (a7l a4p (pv 1)) (a00 (pv 0) a01))))) a0m)
   (a04 (a1i (a0h aaq (pv 0) a07 (a0g _)) (a08 (a0d (a0x (a00 (pv 1) (a00 (a7l a4p (pv 0)) a01))))) a0m)
   (a08 (a0d (a0x (a00 a07 (a00 a07 a01))))))), ?_⟩
 refine ⟨_, rfl, _, _, rfl, rfl, _, rfl, ?_⟩
 refine a5h (fun c => ?_) (fun c => ?_)
 ·have c' : 0 < g.1 := of_decide_eq_true c
  refine ⟨_, rfl, _, rfl, _, rfl, a0u, fun p hp => q p _ (a06 hp _) ?_⟩
  rw [a02, mv_r, if_pos c']
  rfl
 ·have c' : ¬ 0 < g.1 := of_decide_eq_false (Bool.eq_false_iff.mpr c)
  refine ⟨_, rfl, _, _, rfl, rfl, _, rfl, ?_⟩
  refine a5h (fun d => ?_) (fun d => ?_)
  ·have d' : g.1 < 0 := of_decide_eq_true d
   refine ⟨_, rfl, _, rfl, _, rfl, a0u, fun p hp => q p _ (a06 hp _) ?_⟩
   rw [a02, mv_r, if_neg c', if_pos d']
   rfl
  ·have d' : ¬ g.1 < 0 := of_decide_eq_false (Bool.eq_false_iff.mpr d)
   refine ⟨a0u, fun p hp => q p _ (a06 hp _) ?_⟩
   rw [a02, mv_r, if_neg c', if_neg d']
   rfl
abbrev a9o : Stmt := top 21
theorem sc_moved : a0c ["letter", "a", "b"] ["letter", "a", "b"] (a03 a9o) := ⟨rfl, rfl, rfl, by decide +kernel, rfl, by decide +kernel, by decide +kernel⟩
theorem ok_moved (F : Fun K "moved" "moved" a9o f fd) (c_turned : Callee P w K mg base k "turned" ["a", "b"] ab0) : a1u P w K mg base CX0 (k + 1) f fd ["letter", "a", "b"] spMoved := by
 refine F.ok sc_moved (fun vs H Q E h => ?_) (fun cdv A outer s H vs Q E hr h => ?_)
 ·obtain ⟨c, g, rfl, _⟩ := h; rfl
 obtain ⟨c, g, rfl, q⟩ := h
 have hu := hr.units
 refine ⟨_, (a04 (a1i (a0h a6f (pv 0) a0i (a0g _)) (a08 (a0d (a0x (a00 (a0o a2o (pv 1) (pv 2)) (a00 (pv 2) a01))))) a0m)
   (a04 (a1i (a0h a6f (pv 0) a0i (a0g _)) (a08 (a0d (a0x (a00 (a0o op_sub (pv 1) (pv 2)) (a00 (pv 2) a01))))) a0m)
   (a08 (a0d (a05 c_turned hr rfl (a00 (pv 1) (a00 (pv 2) a01))))))), ?_⟩
 refine ⟨_, rfl, ⟨rfl, _, rfl, ?_⟩⟩
 rw [eq_sign c 116 _ lit_t]
 refine a5h (fun e => ?_) (fun e => ?_)
 ·have e' : c = 116 := of_decide_eq_true e
  refine ⟨_, rfl, _, rfl, .inl ⟨_, _, rfl, rfl, _, rfl, a0u, fun p hp => q p _ (a06 hp _) ?_⟩⟩
  rw [a02, mv, if_pos e']
  rfl
 ·have e' : ¬ c = 116 := of_decide_eq_false (Bool.eq_false_iff.mpr e)
  refine ⟨_, rfl, ⟨rfl, _, rfl, ?_⟩⟩
  rw [eq_sign c 117 _ lit_u]
  refine a5h (fun d => ?_) (fun d => ?_)
  ·have d' : c = 117 := of_decide_eq_true d
   refine ⟨_, rfl, _, rfl, _, _, rfl, rfl, _, rfl, a0u, fun p hp => q p _ (a06 hp _) ?_⟩
   rw [a02, mv, if_neg e', if_pos d']
   rfl
  ·have d' : ¬ c = 117 := of_decide_eq_false (Bool.eq_false_iff.mpr d)
   refine ⟨_, rfl, _, rfl, g, rfl, fun p H' hs hp => q p H' hs ?_⟩
   rw [hp, mv_r, mv, if_neg e', if_neg d']
abbrev a87 : Stmt := top 22
theorem sc_follow : a0c ["word", "fraction", "here", "letter"] ["word", "fraction"] (a03 a87) := ⟨rfl, rfl, rfl, by decide +kernel, rfl, by decide +kernel, by decide +kernel⟩
theorem ok_follow (F : Fun K "follow" "follow" a87 f fd) (c_moved : Callee P w K mg base k "moved" ["letter", "a", "b"] spMoved) : a1u P w K mg base CX0 (k + 1) f fd ["word", "fraction"] (a5c K) := by
 refine F.ok sc_follow (fun vs H Q E h => ?_) (fun cdv A outer s H vs Q E hr h => ?_)
 ·obtain ⟨u, p, g, rfl, _⟩ := h; rfl
 obtain ⟨u, p, g, rfl, hp, q⟩ := h
 have nd := sc_follow.nd
 refine ⟨_, (a04 (a0f (i := 2) nd rfl (Or.inl rfl) (a0x (a00 (a0j (a0e (K := K) rfl) (pv 1) a07 (fun _ _ => rfl)) (a00 (a0j (a0e (K := K) rfl) (pv 1) a07 (fun _ _ => rfl)) a01))))
   (a04 (a3b PassesOwn.never rfl (aby (pv 0)) (a0q (i := 3) nd rfl (Or.inl rfl)) (a08 (a0f (i := 2) nd rfl (Or.inl rfl) (a05 c_moved hr rfl (a00 (pv 3) (a00 (a0j (a0e (K := K) rfl) (pv 2) a07 (fun _ _ => rfl)) (a00 (a0j (a0e (K := K) rfl) (pv 2) a07 (fun _ _ => rfl)) a01)))))))
   (a08 (a0d (pv 2))))), ?_⟩
 refine ⟨_, rfl, ⟨p, _, 0, .int g.1, rfl, rfl, hp, rfl, ?_⟩⟩
 refine ⟨_, rfl, ⟨p, _, 1, .int g.2, rfl, rfl, hp, rfl, ?_⟩⟩
 refine ⟨a0u, fun r hr' => ?_⟩
 refine ⟨_, rfl, _, rfl, ?_⟩
 refine a3e (Ok := fun _ => True) a4o.str (fun i σ' H' => a0r H H' ∧ ∃ t l, σ' = [some (.str (S u)), some (.ref p), some (.ref t), l] ∧ H' t = some (fT (walk (u.take i) g))) ⟨a06 hr' _, r, _, rfl, a02⟩ (fun _ _ _ _ _ => trivial) ?_ ?_
 ·rintro i x σ' H' hx ⟨hs, t, l, rfl, ht⟩
  obtain ⟨c, hc, rfl⟩ := sg_at hx
  have ht' : H' t = some (.tup [.int (walk (u.take i) g).1, .int (walk (u.take i) g).2]) := ht
  refine ⟨_, rfl, _, rfl, ⟨t, _, 0, _, rfl, rfl, SqT.of ht', rfl, ?_⟩⟩
  refine ⟨_, rfl, ⟨t, _, 1, _, rfl, rfl, SqT.of ht', rfl, ?_⟩⟩
  refine ⟨c, walk (u.take i) g, rfl, fun p2 H2 hs2 hp2 => ⟨hs.trans hs2, p2, _, rfl, ?_⟩⟩
  rw [take_snoc hc, ab8]
  exact hp2
 ·rintro σ' H' ⟨hs, t, l, rfl, ht⟩
  refine ⟨_, rfl, q t H' hs ?_⟩
  rw [ht, sg_S, List.length_map, List.take_length]
abbrev a3g : Stmt := top 23
theorem sc_lead_alike : a0c ["one", "other"] ["one", "other"] (a03 a3g) := ⟨rfl, rfl, rfl, by decide +kernel, rfl, by decide +kernel, by decide +kernel⟩
theorem ok_lead_alike (G : Glo mg) (cT : Telling K mg) (F : Fun K "lead_alike" "lead_alike" a3g f fd) (c_follow : Callee P w K mg base k "follow" ["word", "fraction"] (a5c K)) : a1u P w K mg base CX0 (k + 1) f fd ["one", "other"] abh := by
 refine F.ok sc_lead_alike (fun vs H Q E h => ?_) (fun cdv A outer s H vs Q E hr h => ?_)
 ·obtain ⟨u, v, rfl, _⟩ := h; rfl
 obtain ⟨u, v, rfl, q⟩ := h
 obtain ⟨aT, a0, a1, a2, gT, hT, h0, h1, h2⟩ := cT
 have hu := hr.units
 refine ⟨_, (a08 (a0d (a0k (a80 (K := K) rfl rfl) rfl G.n_all bt_all (a00 (ac2 (ys := ["one", "other"]) (js := [0, 1]) rfl (LcS.to (os := a03 a3g) ⟨rfl, by decide +kernel, by decide +kernel, rfl, by decide +kernel, by decide +kernel, by decide +kernel⟩ rfl rfl) (pi_tup (a2n (v := .ref aT) rfl gT rfl)) (fun _ _ _ _ => a3t) (fun _ _ _ _ => (a0z (a6t (K := K) hu rfl) (a05 c_follow hr rfl (a00 (pv 1) (a00 (pv 0) a01))) (a05 c_follow hr rfl (a00 (pv 2) (a00 (pv 0) a01))) (a0g _)))) a01)))), ?_⟩
 refine ⟨aT, rfl, ⟨_, hT _⟩, ?_⟩
 refine a9i a4o.tup (fun i => V.bl (alI u v i)) (fun H' _ => hT H') a1h (fun i x H' Q' hx hs hq => ?_) (fun H' p hs hp => ?_)
 ·obtain ⟨t, rfl, ht⟩ := three_at h0 h1 h2 hx
  refine ⟨_, rfl, _, rfl, u, t, tf i, rfl, ht _, fun p1 H1 s1 e1 => ?_⟩
  refine ⟨_, rfl, _, rfl, v, t, tf i, rfl, ht _, fun p2 H2 s2 e2 => ?_⟩
  refine .inr ⟨fD (walk u (tf i)), fD (walk v (tf i)), a2d (s2 _ _ e1), a2d e2, a1k _, ?_⟩
  have e : (if false = true then !PyData.eqv (fD (walk u (tf i))) (fD (walk v (tf i))) else PyData.eqv (fD (walk u (tf i))) (fD (walk v (tf i)))) = alI u v i := by
   rw [if_neg Bool.false_ne_true, a6o]
   rfl
  rw [e]
  exact hq _ (s1.trans s2)
 ·refine ⟨p, [alI u v 0, alI u v 1, alI u v 2], rfl, SqL.of a02, ?_⟩
  show Q (V.bl ([alI u v 0, alI u v 1, alI u v 2].all id)) _
  rw [ab6]
  exact q _ (hs.trans (a06 hp _))
abbrev a5t : Stmt := top 24
theorem sc_is_quiet : a0c ["word"] ["word"] (a03 a5t) := ⟨rfl, rfl, rfl, by decide +kernel, rfl, by decide +kernel, by decide +kernel⟩
theorem ok_is_quiet (F : Fun K "is_quiet" "is_quiet" a5t f fd) (c_lead_alike : Callee P w K mg base k "lead_alike" ["one", "other"] abh) : a1u P w K mg base CX0 (k + 1) f fd ["word"] spQuiet := by
 refine F.ok sc_is_quiet (fun vs H Q E h => ?_) (fun cdv A outer s H vs Q E hr h => ?_)
 ·obtain ⟨u, rfl, _⟩ := h; rfl
 obtain ⟨u, rfl, q⟩ := h
 refine ⟨_, (a08 (a0d (a05 c_lead_alike hr rfl (a00 (pv 0) (a00 a0i a01))))), ?_⟩
 exact ⟨_, rfl, u, [], rfl, q⟩
abbrev abw : Stmt := top 25
theorem sc_back : a0c ["word"] ["word"] (a03 abw) := ⟨rfl, rfl, rfl, by decide +kernel, rfl, by decide +kernel, by decide +kernel⟩
theorem ok_back (G : Glo mg) (cEXCHANGED : Exch K mg w.params) (F : Fun K "back" "back" abw f fd) (c_check_word : Callee P w K mg base k "check_word" ["word"] spChkW) : a1u P w K mg base CX0 (k + 1) f fd ["word"] spBack := by
 refine F.ok sc_back (fun vs H Q E h => ?_) (fun cdv A outer s H vs Q E hr h => ?_)
 ·obtain ⟨u, rfl, _⟩ := h; rfl
 obtain ⟨u, rfl, hw, hl, q⟩ := h
 obtain ⟨aE, es, n, gE, lk, kl, hE⟩ := cEXCHANGED
 refine ⟨_, (a04 (a1r (a05 c_check_word hr rfl (a00 (pv 0) a01)))
   (a08 (a0d (a6s PySem.F.plainAttrs_str PySem.F.slot_str_join PySem.F.type_str_join a7f a0i (a00 (ac2 (ys := []) (js := []) rfl (LcS.to (os := a03 abw) ⟨rfl, by decide +kernel, by decide +kernel, rfl, by decide +kernel, by decide +kernel, by decide +kernel⟩ rfl rfl) (pi_rev rfl G.n_reversed (a00 (pv 0) a01)) (fun _ _ _ _ => a3t) (fun _ _ _ _ => (a0j (a1g (K := K) (Pm := w.params) rfl rfl) (a2n (v := .ref aE) rfl gE rfl) (pv 0) (fun _ _ => rfl)))) a01))))), ?_⟩
 refine ⟨_, rfl, u, rfl, hw, hl, fun H1 s1 => ?_⟩
 refine ⟨rfl, _, rfl, _, rfl, by rw [a1a]; exact big (by omega), ?_⟩
 refine lc_y (Ok := fun _ => True) a4o.rev exV trivial (by rw [List.length_reverse, a2s]; show (S u).length ≤ _; rw [a1a]; exact big (by omega)) (fun i x Q' hx hq => ?_) (fun p hp => ?_)
 ·have hm : x ∈ sgV (S u) := List.mem_reverse.mp (List.mem_of_getElem? hx)
  rw [sg_S] at hm
  obtain ⟨c, hc, rfl⟩ := List.mem_map.mp hm
  obtain ⟨t, ht⟩ := hE c (hw c hc)
  exact ⟨_, rfl, .inr ⟨aE, es, n, S [c], .str (S [TW.exch c]), _, rfl, rfl, lk, kl, ht, ⟨t, rfl⟩, hq⟩⟩
 ·rw [back_signs2 hw]
  refine ⟨_, p, _, rfl, rfl, SqL.of a02, ?_, ?_⟩
  ·rw [sum_ones, a2r]
   show u.length + _ * 0 ≤ _
   omega
  ·rw [join_S]
   exact q _ (s1.trans (a06 hp _))
abbrev a5u : Stmt := top 26
theorem abp : a0c ["word", "step", "at", "piece"] ["word", "step"] (a03 a5u) := ⟨rfl, rfl, rfl, by decide +kernel, rfl, by decide +kernel, by decide +kernel⟩
theorem ok_can_step (G : Glo mg) (F : Fun K "can_step" "can_step" a5u f fd) (c_is_step : Callee P w K mg base k "is_step" ["value"] spIsStepG) : a1u P w K mg base CX0 (k + 1) f fd ["word", "step"] spCanG := by
 refine F.ok abp (fun vs H Q E h => ?_) (fun cdv A outer s H vs Q E hr h => ?_)
 ·obtain ⟨u, p, t, rfl, _⟩ := h; rfl
 obtain ⟨u, p, ⟨d, i, pc⟩, rfl, hp, hl, q⟩ := h
 have nd := abp.nd
 have hu := hr.units
 have hz : (S u).length ≤ sizeLine := by rw [a1a]; exact big (by omega)
 refine ⟨_, (a04 (a1i (a1v (a1j (a05 c_is_step hr rfl (a00 (pv 1) a01)))) (a08 (a0d a5f)) a0m)
   (a04 (a0f (i := 2) nd rfl (Or.inl rfl) (a0j (a1g (K := K) (Pm := w.params) rfl rfl) (pv 1) a07 (fun _ _ => rfl)))
   (a04 (a0f (i := 3) nd rfl (Or.inl rfl) (a0j (a1g (K := K) (Pm := w.params) rfl rfl) (pv 1) a07 (fun _ _ => rfl)))
   (a04 (a1i (PW.pt (pw_or (a0h aaq (pv 2) a07 (a0g _)) (pw_or1 (a0h op_gt (pv 2) (a0k (a1c (K := K) rfl) rfl G.n_len a3u (a00 (pv 0) a01)) (a0g _))))) (a08 (a0d a5f)) a0m)
   (a08 (a0d (pe_or (a0z (a6t (K := K) hu rfl) (a0j (a1g (K := K) (Pm := w.params) rfl rfl) (pv 1) a07 (fun _ _ => rfl)) a0i (a0g _)) (a4j (a0z (a6t (K := K) hu rfl) (a0v (a7g (K := K) rfl) (pv 0) (a1b (pv 2)) (a1b (a0o a2o (pv 2) (a0k (a1c (K := K) rfl) rfl G.n_len a3u (a00 (pv 3) a01))))) (pv 3) (a0g _)))))))))), ?_⟩
 refine ⟨_, rfl, p, (d, i, pc), rfl, hp, _, rfl, ?_⟩
 by_cases cg : gok (d, i, pc) = true
 case neg =>
  rw [Bool.eq_false_iff.mpr cg]
  rw [g_no cg] at q
  exact a7k q
 obtain ⟨b, eb, hpc, ed⟩ := g_ok cg
 have eb' : d = dS b := eb
 subst eb'
 have ed' := ed u
 rw [ed'] at q
 dsimp only at q hpc
 have hp' : H p = some (.tup [.str (dS b), .int i, .str (S pc)]) := hp
 have lp := (a8o hpc).1
 rw [cg]
 refine a5a ?_
 refine ⟨_, rfl, .inl (.inr (.inl ⟨p, _, 1, .int i, rfl, rfl, SqT.of hp', rfl, ?_⟩))⟩
 refine ⟨_, rfl, .inl (.inr (.inl ⟨p, _, 2, .str (S pc), rfl, rfl, SqT.of hp', rfl, ?_⟩))⟩
 refine ⟨_, rfl, _, _, rfl, rfl, _, rfl, ?_⟩
 refine a5h (fun c => ?_) (fun c => ?_)
 ·have c' : i < 0 := of_decide_eq_true c
  rw [acq (.inl c')] at q
  exact q
 have c0 : ¬ i < 0 := of_decide_eq_false (Bool.eq_false_iff.mpr c)
 refine ⟨_, rfl, _, rfl, .str (S u), u.length, rfl, len_S (by omega), _, _, rfl, rfl, _, rfl, ?_⟩
 refine a5h (fun d => ?_) (fun d => ?_)
 ·have d' : (u.length : Int) < i := of_decide_eq_true d
  rw [acq (.inr d')] at q
  exact q
 have d0 : ¬ (u.length : Int) < i := of_decide_eq_false (Bool.eq_false_iff.mpr d)
 refine ⟨_, rfl, .inl (.inr (.inl ⟨p, _, 0, .str (dS b), rfl, rfl, SqT.of hp', rfl, .inl ⟨rfl, _, rfl, ?_⟩⟩))⟩
 rw [dS_in]
 cases b with
 | true =>
  rw [due_in (by omega) (by omega)] at q
  exact a7k q
 | false =>
  refine a5a ?_
  refine ⟨_, rfl, _, rfl, i, rfl, _, rfl, _, rfl, .str (S pc), pc.length, rfl, len_S (by omega), .inl ⟨_, _, rfl, rfl, _, rfl, .inl ⟨_, rfl, hz, _, rfl, .inl ⟨rfl, ?_⟩⟩⟩⟩
  rw [S_mid (by omega) (by omega), eqS]
  rw [due_out (by omega) (by omega)] at q
  by_cases e : (u.drop i.toNat).take pc.length = pc
  ·rw [if_pos e] at q
   rw [e, decide_eq_true rfl]
   exact q
  ·rw [if_neg e] at q
   rw [decide_eq_false (fun z => e (aav z))]
   exact q
abbrev a4f : Stmt := top 27
theorem a96 : a0c ["word", "step", "at", "piece"] ["word", "step"] (a03 a4f) := ⟨rfl, rfl, rfl, by decide +kernel, rfl, by decide +kernel, by decide +kernel⟩
theorem ok_after_step (G : Glo mg) (F : Fun K "after_step" "after_step" a4f f fd) : a1u P w K mg base CX0 (k + 1) f fd ["word", "step"] spAfter := by
 refine F.ok a96 (fun vs H Q E h => ?_) (fun cdv A outer s H vs Q E hr h => ?_)
 ·obtain ⟨u, p, b, i, pc, v, rfl, _⟩ := h; rfl
 obtain ⟨u, p, b, i, pc, v, rfl, hp, hpc, hl, hd, q⟩ := h
 have nd := a96.nd
 have hu := hr.units
 have hz : (S u).length ≤ sizeLine := by rw [a1a]; exact big (by omega)
 have hp' : H p = some (.tup [.str (dS b), .int i, .str (S pc)]) := hp
 have lp := (a8o hpc).1
 have i0 : 0 ≤ i := by
  by_cases h : i < 0
  ·rw [acq (.inl h)] at hd; cases hd
  ·omega
 have i1 : i ≤ u.length := by
  by_cases h : (u.length : Int) < i
  ·rw [acq (.inr h)] at hd; cases hd
  ·omega
 refine ⟨_, (a04 (a0f (i := 2) nd rfl (Or.inl rfl) (a0j (a1g (K := K) (Pm := w.params) rfl rfl) (pv 1) a07 (fun _ _ => rfl)))
   (a04 (a0f (i := 3) nd rfl (Or.inl rfl) (a0j (a1g (K := K) (Pm := w.params) rfl rfl) (pv 1) a07 (fun _ _ => rfl)))
   (a04 (a1i (a0h (a6t (K := K) hu rfl) (a0j (a1g (K := K) (Pm := w.params) rfl rfl) (pv 1) a07 (fun _ _ => rfl)) a0i (a0g _)) (a08 (a0d (a0o a2o (a0o a2o (a0v (a7g (K := K) rfl) (pv 0) a1l (a1b (pv 2))) (pv 3)) (a0v (a7g (K := K) rfl) (pv 0) (a1b (pv 2)) a1l)))) a0m)
   (a08 (a0d (a0o a2o (a0v (a7g (K := K) rfl) (pv 0) a1l (a1b (pv 2))) (a0v (a7g (K := K) rfl) (pv 0) (a1b (a0o a2o (pv 2) (a0k (a1c (K := K) rfl) rfl G.n_len a3u (a00 (pv 3) a01)))) a1l))))))), ?_⟩
 refine ⟨_, rfl, .inl (.inr (.inl ⟨p, _, 1, .int i, rfl, rfl, SqT.of hp', rfl, ?_⟩))⟩
 refine ⟨_, rfl, .inl (.inr (.inl ⟨p, _, 2, .str (S pc), rfl, rfl, SqT.of hp', rfl, ?_⟩))⟩
 refine ⟨_, rfl, .inl (.inr (.inl ⟨p, _, 0, .str (dS b), rfl, rfl, SqT.of hp', rfl, .inl ⟨rfl, _, rfl, ?_⟩⟩))⟩
 rw [dS_in]
 cases b with
 | true =>
  rw [due_in i0 i1] at hd
  cases hd
  refine a7k ?_
  refine ⟨_, rfl, _, rfl, i, rfl, .inl ⟨_, rfl, hz, ?_⟩⟩
  rw [S_to i0 i1]
  refine ⟨_, rfl, .inr ⟨_, _, rfl, rfl, sz2 (by rw [List.length_take]; omega), ?_⟩⟩
  refine ⟨_, rfl, _, rfl, i, rfl, .inl ⟨_, rfl, hz, ?_⟩⟩
  rw [S_from i0 i1, a2l]
  refine .inr ⟨_, _, rfl, rfl, sz2 (by rw [List.length_append, List.length_take, List.length_drop]; omega), ?_⟩
  rw [a2l]
  exact q
 | false =>
  rw [due_out i0 i1] at hd
  by_cases e : (u.drop i.toNat).take pc.length = pc
  ·rw [if_pos e] at hd
   cases hd
   have room := out_room i0 i1 e
   refine a5a ?_
   refine ⟨_, rfl, _, rfl, i, rfl, .inl ⟨_, rfl, hz, ?_⟩⟩
   rw [S_to i0 i1]
   refine ⟨_, rfl, _, rfl, _, rfl, .str (S pc), pc.length, rfl, len_S (by omega), .inl ⟨_, _, rfl, rfl, _, rfl, .inl ⟨_, rfl, hz, ?_⟩⟩⟩
   rw [S_from (by omega) room, show (i + (pc.length : Int)).toNat = i.toNat + pc.length by omega]
   refine .inr ⟨_, _, rfl, rfl, sz2 (by rw [List.length_take, List.length_drop]; omega), ?_⟩
   rw [a2l]
   exact q
  ·rw [if_neg e] at hd
   cases hd
abbrev a5v : Stmt := top 28
theorem sc_begun_by : a0c ["start", "word"] ["start", "word"] (a03 a5v) := ⟨rfl, rfl, rfl, by decide +kernel, rfl, by decide +kernel, by decide +kernel⟩
theorem ok_begun_by (F : Fun K "begun_by" "begun_by" a5v f fd) (c_back : Callee P w K mg base k "back" ["word"] spBack) : a1u P w K mg base CX0 (k + 1) f fd ["start", "word"] spBegun := by
 refine F.ok sc_begun_by (fun vs H Q E h => ?_) (fun cdv A outer s H vs Q E hr h => ?_)
 ·obtain ⟨a, u, rfl, _⟩ := h; rfl
 obtain ⟨a, u, rfl, hw, la, lu, q⟩ := h
 refine ⟨_, (a08 (a0d (a0o a0s (a0o a0s (pv 0) (pv 1)) (a05 c_back hr rfl (a00 (pv 0) a01))))), ?_⟩
 refine ⟨_, rfl, _, rfl, _, _, rfl, rfl, by rw [a1a, a1a]; exact big (by omega), _, rfl, a, rfl, hw, by omega, fun H1 s1 => ?_⟩
 refine ⟨_, _, rfl, rfl, by rw [a2l, a1a, a1a, a2r, List.length_append]; exact big (by omega), ?_⟩
 rw [a2l, a2l]
 exact q _ s1
abbrev a4w : Stmt := top 29
theorem sc_is_round : a0c ["word"] ["word"] (a03 a4w) := ⟨rfl, rfl, rfl, by decide +kernel, rfl, by decide +kernel, by decide +kernel⟩
theorem ok_is_round (G : Glo mg) (cL : Lones K mg) (cP : RPieces K mg) (F : Fun K "is_round" "is_round" a4w f fd) : a1u P w K mg base CX0 (k + 1) f fd ["word"] spIsRound := by
 refine F.ok sc_is_round (fun vs H Q E h => ?_) (fun cdv A outer s H vs Q E hr h => ?_)
 ·obtain ⟨u, rfl, _⟩ := h; rfl
 obtain ⟨u, rfl, lu, q⟩ := h
 obtain ⟨aL, gL, hL⟩ := cL
 obtain ⟨aP, gP, hP⟩ := cP
 have hlS : (S u).length ≤ sizeLine := by rw [a1a]; exact big (by omega)
 refine ⟨_, (a04 (a1i (a0h (a9w (K := K) rfl) (pv 0) (a2n (v := .ref aL) rfl gL rfl) rfl) (a08 (a0d a5f)) a0m)
   (a08 (a0d (a0k (a80 (K := K) rfl rfl) rfl G.n_all bt_all (a00 (ac2 (ys := ["word"]) (js := [0]) rfl (LcS.to (os := a03 a4w) ⟨rfl, by decide +kernel, by decide +kernel, rfl, by decide +kernel, by decide +kernel, by decide +kernel⟩ rfl rfl) (pi_range3 rfl G.n_range (a00 a07 (a00 (a0k (a1c (K := K) rfl) rfl G.n_len a3u (a00 (pv 0) a01)) (a00 a07 a01)))) (fun _ _ _ _ => a3t) (fun _ _ _ _ => (a0z (a9w (K := K) rfl) (a0v a8b (pv 1) (a1b (pv 0)) (a1b (a0o op_add (pv 0) a07))) (a2n (v := .ref aP) rfl gP rfl) rfl))) a01))))), ?_⟩
 refine ⟨_, rfl, aL, _, rfl, .inr (hL _), rfl, flat_sV _, _, rfl, ?_⟩
 rw [if_neg Bool.false_ne_true, inV_S]
 refine a5h (fun c => ?_) (fun c => ?_)
 ·have e : a7m u = true := by unfold a7m; rw [c, Bool.true_or]
  have := q _ (a0r.refl H)
  rw [e] at this
  exact this
 ·refine ⟨_, rfl, .str (S u), u.length, rfl, ⟨hlS, (a1a u).symm⟩, 0, (u.length : Int), 3, rfl, ⟨by decide, by decide, by omega, by omega, by decide, by decide⟩, ?_⟩
  rw [cnt3_eq]
  refine a9i a4o.rng3 (fun i => V.bl (aao.contains ((u.drop (3 * i)).take 3))) (fun _ _ => trivial) (by unfold aap; rw [List.length_map, List.length_range]; exact big (by omega)) (fun i x H' Q' hx hs hq => ?_) (fun H' p hs hp => ?_)
  ·unfold aap at hx
   rw [List.getElem?_map] at hx
   have hi : i < (u.length + 2) / 3 := by
    cases e : (List.range ((u.length + 2) / 3))[i]? with
    | none => rw [e] at hx; cases hx
    | some j => exact List.length_range (n := (u.length + 2) / 3) ▸ (List.getElem?_eq_some_iff.mp e).1
   rw [List.getElem?_range hi] at hx
   cases hx
   have e0 : (0 : Int) + ((i : Nat) : Int) * 3 = ((3 * i : Nat) : Int) := by omega
   refine ⟨_, rfl, _, rfl, _, rfl, _, rfl, _, _, rfl, rfl, _, rfl, _, rfl, hlS, ?_⟩
   refine ⟨aP, _, rfl, .inr (hP _), rfl, flat_sV _, ?_⟩
   rw [e0, show (((3 * i : Nat) : Int) + 3) = ((3 * i : Nat) : Int) + ((3 : Nat) : Int) from rfl, S_mid (by omega) (by omega), if_neg Bool.false_ne_true, inV_S]
   exact hq _ (a0r.refl _)
  ·have er : ((List.range (aap 0 3 ((u.length + 2) / 3)).length).map fun i => V.bl (aao.contains ((u.drop (3 * i)).take 3))) = ((chunks u).map fun p => aao.contains p).map V.bl := by
    unfold aap chunks
    rw [List.length_map, List.length_range, List.map_map, List.map_map]
    rfl
   refine ⟨p, (chunks u).map fun p => aao.contains p, rfl, SqL.of (by rw [a02, er]), ?_⟩
   have e : a7m u = ((chunks u).map fun p => aao.contains p).all id := by
    unfold a7m
    rw [Bool.eq_false_iff.mpr c, Bool.false_or, List.all_map]
    rfl
   show Q (V.bl (((chunks u).map fun p => aao.contains p).all id)) _
   rw [← e]
   exact q _ (hs.trans (a06 hp _))
abbrev a2k : Stmt := top 30
theorem aan : a0c ["one", "other"] ["one", "other"] (a03 a2k) := ⟨rfl, rfl, rfl, by decide +kernel, rfl, by decide +kernel, by decide +kernel⟩
theorem aat (G : Glo mg) (F : Fun K "is_same_round" "is_same_round" a2k f fd) : a1u P w K mg base CX0 (k + 1) f fd ["one", "other"] spSameR := by
 refine F.ok aan (fun vs H Q E h => ?_) (fun cdv A outer s H vs Q E hr h => ?_)
 ·obtain ⟨u, v, rfl, _⟩ := h; rfl
 obtain ⟨u, v, rfl, lu, lw, q⟩ := h
 refine ⟨_, (a08 (a0d (a3d (a0z a6f (a0k (a1c (K := K) rfl) rfl G.n_len a3u (a00 (pv 0) a01)) (a0k (a1c (K := K) rfl) rfl G.n_len a3u (a00 (pv 1) a01)) (a0g _)) (a4j (a0z ac3 (pv 1) (a0o a0s (pv 0) (pv 0)) rfl))))), ?_⟩
 refine ⟨_, rfl, .str (S u), u.length, rfl, ⟨by rw [a1a]; exact big (by omega), (a1a u).symm⟩, _, rfl, .str (S v), v.length, rfl, ⟨by rw [a1a]; exact big (by omega), (a1a v).symm⟩, rfl, _, rfl, ?_⟩
 have e0 : decide (V.int (u.length : Int) = V.int (v.length : Int)) = decide (u.length = v.length) := by
  rw [Bool.eq_iff_iff]
  simp
  omega
 rw [e0]
 refine a5h (fun c => ?_) (fun c => ?_)
 ·refine ⟨_, rfl, _, rfl, _, rfl, _, _, rfl, rfl, by rw [a1a]; exact big (by omega), _, _, rfl, rfl, ?_⟩
  have e : a5k u v = (!(Builtin.Str.occurrences (S (u ++ u)) (S v) 0 (S (u ++ u)).length 1).isEmpty) := by
   unfold a5k
   rw [c, Bool.true_and]
  rw [a2l, ← e]
  exact q
 ·have e : a5k u v = false := by
   unfold a5k
   rw [Bool.eq_false_iff.mpr c, Bool.false_and]
  rw [e] at q
  exact q
abbrev a1o : Stmt := top 66
theorem a6a : a0c ["one", "other", "fraction"] ["one", "other"] (a03 a1o) := ⟨rfl, rfl, rfl, by decide +kernel, rfl, by decide +kernel, by decide +kernel⟩
theorem a8p (cT : Telling K mg) (F : Fun K "telling_fraction" "telling_fraction" a1o f fd) (c_follow : Callee P w K mg base k "follow" ["word", "fraction"] (a5c K)) : a1u P w K mg base CX0 (k + 1) f fd ["one", "other"] spTelling := by
 refine F.ok a6a (fun vs H Q E h => ?_) (fun cdv A outer s H vs Q E hr h => ?_)
 ·obtain ⟨u, v, rfl, _⟩ := h; rfl
 obtain ⟨u, v, rfl, qy, qn⟩ := h
 obtain ⟨aT, a0, a1, a2, gT, hT, h0, h1, h2⟩ := cT
 have nd := a6a.nd
 have hu := hr.units
 refine ⟨_, (a04 (a3b PassesOwn.never rfl (pi_tup (a2n (v := .ref aT) rfl gT rfl)) (a0q (i := 2) nd rfl (Or.inl rfl)) (a08 (a1i (a0h (a7t (K := K) hu rfl) (a05 c_follow hr rfl (a00 (pv 0) (a00 (pv 2) a01))) (a05 c_follow hr rfl (a00 (pv 1) (a00 (pv 2) a01))) (a0g _)) (a08 (a0d (a0x (a00 (a0j (a1g (K := K) (Pm := w.params) rfl rfl) (pv 2) a07 (fun _ _ => rfl)) (a00 (a0j (a1g (K := K) (Pm := w.params) rfl rfl) (pv 2) a07 (fun _ _ => rfl)) a01))))) a0m)))
   (a08 (a0d ac1))), ?_⟩
 refine ⟨aT, rfl, ⟨_, hT _⟩, ?_⟩
 refine a3e (a4o.tup (xs := [.ref a0, .ref a1, .ref a2])) (fun i σ' H' => a0r H H' ∧ (∃ l, σ' = [some (.str (S u)), some (.str (S v)), l]) ∧ ∀ j, j < i → alI u v j = true) ⟨a0r.refl _, ⟨_, rfl⟩, fun j hj => by omega⟩ (fun _ _ H' _ _ => hT H') ?_ ?_
 ·rintro i x σ' H' hx ⟨hs, ⟨l, rfl⟩, hi⟩
  obtain ⟨t, rfl, ht⟩ := three_at h0 h1 h2 hx
  have hi3 : i < 3 := (List.getElem?_eq_some_iff.mp hx).1
  refine ⟨_, rfl, _, rfl, u, t, tf i, rfl, ht _, fun p1 H1 s1 e1 => ?_⟩
  refine ⟨_, rfl, _, rfl, v, t, tf i, rfl, ht _, fun p2 H2 s2 e2 => ?_⟩
  refine .inr ⟨fD (walk u (tf i)), fD (walk v (tf i)), a2d (s2 _ _ e1), a2d e2, a1k _, _, rfl, ?_⟩
  have e : (if true = true then !PyData.eqv (fD (walk u (tf i))) (fD (walk v (tf i))) else PyData.eqv (fD (walk u (tf i))) (fD (walk v (tf i)))) = !alI u v i := by
   rw [if_pos rfl, a6o]
   rfl
  rw [e]
  have T := hs.trans (s1.trans s2)
  by_cases c : alI u v i = true
  ·rw [c]
   refine a5a ⟨T, ⟨_, rfl⟩, fun j hj => ?_⟩
   by_cases e : j = i
   ·rw [e]; exact c
   ·exact hi j (by omega)
  ·have c' : alI u v i = false := Bool.eq_false_iff.mpr c
   rw [c']
   refine a7k ?_
   refine ⟨_, rfl, .inl (.inr (.inl ⟨t, _, 0, _, rfl, rfl, ht _, rfl, ?_⟩))⟩
   refine ⟨_, rfl, .inl (.inr (.inl ⟨t, _, 1, _, rfl, rfl, ht _, rfl, ?_⟩))⟩
   refine ⟨a0u, fun r hr' => ?_⟩
   refine qn ?_ r (tf i) _ (T.trans (a06 hr' _)) a02 (tf_F i) (of_decide_eq_false c')
   rw [← ab6]
   match i, hi3, c' with
   | 0, _, c' => simp [c']
   | 1, _, c' => simp [c']
   | 2, _, c' => simp [c']
 ·rintro σ' H' ⟨hs, ⟨l, rfl⟩, hi⟩
  refine qy ?_ _ hs
  rw [← ab6]
  have e0 := hi 0 (by simp)
  have e1 := hi 1 (by simp)
  have e2 := hi 2 (by simp)
  simp [e0, e1, e2]
end
end K08
namespace K08
open PySem L2 TW TX
seal L2.PE L2.PT L2.PA L2.PS L2.PSs L2.PI L2.PG L2.PGs L2.PPs L2.PW L2.PTs L2.PO
section
variable {P : Program} {w : World} {K : PySem.W.Frag} {mg : Str → Option Value} {base : Heap} {f : Addr} {fd : FuncData} {k : Nat}
abbrev a4i : Stmt := meth 33 0
theorem sc_Alike_init : a0c ["self", "steps"] ["self", "steps"] (a03 a4i) := ⟨rfl, rfl, rfl, by decide +kernel, rfl, by decide +kernel, by decide +kernel⟩
theorem ok_Alike_init {C : Addr} (G : Glo mg) (kC : KCls K C) (nf : PySem.W.findIn K (.ref C) "steps" = some none) (F : Fun K "__init__" "Alike.__init__" a4i f fd) : a1u P w K mg base CX0 (k + 1) f fd ["self", "steps"] (spInitA C) := by
 refine F.ok sc_Alike_init (fun vs H Q E h => ?_) (fun cdv A outer s H vs Q E hr h => ?_)
 ·obtain ⟨o, dx, m0, ps, rfl, _⟩ := h; rfl
 obtain ⟨o, dx, m0, ps, rfl, ho, hm, q⟩ := h
 refine ⟨_, (a08 (a7j (pv 0) (a9a a6p rfl G.n_list bt_list (a00 (pv 1) a01)) rfl)), ?_⟩
 refine ⟨_, rfl, m0, ps, rfl, .inl (SqL.of hm), fun l hl => ?_⟩
 refine ⟨_, rfl, o, C, dx, [], rfl, ?_, kC.cl, nf, by decide, q l hl⟩
 rw [a0p (a0n ho hl)]
 exact ho
abbrev a3s : Stmt := meth 33 1
theorem a8h : a0c ["self", "one", "other", "word", "step"] ["self", "one", "other"] (a03 a3s) := ⟨rfl, rfl, rfl, by decide +kernel, rfl, by decide +kernel, by decide +kernel⟩
theorem ok_Alike_shows {C : Addr} (kC : KCls K C) (nf : PySem.W.findIn K (.ref C) "steps" = some none) (F : Fun K "shows" "Alike.shows" a3s f fd) (c_can_step : Callee P w K mg base k "can_step" ["word", "step"] spCanG) (c_after_step : Callee P w K mg base k "after_step" ["word", "step"] spAfter) : a1u P w K mg base CX0 (k + 1) f fd ["self", "one", "other"] (a90 C) := by
 refine F.ok a8h (fun vs H Q E h => ?_) (fun cdv A outer s H vs Q E hr h => ?_)
 ·obtain ⟨o, x, y, ts, rfl, _⟩ := h; rfl
 obtain ⟨o, x, y, ts, rfl, ⟨dx, m, ps, ho, hm, hps⟩, ok, q⟩ := h
 have nd := a8h.nd
 have hu := hr.units
 refine ⟨_, (a04 (a0f (i := 3) nd rfl (Or.inl rfl) (pv 1))
   (a04 (a3b PassesOwn.never rfl (a2y (a1m (pv 0) rfl)) (a0q (i := 4) nd rfl (Or.inl rfl)) (a04 (a1i (a1v (a1j (a05 c_can_step hr rfl (a00 (pv 3) (a00 (pv 4) a01))))) (a08 (a0d a5f)) a0m)
   (a08 (a0f (i := 3) nd rfl (Or.inl rfl) (a05 c_after_step hr rfl (a00 (pv 3) (a00 (pv 4) a01)))))))
   (a08 (a0d (a0z a6f (pv 3) (pv 2) (a0g _)))))), ?_⟩
 refine ⟨_, rfl, ?_⟩
 refine ⟨_, rfl, o, C, dx, _, _, rfl, ho, kC.cl, nf, rfl, m, rfl, ⟨_, SqL.of hm⟩, ?_⟩
 refine a3e (a4o.list (xs := ps)) (fun i σ' H' => H' = H ∧ ∃ z l, σ' = [some (.ref o), some (.str (S x)), some (.str (S y)), some (.str (S z)), l] ∧ grns (ts.take i) x = some z) ⟨rfl, x, _, rfl, by rw [List.take_zero]; rfl⟩ (fun i σ' H' _ h => by rw [h.1]; exact SqL.of hm) ?_ ?_
 ·rintro i v σ' H' hv ⟨rfl, z, l, rfl, hz⟩
  obtain ⟨p, t, rfl, ht, hp⟩ := hps.at hv
  refine ⟨_, rfl, _, rfl, z, p, t, rfl, hp, acl ok hz, _, rfl, ?_⟩
  cases e : acz z t with
  | none =>
   refine a7k ?_
   have q2 := q _ (a0r.refl _)
   rw [decide_eq_false (by rw [grns_stop hz ht e]; exact fun z => by cases z)] at q2
   exact q2
  | some v =>
   have cg : gok t = true := by
    by_cases c : gok t = true
    ·exact c
    ·rw [g_no c] at e; cases e
   obtain ⟨b, eb, hpc, ed⟩ := g_ok cg
   have e' := e
   rw [ed] at e'
   obtain ⟨d, j, pc⟩ := t
   have eb' : d = dS b := eb
   subst eb'
   exact a5a ⟨_, rfl, _, rfl, z, p, b, j, pc, v, rfl, hp, hpc, acl ok hz, e', rfl, v, _, rfl, grns_next hz ht e⟩
 ·rintro σ' H' ⟨rfl, z, l, rfl, hz⟩
  have e : ts.take ps.length = ts := by rw [hps.len, List.take_length]
  rw [e] at hz
  refine ⟨_, rfl, _, rfl, rfl, ?_⟩
  have q2 := q _ (a0r.refl _)
  have e2 : decide (V.str (S z) = V.str (S y)) = decide (grns ts x = some y) := by
   rw [eqS, hz, decide_eq_decide, S_eq]
   simp
  rw [e2]
  exact q2
abbrev a3n : Stmt := meth 34 0
theorem ad0 : a0c ["self", "fraction"] ["self", "fraction"] (a03 a3n) := ⟨rfl, rfl, rfl, by decide +kernel, rfl, by decide +kernel, by decide +kernel⟩
theorem ok_Unlike_init {C : Addr} (kC : KCls K C) (nf : PySem.W.findIn K (.ref C) "fraction" = some none) (F : Fun K "__init__" "Unlike.__init__" a3n f fd) : a1u P w K mg base CX0 (k + 1) f fd ["self", "fraction"] (a4q C "fraction") := by
 refine F.ok ad0 (fun vs H Q E h => ?_) (fun cdv A outer s H vs Q E hr h => ?_)
 ·obtain ⟨o, dx, v, rfl, _⟩ := h; rfl
 obtain ⟨o, dx, v, rfl, ho, q⟩ := h
 refine ⟨_, (a08 (a7j (pv 0) (pv 1) rfl)), ?_⟩
 exact ⟨_, rfl, _, rfl, o, C, dx, [], rfl, ho, kC.cl, nf, by decide, q⟩
abbrev a2v : Stmt := meth 34 1
theorem abt : a0c ["self", "one", "other"] ["self", "one", "other"] (a03 a2v) := ⟨rfl, rfl, rfl, by decide +kernel, rfl, by decide +kernel, by decide +kernel⟩
theorem ac6 {C : Addr} (kC : KCls K C) (nf : PySem.W.findIn K (.ref C) "fraction" = some none) (F : Fun K "shows" "Unlike.shows" a2v f fd) (c_follow : Callee P w K mg base k "follow" ["word", "fraction"] (a5c K)) : a1u P w K mg base CX0 (k + 1) f fd ["self", "one", "other"] (a8x C) := by
 refine F.ok abt (fun vs H Q E h => ?_) (fun cdv A outer s H vs Q E hr h => ?_)
 ·obtain ⟨o, x, y, g, rfl, _⟩ := h; rfl
 obtain ⟨o, x, y, g, rfl, ⟨dx, p, ho, hp⟩, q⟩ := h
 have hu := hr.units
 refine ⟨_, (a08 (a0d (a0z (a7e (K := K) hu rfl) (a05 c_follow hr rfl (a00 (pv 1) (a00 (a1m (pv 0) rfl) a01))) (a05 c_follow hr rfl (a00 (pv 2) (a00 (a1m (pv 0) rfl) a01))) (a0g _)))), ?_⟩
 refine ⟨_, rfl, _, rfl, o, C, dx, _, _, rfl, ho, kC.cl, nf, rfl, x, p, g, rfl, SqT.of hp, fun r1 H1 s1 e1 => ?_⟩
 refine ⟨_, rfl, _, rfl, o, C, dx, _, _, rfl, s1 _ _ ho, kC.cl, nf, rfl, y, p, g, rfl, SqT.of (s1 _ _ hp), fun r2 H2 s2 e2 => ?_⟩
 refine ⟨fD (walk x g), fD (walk y g), a2d (s2 _ _ e1), a2d e2, a1k _, ?_⟩
 rw [if_pos rfl, a6o]
 exact q _ (s1.trans s2)
abbrev a4g : Stmt := meth 35 0
theorem sc_Quiet_init : a0c ["self", "many"] ["self", "many"] (a03 a4g) := ⟨rfl, rfl, rfl, by decide +kernel, rfl, by decide +kernel, by decide +kernel⟩
theorem ok_Quiet_init {C : Addr} (kC : KCls K C) (nf : PySem.W.findIn K (.ref C) "many" = some none) (F : Fun K "__init__" "Quiet.__init__" a4g f fd) : a1u P w K mg base CX0 (k + 1) f fd ["self", "many"] (a4q C "many") := by
 refine F.ok sc_Quiet_init (fun vs H Q E h => ?_) (fun cdv A outer s H vs Q E hr h => ?_)
 ·obtain ⟨o, dx, v, rfl, _⟩ := h; rfl
 obtain ⟨o, dx, v, rfl, ho, q⟩ := h
 refine ⟨_, (a08 (a7j (pv 0) (pv 1) rfl)), ?_⟩
 exact ⟨_, rfl, _, rfl, o, C, dx, [], rfl, ho, kC.cl, nf, by decide, q⟩
abbrev a3p : Stmt := meth 35 1
theorem a8g : a0c ["self", "dance", "fewer"] ["self", "dance"] (a03 a3p) := ⟨rfl, rfl, rfl, by decide +kernel, rfl, by decide +kernel, by decide +kernel⟩
theorem ok_Quiet_shows {C : Addr} (G : Glo mg) (kC : KCls K C) (nf : PySem.W.findIn K (.ref C) "many" = some none) (F : Fun K "shows" "Quiet.shows" a3p f fd) (c_is_whole : Callee P w K mg base k "is_whole" ["value"] spWhole) (c_is_quiet : Callee P w K mg base k "is_quiet" ["word"] spQuiet) : a1u P w K mg base CX0 (k + 1) f fd ["self", "dance"] (aa6 C) := by
 refine F.ok a8g (fun vs H Q E h => ?_) (fun cdv A outer s H vs Q E hr h => ?_)
 ·obtain ⟨o, dx, u, n, rfl, _⟩ := h; rfl
 obtain ⟨o, dx, u, n, rfl, ho, hl, q⟩ := h
 have nd := a8g.nd
 have hlS : (S u).length ≤ 10000 := by rw [a1a]; exact hl
 refine ⟨_, (a04 (a1i (PW.pt (pw_or (a1v (a1j (a05 c_is_whole hr rfl (a00 (a1m (pv 0) rfl) a01)))) (pw_or1 (a0h (a9v (K := K) rfl) (a1m (pv 0) rfl) (a0x (a00 a07 (a00 a07 (a00 a07 a01)))) rfl)))) (a08 (a0d a5f)) a0m)
   (a04 (a3b PassesOwn.never rfl (abz rfl G.n_range (a00 a07 (a00 (a1m (pv 0) rfl) a01))) (a0q (i := 2) nd rfl (Or.inl rfl)) (a08 (a1i (a1j (a05 c_is_quiet hr rfl (a00 (a0o a7s (pv 1) (pv 2)) a01))) (a08 (a0d a5f)) a0m)))
   (a08 (a0d (a05 c_is_quiet hr rfl (a00 (a0o a7s (pv 1) (a1m (pv 0) rfl)) a01)))))), ?_⟩
 refine ⟨_, rfl, o, C, dx, _, _, rfl, ho, kC.cl, nf, rfl, n, rfl, _, rfl, a5a ?_⟩
 refine ⟨_, rfl, o, C, dx, _, _, rfl, ho, kC.cl, nf, rfl, a1h, fun t ht => ?_⟩
 have s1 := a06 (o := .tup [.int 1, .int 2, .int 3]) ht
 refine .inl ⟨t, _, rfl, .inr (SqT.of a02), rfl, rfl, _, rfl, ?_⟩
 by_cases hn : n = 1 ∨ n = 2 ∨ n = 3
 ·have c : inV (V.int n) [.int 1, .int 2, .int 3] = true := by
   rcases hn with rfl | rfl | rfl <;> decide
  show if (!inV (V.int n) [.int 1, .int 2, .int 3]) = true then _ else _
  rw [c]
  refine a5a ?_
  have ho1 := s1 _ _ ho
  refine ⟨_, rfl, o, C, dx, _, _, rfl, ho1, kC.cl, nf, rfl, 1, n, rfl, ⟨by decide, by decide, by omega, by omega⟩, ?_⟩
  refine a3e (Ok := fun _ => True) a4o.rng (fun i σ' H' => a0r H H' ∧ (∃ l, σ' = [some (.ref o), some (.str (S u)), l]) ∧ ∀ j : Nat, j < i → al (rp (j + 1) u) [] = false) ⟨s1, ⟨_, rfl⟩, fun j hj => by omega⟩ (fun _ _ _ _ _ => trivial) ?_ ?_
  ·rintro i x σ' H' hx ⟨hs, ⟨l, rfl⟩, hi⟩
   have hlen : i < (n - 1).toNat := by
    have := (List.getElem?_eq_some_iff.mp hx).1
    rwa [a1p] at this
   have ex : x = .int (1 + (i : Nat)) := by
    unfold rngV at hx
    rw [List.getElem?_map, List.getElem?_range hlen] at hx
    exact (Option.some.inj hx).symm
   subst ex
   refine ⟨_, rfl, _, rfl, .inr ⟨_, _, rfl, rfl, by omega, by omega, hlS, ?_⟩⟩
   rw [a8w]
   have e1 : (1 + (i : Int)).toNat = i + 1 := by omega
   rw [e1]
   refine ⟨rp (i + 1) u, rfl, fun H2 s2 => ⟨_, rfl, ?_⟩⟩
   refine a5h (fun cc => ?_) (fun cc => ?_)
   ·have z : qshow u n = false := by
     unfold qshow
     have hi2 : i = 0 ∨ i = 1 := by omega
     rcases hi2 with rfl | rfl
     ·have hn' : n = 2 ∨ n = 3 := by omega
      have c1 : al (rp 1 u) [] = true := cc
      rcases hn' with rfl | rfl <;> simp [c1]
     ·have hn' : n = 3 := by omega
      subst hn'
      have c2 : al (rp 2 u) [] = true := cc
      simp [c2]
    have qq := q H2 (hs.trans s2)
    rw [z] at qq
    exact qq
   ·refine ⟨hs.trans s2, ⟨_, rfl⟩, fun j hj => ?_⟩
    by_cases e : j = i
    ·rw [e]; exact Bool.eq_false_iff.mpr cc
    ·exact hi j (by omega)
  ·rintro σ' H' ⟨hs, ⟨l, rfl⟩, hi⟩
   rw [a1p] at hi
   refine ⟨_, rfl, _, rfl, o, C, dx, _, _, rfl, hs _ _ ho, kC.cl, nf, rfl, .inr ⟨_, _, rfl, rfl, by omega, by omega, hlS, ?_⟩⟩
   rw [a8w]
   refine ⟨rp n.toNat u, rfl, fun H2 s2 => ?_⟩
   have z : qshow u n = al (rp n.toNat u) [] := by
    unfold qshow
    rcases hn with rfl | rfl | rfl
    ·simp
    ·have z0 := hi 0 (by decide)
     simp at z0
     simp [z0]
    ·have z0 := hi 0 (by decide)
     have z1 := hi 1 (by decide)
     simp at z0 z1
     simp [z0, z1]
   have qq := q H2 (hs.trans s2)
   rw [z] at qq
   exact qq
 ·have c : inV (V.int n) [.int 1, .int 2, .int 3] = false := by
   unfold inV
   rw [Bool.eq_false_iff]
   intro z
   obtain ⟨y, hy, e⟩ := List.any_eq_true.mp z
   simp only [List.mem_cons, List.not_mem_nil, or_false] at hy
   rcases hy with rfl | rfl | rfl
   ·have e' : ((1 : Int) == n) = true := e
    exact hn (.inl (eq_of_beq e').symm)
   ·have e' : ((2 : Int) == n) = true := e
    exact hn (.inr (.inl (eq_of_beq e').symm))
   ·have e' : ((3 : Int) == n) = true := e
    exact hn (.inr (.inr (eq_of_beq e').symm))
  show if (!inV (V.int n) [.int 1, .int 2, .int 3]) = true then _ else _
  rw [c]
  refine a7k ?_
  have z : qshow u n = false := by
   unfold qshow
   have h1 : ¬ n = 1 := fun e => hn (.inl e)
   have h2 : ¬ n = 2 := fun e => hn (.inr (.inl e))
   have h3 : ¬ n = 3 := fun e => hn (.inr (.inr e))
   simp [h1, h2, h3]
  have qq := q _ s1
  rw [z] at qq
  exact qq
abbrev a3r : Stmt := meth 36 0
theorem sc_Onward_init : a0c ["self", "fraction"] ["self", "fraction"] (a03 a3r) := ⟨rfl, rfl, rfl, by decide +kernel, rfl, by decide +kernel, by decide +kernel⟩
theorem ok_Onward_init {C : Addr} (kC : KCls K C) (nf : PySem.W.findIn K (.ref C) "fraction" = some none) (F : Fun K "__init__" "Onward.__init__" a3r f fd) : a1u P w K mg base CX0 (k + 1) f fd ["self", "fraction"] (a4q C "fraction") := by
 refine F.ok sc_Onward_init (fun vs H Q E h => ?_) (fun cdv A outer s H vs Q E hr h => ?_)
 ·obtain ⟨o, dx, v, rfl, _⟩ := h; rfl
 obtain ⟨o, dx, v, rfl, ho, q⟩ := h
 refine ⟨_, (a08 (a7j (pv 0) (pv 1) rfl)), ?_⟩
 exact ⟨_, rfl, _, rfl, o, C, dx, [], rfl, ho, kC.cl, nf, by decide, q⟩
abbrev a2x : Stmt := meth 36 1
theorem abv : a0c ["self", "dance"] ["self", "dance"] (a03 a2x) := ⟨rfl, rfl, rfl, by decide +kernel, rfl, by decide +kernel, by decide +kernel⟩
theorem ac8 {C : Addr} (kC : KCls K C) (nf : PySem.W.findIn K (.ref C) "fraction" = some none) (F : Fun K "shows" "Onward.shows" a2x f fd) (c_follow : Callee P w K mg base k "follow" ["word", "fraction"] (a5c K)) : a1u P w K mg base CX0 (k + 1) f fd ["self", "dance"] (a8y C) := by
 refine F.ok abv (fun vs H Q E h => ?_) (fun cdv A outer s H vs Q E hr h => ?_)
 ·obtain ⟨o, dx, u, p, g, rfl, _⟩ := h; rfl
 obtain ⟨o, dx, u, p, g, rfl, ho, hp, hl, q⟩ := h
 have hu := hr.units
 have hlS : (S u).length ≤ 10000 := by rw [a1a]; exact hl
 refine ⟨_, (a08 (a0d (a0z (a7t (K := K) hu rfl) (a05 c_follow hr rfl (a00 (a0o a7s (pv 1) a07) (a00 (a1m (pv 0) rfl) a01))) (a1m (pv 0) rfl) (a0g _)))), ?_⟩
 refine ⟨_, rfl, .inr ⟨_, _, rfl, rfl, by decide, by decide, hlS, ?_⟩⟩
 rw [a8w]
 refine ⟨_, rfl, o, C, dx, _, _, rfl, ho, kC.cl, nf, rfl, ?_⟩
 refine ⟨rp 6 u, p, g, rfl, SqT.of hp, fun r H1 s1 e1 => ?_⟩
 refine ⟨_, rfl, o, C, dx, _, _, rfl, s1 _ _ ho, kC.cl, nf, rfl, ?_⟩
 refine .inr ⟨fD (walk (rp 6 u) g), fD g, a2d e1, a2d (s1 _ _ hp), a1k _, ?_⟩
 rw [if_pos rfl, a6o]
 exact q _ s1
abbrev a5y : Stmt := meth 37 0
theorem sc_Led_init : a0c ["self", "word"] ["self", "word"] (a03 a5y) := ⟨rfl, rfl, rfl, by decide +kernel, rfl, by decide +kernel, by decide +kernel⟩
theorem ok_Led_init {C : Addr} (kC : KCls K C) (nf : PySem.W.findIn K (.ref C) "word" = some none) (F : Fun K "__init__" "Led.__init__" a5y f fd) : a1u P w K mg base CX0 (k + 1) f fd ["self", "word"] (a4q C "word") := by
 refine F.ok sc_Led_init (fun vs H Q E h => ?_) (fun cdv A outer s H vs Q E hr h => ?_)
 ·obtain ⟨o, dx, v, rfl, _⟩ := h; rfl
 obtain ⟨o, dx, v, rfl, ho, q⟩ := h
 refine ⟨_, (a08 (a7j (pv 0) (pv 1) rfl)), ?_⟩
 exact ⟨_, rfl, _, rfl, o, C, dx, [], rfl, ho, kC.cl, nf, by decide, q⟩
abbrev a4h : Stmt := meth 38 0
theorem sc_Parts_init : a0c ["self", "there", "back"] ["self", "there", "back"] (a03 a4h) := ⟨rfl, rfl, rfl, by decide +kernel, rfl, by decide +kernel, by decide +kernel⟩
theorem ok_Parts_init {C : Addr} (kC : KCls K C) (nf : PySem.W.findIn K (.ref C) "there" = some none) (nf2 : PySem.W.findIn K (.ref C) "back" = some none) (F : Fun K "__init__" "Parts.__init__" a4h f fd) : a1u P w K mg base CX0 (k + 1) f fd ["self", "there", "back"] (spInit2 C "there" "back") := by
 refine F.ok sc_Parts_init (fun vs H Q E h => ?_) (fun cdv A outer s H vs Q E hr h => ?_)
 ·obtain ⟨o, dx, v, v2, rfl, _⟩ := h; rfl
 obtain ⟨o, dx, v, v2, rfl, ho, q⟩ := h
 refine ⟨_, (a04 (a7j (pv 0) (pv 1) rfl)
   (a08 (a7j (pv 0) (pv 2) rfl))), ?_⟩
 refine ⟨_, rfl, _, rfl, o, C, dx, [], rfl, ho, kC.cl, nf, by decide, ?_⟩
 refine ⟨_, rfl, _, rfl, o, C, dx, _, rfl, a02, kC.cl, nf2, by simp [putF], ?_⟩
 rw [a2c]
 exact q
abbrev a4a : Stmt := top 41
theorem a92 : a0c ["word", "pair", "second"] ["word", "pair"] (a03 a4a) := ⟨rfl, rfl, rfl, by decide +kernel, rfl, by decide +kernel, by decide +kernel⟩
theorem ok_parts_pair (F : Fun K "parts_pair" "parts_pair" a4a f fd) (c_follow : Callee P w K mg base k "follow" ["word", "fraction"] (a5c K)) : a1u P w K mg base CX0 (k + 1) f fd ["word", "pair"] abe := by
 refine F.ok a92 (fun vs H Q E h => ?_) (fun cdv A outer s H vs Q E hr h => ?_)
 ·obtain ⟨u, p, g, h', rfl, _⟩ := h; rfl
 obtain ⟨u, p, g, h, rfl, ⟨a, b, hp, ha, hb⟩, q⟩ := h
 have nd := a92.nd
 have hu := hr.units
 refine ⟨_, (a04 (a0f (i := 2) nd rfl (Or.inl rfl) (a05 c_follow hr rfl (a00 (pv 0) (a00 (a0j (a0e (K := K) rfl) (pv 1) a07 (fun _ _ => rfl)) a01))))
   (a08 (a0d (a3d (a0z (a6u (K := K) hu rfl) (a05 c_follow hr rfl (a00 (pv 0) (a00 (a0j (a0e (K := K) rfl) (pv 1) a07 (fun _ _ => rfl)) a01))) (a0x (a00 a07 (a00 a07 a01))) (a0g _)) (a4j (pe_chain op_le aaq a07 (a0j (a0e (K := K) rfl) (pv 2) a07 (fun _ _ => rfl)) (a0j (a0e (K := K) rfl) (pv 2) a07 (fun _ _ => rfl)))))))), ?_⟩
 refine ⟨_, rfl, _, rfl, ⟨p, _, 1, .ref b, rfl, rfl, SqT.of hp, rfl, u, b, h, rfl, SqT.of hb, fun x H1 s1 hx => ?_⟩⟩
 refine ⟨_, rfl, _, rfl, ⟨p, _, 0, .ref a, rfl, rfl, SqT.of (s1 _ _ hp), rfl, u, a, g, rfl, SqT.of (s1 _ _ ha), fun y H2 s2 hy => ?_⟩⟩
 refine ⟨a0u, fun t ht => ?_⟩
 have s3 := a06 (o := .tup [.int 1, .int 0]) ht
 have T := s1.trans (s2.trans s3)
 have qq := q _ T
 refine ⟨fD (walk u g), fD (1, 0), a2d (s3 _ _ hy), a2d a02, a1k _, _, rfl, aai (fun e => ?_) fun e => ?_⟩
 ·have hx3 := s3 _ _ (s2 _ _ hx)
  unfold ppb at qq
  rw [decide_eq_true e, Bool.true_and] at qq
  generalize walk u h = z at hx3 qq
  have hx' : upd H2 t (.tup [.int 1, .int 0]) x = some (.tup [.int z.1, .int z.2]) := hx3
  refine ⟨_, rfl, ⟨x, _, 0, .int z.1, rfl, rfl, SqT.of hx', rfl, _, _, rfl, rfl, _, rfl, ?_⟩⟩
  refine a5h (fun c => ?_) (fun c => ?_)
  ·refine ⟨_, rfl, ⟨x, _, 1, .int z.2, rfl, rfl, SqT.of hx', rfl, _, _, rfl, rfl, ?_⟩⟩
   rw [c, Bool.true_and] at qq
   exact qq
  ·rw [Bool.eq_false_iff.mpr c, Bool.false_and] at qq
   exact qq
 ·unfold ppb at qq
  rw [decide_eq_false e, Bool.false_and] at qq
  exact qq
abbrev a4y : Stmt := meth 37 1
theorem sc_Led_shows : a0c ["self", "pair", "other"] ["self", "pair", "other"] (a03 a4y) := ⟨rfl, rfl, rfl, by decide +kernel, rfl, by decide +kernel, by decide +kernel⟩
theorem ok_Led_shows {C : Addr} (kC : KCls K C) (nf : PySem.W.findIn K (.ref C) "word" = some none) (F : Fun K "shows" "Led.shows" a4y f fd) (c_follow : Callee P w K mg base k "follow" ["word", "fraction"] (a5c K)) : a1u P w K mg base CX0 (k + 1) f fd ["self", "pair", "other"] (spLedShows C) := by
 refine F.ok sc_Led_shows (fun vs H Q E h => ?_) (fun cdv A outer s H vs Q E hr h => ?_)
 ·obtain ⟨o, p, r, u, g, h', g', h'', rfl, _⟩ := h; rfl
 obtain ⟨o, p, r, u, g, h, g', h', rfl, ⟨dx, ho⟩, ⟨a, b, hp, ha, hb⟩, ⟨c, d, hrr, hc, hd⟩, q⟩ := h
 have hu := hr.units
 refine ⟨_, (a08 (a0d (a3d (a0z (a6u (K := K) hu rfl) (a05 c_follow hr rfl (a00 (a1m (pv 0) rfl) (a00 (a0j (a0e (K := K) rfl) (pv 1) a07 (fun _ _ => rfl)) a01))) (a0j (a0e (K := K) rfl) (pv 2) a07 (fun _ _ => rfl)) (a0g _)) (a4j (a0z (a6u (K := K) hu rfl) (a05 c_follow hr rfl (a00 (a1m (pv 0) rfl) (a00 (a0j (a0e (K := K) rfl) (pv 1) a07 (fun _ _ => rfl)) a01))) (a0j (a0e (K := K) rfl) (pv 2) a07 (fun _ _ => rfl)) (a0g _)))))), ?_⟩
 refine ⟨_, rfl, o, C, dx, _, _, rfl, ho, kC.cl, nf, rfl, _, rfl, ⟨p, _, 0, .ref a, rfl, rfl, SqT.of hp, rfl, u, a, g, rfl, SqT.of ha, fun x H1 s1 hx => ?_⟩⟩
 refine ⟨_, rfl, ⟨r, _, 0, .ref c, rfl, rfl, SqT.of (s1 _ _ hrr), rfl, ?_⟩⟩
 refine ⟨fD (walk u g), fD g', a2d hx, a2d (s1 _ _ hc), a1k _, _, rfl, aai (fun e => ?_) fun e => ?_⟩
 ·refine ⟨_, rfl, o, C, dx, _, _, rfl, s1 _ _ ho, kC.cl, nf, rfl, _, rfl, ⟨p, _, 1, .ref b, rfl, rfl, SqT.of (s1 _ _ hp), rfl, u, b, h, rfl, SqT.of (s1 _ _ hb), fun y H2 s2 hy => ?_⟩⟩
  refine ⟨_, rfl, ⟨r, _, 1, .ref d, rfl, rfl, SqT.of (s2 _ _ (s1 _ _ hrr)), rfl, ?_⟩⟩
  refine ⟨fD (walk u h), fD h', a2d hy, a2d (s2 _ _ (s1 _ _ hd)), a1k _, ?_⟩
  have qq := q _ (s1.trans s2)
  rw [decide_eq_true e, Bool.true_and] at qq
  rw [if_neg Bool.false_ne_true, a6o]
  exact qq
 ·have qq := q _ s1
  rw [decide_eq_false e, Bool.false_and] at qq
  exact qq
abbrev a3q : Stmt := meth 38 1
theorem sc_Parts_shows : a0c ["self", "pair", "other"] ["self", "pair", "other"] (a03 a3q) := ⟨rfl, rfl, rfl, by decide +kernel, rfl, by decide +kernel, by decide +kernel⟩
theorem ok_Parts_shows {C : Addr} (kC : KCls K C) (nf : PySem.W.findIn K (.ref C) "there" = some none) (nf2 : PySem.W.findIn K (.ref C) "back" = some none) (F : Fun K "shows" "Parts.shows" a3q f fd) (c_parts_pair : Callee P w K mg base k "parts_pair" ["word", "pair"] abe) (c_follow : Callee P w K mg base k "follow" ["word", "fraction"] (a5c K)) : a1u P w K mg base CX0 (k + 1) f fd ["self", "pair", "other"] (aa7 C) := by
 refine F.ok sc_Parts_shows (fun vs H Q E h => ?_) (fun cdv A outer s H vs Q E hr h => ?_)
 ·obtain ⟨o, p, r, u, v, g, h', g', h'', rfl, _⟩ := h; rfl
 obtain ⟨o, p, r, u, v, g, h, g', h', rfl, ⟨dx, ho⟩, hp, hrr, q⟩ := h
 have hu := hr.units
 refine ⟨_, (a04 (a1i (PW.pt (pw_or (a1v (a1j (a05 c_parts_pair hr rfl (a00 (a1m (pv 0) rfl) (a00 (pv 1) a01))))) (pw_or1 (a1v (a1j (a05 c_parts_pair hr rfl (a00 (a1m (pv 0) rfl) (a00 (pv 2) a01)))))))) (a08 (a0d a5f)) a0m)
   (a08 (a0d (a0z (a7e (K := K) hu rfl) (a05 c_follow hr rfl (a00 (a1m (pv 0) rfl) (a00 (a0j (a0e (K := K) rfl) (pv 1) a07 (fun _ _ => rfl)) a01))) (a05 c_follow hr rfl (a00 (a1m (pv 0) rfl) (a00 (a0j (a0e (K := K) rfl) (pv 2) a07 (fun _ _ => rfl)) a01))) (a0g _))))), ?_⟩
 refine ⟨_, rfl, o, C, dx, _, _, rfl, ho, kC.cl, nf, rfl, _, rfl, u, p, g, h, rfl, hp, fun H1 s1 => ⟨_, rfl, ?_⟩⟩
 cases c1 : ppb u g h with
 | false =>
  refine a7k ?_
  have qq := q _ s1
  rw [c1, Bool.false_and] at qq
  exact qq
 | true =>
  refine a5a ?_
  refine ⟨_, rfl, o, C, dx, _, _, rfl, s1 _ _ ho, kC.cl, nf2, rfl, _, rfl, v, r, g', h', rfl, hrr.same s1, fun H2 s2 => ⟨_, rfl, ?_⟩⟩
  have T2 := s1.trans s2
  cases c2 : ppb v g' h' with
  | false =>
   refine a7k ?_
   have qq := q _ T2
   rw [c1, c2, Bool.false_and, Bool.and_false] at qq
   exact qq
  | true =>
   refine a5a ?_
   obtain ⟨a, b, ep, ea, eb⟩ := hp.same T2
   obtain ⟨c, d, er, ec, ed⟩ := hrr.same T2
   refine ⟨_, rfl, o, C, dx, _, _, rfl, T2 _ _ ho, kC.cl, nf, rfl, _, rfl, ⟨p, _, 1, .ref b, rfl, rfl, SqT.of ep, rfl, u, b, h, rfl, SqT.of eb, fun x H3 s3 hx => ?_⟩⟩
   refine ⟨_, rfl, o, C, dx, _, _, rfl, s3 _ _ (T2 _ _ ho), kC.cl, nf2, rfl, _, rfl, ⟨r, _, 1, .ref d, rfl, rfl, SqT.of (s3 _ _ er), rfl, v, d, h', rfl, SqT.of (s3 _ _ ed), fun y H4 s4 hy => ?_⟩⟩
   refine ⟨fD (walk u h), fD (walk v h'), a2d (s4 _ _ hx), a2d hy, a1k _, ?_⟩
   have qq := q _ (T2.trans (s3.trans s4))
   rw [c1, c2, Bool.true_and, Bool.true_and] at qq
   rw [if_pos rfl, a6o]
   exact qq
abbrev a1y : Stmt := meth 39 0
theorem a9n : a0c ["self", "word"] ["self", "word"] (a03 a1y) := ⟨rfl, rfl, rfl, by decide +kernel, rfl, by decide +kernel, by decide +kernel⟩
theorem a9z {C : Addr} (kC : KCls K C) (nf : PySem.W.findIn K (.ref C) "word" = some none) (F : Fun K "__init__" "Elsewhere.__init__" a1y f fd) : a1u P w K mg base CX0 (k + 1) f fd ["self", "word"] (a4q C "word") := by
 refine F.ok a9n (fun vs H Q E h => ?_) (fun cdv A outer s H vs Q E hr h => ?_)
 ·obtain ⟨o, dx, v, rfl, _⟩ := h; rfl
 obtain ⟨o, dx, v, rfl, ho, q⟩ := h
 refine ⟨_, (a08 (a7j (pv 0) (pv 1) rfl)), ?_⟩
 exact ⟨_, rfl, _, rfl, o, C, dx, [], rfl, ho, kC.cl, nf, by decide, q⟩
abbrev a1t : Stmt := meth 39 1
theorem a97 : a0c ["self", "one", "other"] ["self", "one", "other"] (a03 a1t) := ⟨rfl, rfl, rfl, by decide +kernel, rfl, by decide +kernel, by decide +kernel⟩
theorem a9d {C : Addr} (kC : KCls K C) (nf : PySem.W.findIn K (.ref C) "word" = some none) (F : Fun K "shows" "Elsewhere.shows" a1t f fd) (c_lead_alike : Callee P w K mg base k "lead_alike" ["one", "other"] abh) (c_begun_by : Callee P w K mg base k "begun_by" ["start", "word"] spBegun) : a1u P w K mg base CX0 (k + 1) f fd ["self", "one", "other"] (abi C) := by
 refine F.ok a97 (fun vs H Q E h => ?_) (fun cdv A outer s H vs Q E hr h => ?_)
 ·obtain ⟨o, a, x, y, rfl, _⟩ := h; rfl
 obtain ⟨o, a, x, y, rfl, ⟨dx, ho⟩, hw, la, ly, q⟩ := h
 refine ⟨_, (a08 (a0d (a05 c_lead_alike hr rfl (a00 (a05 c_begun_by hr rfl (a00 (a1m (pv 0) rfl) (a00 (pv 2) a01))) (a00 (pv 1) a01))))), ?_⟩
 refine ⟨_, rfl, o, C, dx, _, _, rfl, ho, kC.cl, nf, rfl, _, rfl, a, y, rfl, hw, la, ly, fun H1 s1 => ?_⟩
 exact ⟨_, rfl, a ++ y ++ bk a, x, rfl, fun H2 s2 => q _ (s1.trans s2)⟩
abbrev a3o : Stmt := meth 40 0
theorem sc_Rounds_init : a0c ["self", "there", "first", "back", "second"] ["self", "there", "first", "back", "second"] (a03 a3o) := ⟨rfl, rfl, rfl, by decide +kernel, rfl, by decide +kernel, by decide +kernel⟩
theorem ok_Rounds_init {C : Addr} (kC : KCls K C) (nf : PySem.W.findIn K (.ref C) "there" = some none) (nf2 : PySem.W.findIn K (.ref C) "first" = some none) (nf3 : PySem.W.findIn K (.ref C) "back" = some none) (nf4 : PySem.W.findIn K (.ref C) "second" = some none) (F : Fun K "__init__" "Rounds.__init__" a3o f fd) : a1u P w K mg base CX0 (k + 1) f fd ["self", "there", "first", "back", "second"] (spInit4 C "there" "first" "back" "second") := by
 refine F.ok sc_Rounds_init (fun vs H Q E h => ?_) (fun cdv A outer s H vs Q E hr h => ?_)
 ·obtain ⟨o, dx, v, v2, v3, v4, rfl, _⟩ := h; rfl
 obtain ⟨o, dx, v, v2, v3, v4, rfl, ho, q⟩ := h
 refine ⟨_, (a04 (a7j (pv 0) (pv 1) rfl)
   (a04 (a7j (pv 0) (pv 2) rfl)
   (a04 (a7j (pv 0) (pv 3) rfl)
   (a08 (a7j (pv 0) (pv 4) rfl))))), ?_⟩
 refine ⟨_, rfl, _, rfl, o, C, dx, [], rfl, ho, kC.cl, nf, by decide, ?_⟩
 refine ⟨_, rfl, _, rfl, o, C, dx, _, rfl, a02, kC.cl, nf2, Nat.lt_of_le_of_lt (a9s (Nat.le_refl _)) (by decide), ?_⟩
 rw [a2c]
 refine ⟨_, rfl, _, rfl, o, C, dx, _, rfl, a02, kC.cl, nf3, Nat.lt_of_le_of_lt (a9s (a9s (Nat.le_refl _))) (by decide), ?_⟩
 rw [a2c]
 refine ⟨_, rfl, _, rfl, o, C, dx, _, rfl, a02, kC.cl, nf4, Nat.lt_of_le_of_lt (a9s (a9s (a9s (Nat.le_refl _)))) (by decide), ?_⟩
 rw [a2c]
 exact q
abbrev a2w : Stmt := meth 40 1
theorem abu : a0c ["self", "one", "other"] ["self", "one", "other"] (a03 a2w) := ⟨rfl, rfl, rfl, by decide +kernel, rfl, by decide +kernel, by decide +kernel⟩
theorem ac7 {C : Addr} (kC : KCls K C) (nf : PySem.W.findIn K (.ref C) "there" = some none) (nf2 : PySem.W.findIn K (.ref C) "first" = some none) (nf3 : PySem.W.findIn K (.ref C) "back" = some none) (nf4 : PySem.W.findIn K (.ref C) "second" = some none) (F : Fun K "shows" "Rounds.shows" a2w f fd)
  (c_is_round : Callee P w K mg base k "is_round" ["word"] spIsRound) (c_is_same_round : Callee P w K mg base k "is_same_round" ["one", "other"] spSameR) (c_lead_alike : Callee P w K mg base k "lead_alike" ["one", "other"] abh) (c_begun_by : Callee P w K mg base k "begun_by" ["start", "word"] spBegun) : a1u P w K mg base CX0 (k + 1) f fd ["self", "one", "other"] (abd C) := by
 refine F.ok abu (fun vs H Q E h => ?_) (fun cdv A outer s H vs Q E hr h => ?_)
 ·obtain ⟨o, a, b, c, d, x, y, rfl, _⟩ := h; rfl
 obtain ⟨o, a, b, c, d, x, y, rfl, ⟨dx, ho⟩, wa, wc, la, lb, lc, ld, q⟩ := h
 refine ⟨_, (a04 (a1i (PW.pt (pw_or (a1v (a1j (a05 c_is_round hr rfl (a00 (a1m (pv 0) rfl) a01)))) (pw_or (a1v (a1j (a05 c_is_round hr rfl (a00 (a1m (pv 0) rfl) a01)))) (pw_or1 (a1j (a05 c_is_same_round hr rfl (a00 (a1m (pv 0) rfl) (a00 (a1m (pv 0) rfl) a01)))))))) (a08 (a0d a5f)) a0m)
   (a04 (a1i (a1v (a1j (a05 c_lead_alike hr rfl (a00 (a05 c_begun_by hr rfl (a00 (a1m (pv 0) rfl) (a00 (a1m (pv 0) rfl) a01))) (a00 (pv 1) a01))))) (a08 (a0d a5f)) a0m)
   (a08 (a0d (a05 c_lead_alike hr rfl (a00 (a05 c_begun_by hr rfl (a00 (a1m (pv 0) rfl) (a00 (a1m (pv 0) rfl) a01))) (a00 (pv 2) a01))))))), ?_⟩
 unfold rndsB at q
 refine ⟨_, rfl, o, C, dx, _, _, rfl, ho, kC.cl, nf2, rfl, b, rfl, by omega, fun H1 s1 => ⟨_, rfl, ?_⟩⟩
 have h1 := s1 _ _ ho
 cases e1 : a7m b with
 | false =>
  rw [e1] at q
  exact q _ s1
 | true =>
  rw [e1] at q
  refine a5a ⟨_, rfl, o, C, dx, _, _, rfl, h1, kC.cl, nf4, rfl, d, rfl, by omega, fun H2 s2 => ⟨_, rfl, ?_⟩⟩
  have h2 := s2 _ _ h1
  cases e2 : a7m d with
  | false =>
   rw [e2] at q
   exact q _ (s1.trans s2)
  | true =>
   rw [e2] at q
   refine a5a ⟨_, rfl, o, C, dx, _, _, rfl, h2, kC.cl, nf2, rfl, _, rfl, o, C, dx, _, _, rfl, h2, kC.cl, nf4, rfl, b, d, rfl, by omega, by omega, _, rfl, ?_⟩
   cases e3 : a5k b d with
   | true =>
    rw [e3] at q
    exact q _ (s1.trans s2)
   | false =>
    rw [e3] at q
    refine a5a ⟨_, rfl, o, C, dx, _, _, rfl, h2, kC.cl, nf, rfl, _, rfl, o, C, dx, _, _, rfl, h2, kC.cl, nf2, rfl, a, b, rfl, wa, la, lb, fun H3 s3 => ?_⟩
    have h3 := s3 _ _ h2
    refine ⟨_, rfl, a ++ b ++ bk a, x, rfl, fun H4 s4 => ⟨_, rfl, ?_⟩⟩
    have h4 := s4 _ _ h3
    have T4 := s1.trans (s2.trans (s3.trans s4))
    cases e4 : al (a ++ b ++ bk a) x with
    | false =>
     rw [e4] at q
     exact q _ T4
    | true =>
     rw [e4] at q
     refine a5a ⟨_, rfl, o, C, dx, _, _, rfl, h4, kC.cl, nf3, rfl, _, rfl, o, C, dx, _, _, rfl, h4, kC.cl, nf4, rfl, c, d, rfl, wc, lc, ld, fun H5 s5 => ?_⟩
     exact ⟨_, rfl, c ++ d ++ bk c, y, rfl, fun H6 s6 => q _ (T4.trans (s5.trans s6))⟩
end
end K08
namespace K08
open PySem L2 TW TX
seal L2.PE L2.PT L2.PA L2.PS L2.PSs L2.PI L2.PG L2.PGs L2.PPs L2.PW L2.PTs L2.PO
section
variable {P : Program} {w : World} {K : PySem.W.Frag} {mg : Str → Option Value} {base : Heap} {f : Addr} {fd : FuncData} {k : Nat}
abbrev a4c : Stmt := top 43
theorem sc_letters_of : a0c ["run"] ["run"] (a03 a4c) := ⟨rfl, rfl, rfl, by decide +kernel, rfl, by decide +kernel, by decide +kernel⟩
theorem ok_letters_of (F : Fun K "letters_of" "letters_of" a4c f fd) : a1u P w K mg base CX0 (k + 1) f fd ["run"] abf := by
 refine F.ok sc_letters_of (fun vs H Q E h => ?_) (fun cdv A outer s H vs Q E hr h => ?_)
 ·obtain ⟨i, rfl, _⟩ := h; rfl
 obtain ⟨i, rfl, hi, q⟩ := h
 refine ⟨_, (a04 (a1i (a0h aaq (pv 0) a07 (a0g _)) (a08 (a0d (a0o op_mulS1 a0i (a7l a4p (pv 0))))) a0m)
   (a08 (a0d (a0o op_mulS1 a0i (pv 0))))), ?_⟩
 refine ⟨_, rfl, _, _, rfl, rfl, _, rfl, ?_⟩
 refine a5h (fun c => ?_) (fun c => ?_)
 ·have c' : i < 0 := of_decide_eq_true c
  refine ⟨_, rfl, _, rfl, _, _, rfl, rfl, by omega, by omega, by decide, ?_⟩
  rw [times_lts_u c']
  exact q
 ·have c' : ¬ i < 0 := of_decide_eq_false (Bool.eq_false_iff.mpr c)
  refine ⟨_, rfl, _, _, rfl, rfl, by omega, by omega, by decide, ?_⟩
  rw [times_lts_t c']
  exact q
abbrev a6c : Stmt := top 44
theorem sc_spelled : a0c ["runs"] ["runs"] (a03 a6c) := ⟨rfl, rfl, rfl, by decide +kernel, rfl, by decide +kernel, by decide +kernel⟩
theorem ok_spelled (F : Fun K "spelled" "spelled" a6c f fd) (c_letters_of : Callee P w K mg base k "letters_of" ["run"] abf) : a1u P w K mg base CX0 (k + 1) f fd ["runs"] spSpelled := by
 refine F.ok sc_spelled (fun vs H Q E h => ?_) (fun cdv A outer s H vs Q E hr h => ?_)
 ·obtain ⟨a, ks, rfl, _⟩ := h; rfl
 obtain ⟨a, ks, rfl, ha, h1, h2, q⟩ := h
 refine ⟨_, (a08 (a0d (a6s PySem.F.plainAttrs_str PySem.F.slot_str_join PySem.F.type_str_join a7f a0i (a00 (ac2 (ys := []) (js := []) rfl (LcS.to (os := a03 a6c) ⟨rfl, by decide +kernel, by decide +kernel, rfl, by decide +kernel, by decide +kernel, by decide +kernel⟩ rfl rfl) (a2y (pv 0)) (fun _ _ _ _ => a3t) (fun _ _ _ _ => (a05 c_letters_of hr rfl (a00 (pv 0) a01)))) a01)))), ?_⟩
 refine ⟨rfl, _, rfl, a, rfl, ⟨_, SqL.of ha⟩, ?_⟩
 refine lc_y a4o.list (fun x => match x with | .int k => V.str (S (lts k)) | z => z) (SqL.of ha) (by rw [a7y]; exact big (by omega)) (fun i x Q' hx hq => ?_) (fun p hp => ?_)
 ·unfold iV at hx
  rw [List.getElem?_map] at hx
  cases e : ks[i]? with
  | none => rw [e] at hx; cases hx
  | some k =>
   rw [e] at hx
   cases hx
   have := sab_mem (List.mem_of_getElem? e)
   exact ⟨_, rfl, k, rfl, by omega, hq⟩
 ·have e : (iV ks).map (fun x => match x with | .int k => V.str (S (lts k)) | z => z) = (ks.map fun k => S (lts k)).map V.str := by
   unfold iV
   rw [List.map_map, List.map_map]
   rfl
  rw [e]
  refine ⟨_, p, _, rfl, rfl, SqL.of a02, ?_, ?_⟩
  ·rw [sum_lts, List.length_map]
   show sab ks + ks.length * 1 ≤ _
   omega
  ·rw [join_spell]
   exact q _ (a06 hp _)
abbrev a3y : Stmt := top 46
theorem sc_backwards : a0c ["runs"] ["runs"] (a03 a3y) := ⟨rfl, rfl, rfl, by decide +kernel, rfl, by decide +kernel, by decide +kernel⟩
theorem ok_backwards (G : Glo mg) (F : Fun K "backwards" "backwards" a3y f fd) : a1u P w K mg base CX0 (k + 1) f fd ["runs"] abj := by
 refine F.ok sc_backwards (fun vs H Q E h => ?_) (fun cdv A outer s H vs Q E hr h => ?_)
 ·obtain ⟨a, ks, rfl, _⟩ := h; rfl
 obtain ⟨a, ks, rfl, ha, h2, q⟩ := h
 refine ⟨_, (a08 (a0d (ac2 (ys := []) (js := []) rfl (LcS.to (os := a03 a3y) ⟨rfl, by decide +kernel, by decide +kernel, rfl, by decide +kernel, by decide +kernel, by decide +kernel⟩ rfl rfl) (pi_revl rfl G.n_reversed (a00 (pv 0) a01)) (fun _ _ _ _ => a3t) (fun _ _ _ _ => (a7l a4p (pv 0)))))), ?_⟩
 refine ⟨_, rfl, a, _, rfl, SqL.of ha, ?_⟩
 refine lc_y a4o.revl (fun x => match x with | .int k => V.int (-k) | z => z) (SqL.of ha) (by rw [List.length_reverse, a7y]; exact big (by omega)) (fun i x Q' hx hq => ?_) (fun p hp => ?_)
 ·have hm : x ∈ iV ks := List.mem_reverse.mp (List.mem_of_getElem? hx)
  unfold iV at hm
  obtain ⟨k, hk, rfl⟩ := List.mem_map.mp hm
  exact ⟨_, rfl, _, rfl, hq⟩
 ·refine q p _ (a06 hp _) ?_
  rw [a02]
  unfold iV bw
  rw [← List.map_reverse, List.map_map, List.map_map]
  rfl
abbrev a86 : Stmt := top 47
theorem sc_joined : a0c ["one", "other", "ahead", "run", "taken"] ["one", "other"] (a03 a86) := ⟨rfl, rfl, rfl, by decide +kernel, rfl, by decide +kernel, by decide +kernel⟩
theorem ok_joined (G : Glo mg) (F : Fun K "joined" "joined" a86 f fd) : a1u P w K mg base CX0 (k + 1) f fd ["one", "other"] spJoined := by
 refine F.ok sc_joined (fun vs H Q E h => ?_) (fun cdv A outer s H vs Q E hr h => ?_)
 ·obtain ⟨a, b, A, x, y, B, rfl, _⟩ := h; rfl
 obtain ⟨a, b, A, x, y, B, rfl, ha, hb, lA, lB, q⟩ := h
 have nd := sc_joined.nd
 have hu := hr.units
 refine ⟨_, (a04 (a0f (i := 2) nd rfl (Or.inl rfl) (a9a a6p rfl G.n_list bt_list (a00 (pv 0) a01)))
   (a04 (a0f (i := 3) nd rfl (Or.inl rfl) (a0o a2o (pe_bm0 PySem.F.plainAttrs_list PySem.F.slot_list_pop PySem.F.type_list_pop mt_pop (pv 2)) (a0j (a1g (K := K) (Pm := w.params) rfl rfl) (pv 1) a07 (fun _ _ => rfl))))
   (a04 (a0f (i := 4) nd rfl (Or.inl rfl) a07)
   (a04 (ab2 PassesOwn.never (PW.pt (pw_and (a0h a6f (pv 3) a07 (a0g _)) (pw_and (pt_truth (pv 2) (fun _ => rfl)) (pw_and1 (a0h aaq (pv 4) (a0k (a1c (K := K) rfl) rfl G.n_len a3u (a00 (pv 1) a01)) (a0g _)))))) (a04 (a0f (i := 3) nd rfl (Or.inl rfl) (a0o a2o (pe_bm0 PySem.F.plainAttrs_list PySem.F.slot_list_pop PySem.F.type_list_pop mt_pop (pv 2)) (a0j (a1g (K := K) (Pm := w.params) rfl rfl) (pv 1) (pv 4) (fun _ _ => rfl))))
   (a08 (ps_aug (i := 4) nd rfl (Or.inl rfl) a07 ip_add (Or.inl rfl)))))
   (a08 (a0d (a0o a9b (a0o a9b (pv 2) (a2a (a00 (pv 3) a01))) (a0v (a7g (K := K) rfl) (pv 1) (a1b (pv 4)) a1l)))))))), ?_⟩
 have hbo : ∀ {H'}, a0r H H' → H' b = some (.lst (iV (y :: B))) := fun s => s _ _ hb
 refine ⟨_, rfl, a, _, rfl, .inl (SqL.of ha), fun l hl => ?_⟩
 have hla : iV (A ++ [x]) = iV A ++ [.int x] := a9k _ _
 refine ⟨_, rfl, .inl ⟨rfl, _, SqL.of a02⟩, l, _, .int x, rfl, rfl, a02, ?_, ?_⟩
 ·rw [hla, List.length_append]
  simp
 rw [a2c, hla, List.dropLast_concat]
 have s1 : a0r H (upd H l (.lst (iV A))) := a06 hl _
 refine ⟨_, rfl, .inl (.inl ⟨b, _, 0, .int y, rfl, rfl, SqL.of (hbo s1), atI_zero rfl, ?_⟩)⟩
 refine .inl ⟨_, _, rfl, rfl, ?_⟩
 refine aax (fun σ' H' => a0r H H' ∧ ∃ (C : List Int) (z : Int) (n : Nat), σ' = [some (.ref a), some (.ref b), some (.ref l), some (.int z), some (.int n)] ∧ H' l = some (.lst (iV C)) ∧ 1 ≤ n ∧ n ≤ (y :: B).length ∧
   (∀ f, IsF f → act (C ++ z :: (y :: B).drop n) f = act (y :: B) (act (A ++ [x]) f)) ∧ sab C + z.natAbs + sab ((y :: B).drop n) ≤ sab (A ++ [x]) + sab (y :: B) ∧ C.length ≤ A.length)
  (fun σ' _ => match σ' with | [_, _, _, _, some (.int n)] => ((y :: B).length - n).toNat | _ => 0) ⟨s1, A, x + y, 1, rfl, a02, Nat.le_refl _, by simp, fun f hf => ?_, ?_, Nat.le_refl _⟩ ?_
  (mo_and (a6w (a7w mo_eq a5j acy)) (mo_and (mo_truth a5j) (a6w (a7w mo_rI0 a5j (mo_len (a2z a5j a7x))))))
 ·rw [aa2]
  show post B (sh (x + y) (pre A f)) = post B (sh y (act (A ++ [x]) f))
  rw [aa2]
  show _ = post B (sh y (sh x (pre A f)))
  rw [sh_sh]
 ·show sab A + (x + y).natAbs + sab B ≤ _
  rw [a5o, a3a, a3a]
  show _ ≤ sab A + (x.natAbs + 0) + _
  omega
 rintro σ' H' ⟨hs, C, z, n, rfl, hC, n1, n2, hact, hsab, hlen⟩
 refine ev_and (b := decide (V.int z = V.int 0)) (c := (!(iV C).isEmpty) && decide ((n : Int) < ((iV (y :: B)).length : Int))) (fun R r => ⟨_, rfl, ⟨rfl, _, rfl, r⟩⟩) (fun _ => ev_and (fun R r => ⟨_, rfl, _, .inl ⟨_, SqL.of hC, rfl⟩, r⟩) (fun _ R r => ⟨_, rfl, _, rfl, _, _, rfl, .inl ⟨_, SqL.of (hbo hs), rfl⟩, _, _, rfl, rfl, _, rfl, r⟩)) _ ?_
 refine a5h (fun c => ?_) (fun c => ?_)
 ·rw [Bool.and_eq_true, Bool.and_eq_true] at c
  obtain ⟨c1, c2, c3⟩ := c
  have z0 : z = 0 := by simpa using c1
  subst z0
  have cn : C ≠ [] := by
   intro e
   subst e
   cases c2
  have cl : n < (y :: B).length := by
   have := of_decide_eq_true c3
   rw [a7y] at this
   omega
  obtain ⟨C', v, rfl⟩ : ∃ C' v, C = C' ++ [v] := ⟨C.dropLast, C.getLast cn, (List.dropLast_concat_getLast cn).symm⟩
  have hCa : iV (C' ++ [v]) = iV C' ++ [.int v] := a9k _ _
  refine ⟨_, rfl, .inl ⟨rfl, _, SqL.of hC⟩, l, _, .int v, rfl, rfl, hC, ?_, ?_⟩
  ·rw [hCa, List.length_append]
   simp
  rw [hCa, List.dropLast_concat]
  have s2 : a0r H (upd H' l (.lst (iV C'))) := hs.up hl
  have hy : (y :: B)[n]? = some ((y :: B)[n]'cl) := List.getElem?_eq_getElem cl
  have hyV : (iV (y :: B))[n]? = some (.int ((y :: B)[n]'cl)) := by
   unfold iV
   rw [List.getElem?_map, hy]
   rfl
  refine ⟨_, rfl, _, rfl, .inl (.inl ⟨b, _, _, _, rfl, rfl, SqL.of (hbo s2), a3v hyV, ?_⟩)⟩
  refine .inl ⟨_, _, rfl, rfl, ?_⟩
  refine ⟨_, rfl, _, _, rfl, rfl, ⟨s2, C', _, n + 1, rfl, a02, by omega, cl, fun f hf => ?_, ?_, ?_⟩, ?_⟩
  ·rw [← hact f hf, aa2, aa2, List.drop_eq_getElem_cons cl, post_cons, sh_zero, pre_snoc, ab9 (sh_F (pre_F hf)), sh_sh]
  ·have e1 : sab (C' ++ [v]) = sab C' + v.natAbs := by rw [a5o, a3a]; rfl
   have e2 : sab ((y :: B).drop n) = ((y :: B)[n]'cl).natAbs + sab ((y :: B).drop (n + 1)) := by rw [List.drop_eq_getElem_cons cl, a3a]
   rw [e1, e2] at hsab
   have := Int.natAbs_add_le v ((y :: B)[n]'cl)
   omega
  ·rw [List.length_append] at hlen
   simp at hlen
   omega
  ·show (((y :: B).length : Int) - ((n : Int) + 1)).toNat < (((y :: B).length : Int) - (n : Int)).toNat
   omega
 ·have hcut : a8i (iV (y :: B)) (some (n : Int)) none = iV ((y :: B).drop n) := by
   rw [a4n _ (by rw [a7y]; exact n2)]
   unfold iV
   rw [List.map_drop]
  refine ⟨_, rfl, _, rfl, ?_⟩
  refine ⟨big (show 1 ≤ 1000000 by decide), fun m hm => ?_⟩
  refine .inr ⟨l, m, iV C, [.int z], rfl, rfl, ?_, a02, by rw [a7y]; exact big (by simp; omega), fun m2 hm2 => ?_⟩
  ·rw [a0p (a0n hC hm)]; exact hC
  refine ⟨_, rfl, _, rfl, _, rfl, ?_⟩
  have s3 : a0r H (upd (upd H' m (.lst [.int z])) m2 (.lst (iV C ++ [.int z]))) := (hs.trans (a06 hm _)).trans (a06 hm2 _)
  refine .inr ⟨b, _, rfl, SqL.of (hbo s3), fun m3 hm3 => ?_⟩
  rw [hcut]
  refine .inr ⟨m2, m3, iV C ++ [.int z], iV ((y :: B).drop n), rfl, rfl, ?_, a02, ?_, fun m4 hm4 => ?_⟩
  ·rw [a0p (a0n a02 hm3)]; exact a02
  ·rw [List.length_append, a7y, a7y, List.length_drop]
   refine big ?_
   have e : (y :: B).length = B.length + 1 := rfl
   simp only [List.length_cons, List.length_nil]
   omega
  have e5 : iV C ++ [.int z] ++ iV ((y :: B).drop n) = iV (C ++ z :: (y :: B).drop n) := by
   unfold iV
   simp
  refine q m4 _ C z ((y :: B).drop n) ((s3.trans (a06 hm3 _)).trans (a06 hm4 _)) ?_ hact ?_ ?_ ?_
  ·rw [a02, e5]
  ·rw [a5o, a3a]; omega
  ·rw [List.length_append, List.length_append, List.length_cons, List.length_cons, List.length_drop]
   simp only [List.length_cons, List.length_nil]
   omega
  ·intro e
   subst e
   have : n = 1 := by simp at n2; omega
   subst this
   rfl
abbrev a3j : Stmt := top 48
theorem a8c : a0c ["fraction", "runs", "here", "many", "run"] ["fraction"] (a03 a3j) := ⟨rfl, rfl, rfl, by decide +kernel, rfl, by decide +kernel, by decide +kernel⟩
theorem ok_runs_to_end (G : Glo mg) (F : Fun K "runs_to_end" "runs_to_end" a3j f fd) (c_turned : Callee P w K mg base k "turned" ["a", "b"] ab0) : a1u P w K mg base CX0 (k + 1) f fd ["fraction"] spRuns := by
 refine F.ok a8c (fun vs H Q E h => ?_) (fun cdv A outer s H vs Q E hr h => ?_)
 ·obtain ⟨p, g, rfl, _⟩ := h; rfl
 obtain ⟨p, g, rfl, hp, hg, hb, hq, q⟩ := h
 have nd := a8c.nd
 have hu := hr.units
 refine ⟨_, (a04 (a0f (i := 1) nd rfl (Or.inl rfl) (a2a a01))
   (a04 (a0f (i := 2) nd rfl (Or.inl rfl) (pv 0))
   (a04 (ab2 PassesOwn.never (a0h op_ne (a0j (a0e (K := K) rfl) (pv 2) a07 (fun _ _ => rfl)) a07 (a0g _)) (a04 (a0f (i := 3) nd rfl (Or.inl rfl) (a0o a2p (a0k call_abs rfl G.n_abs bt_abs (a00 (a0j (a0e (K := K) rfl) (pv 2) a07 (fun _ _ => rfl)) a01)) (a0j (a0e (K := K) rfl) (pv 2) a07 (fun _ _ => rfl))))
   (a04 (a0f (i := 4) nd rfl (Or.inl rfl) (a5m (a0h aaq (a0j (a0e (K := K) rfl) (pv 2) a07 (fun _ _ => rfl)) a07 (a0g _)) (pv 3) (a7l a4p (pv 3))))
   (a04 (a1r (a6s PySem.F.plainAttrs_list PySem.F.slot_list_append PySem.F.type_list_append a3h (pv 1) (a00 (pv 4) a01)))
   (a08 (a0f (i := 2) nd rfl (Or.inl rfl) (a05 c_turned hr rfl (a00 (a0o a2o (a0j (a0e (K := K) rfl) (pv 2) a07 (fun _ _ => rfl)) (a0o op_mul (pv 4) (a0j (a0e (K := K) rfl) (pv 2) a07 (fun _ _ => rfl)))) (a00 (a0j (a0e (K := K) rfl) (pv 2) a07 (fun _ _ => rfl)) a01)))))))))
   (a08 (a0d (a0o a9b (pv 1) (a2a (a00 a07 a01)))))))), ?_⟩
 refine ⟨big (by decide), fun l hl => ?_⟩
 refine ⟨_, rfl, ?_⟩
 refine aax (fun σ' H' => a0r H H' ∧ ∃ (ks : List Int) (t : Addr) (m r : Option V), σ' = [some (.ref p), some (.ref l), some (.ref t), m, r] ∧ H' l = some (.lst (iV ks)) ∧ H' t = some (fT (pre ks g)) ∧ (pre ks g).2.natAbs ≤ g.2.natAbs ∧
   sab ks + qf (pre ks g) = qf g ∧ ks.length ≤ sab ks + 1 ∧ (ks = [] ∨ (pre ks g).2.natAbs ≤ (pre ks g).1.natAbs))
  (fun σ' H' => match σ' with | [_, _, some (.ref t), _, _] => fb (H' t) | _ => 0)
  ⟨a06 hl _, [], p, _, _, rfl, a02, a06 hl _ _ _ hp, Nat.le_refl _, Nat.zero_add _, Nat.zero_le _, .inl rfl⟩ ?_ (a6w (a7w mo_ne (a7w mo_ixT a5j acy) acy))
 rintro σ' H' ⟨hs, ks, t, m, r, rfl, hL, ht, hsz, hsum, hlen, hnx⟩
 have hF : IsF (pre ks g) := pre_F hg
 have hks : sab ks ≤ 500 := by omega
 obtain ⟨h, hgg⟩ : ∃ h, h = pre ks g := ⟨_, rfl⟩
 rw [← hgg] at hF ht hsz hsum hnx
 have ht' : H' t = some (.tup [.int h.1, .int h.2]) := ht
 refine ⟨_, rfl, ⟨t, _, 1, .int h.2, rfl, rfl, SqT.of ht', rfl, ⟨rfl, _, rfl, ?_⟩⟩⟩
 by_cases h0 : h.2 = 0
 ·have c : (!decide (V.int h.2 = V.int 0)) = false := by simp [h0]
  show if (!decide (V.int h.2 = V.int 0)) = true then _ else _
  rw [if_neg (by rw [c]; exact Bool.false_ne_true)]
  refine ⟨_, rfl, big (by decide), fun m1 hm1 => ?_⟩
  refine .inr ⟨l, m1, iV ks, [.int 0], rfl, rfl, ?_, a02, by rw [a7y]; exact big (by simp; omega), fun m2 hm2 => ?_⟩
  ·rw [a0p (a0n hL hm1)]; exact hL
  refine q m2 _ ks ((hs.trans (a06 hm1 _)).trans (a06 hm2 _)) ?_ ?_ (by omega) (by omega)
  ·rw [a02, a9k]; rfl
  ·rw [← hgg]; exact F_fin hF h0
 ·have hb0 : 0 < h.2 := F_pos hF h0
  have c : (!decide (V.int h.2 = V.int 0)) = true := by simp [h0]
  show if (!decide (V.int h.2 = V.int 0)) = true then _ else _
  rw [if_pos c]
  obtain ⟨r1, r2, r3, r4⟩ := run_step hb0
  have hlog : h.2.natAbs.log2 < 9000 := log2_lt (Nat.lt_of_lt_of_le (Nat.lt_of_le_of_lt hsz hb) (Nat.pow_le_pow_right (by decide) (by decide))) (by decide)
  refine ⟨_, rfl, ⟨t, _, 0, .int h.1, rfl, rfl, SqT.of ht', rfl, _, rfl, _, rfl, ⟨t, _, 1, .int h.2, rfl, rfl, SqT.of ht', rfl, _, _, rfl, rfl, ⟨hb0, hlog⟩, ?_⟩⟩⟩
  refine ⟨_, rfl, ⟨t, _, 0, .int h.1, rfl, rfl, SqT.of ht', rfl, _, _, rfl, rfl, _, rfl, ?_⟩⟩
  refine pick2 (v := .int (runOf h)) (fun c Q' z => ⟨_, rfl, ?_⟩) (fun c Q' z => ⟨_, rfl, _, rfl, ?_⟩) ?_
  ·have e : runOf h = (if h.1 < 0 then -h.1 else h.1) / h.2 := by
    have c' : h.1 < 0 := of_decide_eq_true c
    unfold runOf
    rw [if_pos c']
   rw [e] at z
   exact z
  ·have e : runOf h = -((if h.1 < 0 then -h.1 else h.1) / h.2) := by
    have c' : ¬ h.1 < 0 := of_decide_eq_false c
    unfold runOf
    rw [if_neg c']
   rw [e] at z
   exact z
  have hlt : t ≠ l := ne_of ht hL (by intro z; cases z)
  refine ⟨_, rfl, .inl ⟨rfl, _, SqL.of hL⟩, _, rfl, l, _, _, rfl, rfl, hL, by rw [a7y]; exact Nat.lt_of_lt_of_le (show ks.length < 1000000 by omega) (big (Nat.le_refl _)), ?_⟩
  have ht2 : upd H' l (.lst (iV ks ++ [.int (runOf h)])) t = some (.tup [.int h.1, .int h.2]) := by rw [a0p hlt]; exact ht'
  refine ⟨_, rfl, ⟨t, _, 0, .int h.1, rfl, rfl, SqT.of ht2, rfl, ?_⟩⟩
  refine ⟨_, rfl, _, rfl, ⟨t, _, 1, .int h.2, rfl, rfl, SqT.of ht2, rfl, _, _, rfl, rfl, cmul_of (by omega), .inl ⟨_, _, rfl, rfl, ?_⟩⟩⟩
  refine ⟨_, rfl, ⟨t, _, 1, .int h.2, rfl, rfl, SqT.of ht2, rfl, ?_⟩⟩
  refine ⟨sh (runOf h) h, rfl, fun p2 H2 s2 hp2 => ?_⟩
  have epre : pre (ks ++ [runOf h]) g = mv 114 (sh (runOf h) h) := by rw [pre_snoc, ← hgg]
  refine ⟨⟨(hs.up hl).trans s2, ks ++ [runOf h], p2, _, _, rfl, ?_, ?_, ?_, ?_, ?_, ?_⟩, ?_⟩
  ·rw [s2 _ _ a02, a9k]; rfl
  ·rw [epre]; exact hp2
  ·rw [epre]; omega
  ·rw [epre, a5o, a3a]
   show sab ks + ((runOf h).natAbs + 0) + _ = _
   omega
  ·rw [a5o, a3a, List.length_append]
   show ks.length + 1 ≤ sab ks + ((runOf h).natAbs + 0) + 1
   rcases hnx with e | e
   ·subst e
    simp
   ·have := r4 e
    omega
  ·rw [epre]; exact .inr r3
  ·show fb (H2 p2) < fb (H' t)
   rw [hp2, ht]
   exact r2
abbrev a3m : Stmt := top 45
theorem a8f : a0c ["runs", "fraction", "here", "run"] ["runs", "fraction"] (a03 a3m) := ⟨rfl, rfl, rfl, by decide +kernel, rfl, by decide +kernel, by decide +kernel⟩
theorem ok_follow_runs (F : Fun K "follow_runs" "follow_runs" a3m f fd) (c_turned : Callee P w K mg base k "turned" ["a", "b"] ab0) : a1u P w K mg base CX0 (k + 1) f fd ["runs", "fraction"] a7o := by
 refine F.ok a8f (fun vs H Q E h => ?_) (fun cdv A outer s H vs Q E hr h => ?_)
 ·obtain ⟨a, p, k, ks, g, rfl, _⟩ := h; rfl
 obtain ⟨a, p, k0, ks, g, rfl, ha, hp, hsab, hlen, q⟩ := h
 have nd := a8f.nd
 have hp' : H p = some (.tup [.int g.1, .int g.2]) := hp
 refine ⟨_, (a04 (a0f (i := 2) nd rfl (Or.inl rfl) (a0x (a00 (a0o a9b (a0j (a1g (K := K) (Pm := w.params) rfl rfl) (pv 1) a07 (fun _ _ => rfl)) (a0o op_mul (a0j (a1g (K := K) (Pm := w.params) rfl rfl) (pv 0) a07 (fun _ _ => rfl)) (a0j (a1g (K := K) (Pm := w.params) rfl rfl) (pv 1) a07 (fun _ _ => rfl)))) (a00 (a0j (a1g (K := K) (Pm := w.params) rfl rfl) (pv 1) a07 (fun _ _ => rfl)) a01))))
   (a04 (a3b PassesOwn.never rfl (a2y (a0v (a7g (K := K) rfl) (pv 0) (a1b a07) a1l)) (a0q (i := 3) nd rfl (Or.inl rfl)) (a04 (a0f (i := 2) nd rfl (Or.inl rfl) (a05 c_turned hr rfl (a00 (a0j (a1g (K := K) (Pm := w.params) rfl rfl) (pv 2) a07 (fun _ _ => rfl)) (a00 (a0j (a1g (K := K) (Pm := w.params) rfl rfl) (pv 2) a07 (fun _ _ => rfl)) a01))))
   (a08 (a0f (i := 2) nd rfl (Or.inl rfl) (a0x (a00 (a0o a9b (a0j (a1g (K := K) (Pm := w.params) rfl rfl) (pv 2) a07 (fun _ _ => rfl)) (a0o op_mul (pv 3) (a0j (a1g (K := K) (Pm := w.params) rfl rfl) (pv 2) a07 (fun _ _ => rfl)))) (a00 (a0j (a1g (K := K) (Pm := w.params) rfl rfl) (pv 2) a07 (fun _ _ => rfl)) a01)))))))
   (a08 (a0d (pv 2))))), ?_⟩
 have hk0 : k0.natAbs ≤ 1000000 := by rw [a3a] at hsab; omega
 refine ⟨_, rfl, .inl (.inr (.inl ⟨p, _, 0, .int g.1, rfl, rfl, SqT.of hp', rfl, ?_⟩))⟩
 refine ⟨_, rfl, .inl (.inl ⟨a, _, 0, .int k0, rfl, rfl, SqL.of ha, atI_zero rfl, ?_⟩)⟩
 refine ⟨_, rfl, .inl (.inr (.inl ⟨p, _, 1, .int g.2, rfl, rfl, SqT.of hp', rfl, _, _, rfl, rfl, cmul_of (by omega), .inl (.inl ⟨_, _, rfl, rfl, ?_⟩)⟩))⟩
 refine ⟨_, rfl, .inl (.inr (.inl ⟨p, _, 1, .int g.2, rfl, rfl, SqT.of hp', rfl, ?_⟩))⟩
 refine ⟨a0u, fun r hr' => ?_⟩
 have s0 : a0r H (upd H r (.tup [.int (g.1 + k0 * g.2), .int g.2])) := a06 hr' _
 refine ⟨_, rfl, _, rfl, .inr ⟨a, _, rfl, SqL.of (s0 _ _ ha), fun l hl => ?_⟩⟩
 have e1 : a8i (iV (k0 :: ks)) (some 1) none = iV ks := by
  have := a4n (iV (k0 :: ks)) (n := 1) (by rw [a7y]; simp)
  exact this
 rw [e1]
 refine ⟨l, rfl, ⟨_, SqL.of a02⟩, ?_⟩
 have s1 := a06 (o := .lst (iV ks)) hl
 have eL := @a02 (upd H r (.tup [.int (g.1 + k0 * g.2), .int g.2])) l (.lst (iV ks))
 have eR := s1 r _ a02
 have s01 := s0.trans s1
 generalize upd (upd H r (.tup [.int (g.1 + k0 * g.2), .int g.2])) l (.lst (iV ks)) = H1 at *
 refine a3e (a4o.list (xs := iV ks)) (fun i σ' H' => a0r H1 H' ∧ ∃ t l', σ' = [some (.ref a), some (.ref p), some (.ref t), l'] ∧ H' t = some (fT (post (ks.take i) (sh k0 g)))) ⟨a0r.refl _, r, _, rfl, eR⟩ (fun i σ' H' _ h => SqL.of (h.1 _ _ eL)) ?_ ?_
 ·rintro i x σ' H' hx ⟨hs, t, l', rfl, ht⟩
  unfold iV at hx
  rw [List.getElem?_map] at hx
  cases e : ks[i]? with
  | none => rw [e] at hx; cases hx
  | some m =>
   rw [e] at hx
   cases hx
   have hm : m.natAbs ≤ 1000000 := by
    have := sab_mem (List.mem_of_getElem? e)
    rw [a3a] at hsab
    omega
   have et : ks.take (i + 1) = ks.take i ++ [m] := by rw [List.take_add_one, e]; rfl
   have ep : post (ks.take (i + 1)) (sh k0 g) = sh m (mv 114 (post (ks.take i) (sh k0 g))) := by
    rw [et]
    unfold post
    rw [List.foldl_append]
    rfl
   rw [ep]
   generalize post (ks.take i) (sh k0 g) = h at ht ⊢
   have ht' : H' t = some (.tup [.int h.1, .int h.2]) := ht
   refine ⟨_, rfl, .inl (.inr (.inl ⟨t, _, 0, _, rfl, rfl, SqT.of ht', rfl, ?_⟩))⟩
   refine ⟨_, rfl, .inl (.inr (.inl ⟨t, _, 1, _, rfl, rfl, SqT.of ht', rfl, ?_⟩))⟩
   refine ⟨h, rfl, fun p2 H2 s2 hp2 => ?_⟩
   generalize mv 114 h = h2 at hp2 ⊢
   have hp2' : H2 p2 = some (.tup [.int h2.1, .int h2.2]) := hp2
   refine ⟨_, rfl, .inl (.inr (.inl ⟨p2, _, 0, .int h2.1, rfl, rfl, SqT.of hp2', rfl, ?_⟩))⟩
   refine ⟨_, rfl, _, rfl, .inl (.inr (.inl ⟨p2, _, 1, .int h2.2, rfl, rfl, SqT.of hp2', rfl, _, _, rfl, rfl, cmul_of (by omega), .inl (.inl ⟨_, _, rfl, rfl, ?_⟩)⟩))⟩
   refine ⟨_, rfl, .inl (.inr (.inl ⟨p2, _, 1, .int h2.2, rfl, rfl, SqT.of hp2', rfl, ?_⟩))⟩
   refine ⟨a0u, fun p3 hp3 => ?_⟩
   exact ⟨hs.trans (s2.trans (a06 hp3 _)), p3, _, rfl, a02⟩
 ·rintro σ' H' ⟨hs, t, l', rfl, ht⟩
  refine ⟨_, rfl, q t H' (s01.trans hs) ?_⟩
  rw [ht, a7y, List.take_length]
  rfl
abbrev a2t : Stmt := top 49
theorem a7r : a0c ["pair", "runs", "second"] ["pair"] (a03 a2t) := ⟨rfl, rfl, rfl, by decide +kernel, rfl, by decide +kernel, by decide +kernel⟩
theorem ac4 (F : Fun K "runs_of_pair" "runs_of_pair" a2t f fd) (c_runs_to_end : Callee P w K mg base k "runs_to_end" ["fraction"] spRuns) (c_follow_runs : Callee P w K mg base k "follow_runs" ["runs", "fraction"] a7o) (c_joined : Callee P w K mg base k "joined" ["one", "other"] spJoined) : a1u P w K mg base CX0 (k + 1) f fd ["pair"] aa5 := by
 refine F.ok a7r (fun vs H Q E h => ?_) (fun cdv A outer s H vs Q E hr h => ?_)
 ·obtain ⟨p, g, h', rfl, _⟩ := h; rfl
 obtain ⟨p, g, h, rfl, ⟨a, b, hp, ha, hb⟩, Ng, Nh, hne, q⟩ := h
 have nd := a7r.nd
 refine ⟨_, (a04 (a0f (i := 1) nd rfl (Or.inl rfl) (a05 c_runs_to_end hr rfl (a00 (a0j (a0e (K := K) rfl) (pv 0) a07 (fun _ _ => rfl)) a01)))
   (a04 (a0f (i := 2) nd rfl (Or.inl rfl) (a05 c_follow_runs hr rfl (a00 (pv 1) (a00 (a0j (a0e (K := K) rfl) (pv 0) a07 (fun _ _ => rfl)) a01))))
   (a08 (a0d (a05 c_joined hr rfl (a00 (pv 1) (a00 (a2a (a00 (a7l a4p (a0o a2p (a0j (a0e (K := K) rfl) (pv 2) a07 (fun _ _ => rfl)) (a0j (a0e (K := K) rfl) (pv 2) a07 (fun _ _ => rfl)))) a01)) a01))))))), ?_⟩
 have qg := Ng.q
 have qh := Nh.q
 have szg : g.2.natAbs < 2 ^ 8000 := Nat.lt_of_lt_of_le (show g.2.natAbs < 2 ^ 1000 by have := Ng.sz; omega) (pow_le (by decide))
 refine ⟨_, rfl, ⟨p, _, 0, .ref a, rfl, rfl, SqT.of hp, rfl, ?_⟩⟩
 refine ⟨a, g, rfl, ha, Ng.F, szg, by omega, fun m H1 ks s1 hm pm sm lm => ?_⟩
 have hb1 := s1 _ _ hb
 refine ⟨_, rfl, _, rfl, ⟨p, _, 1, .ref b, rfl, rfl, SqT.of (s1 _ _ hp), rfl, ?_⟩⟩
 obtain ⟨k0, kr, ek⟩ : ∃ k0 kr, ks ++ [0] = k0 :: kr := by
  cases ks with
  | nil => exact ⟨_, _, rfl⟩
  | cons x r => exact ⟨_, _, rfl⟩
 have hsab : sab (ks ++ [0]) ≤ 200 := by
  have e0 : sab (ks ++ [0]) = sab ks + 0 := by rw [a5o]; rfl
  omega
 have hlen : (ks ++ [0]).length ≤ 202 := by rw [List.length_append]; simp; omega
 have hlk : kr.length ≤ 201 := by rw [ek] at hlen; simp at hlen; omega
 refine ⟨m, b, k0, kr, h, rfl, by rw [← ek]; exact hm, hb1, by rw [← ek]; omega, by omega, fun t H2 s2 ht => ?_⟩
 rw [← ek] at ht
 have eg : act (ks ++ [0]) g = (1, 0) := by rw [aa2, pm]; rfl
 obtain ⟨x, hx⟩ : ∃ x, x = act (ks ++ [0]) h := ⟨_, rfl⟩
 rw [← hx] at ht
 have xF : IsF x := by rw [hx]; exact act_F Nh.F
 have wl : (spell (ks ++ [0])).length ≤ 402 := by have := a7n (ks ++ [0]); omega
 have hxw : x = walk (spell (ks ++ [0])) h := by rw [hx, a2e]
 have x0 : x.2 ≠ 0 := by
  intro z
  refine hne (walk_inj (abb (ks ++ [0])) Ng.F Nh.F ?_)
  rw [a2e, eg, ← hxw]
  exact (F_fin xF z).symm
 have xp : 0 < x.2 := F_pos xF x0
 have xs : x.1.natAbs + x.2.natAbs + 1 ≤ 2 ^ (402 + 1000) := by rw [hxw]; exact abl wl Nh.sz
 have xlog : x.2.natAbs.log2 < 9000 := log2_lt (Nat.lt_of_lt_of_le (show x.2.natAbs < 2 ^ (402 + 1000) by omega) (pow_le (by decide))) (by decide)
 have xq : qf x ≤ 602 := by rw [hxw]; have := qf_walk (spell (ks ++ [0])) Nh.F; omega
 have xf := qf_floor xp
 have ht' : H2 t = some (.tup [.int x.1, .int x.2]) := ht
 refine ⟨_, rfl, _, rfl, ⟨t, _, 0, .int x.1, rfl, rfl, SqT.of ht', rfl, ?_⟩⟩
 refine ⟨_, rfl, ⟨t, _, 1, .int x.2, rfl, rfl, SqT.of ht', rfl, _, _, rfl, rfl, ⟨xp, xlog⟩, _, rfl, big (show 1 ≤ 1000000 by decide), fun l hl => ?_⟩⟩
 have s3 := a06 (o := .lst [.int (-(x.1 / x.2))]) hl
 refine ⟨m, l, ks, 0, -(x.1 / x.2), [], rfl, s3 _ _ (s2 _ _ hm), a02, by omega, by simp, fun d H4 C z D s4 hd hact hs hl' hD => ?_⟩
 have eD := hD rfl
 subst eD
 have e3 : act (C ++ [z]) h = (x.1 % x.2, x.2) := by
  rw [hact h Nh.F, ← hx]
  show sh (-(x.1 / x.2)) x = _
  unfold sh
  refine Prod.ext ?_ rfl
  show x.1 + -(x.1 / x.2) * x.2 = x.1 % x.2
  have := Int.mul_ediv_add_emod x.1 x.2
  have e : -(x.1 / x.2) * x.2 = -(x.2 * (x.1 / x.2)) := by rw [Int.neg_mul, Int.mul_comm]
  omega
 refine q d H4 C z (s1.trans (s2.trans (s3.trans s4))) hd ?_ ?_ ?_ ?_
 ·rw [hact g Ng.F, eg]
  show sh (-(x.1 / x.2)) (1, 0) = (1, 0)
  unfold sh
  simp
 ·rw [e3]
  exact ⟨Int.emod_nonneg _ x0, Int.emod_lt_of_pos _ xp⟩
 ·have e4 : sab [-(x.1 / x.2)] = (x.1 / x.2).natAbs := by rw [a3a]; simp [sab]
  rw [e4] at hs
  omega
 ·simp only [List.length_cons, List.length_nil] at hl'
  omega
abbrev a77 : Stmt := top 50
theorem sc_is_pair : a0c ["value"] ["value"] (a03 a77) := ⟨rfl, rfl, rfl, by decide +kernel, rfl, by decide +kernel, by decide +kernel⟩
theorem ok_is_pair (G : Glo mg) (F : Fun K "is_pair" "is_pair" a77 f fd) (c_is_fraction : Callee P w K mg base k "is_fraction" ["value"] spFrac) : a1u P w K mg base CX0 (k + 1) f fd ["value"] spIsPair := by
 refine F.ok sc_is_pair (fun vs H Q E h => ?_) (fun cdv A outer s H vs Q E hr h => ?_)
 ·obtain ⟨p, g, h', rfl, _⟩ := h; rfl
 obtain ⟨p, g, h, rfl, ⟨a, b, hp, ha, hb⟩, Fg, Fh, q⟩ := h
 have hu := hr.units
 refine ⟨_, (a08 (a0d (a3d (a0k (a7c (K := K) rfl) rfl G.n_isinstance a0t (a00 (pv 0) (a00 (a6e (v := .ty "tuple") rfl G.n_tuple ab4 rfl) a01))) (a3d (a0z a6f (a0k (a1c (K := K) rfl) rfl G.n_len a3u (a00 (pv 0) a01)) a07 (a0g _)) (a3d (a05 c_is_fraction hr rfl (a00 (a0j (a0e (K := K) rfl) (pv 0) a07 (fun _ _ => rfl)) a01)) (a4j (a05 c_is_fraction hr rfl (a00 (a0j (a0e (K := K) rfl) (pv 0) a07 (fun _ _ => rfl)) a01)))))))), ?_⟩
 refine ⟨_, rfl, .inl ⟨_, _, _, _, rfl, .tup hp, a5n "tuple", _, rfl, a7k ?_⟩⟩
 refine ⟨_, rfl, .ref p, 2, rfl, .inr ⟨_, SqT.of hp, rfl⟩, ⟨rfl, _, rfl, a7k ?_⟩⟩
 refine ⟨_, rfl, ⟨p, _, 0, .ref a, rfl, rfl, SqT.of hp, rfl, a, g, rfl, ha, Fg, fun H1 s1 => ⟨_, rfl, a7k ?_⟩⟩⟩
 exact ⟨_, rfl, ⟨p, _, 1, .ref b, rfl, rfl, SqT.of (s1 _ _ hp), rfl, b, h, rfl, s1 _ _ hb, Fh, fun H2 s2 => q _ (s1.trans s2)⟩⟩
abbrev s_led : Stmt := top 51
theorem sc_led : a0c ["pair", "other", "there", "here"] ["pair", "other"] (a03 s_led) := ⟨rfl, rfl, rfl, by decide +kernel, rfl, by decide +kernel, by decide +kernel⟩
theorem ok_led {CL CP : Addr} (F : Fun K "led" "led" s_led f fd) (c_is_pair : Callee P w K mg base (k + 1) "is_pair" ["value"] spIsPair) (c_runs_of_pair : Callee P w K mg base (k + 1) "runs_of_pair" ["pair"] aa5) (c_follow_runs : Callee P w K mg base (k + 1) "follow_runs" ["runs", "fraction"] a7o) (c_backwards : Callee P w K mg base (k + 1) "backwards" ["runs"] abj) (c_joined : Callee P w K mg base (k + 1) "joined" ["one", "other"] spJoined) (c_spelled : Callee P w K mg base (k + 1) "spelled" ["runs"] spSpelled)
  (c_Led : Maker P w K mg base k "Led" CL ["self", "word"] (a4q CL "word")) (c_Parts : Maker P w K mg base k "Parts" CP ["self", "there", "back"] (spInit2 CP "there" "back")) : a1u P w K mg base CX0 (k + 2) f fd ["pair", "other"] (spLed CL CP) := by
 refine F.ok sc_led (fun vs H Q E h => ?_) (fun cdv A outer s H vs Q E hr h => ?_)
 ·obtain ⟨p, r, g, h0, g', h', rfl, _⟩ := h; rfl
 obtain ⟨p, r, g, h, g', h', rfl, hp, hrr, Ng, Nh, Ng', Nh', ne, ne', qL, qP⟩ := h
 have nd := sc_led.nd
 have hu := hr.units
 refine ⟨_, (a04 (a1i (PW.pt (pw_or (a1v (a1j (a05 c_is_pair hr rfl (a00 (pv 0) a01)))) (pw_or1 (a1v (a1j (a05 c_is_pair hr rfl (a00 (pv 1) a01))))))) (a08 ps_never) a0m)
   (a04 (a1i (PW.pt (pw_or (a0h (a6u (K := K) hu rfl) (a0j (a0e (K := K) rfl) (pv 0) a07 (fun _ _ => rfl)) (a0j (a0e (K := K) rfl) (pv 0) a07 (fun _ _ => rfl)) (a0g _)) (pw_or1 (a0h (a6u (K := K) hu rfl) (a0j (a0e (K := K) rfl) (pv 1) a07 (fun _ _ => rfl)) (a0j (a0e (K := K) rfl) (pv 1) a07 (fun _ _ => rfl)) (a0g _))))) (a08 ps_never) a0m)
   (a04 (a0f (i := 2) nd rfl (Or.inl rfl) (a05 c_runs_of_pair hr rfl (a00 (pv 0) a01)))
   (a04 (a0f (i := 3) nd rfl (Or.inl rfl) (a05 c_runs_of_pair hr rfl (a00 (pv 1) a01)))
   (a04 (a1i (a0h (a6u (K := K) hu rfl) (a05 c_follow_runs hr rfl (a00 (pv 2) (a00 (a0j (a0e (K := K) rfl) (pv 0) a07 (fun _ _ => rfl)) a01))) (a05 c_follow_runs hr rfl (a00 (pv 3) (a00 (a0j (a0e (K := K) rfl) (pv 1) a07 (fun _ _ => rfl)) a01))) (a0g _)) (a08 (a0d (a3c c_Led hr rfl (a00 (a05 c_spelled hr rfl (a00 (a05 c_joined hr rfl (a00 (pv 2) (a00 (a05 c_backwards hr rfl (a00 (pv 3) a01)) a01))) a01)) a01)))) a0m)
   (a08 (a0d (a3c c_Parts hr rfl (a00 (a05 c_spelled hr rfl (a00 (pv 2) a01)) (a00 (a05 c_spelled hr rfl (a00 (pv 3) a01)) a01)))))))))), ?_⟩
 refine ⟨_, rfl, p, g, h, rfl, hp, Ng.F, Nh.F, fun H1 s1 => ⟨_, rfl, a5a ?_⟩⟩
 refine ⟨_, rfl, r, g', h', rfl, hrr.same s1, Ng'.F, Nh'.F, fun H2 s2 => ⟨_, rfl, a5a ?_⟩⟩
 have t2 := s1.trans s2
 obtain ⟨a, b, ep, ea, eb⟩ := hp.same t2
 obtain ⟨c, d, er, ec, ed⟩ := hrr.same t2
 refine ⟨_, rfl, ⟨p, _, 0, .ref a, rfl, rfl, SqT.of ep, rfl, _, rfl, ⟨p, _, 1, .ref b, rfl, rfl, SqT.of ep, rfl, ⟨fD g, fD h, a2d ea, a2d eb, a1k _, _, rfl, aai (fun z => absurd z ne) fun _ => ?_⟩⟩⟩⟩
 refine ⟨_, rfl, ⟨r, _, 0, .ref c, rfl, rfl, SqT.of er, rfl, _, rfl, ⟨r, _, 1, .ref d, rfl, rfl, SqT.of er, rfl, ⟨fD g', fD h', a2d ec, a2d ed, a1k _, _, rfl, aai (fun z => absurd z ne') fun _ => ?_⟩⟩⟩⟩
 refine ⟨_, rfl, p, g, h, rfl, hp.same t2, Ng, Nh, ne, fun m H3 C z s3 hm am bm sm lm => ?_⟩
 have t3 := t2.trans s3
 refine ⟨_, rfl, r, g', h', rfl, hrr.same t3, Ng', Nh', ne', fun n H4 C' z' s4 hn an bn sn ln => ?_⟩
 obtain ⟨k0, kr, ek⟩ : ∃ k0 kr, C ++ [z] = k0 :: kr := by
  cases C with
  | nil => exact ⟨_, _, rfl⟩
  | cons x r => exact ⟨_, _, rfl⟩
 obtain ⟨l0, lr, el⟩ : ∃ l0 lr, C' ++ [z'] = l0 :: lr := by
  cases C' with
  | nil => exact ⟨_, _, rfl⟩
  | cons x r => exact ⟨_, _, rfl⟩
 have hlk : kr.length ≤ 1000 := by rw [ek] at lm; simp at lm; omega
 have hll : lr.length ≤ 1000 := by rw [el] at ln; simp at ln; omega
 have ep4 := s4 _ _ (s3 _ _ ep)
 have eb4 := s4 _ _ (s3 _ _ eb)
 have er4 := s4 _ _ (s3 _ _ er)
 have ed4 := s4 _ _ (s3 _ _ ed)
 have hm4 := s4 _ _ hm
 refine ⟨_, rfl, _, rfl, ⟨p, _, 1, .ref b, rfl, rfl, SqT.of ep4, rfl, m, b, k0, kr, h, rfl, by rw [← ek]; exact hm4, eb4, by rw [← ek]; omega, by omega, fun x H5 s5 hx => ?_⟩⟩
 refine ⟨_, rfl, _, rfl, ⟨r, _, 1, .ref d, rfl, rfl, SqT.of (s5 _ _ er4), rfl, n, d, l0, lr, h', rfl, by rw [← el]; exact s5 _ _ hn, s5 _ _ ed4, by rw [← el]; omega, by omega, fun y H6 s6 hy => ?_⟩⟩
 rw [← ek] at hx
 rw [← el] at hy
 have t6 := t3.trans (s4.trans (s5.trans s6))
 have hm6 := s6 _ _ (s5 _ _ hm4)
 have hn6 := s6 _ _ (s5 _ _ hn)
 refine ⟨fD (act (C ++ [z]) h), fD (act (C' ++ [z']) h'), a2d (s6 _ _ hx), a2d hy, a1k _, _, rfl, aai (fun e => ?_) fun e => ?_⟩
 ·refine ⟨_, rfl, _, rfl, n, C' ++ [z'], rfl, hn6, by omega, fun l H7 s7 hl => ?_⟩
  rw [a8u] at hl
  have lC : C.length ≤ 1000 := by simp at lm; omega
  have lC' : C'.length ≤ 1000 := by simp at ln; omega
  refine ⟨m, l, C, z, -z', bw C', rfl, s7 _ _ hm6, hl, by omega, by rw [bw_len]; omega, fun j H8 A x B s8 hj hact hsab hlen _ => ?_⟩
  have e2 : sab (-z' :: bw C') = sab (C' ++ [z']) := by
   rw [← a8u, sab_bw]
  have e3 : (-z' :: bw C').length = (C' ++ [z']).length := by rw [← a8u, bw_len]
  rw [e2] at hsab
  rw [e3] at hlen
  refine ⟨j, A ++ x :: B, rfl, hj, by omega, by omega, fun H9 s9 => ?_⟩
  intro o dx no ndx _
  refine ⟨o, dx, _, rfl, a02, rfl, ?_⟩
  rw [a2c]
  refine qL o _ _ (t6.trans (s7.trans (s8.trans (s9.trans (a2b no ndx))))) ⟨dx, a02⟩ ⟨abb _, ?_, ?_, ?_⟩
  ·have := a7n (A ++ x :: B)
   omega
  ·rw [a2e, hact g Ng.F, am, ← an, ← a8u]
   exact act_back Ng'.F
  ·rw [a2e, hact h Nh.F, e, ← a8u]
   exact act_back Nh'.F
 ·refine ⟨_, rfl, m, C ++ [z], rfl, hm6, by omega, by omega, fun H7 s7 => ?_⟩
  refine ⟨_, rfl, n, C' ++ [z'], rfl, s7 _ _ hn6, by omega, by omega, fun H8 s8 => ?_⟩
  intro o dx no ndx _
  refine ⟨o, dx, _, _, rfl, a02, rfl, ?_⟩
  rw [a2c]
  have w1 := a7n (C ++ [z])
  have w2 := a7n (C' ++ [z'])
  refine qP o _ _ _ (t6.trans (s7.trans (s8.trans (a2b no ndx)))) ⟨dx, a02⟩ ⟨abb _, abb _, by omega, by omega, ?_, ?_, ?_, ?_, ?_⟩
  ·rw [a2e]; exact am
  ·rw [a2e]; exact an
  ·rw [a2e]; exact bm
  ·rw [a2e]; exact bn
  ·rw [a2e, a2e]; exact e
end
end K08
namespace K08
open PySem L2 TW TX
seal L2.PE L2.PT L2.PA L2.PS L2.PSs L2.PI L2.PG L2.PGs L2.PPs L2.PW L2.PTs L2.PO
section
variable {P : Program} {w : World} {K : PySem.W.Frag} {mg : Str → Option Value} {base : Heap} {f : Addr} {fd : FuncData} {k : Nat}
abbrev a5x : Stmt := top 62
theorem abr : a0c ["beats", "beat", "both"] ["beats", "beat"] (a03 a5x) := ⟨rfl, rfl, rfl, by decide +kernel, rfl, by decide +kernel, by decide +kernel⟩
theorem ok_add_beat (cT : Together K mg w.params) (F : Fun K "add_beat" "add_beat" a5x f fd) : a1u P w K mg base CX0 (k + 1) f fd ["beats", "beat"] abk := by
 refine F.ok abr (fun vs H Q E h => ?_) (fun cdv A outer s H vs Q E hr h => ?_)
 ·obtain ⟨l, B, b, rfl, _⟩ := h; rfl
 obtain ⟨l, B, b, rfl, hl, hB, q⟩ := h
 obtain ⟨aT, es, n, gT, lk, kl, sm, t0, hT⟩ := cT
 have nd := abr.nd
 refine ⟨_, (a04 (a0f (i := 2) nd rfl (Or.inl rfl) (a5m (pt_truth (pv 0) (fun _ => rfl)) (a0o a0s (a0j (a8r (K := K) rfl) (pv 0) (a7l a4p a07) (fun _ _ => rfl)) (pv 1)) a0i))
   (a04 (a1i (a0h (op_notInMK (K := K) (Pm := w.params) rfl rfl) (pv 2) (a2n (v := .ref aT) rfl gT rfl) rfl) (a04 (a1r (a6s PySem.F.plainAttrs_list PySem.F.slot_list_append PySem.F.type_list_append a3h (pv 0) (a00 (pv 1) a01)))
   (a08 ps_retN)) a0m)
   (a04 (a1r (pe_bm0 PySem.F.plainAttrs_list PySem.F.slot_list_pop PySem.F.type_list_pop mt_pop (pv 0)))
   (a08 (a1i (a0h op_ne (a0j (ix_modK (K := K) (Pm := w.params) rfl rfl) (a2n (v := .ref aT) rfl gT rfl) (pv 2) (fun _ _ => rfl)) a0i (a0g _)) (a08 (a1r (a6s PySem.F.plainAttrs_list PySem.F.slot_list_append PySem.F.type_list_append a3h (pv 0) (a00 (a0j (ix_modK (K := K) (Pm := w.params) rfl rfl) (a2n (v := .ref aT) rfl gT rfl) (pv 2) (fun _ _ => rfl)) a01)))) a0m))))), ?_⟩
 refine ⟨_, rfl, _, .inl ⟨_, SqL.of hl, rfl⟩, ?_⟩
 by_cases hn : B = []
 ·subst hn
  refine a5h (fun c => by cases c) (fun _ => ?_)
  refine ⟨_, rfl, aT, es, n, S [], none, rfl, rfl, lk, kl, t0, sm, _, rfl, a5h (fun _ => ?_) (fun c => absurd rfl c)⟩
  refine ⟨_, rfl, .inl ⟨rfl, _, SqL.of hl⟩, _, rfl, l, _, _, rfl, rfl, hl, by rw [aaj]; exact Nat.lt_of_lt_of_le (by decide) (big (Nat.le_refl _)), ?_⟩
  rw [pushB_nil] at q
  exact q
 ·obtain ⟨D, y, rfl⟩ := a9m hn
  have eb : bV (D ++ [y]) = bV D ++ [.str (S (Syl.wd y))] := a81 _ _
  have hlt : (bV (D ++ [y])).length < sizeLine := by
   rw [aaj]
   have := sizeLine_eq
   omega
  have hx := hT y b
  rw [a78] at q
  refine a5h (fun _ => ?_) (fun c => by
   rw [eb] at c
   exact absurd (by simp) c)
  refine ⟨_, rfl, _, rfl, l, _, _, .str (S (Syl.wd y)), rfl, rfl, SqL.of hl, by rw [eb]; exact ab5 _ _, _, rfl, _, _, rfl, rfl, by
   rw [a1a, a1a]
   refine big ?_
   cases y <;> cases b <;> decide, ?_⟩
  rw [a2l]
  cases e : tog y b with
  | none =>
   rw [e] at hx q
   refine ⟨_, rfl, aT, es, n, _, none, rfl, rfl, lk, kl, hx, sm, _, rfl, a5h (fun _ => ?_) (fun c => absurd rfl c)⟩
   refine ⟨_, rfl, .inl ⟨rfl, _, SqL.of hl⟩, _, rfl, l, _, _, rfl, rfl, hl, hlt, ?_⟩
   have e2 : bV (D ++ [y]) ++ [V.str (S (Syl.wd b))] = bV (D ++ [y, b]) := by rw [← bV_one, ← a81, List.append_assoc]; rfl
   rw [e2]
   exact q
  | some v =>
   rw [e] at hx q
   obtain ⟨t, ht⟩ := hx
   refine ⟨_, rfl, aT, es, n, _, some _, rfl, rfl, lk, kl, ht, sm, _, rfl, a5h (fun c => by cases c) (fun _ => ?_)⟩
   refine ⟨_, rfl, .inl ⟨rfl, _, SqL.of hl⟩, l, _, .str (S (Syl.wd y)), rfl, rfl, hl, by rw [eb]; exact a9j _ _, ?_⟩
   rw [eb, List.dropLast_concat]
   refine ⟨_, rfl, aT, es, n, _, .str (S (tw v.toList)), _, rfl, rfl, lk, kl, ht, ⟨t, rfl⟩, rfl, _, rfl, ?_⟩
   cases v with
   | none => exact a5h (fun c => absurd c (by decide +kernel)) (fun _ => q)
   | some v =>
    refine a5h (fun _ => ?_) (fun c => absurd (by
     rw [Bool.not_eq_true', decide_eq_false_iff_not]
     intro z
     injection z with z
     have e3 : tw (some v).toList = Syl.wd v := tw_one v
     rw [e3] at z
     exact wd_ne v z) c)
    refine ⟨_, rfl, .inl ⟨rfl, _, SqL.of a02⟩, _, rfl, aT, es, n, _, .str (S (tw (some v).toList)), _, rfl, rfl, lk, kl, ht, ⟨t, rfl⟩, l, _, _, rfl, rfl, a02, ?_, ?_⟩
    ·have := hlt
     rw [eb, List.length_append] at this
     omega
    ·rw [a2c]
     have e3 : bV D ++ [V.str (S (tw (some v).toList))] = bV (D ++ [v]) := by
      show bV D ++ [V.str (S (tw [v]))] = _
      rw [tw_one, a81, bV_one]
     rw [e3]
     exact q
abbrev a5w : Stmt := top 63
theorem abq : a0c ["word", "beats", "letter", "beat"] ["word"] (a03 a5w) := ⟨rfl, rfl, rfl, by decide +kernel, rfl, by decide +kernel, by decide +kernel⟩
theorem ok_beats_of (cB : Beats K mg w.params) (F : Fun K "beats_of" "beats_of" a5w f fd) (c_add_beat : Callee P w K mg base k "add_beat" ["beats", "beat"] abk) : a1u P w K mg base CX0 (k + 1) f fd ["word"] spBeatsOf := by
 refine F.ok abq (fun vs H Q E h => ?_) (fun cdv A outer s H vs Q E hr h => ?_)
 ·obtain ⟨u, rfl, _⟩ := h; rfl
 obtain ⟨u, rfl, hw, lu, q⟩ := h
 obtain ⟨aB, es, n, gB, lk, kl, hB⟩ := cB
 have nd := abq.nd
 refine ⟨_, (a04 (a0f (i := 1) nd rfl (Or.inl rfl) (a2a a01))
   (a04 (a3b PassesOwn.never rfl (aby (pv 0)) (a0q (i := 2) nd rfl (Or.inl rfl)) (a08 (a3b PassesOwn.never rfl (pi_tup (a0j (ix_modK (K := K) (Pm := w.params) rfl rfl) (a2n (v := .ref aB) rfl gB rfl) (pv 2) (fun _ _ => rfl))) (a0q (i := 3) nd rfl (Or.inl rfl)) (a08 (a1r (a05 c_add_beat hr rfl (a00 (pv 1) (a00 (pv 3) a01))))))))
   (a08 (a0d (pv 1))))), ?_⟩
 refine ⟨Nat.zero_le _, fun l hl => ?_⟩
 refine ⟨_, rfl, _, rfl, ?_⟩
 refine a3e (Ok := fun _ => True) a4o.str (fun i σ' H' => a0r H H' ∧ (∃ l2 l3, σ' = [some (.str (S u)), some (.ref l), l2, l3]) ∧ H' l = some (.lst (bV (a3z (u.take i))))) ⟨a06 hl _, ⟨_, _, rfl⟩, a02⟩ (fun _ _ _ _ _ => trivial) ?_ ?_
 ·rintro i x σ' H1 hx ⟨s1, ⟨l2, l3, rfl⟩, h1⟩
  obtain ⟨c, hc, rfl⟩ := sg_at hx
  obtain ⟨b, nb, tb⟩ := hB c (hw c (List.mem_of_getElem? hc))
  refine ⟨_, rfl, aB, es, n, _, .ref b, _, rfl, rfl, lk, kl, nb, rfl, b, rfl, ⟨_, tb _⟩, ?_⟩
  refine a3e a4o.tup (fun j σ' H' => a0r H H' ∧ (∃ l3, σ' = [some (.str (S u)), some (.ref l), some (.str (S [c])), l3]) ∧ H' l = some (.lst (bV (((bts c).take j).foldl a6i (a3z (u.take i)))))) ⟨s1, ⟨_, rfl⟩, h1⟩ (fun _ _ _ _ _ => tb _) ?_ ?_
  ·rintro j y σ' H2 hy ⟨s2, ⟨l4, rfl⟩, h2⟩
   unfold bV at hy
   obtain ⟨cc, hcc, rfl⟩ := sV_at hy
   rw [List.getElem?_map] at hcc
   cases e : (bts c)[j]? with
   | none => rw [e] at hcc; cases hcc
   | some z =>
    rw [e] at hcc
    cases hcc
    have hn : (((bts c).take j).foldl a6i (a3z (u.take i))).length ≤ 1000000 := by
     have a1 := fold_push_len ((bts c).take j) (a3z (u.take i))
     have a2 := beats_len (u.take i)
     have a3 : (u.take i).length ≤ u.length := by rw [List.length_take]; omega
     have a4 : ((bts c).take j).length ≤ (bts c).length := by rw [List.length_take]; omega
     have := bts_len c
     omega
    refine ⟨_, rfl, _, rfl, l, _, z, rfl, h2, hn, s2.up hl, ⟨_, rfl⟩, ?_⟩
    rw [a02, List.take_add_one, e, List.foldl_append]
    rfl
  ·rintro σ' H2 ⟨s2, ⟨l4, rfl⟩, h2⟩
   refine ⟨s2, ⟨_, _, rfl⟩, ?_⟩
   rw [h2, aaj, List.take_length, take_snoc hc, beats_snoc]
 ·rintro σ' H1 ⟨s1, ⟨l2, l3, rfl⟩, h1⟩
  refine ⟨_, rfl, q l H1 hl s1 ?_⟩
  rw [h1, a2s]
  show some (HO.lst (bV (a3z (u.take (S u).length)))) = _
  rw [a1a, List.take_length]
abbrev a1w : Stmt := top 64
theorem a6y : a0c ["dance", "beats", "first"] ["dance"] (a03 a1w) := ⟨rfl, rfl, rfl, by decide +kernel, rfl, by decide +kernel, by decide +kernel⟩
theorem a9x (G : Glo mg) (F : Fun K "word_and_round" "word_and_round" a1w f fd) (c_beats_of : Callee P w K mg base k "beats_of" ["word"] spBeatsOf) (c_add_beat : Callee P w K mg base k "add_beat" ["beats", "beat"] abk) : a1u P w K mg base CX0 (k + 1) f fd ["dance"] spWR := by
 refine F.ok a6y (fun vs H Q E h => ?_) (fun cdv A outer s H vs Q E hr h => ?_)
 ·obtain ⟨u, rfl, _⟩ := h; rfl
 obtain ⟨u, rfl, hw, lu, q⟩ := h
 have nd := a6y.nd
 refine ⟨_, (a04 (a0f (i := 1) nd rfl (Or.inl rfl) (a05 c_beats_of hr rfl (a00 (pv 0) a01)))
   (a04 (a0f (i := 2) nd rfl (Or.inl rfl) a07)
   (a04 (ab2 PassesOwn.never (PW.pt (pw_and (a0h op_gt (a0o op_sub (a0k (a1c (K := K) rfl) rfl G.n_len a3u (a00 (pv 1) a01)) (pv 2)) a07 (a0g _)) (pw_and1 (PW.pt (pw_or (a0h op_ne (a0j (a8r (K := K) rfl) (pv 1) (pv 2) (fun _ _ => rfl)) a0i (a0g _)) (pw_or1 (a0h a6f (a0j (a8r (K := K) rfl) (pv 1) (a7l a4p a07) (fun _ _ => rfl)) a0i (a0g _)))))))) (a04 (a1r (a05 c_add_beat hr rfl (a00 (pv 1) (a00 (a0j (a8r (K := K) rfl) (pv 1) (pv 2) (fun _ _ => rfl)) a01))))
   (a08 (ps_aug (i := 2) nd rfl (Or.inl rfl) a07 ip_add (Or.inl rfl)))))
   (a08 (a0d (a0x (a00 (a6s PySem.F.plainAttrs_str PySem.F.slot_str_join PySem.F.type_str_join a7f a0i (a00 (a0v (a91 (K := K) rfl) (pv 1) a1l (a1b (pv 2))) a01)) (a00 (a6s PySem.F.plainAttrs_str PySem.F.slot_str_join PySem.F.type_str_join a7f a0i (a00 (a0v (a91 (K := K) rfl) (pv 1) (a1b (pv 2)) a1l) a01)) a01)))))))), ?_⟩
 refine ⟨_, rfl, u, rfl, hw, lu, fun l H1 hl s1 h1 => ?_⟩
 have hb0 := beats_len u
 refine aax (fun σ' H' => a0r H H' ∧ ∃ (A C : List Syl), σ' = [some (.str (S u)), some (.ref l), some (.int (A.length : Nat))] ∧ H' l = some (.lst (bV (A ++ C))) ∧ Cj u (tw A) (tw C) ∧ alt C ∧ A.length + mu C ≤ 4 * u.length + 1)
  (fun σ' _ => match σ' with | [_, _, some (.int n)] => (4 * (u.length : Int) + 2 - n).toNat | _ => 0) ⟨s1, [], a3z u, rfl, h1, fun f hf => (beats_walk hw hf).symm, beats_alt u, ?_⟩ ?_
  (mo_and (a6w (a7w mo_rI0 (a7w mo_rI0 (mo_len (a2z a5j a7x)) a5j) acy)) (mo_or (a6w (a7w mo_ne (a7w mo_ixL a5j a5j) acy)) (a6w (a7w mo_eq (a7w mo_ixL a5j (mo_un mo_rU acy)) acy))))
 ·have := mu_le (a3z u)
  simp only [List.length_nil]
  omega
 rintro σ' H2 ⟨s2, A, C, rfl, h2, hcj, halt, hmu⟩
 have hge := mu_ge C
 have hlen : ((bV (A ++ C)).length : Int) - (A.length : Int) = (C.length : Int) := by
  rw [aaj, List.length_append]
  omega
 have fin : (C.length ≤ 1 ∨ (C.head? = some Syl.r ∧ C.getLast? ≠ some Syl.r)) → ∀ (R : V → Hp → Prop), (∀ t H', a0r H H' → H' t = some (.tup [.str (S (tw A)), .str (S (tw C))]) → R (.ref t) H') →
   (tTup (tCons (tBM K "str" (rJoin K) (tC (.str "")) (tCons (tSl (rSlL K) (tVar 1) tNoPart (tPart (tVar 2))) tNil)) (tCons (tBM K "str" (rJoin K) (tC (.str "")) (tCons (tSl (rSlL K) (tVar 1) (tPart (tVar 2)) tNoPart) tNil)) tNil))) [some (.str (S u)), some (.ref l), some (.int (A.length : Nat))] H2 R := by
  intro hx R hR
  have lA : A.length ≤ 4 * u.length + 1 := by omega
  have cA : a8i (bV (A ++ C)) none (some (A.length : Int)) = sV (A.map Syl.wd) := by
   rw [acs _ (by rw [aaj, List.length_append]; omega), bV_take, List.take_left' rfl]
   rfl
  have cC : a8i (bV (A ++ C)) (some (A.length : Int)) none = sV (C.map Syl.wd) := by
   rw [a4n _ (by rw [aaj, List.length_append]; omega), bV_drop, List.drop_left' rfl]
   rfl
  have tA := tw_len A
  have tC := tw_len C
  refine ⟨rfl, _, rfl, _, rfl, _, rfl, l, _, rfl, SqL.of h2, fun p hp => ?_⟩
  refine ⟨_, p, (A.map Syl.wd).map S, rfl, rfl, acw a02 cA, aba (by rw [flat_tw]; omega), ?_⟩
  rw [a6n]
  have h3 := a06 hp (.lst (a8i (bV (A ++ C)) none (some (A.length : Int)))) _ _ h2
  refine ⟨rfl, _, rfl, _, rfl, _, rfl, l, _, rfl, SqL.of h3, fun p2 hp2 => ?_⟩
  refine ⟨_, p2, (C.map Syl.wd).map S, rfl, rfl, acw a02 cC, aba (by rw [flat_tw]; omega), ?_⟩
  rw [a6n]
  refine ⟨a0u, fun t ht => hR t _ (((s2.trans (a06 hp _)).trans (a06 hp2 _)).trans (a06 ht _)) ?_⟩
  rw [a02, flat_tw, flat_tw]
 by_cases h1 : C.length ≤ 1
 ·refine ev_and (b := false) (c := false) (fun R r => ⟨_, rfl, _, _, rfl, .inl ⟨_, SqL.of h2, rfl⟩, _, rfl, _, _, rfl, rfl, _, _, rfl, rfl, _, rfl, by rw [hlen, decide_eq_false (by omega)]; exact r⟩) (fun e => by cases e) _ ?_
  refine a5a ?_
  exact fin (.inl h1) _ fun t H' s' h' => q t A C H' s' h' ⟨hcj, exit_Rd halt (.inl h1), by omega, by omega⟩
 ·obtain ⟨b, C', rfl⟩ : ∃ b C', C = b :: C' := by
   cases C with
   | nil => exact absurd (by simp) h1
   | cons b C' => exact ⟨b, C', rfl⟩
  have hC' : C' ≠ [] := by
   intro e
   subst e
   exact h1 (by simp)
  obtain ⟨D, y, rfl⟩ := a9m hC'
  have eAt : atI (bV (A ++ b :: (D ++ [y]))) ((A.length : Nat) : Int) = some (.str (S (Syl.wd b))) := by
   refine a3v ?_
   rw [a81, List.getElem?_append_right (by rw [aaj]; omega), aaj, Nat.sub_self, bV_cons]
   rfl
  have eLast : atI (bV (A ++ b :: (D ++ [y]))) (-1) = some (.str (S (Syl.wd y))) := by
   have e : bV (A ++ b :: (D ++ [y])) = bV (A ++ b :: D) ++ [.str (S (Syl.wd y))] := by
    rw [← bV_one, ← a81]
    congr 1
    simp
   rw [e]
   exact ab5 _ _
  refine ev_and (b := true) (c := (!decide (b = Syl.r)) || decide (y = Syl.r)) (fun R r => ⟨_, rfl, _, _, rfl, .inl ⟨_, SqL.of h2, rfl⟩, _, rfl, _, _, rfl, rfl, _, _, rfl, rfl, _, rfl, by rw [hlen, decide_eq_true (by omega)]; exact r⟩)
   (fun _ => ev_or (fun R r => ⟨_, rfl, _, rfl, l, _, _, .str (S (Syl.wd b)), rfl, rfl, SqL.of h2, eAt, rfl, _, rfl, by rw [eq_r]; exact r⟩) (fun _ R r => ⟨_, rfl, _, rfl, l, _, _, .str (S (Syl.wd y)), rfl, rfl, SqL.of h2, eLast, rfl, _, rfl, by rw [eq_r]; exact r⟩)) _ ?_
  refine a5h (fun c => ?_) (fun c => ?_)
  ·have c' : b ≠ Syl.r ∨ (D ++ [y]).getLast? = some Syl.r := by
    rw [Bool.true_and, Bool.or_eq_true] at c
    rcases c with c | c
    ·exact .inl (by simpa using c)
    ·exact .inr (by simpa using c)
   have hm := turn_mu hC' halt c'
   have hl2 : (A ++ b :: (D ++ [y])).length ≤ 1000000 := by
    rw [List.length_append]
    omega
   refine ⟨_, rfl, _, rfl, _, rfl, l, _, _, .str (S (Syl.wd b)), rfl, rfl, SqL.of h2, eAt, l, A ++ b :: (D ++ [y]), b, rfl, h2, hl2, ?_⟩
   refine ⟨_, rfl, _, _, rfl, rfl, ⟨s2.up hl, A ++ [b], a6i (D ++ [y]) b, ?_, ?_, hcj.turn, pushB_alt (alt_tail halt), ?_⟩, ?_⟩
   ·rw [List.length_append]
    rfl
   ·rw [a02]
    have e : A ++ b :: (D ++ [y]) = (A ++ [b]) ++ (D ++ [y]) := by simp
    rw [e, pushB_app _ _ hC']
   ·rw [List.length_append]
    simp only [List.length_cons, List.length_nil]
    omega
   ·show (4 * (u.length : Int) + 2 - ((A.length : Int) + 1)).toNat < (4 * (u.length : Int) + 2 - (A.length : Int)).toNat
    omega
  ·have c' : (b :: (D ++ [y])).head? = some Syl.r ∧ (b :: (D ++ [y])).getLast? ≠ some Syl.r := by
    rw [Bool.true_and, Bool.or_eq_true] at c
    refine ⟨?_, ?_⟩
    ·have : b = Syl.r := Classical.byContradiction fun z => c (.inl (by simpa using z))
     rw [this]; rfl
    ·intro z
     refine c (.inr ?_)
     have e : (b :: (D ++ [y])).getLast? = some y := by
      rw [← List.cons_append, List.getLast?_append]
      rfl
     rw [e] at z
     simpa using z
   exact fin (.inr c') _ fun t H' s' h' => q t A _ H' s' h' ⟨hcj, exit_Rd halt (.inr c'), by omega, by omega⟩
abbrev a4r : Stmt := top 59
theorem aa8 : a0c ["letters", "steps", "second", "first"] ["letters", "steps"] (a03 a4r) := ⟨rfl, rfl, rfl, by decide +kernel, rfl, by decide +kernel, by decide +kernel⟩
theorem ok_take_pair (G : Glo mg) (F : Fun K "take_pair" "take_pair" a4r f fd) : a1u P w K mg base CX0 (k + 1) f fd ["letters", "steps"] spTake := by
 refine F.ok aa8 (fun vs H Q E h => ?_) (fun cdv A outer s H vs Q E hr h => ?_)
 ·obtain ⟨l, m, a, b, y, zs, rfl, _⟩ := h; rfl
 obtain ⟨l, m, a, b, y, zs, rfl, ne, hl, hm, ly, lz, q⟩ := h
 have nd := aa8.nd
 refine ⟨_, (a04 (a0f (i := 2) nd rfl (Or.inl rfl) (pe_bm0 PySem.F.plainAttrs_list PySem.F.slot_list_pop PySem.F.type_list_pop mt_pop (pv 0)))
   (a04 (a0f (i := 3) nd rfl (Or.inl rfl) (pe_bm0 PySem.F.plainAttrs_list PySem.F.slot_list_pop PySem.F.type_list_pop mt_pop (pv 0)))
   (a08 (a1r (a6s PySem.F.plainAttrs_list PySem.F.slot_list_append PySem.F.type_list_append a3h (pv 1) (a00 (a0x (a00 a0i (a00 (a0k (a1c (K := K) rfl) rfl G.n_len a3u (a00 (pv 0) a01)) (a00 (a0o a0s (pv 3) (pv 2)) a01)))) a01)))))), ?_⟩
 have e1 : lv (y ++ [a, b]) = (lv y ++ [.str (S [a])]) ++ [.str (S [b])] := by
  rw [a79, List.append_assoc]
  rfl
 refine ⟨_, rfl, .inl ⟨rfl, _, SqL.of hl⟩, l, _, .str (S [b]), rfl, rfl, hl, by rw [e1]; exact a9j _ _, ?_⟩
 rw [e1, List.dropLast_concat]
 refine ⟨_, rfl, .inl ⟨rfl, _, SqL.of a02⟩, l, _, .str (S [a]), rfl, rfl, a02, a9j _ _, ?_⟩
 rw [a2c, List.dropLast_concat]
 have hm2 : upd H l (.lst (lv y)) m = some (.lst zs) := by rw [a0p (Ne.symm ne)]; exact hm
 have b1 : But l m H (upd H l (.lst (lv y))) := (But.refl l m H).updL
 have hl2 := @a02 H l (.lst (lv y))
 generalize upd H l (.lst (lv y)) = H2 at *
 refine ⟨_, rfl, .inl ⟨rfl, _, SqL.of hm2⟩, _, rfl, _, _, rfl, .inl ⟨_, SqL.of hl2, rfl⟩, _, rfl, _, rfl, _, _, rfl, rfl, by rw [a1a, a1a]; exact big (show 1 + 1 ≤ 1000000 by decide), a1h, fun p hp => ?_⟩
 have pl : l ≠ p := a0n hl2 hp
 have pm : m ≠ p := a0n hm2 hp
 refine ⟨m, zs, .ref p, rfl, rfl, by rw [a0p pm]; exact hm2, by have := sizeLine_eq; omega, ?_⟩
 refine q p _ (b1.same (a06 hp _)).updM ?_ ?_ a02
 ·rw [a0p ne, a0p pl]
  exact hl2
 ·rw [a0p (Ne.symm pm), a02, lv_len, a2l]
  rfl
abbrev a3x : Stmt := top 60
theorem a7q : a0c ["letters", "steps", "three", "letter", "at", "step"] ["letters", "steps"] (a03 a3x) := ⟨rfl, rfl, rfl, by decide +kernel, rfl, by decide +kernel, by decide +kernel⟩
theorem never_r {x : List Nat} (h : Rr x) (h2 : x.take 3 = [116, 114, 116] ∨ x.take 3 = [117, 114, 117]) : False := by
 obtain ⟨y, rfl⟩ := h
 rcases h2 with h2 | h2 <;> cases h2
theorem ok_turn_over_n (F : Fun K "turn_over" "turn_over" a3x f fd) : a1u P w K mg base CX0 (k + 1) f fd ["letters", "steps"] (spTurn Rr 600000) := by
 refine F.ok a7q (fun vs H Q E h => ?_) (fun cdv A outer s H vs Q E hr h => ?_)
 ·obtain ⟨l, m, x, zs, rfl, _⟩ := h; rfl
 ·obtain ⟨l, m, x, zs, rfl, ne, hR, h3, _⟩ := h
  exact (never_r hR h3).elim
abbrev a85 : Stmt := top 58
theorem sc_settle : a0c ["letters", "steps"] ["letters", "steps"] (a03 a85) := ⟨rfl, rfl, rfl, by decide +kernel, rfl, by decide +kernel, by decide +kernel⟩
theorem ok_settle {R : List Nat → Prop} {N : Nat} (hN : N ≤ 1000000) (cP : PairsOut K mg) (cO : Over K mg w.params) (F : Fun K "settle" "settle" a85 f fd) (c_take_pair : Callee P w K mg base k "take_pair" ["letters", "steps"] spTake) (c_turn_over : Callee P w K mg base k "turn_over" ["letters", "steps"] (spTurn R N)) : a1u P w K mg base CX0 (k + 1) f fd ["letters", "steps"] (spSettle R N) := by
 refine F.ok sc_settle (fun vs H Q E h => ?_) (fun cdv A outer s H vs Q E hr h => ?_)
 ·obtain ⟨l, m, x, zs, rfl, _⟩ := h; rfl
 obtain ⟨l, m, x, zs, rfl, ne, hR, hl, hm, lx, lz, q⟩ := h
 obtain ⟨aP, gP, hP⟩ := cP
 obtain ⟨aO, es, n, bT, bU, gO, lk, kl, sm, x1, x2, f1, f2, hno⟩ := cO
 refine ⟨_, (a08 (a1i (a0h (a9w (K := K) rfl) (a6s PySem.F.plainAttrs_str PySem.F.slot_str_join PySem.F.type_str_join a7f a0i (a00 (a0v (a91 (K := K) rfl) (pv 0) (a1b (a7l a4p a07)) a1l) a01)) (a2n (v := .ref aP) rfl gP rfl) rfl) (a08 (a1r (a05 c_take_pair hr rfl (a00 (pv 0) (a00 (pv 1) a01))))) (a08 (a1i (a0h (op_inMK (K := K) (Pm := w.params) rfl rfl) (a6s PySem.F.plainAttrs_str PySem.F.slot_str_join PySem.F.type_str_join a7f a0i (a00 (a0v (a91 (K := K) rfl) (pv 0) (a1b (a7l a4p a07)) a1l) a01)) (a2n (v := .ref aO) rfl gO rfl) rfl) (a08 (a1r (a05 c_turn_over hr rfl (a00 (pv 0) (a00 (pv 1) a01))))) a0m)))), ?_⟩
 have c2 := cut_lv x 2 (by decide)
 have c3 := cut_lv x 3 (by decide)
 have l2 : ((x.take 2).reverse.map fun c => [c]).flatten.length ≤ 1000000 := by rw [flat1, List.length_reverse, List.length_take]; omega
 have l3 : ((x.take 3).reverse.map fun c => [c]).flatten.length ≤ 1000000 := by rw [flat1, List.length_reverse, List.length_take]; omega
 refine ⟨rfl, _, rfl, _, rfl, _, rfl, l, _, rfl, SqL.of hl, fun p hp => ?_⟩
 refine ⟨_, p, _, rfl, rfl, acw a02 c2, aba l2, ?_⟩
 rw [a6n, flat1]
 have s1 := a06 hp (.lst (a8i (lv x.reverse) (some (-(2 : Nat) : Int)) none))
 have hl1 := s1 _ _ hl
 have hm1 := s1 _ _ hm
 refine ⟨aP, _, rfl, .inr (hP _), rfl, flat_sV _, _, rfl, ?_⟩
 rw [if_neg Bool.false_ne_true, inV_S]
 refine a5h (fun c => ?_) (fun c => ?_)
 ·have hmem : (x.take 2).reverse ∈ prs := List.contains_iff_mem.mp c
  have es : sett x = x.drop 2 ∧ a2h x = [(false, ((x.length - 2 : Nat) : Int), (x.take 2).reverse)] := by
   unfold sett a2h
   rw [if_pos hmem, if_pos hmem]
   exact ⟨rfl, rfl⟩
  obtain ⟨a, b, y, rfl⟩ := mem_prs hmem
  have er : (b :: a :: y).reverse = y.reverse ++ [a, b] := by simp
  refine ⟨_, rfl, _, rfl, l, m, a, b, y.reverse, zs, rfl, ne, (by rw [← er]; exact hl1), hm1, ?_, by omega, fun p2 H2 b2 e1 e2 e3 => ?_⟩
  ·rw [List.length_reverse]
   simp only [List.length_cons] at lx
   omega
  refine q H2 (a82.same s1 ⟨[.ref p2], b2, ?_, e3, ?_⟩)
  ·rw [es.1]; exact e1
  ·rw [es.2]
   refine ⟨⟨p2, rfl, ?_⟩, trivial⟩
   rw [e2, List.length_reverse]
   rfl
 ·have hnot : ¬ (x.take 2).reverse ∈ prs := fun z => c (List.contains_iff_mem.mpr z)
  refine ⟨rfl, _, rfl, _, rfl, _, rfl, l, _, rfl, SqL.of hl1, fun p3 hp3 => ?_⟩
  refine ⟨_, p3, _, rfl, rfl, acw a02 c3, aba l3, ?_⟩
  rw [a6n, flat1]
  have s2 := a06 hp3 (.lst (a8i (lv x.reverse) (some (-(3 : Nat) : Int)) none))
  have hl2 := s2 _ _ hl1
  have hm2 := s2 _ _ hm1
  by_cases hk : x.take 3 = [116, 114, 116] ∨ x.take 3 = [117, 114, 117]
  ·have hns : ∃ b, PySem.W.nsIn K aO (S (x.take 3).reverse) = some (some (.ref b)) := by
    rcases hk with hk | hk
    ·rw [hk]; exact ⟨_, x1⟩
    ·rw [hk]; exact ⟨_, x2⟩
   obtain ⟨b, hb⟩ := hns
   refine ⟨aO, es, n, _, _, rfl, rfl, lk, kl, hb, sm, _, rfl, a5h (fun _ => ?_) (fun c => absurd rfl c)⟩
   exact ⟨_, rfl, _, rfl, l, m, x, zs, rfl, ne, hR, hk, hl2, hm2, lx, lz, fun H' st => q H' (a82.same (s1.trans s2) st)⟩
  ·have h1 : x.take 3 ≠ [116, 114, 116] := fun z => hk (.inl z)
   have h2 : x.take 3 ≠ [117, 114, 117] := fun z => hk (.inr z)
   refine ⟨aO, es, n, _, _, rfl, rfl, lk, kl, hno _ (take3_ne h1) (take3_ne h2), sm, _, rfl, a5h (fun c => by cases c) (fun _ => ?_)⟩
   obtain ⟨e1, e2⟩ := sett_no hnot h1 h2
   refine q _ (a82.same (s1.trans s2) ⟨[], But.refl _ _ _, ?_, ?_, ?_⟩)
   ·rw [e1]; exact hl2
   ·rw [List.append_nil]; exact hm2
   ·rw [e2]; trivial
theorem ok_turn_over (G : Glo mg) (cO : Over K mg w.params) (F : Fun K "turn_over" "turn_over" a3x f fd) (c_settle : Callee P w K mg base k "settle" ["letters", "steps"] (spSettle Rr 600000)) (c_back : Callee P w K mg base k "back" ["word"] spBack) : a1u P w K mg base CX0 (k + 1) f fd ["letters", "steps"] (spTurn Rall 500000) := by
 refine F.ok a7q (fun vs H Q E h => ?_) (fun cdv A outer s H vs Q E hr h => ?_)
 ·obtain ⟨l, m, x, zs, rfl, _⟩ := h; rfl
 obtain ⟨l, m, x, zs, rfl, ne, _, hk, hl, hm, lx, lz, q⟩ := h
 obtain ⟨aO, es, n, bT, bU, gO, lk, kl, sm, x1, x2, f1, f2, hno⟩ := cO
 obtain ⟨e, d, ov, b4, TA⟩ := turn_as hk x1 x2 f1 f2
 have nd := a7q.nd
 refine ⟨_, (a04 (a0f (i := 2) nd rfl (Or.inl rfl) (a6s PySem.F.plainAttrs_str PySem.F.slot_str_join PySem.F.type_str_join a7f a0i (a00 (a0v (a91 (K := K) rfl) (pv 0) (a1b (a7l a4p a07)) a1l) a01)))
   (a04 (a3b PassesOwn.never rfl (aby (pv 2)) (a0q (i := 3) nd rfl (Or.inl rfl)) (a08 (a1r (pe_bm0 PySem.F.plainAttrs_list PySem.F.slot_list_pop PySem.F.type_list_pop mt_pop (pv 0)))))
   (a04 (a0f (i := 4) nd rfl (Or.inl rfl) (a0k (a1c (K := K) rfl) rfl G.n_len a3u (a00 (pv 0) a01)))
   (a04 (a3b PassesOwn.never rfl (pi_tup (a0j (ix_modK (K := K) (Pm := w.params) rfl rfl) (a2n (v := .ref aO) rfl gO rfl) (pv 2) (fun _ _ => rfl))) (a0q (i := 5) nd rfl (Or.inl rfl)) (a08 (a1r (a6s PySem.F.plainAttrs_list PySem.F.slot_list_append PySem.F.type_list_append a3h (pv 1) (a00 (a0x (a00 (a0j (a0e (K := K) rfl) (pv 5) a07 (fun _ _ => rfl)) (a00 (a0o op_add (pv 4) (a0j (a0e (K := K) rfl) (pv 5) a07 (fun _ _ => rfl))) (a00 (a0j (a0e (K := K) rfl) (pv 5) a07 (fun _ _ => rfl)) a01)))) a01)))))
   (a04 (a1r (a6s PySem.F.plainAttrs_list PySem.F.slot_list_append PySem.F.type_list_append a3h (pv 0) (a00 a0i a01)))
   (a04 (a1r (a05 c_settle hr rfl (a00 (pv 0) (a00 (pv 1) a01))))
   (a04 (a1r (a6s PySem.F.plainAttrs_list PySem.F.slot_list_append PySem.F.type_list_append a3h (pv 0) (a00 (a05 c_back hr rfl (a00 (a0j ix_str (pv 2) a07 (fun _ _ => rfl)) a01)) a01)))
   (a08 (a1r (a6s PySem.F.plainAttrs_list PySem.F.slot_list_append PySem.F.type_list_append a3h (pv 0) (a00 a0i a01))))))))))), ?_⟩
 have c3 := cut_lv x 3 (by decide)
 have l3 : ((x.take 3).reverse.map fun c => [c]).flatten.length ≤ 1000000 := by rw [flat1, List.length_reverse, List.length_take]; omega
 have e3 : (x.take 3).reverse = [e, 114, e] := by rw [TA.tk]; rfl
 have hx3 : 3 ≤ x.length := by
  have := congrArg List.length TA.tk
  rw [List.length_take] at this
  simp only [List.length_cons, List.length_nil] at this
  omega
 refine ⟨rfl, _, rfl, _, rfl, _, rfl, l, _, rfl, SqL.of hl, fun p hp => ?_⟩
 refine ⟨_, p, _, rfl, rfl, acw a02 c3, aba l3, ?_⟩
 rw [a6n, flat1, e3]
 have s1 := a06 hp (.lst (a8i (lv x.reverse) (some (-(3 : Nat) : Int)) none))
 have hl1 := s1 _ _ hl
 have hm1 := s1 _ _ hm
 refine ⟨_, rfl, _, rfl, ?_⟩
 refine a3e (Ok := fun _ => True) a4o.str (fun i σ' H' => (∃ l3, σ' = [some (.ref l), some (.ref m), some (.str (S [e, 114, e])), l3, none, none]) ∧ But l m H H' ∧ H' l = some (.lst (lv (x.drop i).reverse)) ∧ H' m = some (.lst zs)) ⟨⟨_, rfl⟩, (But.refl l m H).same s1, hl1, hm1⟩ (fun _ _ _ _ _ => trivial) ?_ ?_
 ·rintro i y σ' H2 hy ⟨⟨l3, rfl⟩, b2, hl2, hm2⟩
  have hi : i < 3 := by
   have := (List.getElem?_eq_some_iff.mp hy).1
   rwa [a2s] at this
  have ed : x.drop i = x[i]'(by omega) :: x.drop (i + 1) := List.drop_eq_getElem_cons (by omega)
  have ev : lv (x.drop i).reverse = lv (x.drop (i + 1)).reverse ++ [.str (S [x[i]'(by omega)])] := by
   rw [ed, List.reverse_cons, a79]
   rfl
  refine ⟨_, rfl, .inl ⟨rfl, _, SqL.of hl2⟩, l, _, .str (S [x[i]'(by omega)]), rfl, rfl, hl2, by rw [ev]; exact a9j _ _, ⟨_, rfl⟩, b2.updL, ?_, ?_⟩
  ·rw [a02, ev, List.dropLast_concat]
  ·rw [a0p (Ne.symm ne)]; exact hm2
 rintro σ' H2 ⟨⟨l3, rfl⟩, b2, hl2, hm2⟩
 have hl2 : H2 l = some (.lst (lv (x.drop 3).reverse)) := hl2
 have en : (lv (x.drop 3).reverse).length = x.length - 3 := by rw [lv_len, List.length_reverse, List.length_drop]
 refine ⟨_, rfl, _, _, rfl, .inl ⟨_, SqL.of hl2, rfl⟩, ?_⟩
 rw [en]
 obtain ⟨rs, hrs, lrs, har⟩ := TA.four.at
 refine ⟨_, rfl, aO, es, n, _, .ref b4, _, rfl, rfl, lk, kl, TA.ns, rfl, b4, rfl, ⟨_, hrs _⟩, ?_⟩
 refine a3e a4o.tup (fun j σ' H' => (∃ l3 l5, σ' = [some (.ref l), some (.ref m), some (.str (S [e, 114, e])), l3, some (.int ((x.length - 3 : Nat) : Int)), l5]) ∧ But l m H H' ∧ H' l = some (.lst (lv (x.drop 3).reverse)) ∧ ∃ ps, H' m = some (.lst (zs ++ ps)) ∧ a0y H' ps ((ov (x.length - 3)).take j)) ⟨⟨_, _, rfl⟩, b2, hl2, [], by rw [List.append_nil]; exact hm2, trivial⟩ (fun _ _ _ _ _ => hrs _) ?_ ?_
 ·rintro j y σ' H3 hy ⟨⟨l4, l5, rfl⟩, b3, hl3, ps, hm3, hps⟩
  obtain ⟨pj, t, rfl, ht, hT⟩ := har j y hy
  have hlen := hps.len
  have hp4 : ps.length ≤ 4 := by
   rw [hlen, List.length_take, TA.len]
   omega
  refine ⟨_, rfl, .inl ⟨rfl, _, SqL.of hm3⟩, _, rfl, pj, _, _, _, rfl, rfl, hT _, rfl, _, rfl, _, rfl, pj, _, _, _, rfl, rfl, hT _, rfl, _, _, rfl, rfl, _, rfl, pj, _, _, _, rfl, rfl, hT _, rfl, a1h, fun p3 hp3 => ?_⟩
  have pl : l ≠ p3 := a0n hl3 hp3
  have pm : m ≠ p3 := a0n hm3 hp3
  refine ⟨m, zs ++ ps, .ref p3, rfl, rfl, by rw [a0p pm]; exact hm3, by rw [List.length_append]; have := sizeLine_eq; omega, ⟨_, _, rfl⟩, (b3.same (a06 hp3 _)).updM, ?_, ps ++ [.ref p3], ?_, ?_⟩
  ·rw [a0p ne, a0p pl]; exact hl3
  ·rw [a02, List.append_assoc]
  ·have a1 := TA.at_ (x.length - 3) j t ht
   rw [List.take_add_one, a1]
   refine a0y.snoc (a0y.upd (by rw [a0p pm]; exact hm3) (hps.same (a06 hp3 _))) ?_
   rw [a0p (Ne.symm pm), a02]
   rfl
 rintro σ' H3 ⟨⟨l4, l5, rfl⟩, b3, hl3, ps, hm3, hps⟩
 rw [lrs, List.take_of_length_le (by rw [TA.len]; omega)] at hps
 have hp4 : ps.length = 4 := by rw [hps.len, TA.len]
 have ld : (lv (x.drop 3).reverse).length < sizeLine := by
  rw [en]
  have := sizeLine_eq
  omega
 refine ⟨_, rfl, .inl ⟨rfl, _, SqL.of hl3⟩, l, _, _, rfl, rfl, hl3, ld, ?_⟩
 have er : lv (x.drop 3).reverse ++ [V.str "r"] = lv (114 :: x.drop 3).reverse := by
  rw [List.reverse_cons, a79, a7a]
  rfl
 rw [er]
 have hm4 : upd H3 l (.lst (lv (114 :: x.drop 3).reverse)) m = some (.lst (zs ++ ps)) := by rw [a0p (Ne.symm ne)]; exact hm3
 refine ⟨_, rfl, _, rfl, l, m, 114 :: x.drop 3, zs ++ ps, rfl, ne, ⟨_, rfl⟩, a02, hm4, by rw [List.length_cons, List.length_drop]; omega, by rw [List.length_append]; omega, fun H5 st => ?_⟩
 obtain ⟨ps2, b5, hl5, hm5, hs5⟩ := st
 rw [sett_r] at hl5
 rw [steps_r] at hs5
 have hps4 : a0y (upd H3 l (.lst (lv (114 :: x.drop 3).reverse))) ps (ov (x.length - 3)) := a0y.upd hl3 hps
 have hps5 := a0y.but b5 a02 hm4 hps4
 have B5 : But l m H H5 := b3.updL.trans b5
 have lp : (lv (pr (x.drop 3)).reverse).length + 10 < sizeLine := by
  rw [lv_len, List.length_reverse]
  have h1 := pr_len (x.drop 3)
  rw [List.length_drop] at h1
  have := sizeLine_eq
  omega
 refine ⟨_, rfl, .inl ⟨rfl, _, SqL.of hl5⟩, _, rfl, S [e, 114, e], 0, e, rfl, rfl, by rw [a1a]; exact big (show 3 ≤ 1000000 by decide), rfl, [e], rfl, (fun c hc => by rw [List.mem_singleton.mp hc]; exact TA.W), by simp, fun H6 s6 => ?_⟩
 rw [TA.bk]
 refine ⟨l, _, _, rfl, rfl, s6 _ _ hl5, by omega, ?_⟩
 refine ⟨_, rfl, .inl ⟨rfl, _, SqL.of a02⟩, l, _, _, rfl, rfl, a02, by rw [List.length_append]; simp only [List.length_cons, List.length_nil]; omega, ?_⟩
 rw [a2c]
 have hl6 := s6 _ _ hl5
 refine q _ ⟨ps ++ ps2, (B5.same s6).updL, ?_, ?_, ?_⟩
 ·rw [a02, TA.st, List.reverse_cons, List.reverse_cons, a79, a79, a7a]
  rfl
 ·rw [a0p (Ne.symm ne), s6 _ _ hm5, List.append_assoc]
 ·rw [TA.sp]
  exact a0y.upd hl6 ((hps5.append hs5).same s6)
abbrev a4b : Stmt := top 57
theorem a93 : a0c ["word", "letters", "steps", "letter"] ["word"] (a03 a4b) := ⟨rfl, rfl, rfl, by decide +kernel, rfl, by decide +kernel, by decide +kernel⟩
theorem ok_made_plain (F : Fun K "made_plain" "made_plain" a4b f fd) (c_settle : Callee P w K mg base k "settle" ["letters", "steps"] (spSettle Rall 500000)) : a1u P w K mg base CX0 (k + 1) f fd ["word"] spPlain := by
 refine F.ok a93 (fun vs H Q E h => ?_) (fun cdv A outer s H vs Q E hr h => ?_)
 ·obtain ⟨u, rfl, _⟩ := h; rfl
 obtain ⟨u, rfl, hw, lu, q⟩ := h
 have nd := a93.nd
 refine ⟨_, (a04 (a0f (i := 1) nd rfl (Or.inl rfl) (a2a a01))
   (a04 (a0f (i := 2) nd rfl (Or.inl rfl) (a2a a01))
   (a04 (a3b PassesOwn.never rfl (aby (pv 0)) (a0q (i := 3) nd rfl (Or.inl rfl)) (a04 (a1r (a6s PySem.F.plainAttrs_list PySem.F.slot_list_append PySem.F.type_list_append a3h (pv 1) (a00 (pv 3) a01)))
   (a08 (a1r (a05 c_settle hr rfl (a00 (pv 1) (a00 (pv 2) a01)))))))
   (a08 (a0d (a0x (a00 (a6s PySem.F.plainAttrs_str PySem.F.slot_str_join PySem.F.type_str_join a7f a0i (a00 (pv 1) a01)) (a00 (pv 2) a01)))))))), ?_⟩
 refine ⟨Nat.zero_le _, fun l hl => ⟨Nat.zero_le _, fun m hm => ?_⟩⟩
 have ne : l ≠ m := a0n a02 hm
 have hm0 : H m = none := by rw [a0p (Ne.symm ne)] at hm; exact hm
 refine ⟨_, rfl, _, rfl, ?_⟩
 refine a3e (Ok := fun _ => True) a4o.str (fun i σ' H' => (∃ l3, σ' = [some (.str (S u)), some (.ref l), some (.ref m), l3]) ∧ a0r H H' ∧ H' l = some (.lst (lv (mps (u.take i)).2.reverse)) ∧ ∃ ps, H' m = some (.lst ps) ∧ a0y H' ps (mps (u.take i)).1) ⟨⟨_, rfl⟩, (a06 hl _).trans (a06 hm _), by rw [a0p ne, a02]; rfl, [], a02, trivial⟩ (fun _ _ _ _ _ => trivial) ?_ ?_
 ·rintro i y σ' H1 hy ⟨⟨l3, rfl⟩, s1, hl1, ps, hm1, hps⟩
  obtain ⟨c, hc, rfl⟩ := sg_at hy
  obtain ⟨a1, a2⟩ := a8q (u.take i)
  have a3 : (u.take i).length ≤ u.length := by rw [List.length_take]; omega
  have hlen : ps.length ≤ 500000 := by rw [hps.len]; omega
  refine ⟨_, rfl, .inl ⟨rfl, _, SqL.of hl1⟩, _, rfl, l, _, _, rfl, rfl, hl1, by rw [lv_len, List.length_reverse]; have := sizeLine_eq; omega, ?_⟩
  have er : lv (mps (u.take i)).2.reverse ++ [V.str (S [c])] = lv (c :: (mps (u.take i)).2).reverse := by
   rw [List.reverse_cons, a79]
   rfl
  rw [er]
  have hm2 : upd H1 l (.lst (lv (c :: (mps (u.take i)).2).reverse)) m = some (.lst ps) := by rw [a0p (Ne.symm ne)]; exact hm1
  refine ⟨_, rfl, _, rfl, l, m, c :: (mps (u.take i)).2, ps, rfl, ne, trivial, a02, hm2, by rw [List.length_cons]; omega, hlen, fun H2 st => ?_⟩
  obtain ⟨ps2, b2, hl3, hm3, hs3⟩ := st
  have h4 := a0y.but b2 a02 hm2 (a0y.upd hl1 hps)
  have eu : mps (u.take (i + 1)) = ((mps (u.take i)).1 ++ a2h (c :: (mps (u.take i)).2), sett (c :: (mps (u.take i)).2)) := by rw [take_snoc hc, a9e]
  refine ⟨⟨_, rfl⟩, But.out b2 (s1.up hl) hl hm0, ?_, ps ++ ps2, hm3, ?_⟩
  ·rw [eu]; exact hl3
  ·rw [eu]; exact h4.append hs3
 ·rintro σ' H1 ⟨⟨l3, rfl⟩, s1, hl1, ps, hm1, hps⟩
  have eu : u.take (sgV (S u)).length = u := by
   rw [a2s]
   show u.take (S u).length = u
   rw [a1a, List.take_length]
  rw [eu] at hl1 hps
  refine ⟨rfl, _, rfl, _, l, ((mps u).2.reverse.map fun c => [c]).map S, rfl, rfl, acw hl1 (lv_sV _), aba (by rw [flat1, List.length_reverse]; have := (a8q u).2; omega), ?_⟩
  rw [a6n, flat1]
  refine ⟨_, rfl, a0u, fun t ht => ?_⟩
  have st := a06 ht (.tup [V.str (S (mps u).2.reverse), .ref m])
  exact q t m ps _ hm0 (s1.trans st) a02 (st _ _ hm1) (hps.same st)
abbrev a7d : Stmt := top 61
theorem sc_undone : a0c ["steps"] ["steps"] (a03 a7d) := ⟨rfl, rfl, rfl, by decide +kernel, rfl, by decide +kernel, by decide +kernel⟩
theorem ok_undone (G : Glo mg) (F : Fun K "undone" "undone" a7d f fd) : a1u P w K mg base CX0 (k + 1) f fd ["steps"] spUndone := by
 refine F.ok sc_undone (fun vs H Q E h => ?_) (fun cdv A outer s H vs Q E hr h => ?_)
 ·obtain ⟨m, ps, ts, rfl, _⟩ := h; rfl
 obtain ⟨m, ps, ts, rfl, hm, hps, hl, q⟩ := h
 have hu := hr.units
 refine ⟨_, (a08 (a0d (ac2 (ys := []) (js := []) rfl (LcS.to (os := a03 a7d) ⟨rfl, by decide +kernel, by decide +kernel, rfl, by decide +kernel, by decide +kernel, by decide +kernel⟩ rfl rfl) (pi_revl rfl G.n_reversed (a00 (pv 0) a01)) (fun _ _ _ _ => a3t) (fun _ _ _ _ => (a0x (a00 (a5m (a0h a6f (a0j (a0e (K := K) rfl) (pv 0) a07 (fun _ _ => rfl)) a0i (a0g _)) a0i a0i) (a00 (a0j (a0e (K := K) rfl) (pv 0) a07 (fun _ _ => rfl)) (a00 (a0j (a0e (K := K) rfl) (pv 0) a07 (fun _ _ => rfl)) a01)))))))), ?_⟩
 refine ⟨_, rfl, m, _, rfl, SqL.of hm, ?_⟩
 refine lc_rel a4o.revl (fun H' i acc => a0y H' acc ((ts.reverse.map undo1).take i)) (fun H' hs => SqL.of (hs _ _ hm)) (by rw [List.length_reverse, hps.len]; exact big hl) (by rw [List.take_zero]; trivial) (fun i x H' acc Q' hx hs hR hq => ?_) (fun H' p acc hs hp hR hla => ?_)
 ·obtain ⟨p, t, rfl, ht, hp⟩ := (hps.same hs).rev.at hx
  obtain ⟨b, j, pc⟩ := t
  have hp' : H' p = some (.tup [.str (dS b), .int j, .str (S pc)]) := hp
  have et : (ts.reverse.map undo1).take (i + 1) = (ts.reverse.map undo1).take i ++ [undo1 (b, j, pc)] := by
   rw [List.take_add_one, List.getElem?_map, ht]
   rfl
  refine ⟨_, rfl, p, _, 0, .str (dS b), rfl, rfl, SqT.of hp', rfl, rfl, _, rfl, ?_⟩
  rw [dS_out]
  cases b with
  | true =>
   refine a5a ⟨_, rfl, p, _, 1, .int j, rfl, rfl, SqT.of hp', rfl, _, rfl, p, _, 2, .str (S pc), rfl, rfl, SqT.of hp', rfl, a1h, fun r hr' => hq _ _ (a06 hr' _) ?_⟩
   rw [et]
   exact (hR.same (a06 hr' _)).snoc a02
  | false =>
   refine a7k ⟨_, rfl, p, _, 1, .int j, rfl, rfl, SqT.of hp', rfl, _, rfl, p, _, 2, .str (S pc), rfl, rfl, SqT.of hp', rfl, a1h, fun r hr' => hq _ _ (a06 hr' _) ?_⟩
   rw [et]
   exact (hR.same (a06 hr' _)).snoc a02
 ·refine q p acc _ (hs.trans (a06 hp _)) a02 ?_
  have e : (ts.reverse.map undo1).take ps.reverse.length = ts.reverse.map undo1 := List.take_of_length_le (by rw [List.length_map, List.length_reverse, List.length_reverse, hps.len]; exact Nat.le_refl _)
  rw [e] at hR
  exact hR.same (a06 hp _)
abbrev a9p : Stmt := top 67
theorem sc_alike : a0c ["one", "other", "fraction"] ["one", "other"] (a03 a9p) := ⟨rfl, rfl, rfl, by decide +kernel, rfl, by decide +kernel, by decide +kernel⟩
theorem ok_alike {CA CU : Addr} (F : Fun K "alike" "alike" a9p f fd) (c_check_word : Callee P w K mg base (k + 1) "check_word" ["word"] spChkW) (c_telling_fraction : Callee P w K mg base (k + 1) "telling_fraction" ["one", "other"] spTelling) (c_made_plain : Callee P w K mg base (k + 1) "made_plain" ["word"] spPlain) (c_undone : Callee P w K mg base (k + 1) "undone" ["steps"] spUndone)
  (c_Unlike : Maker P w K mg base k "Unlike" CU ["self", "fraction"] (a4q CU "fraction")) (c_Alike : Maker P w K mg base k "Alike" CA ["self", "steps"] (spInitA CA)) : a1u P w K mg base CX0 (k + 2) f fd ["one", "other"] (spAlike CA CU) := by
 refine F.ok sc_alike (fun vs H Q E h => ?_) (fun cdv A outer s H vs Q E hr h => ?_)
 ·obtain ⟨x, y, rfl, _⟩ := h; rfl
 obtain ⟨x, y, rfl, wx, wy, lx, ly, qa, qu⟩ := h
 have nd := sc_alike.nd
 refine ⟨_, (a04 (a1r (a05 c_check_word hr rfl (a00 (pv 0) a01)))
   (a04 (a1r (a05 c_check_word hr rfl (a00 (pv 1) a01)))
   (a04 (a0f (i := 2) nd rfl (Or.inl rfl) (a05 c_telling_fraction hr rfl (a00 (pv 0) (a00 (pv 1) a01))))
   (a04 (a1i (a0h op_notN (pv 2) ac1 (a0g _)) (a08 (a0d (a3c c_Unlike hr rfl (a00 (pv 2) a01)))) a0m)
   (a08 (a0d (a3c c_Alike hr rfl (a00 (a0o op_cat (a0j (a0e (K := K) rfl) (a05 c_made_plain hr rfl (a00 (pv 0) a01)) a07 (fun _ _ => rfl)) (a05 c_undone hr rfl (a00 (a0j (a0e (K := K) rfl) (a05 c_made_plain hr rfl (a00 (pv 1) a01)) a07 (fun _ _ => rfl)) a01))) a01)))))))), ?_⟩
 refine ⟨_, rfl, x, rfl, wx, by omega, fun H1 s1 => ⟨_, rfl, y, rfl, wy, by omega, fun H2 s2 => ?_⟩⟩
 refine ⟨_, rfl, _, rfl, x, y, rfl, fun ea H3 s3 => ?_, fun ea p g H3 s3 hp hg hne => ?_⟩
 ·refine ⟨_, rfl, rfl, _, rfl, a5a ?_⟩
  refine ⟨_, rfl, x, rfl, wx, by omega, fun t1 m1 ps1 H4 n1 s4 h4 hm4 st4 => ?_⟩
  refine ⟨t1, _, 1, _, rfl, rfl, SqT.of h4, rfl, ?_⟩
  refine ⟨_, rfl, y, rfl, wy, by omega, fun t2 m2 ps2 H5 n2 s5 h5 hm5 st5 => ?_⟩
  refine ⟨t2, _, 1, _, rfl, rfl, SqT.of h5, rfl, ?_⟩
  have l1 := (a8q x).1
  have l2 := (a8q y).1
  refine ⟨m2, ps2, (mps y).1, rfl, hm5, st5, by omega, fun m3 ps3 H6 s6 hm6 st6 => ?_⟩
  have z1 := st4.len
  have z3 := st6.len
  rw [List.length_map, List.length_reverse] at z3
  refine ⟨m1, m3, ps1, ps3, rfl, rfl, s6 _ _ (s5 _ _ hm4), hm6, big (by omega), fun m4 n4 => ?_⟩
  intro o dx no ndx _
  have N4 := a06 n4 (.lst (ps1 ++ ps3))
  have M := a2b (o := .own o) (o' := .ins CA dx []) no ndx
  refine ⟨o, dx, m4, ps1 ++ ps3, rfl, a02, M _ _ a02, fun m nm => ⟨rfl, ?_⟩⟩
  have o6 := N4.non no
  have ne : o ≠ m := a0n a02 nm
  have S6 := (N4.trans (M.trans (a06 nm (.lst (ps1 ++ ps3))))).up (o := .ins CA dx [("steps", .ref m)]) o6
  have T6 := s1.trans (s2.trans (s3.trans (s4.trans (s5.trans s6))))
  refine qa ea o dx m (ps1 ++ ps3) _ (T6.trans S6) ((T6.trans (N4.trans M)).non nm) a02 (by rw [a0p (Ne.symm ne), a02]) ?_
  exact ((st4.same (s5.trans s6)).same S6).append (st6.same S6)
 ·refine ⟨_, rfl, rfl, _, rfl, a7k ?_⟩
  refine ⟨_, rfl, fun o dx no ndx _ => ⟨o, dx, _, rfl, a02, rfl, ?_⟩⟩
  rw [a2c]
  have M := a2b (o := .own o) (o' := .ins CU dx [("fraction", .ref p)]) no ndx
  exact qu ea o g _ ((s1.trans (s2.trans s3)).trans M) ⟨dx, p, a02, M _ _ hp⟩ hg hne
abbrev a4x : Stmt := top 68
theorem aab : a0c ["one", "other", "first", "second", "behind"] ["one", "other"] (a03 a4x) := ⟨rfl, rfl, rfl, by decide +kernel, rfl, by decide +kernel, by decide +kernel⟩
theorem ok_elsewhere {CE CR : Addr} (F : Fun K "elsewhere" "elsewhere" a4x f fd) (c_check_word : Callee P w K mg base (k + 1) "check_word" ["word"] spChkW) (c_word_and_round : Callee P w K mg base (k + 1) "word_and_round" ["dance"] spWR) (c_is_same_round : Callee P w K mg base (k + 1) "is_same_round" ["one", "other"] spSameR) (c_made_plain : Callee P w K mg base (k + 1) "made_plain" ["word"] spPlain) (c_back : Callee P w K mg base (k + 1) "back" ["word"] spBack)
  (c_Elsewhere : Maker P w K mg base k "Elsewhere" CE ["self", "word"] (a4q CE "word")) (c_Rounds : Maker P w K mg base k "Rounds" CR ["self", "there", "first", "back", "second"] (spInit4 CR "there" "first" "back" "second")) : a1u P w K mg base CX0 (k + 2) f fd ["one", "other"] (spElse8 CE CR) := by
 refine F.ok aab (fun vs H Q E h => ?_) (fun cdv A outer s H vs Q E hr h => ?_)
 ·obtain ⟨x, y, rfl, _⟩ := h; rfl
 obtain ⟨x, y, rfl, hwx, hwy, lx, ly, qe, qr⟩ := h
 have nd := aab.nd
 refine ⟨_, (a04 (a1r (a05 c_check_word hr rfl (a00 (pv 0) a01)))
   (a04 (a1r (a05 c_check_word hr rfl (a00 (pv 1) a01)))
   (a04 (a0f (i := 2) nd rfl (Or.inl rfl) (a05 c_word_and_round hr rfl (a00 (pv 0) a01)))
   (a04 (a0f (i := 3) nd rfl (Or.inl rfl) (a05 c_word_and_round hr rfl (a00 (pv 1) a01)))
   (a04 (a1i (a1v (a1j (a05 c_is_same_round hr rfl (a00 (a0j (a0e (K := K) rfl) (pv 2) a07 (fun _ _ => rfl)) (a00 (a0j (a0e (K := K) rfl) (pv 3) a07 (fun _ _ => rfl)) a01))))) (a08 (a0d (a3c c_Rounds hr rfl (a00 (a0j (a0e (K := K) rfl) (a05 c_made_plain hr rfl (a00 (a0j (a0e (K := K) rfl) (pv 2) a07 (fun _ _ => rfl)) a01)) a07 (fun _ _ => rfl)) (a00 (a0j (a0e (K := K) rfl) (pv 2) a07 (fun _ _ => rfl)) (a00 (a0j (a0e (K := K) rfl) (a05 c_made_plain hr rfl (a00 (a0j (a0e (K := K) rfl) (pv 3) a07 (fun _ _ => rfl)) a01)) a07 (fun _ _ => rfl)) (a00 (a0j (a0e (K := K) rfl) (pv 3) a07 (fun _ _ => rfl)) a01))))))) a0m)
   (a04 (a0f (i := 4) nd rfl (Or.inl rfl) (a0v a8b (a0j (a0e (K := K) rfl) (pv 3) a07 (fun _ _ => rfl)) a1l (a1b (a6s PySem.F.plainAttrs_str PySem.F.slot_str_find PySem.F.type_str_find mt_find (a0o a0s (a0j (a0e (K := K) rfl) (pv 3) a07 (fun _ _ => rfl)) (a0j (a0e (K := K) rfl) (pv 3) a07 (fun _ _ => rfl))) (a00 (a0j (a0e (K := K) rfl) (pv 2) a07 (fun _ _ => rfl)) a01)))))
   (a08 (a0d (a3c c_Elsewhere hr rfl (a00 (a0j (a0e (K := K) rfl) (a05 c_made_plain hr rfl (a00 (a0o a0s (a0o a0s (a0j (a0e (K := K) rfl) (pv 2) a07 (fun _ _ => rfl)) (a05 c_back hr rfl (a00 (pv 4) a01))) (a05 c_back hr rfl (a00 (a0j (a0e (K := K) rfl) (pv 3) a07 (fun _ _ => rfl)) a01))) a01)) a07 (fun _ _ => rfl)) a01)))))))))), ?_⟩
 refine ⟨_, rfl, x, rfl, hwx, by omega, fun H1 s1 => ⟨_, rfl, y, rfl, hwy, by omega, fun H2 s2 => ⟨_, rfl, x, rfl, hwx, by omega, fun t1 A1 R1 H3 s3 e1 k1 => ⟨_, rfl, y, rfl, hwy, by omega, fun t2 A2 R2 H4 s4 e2 k2 => ?_⟩⟩⟩⟩
 have e1' := s4 _ _ e1
 have T4 := s1.trans (s2.trans (s3.trans s4))
 have a1 := tw_len A1
 have a2 := tw_len A2
 have r1 := tw_len R1
 have r2 := tw_len R2
 have b1 := k1.la
 have b2 := k2.la
 have b3 := k1.lr
 have b4 := k2.lr
 refine ⟨_, rfl, t1, _, 1, _, rfl, rfl, SqT.of e1', rfl, _, rfl, t2, _, 1, _, rfl, rfl, SqT.of e2, rfl, tw R1, tw R2, rfl, by omega, by omega, _, rfl, ?_⟩
 cases es : a5k (tw R1) (tw R2) with
 | false =>
  refine a7k ?_
  refine ⟨_, rfl, t1, _, 0, _, rfl, rfl, SqT.of e1', rfl, tw A1, rfl, tw_W A1, by omega, fun p1 m1 ps1 H5 _ s5 h5 _ _ => ?_⟩
  refine ⟨p1, _, 0, _, rfl, rfl, SqT.of h5, rfl, _, rfl, t1, _, 1, _, rfl, rfl, SqT.of (s5 _ _ e1'), rfl, _, rfl, t2, _, 0, _, rfl, rfl, SqT.of (s5 _ _ e2), rfl, tw A2, rfl, tw_W A2, by omega, fun p2 m2 ps2 H6 _ s6 h6 _ _ => ?_⟩
  refine ⟨p2, _, 0, _, rfl, rfl, SqT.of h6, rfl, _, rfl, t2, _, 1, _, rfl, rfl, SqT.of (s6 _ _ (s5 _ _ e2)), rfl, fun o dx no ndx _ => ⟨o, dx, _, _, _, _, rfl, a02, rfl, ?_⟩⟩
  rw [a2c]
  have l1 := plain_len (tw A1)
  have l2 := plain_len (tw A2)
  refine qr o _ (aae (tw A1)) (aae (tw A2)) R1 R2 ((T4.trans (s5.trans s6)).trans (a2b no ndx)) ⟨dx, a02⟩ ⟨plain_W (tw_W A1), plain_W (tw_W A2), by omega, by omega, by omega, by omega, k1.cj.alike (a9u _), k2.cj.alike (a9u _), k1.rd, k2.rd, es⟩
 | true =>
  refine a5a ?_
  have es2 : a5k (tw R2) (tw R1) = true := by
   obtain ⟨p, q, h1, h2⟩ := (a6b _ _).mp es
   exact (a6b _ _).mpr ⟨q, p, h2, h1⟩
  have hlen : (tw R1).length = (tw R2).length := by
   unfold a5k at es
   rw [Bool.and_eq_true, decide_eq_true_eq] at es
   exact es.1
  cases ho : Builtin.Str.occurrences (S (tw R2 ++ tw R2)) (S (tw R1)) 0 (S (tw R2 ++ tw R2)).length 1 with
  | nil =>
   unfold a5k at es2
   rw [ho, Bool.and_eq_true] at es2
   cases es2.2
  | cons i rest =>
   obtain ⟨i1, i2⟩ := occ_head ho
   obtain ⟨i3, i4⟩ := infix_rot hlen i1 i2
   refine ⟨_, rfl, t2, _, 1, _, rfl, rfl, SqT.of e2, rfl, _, rfl, t2, _, 1, _, rfl, rfl, SqT.of e2, rfl, _, rfl, t2, _, 1, _, rfl, rfl, SqT.of e2, rfl, _, _, rfl, rfl, by rw [a1a]; exact big (by omega), rfl, _, rfl, t1, _, 1, _, rfl, rfl, SqT.of e1', rfl, _, _, rfl, rfl, ?_⟩
   rw [a2l, ho]
   refine ⟨(i : Int), rfl, _, rfl, by rw [a1a]; exact big (by omega), ?_⟩
   rw [S_to (by omega) (by omega), show ((i : Int)).toNat = i by omega]
   have wp : IsW ((tw R2).take i) := fun c hc => tw_W R2 c (List.mem_of_mem_take hc)
   have lp : ((tw R2).take i).length ≤ (tw R2).length := by rw [List.length_take]; omega
   refine ⟨_, rfl, t1, _, 0, _, rfl, rfl, SqT.of e1', rfl, _, rfl, (tw R2).take i, rfl, wp, by omega, fun H5 s5 => ?_⟩
   refine ⟨_, _, rfl, rfl, by rw [a1a, a1a, a2r]; exact big (by omega), _, rfl, t2, _, 0, _, rfl, rfl, SqT.of (s5 _ _ e2), rfl, tw A2, rfl, tw_W A2, by omega, fun H6 s6 => ?_⟩
   refine ⟨_, _, rfl, rfl, by rw [a2l, a1a, a1a, List.length_append, a2r, a2r]; exact big (by omega), ?_⟩
   rw [a2l, a2l]
   have ww : IsW (tw A1 ++ bk ((tw R2).take i) ++ bk (tw A2)) := ((tw_W A1).append (bk_W _)).append (bk_W _)
   have lw : (tw A1 ++ bk ((tw R2).take i) ++ bk (tw A2)).length ≤ 20000 := by
    rw [List.length_append, List.length_append, a2r, a2r]
    omega
   have lw2 : (tw A1 ++ bk ((tw R2).take i) ++ bk (tw A2)).length ≤ 10000 := by
    rw [List.length_append, List.length_append, a2r, a2r]
    omega
   refine ⟨_, rfl, ww, lw, fun t m ps H7 _ s7 h7 _ _ => ?_⟩
   refine ⟨t, _, 0, _, rfl, rfl, SqT.of h7, rfl, fun o dx no ndx _ => ⟨o, dx, _, rfl, a02, rfl, ?_⟩⟩
   rw [a2c]
   have lpl := plain_len (tw A1 ++ bk ((tw R2).take i) ++ bk (tw A2))
   refine qe o _ (aae (tw A1 ++ bk ((tw R2).take i) ++ bk (tw A2))) ((T4.trans (s5.trans (s6.trans s7))).trans (a2b no ndx)) ⟨dx, a02⟩ ⟨plain_W ww, by omega, fun f hf => ?_⟩
   have hx : Cj x (tw A1) ((tw R2).drop i ++ (tw R2).take i) := by rw [← i4]; exact k1.cj
   have hy : Cj y (tw A2) ((tw R2).take i ++ (tw R2).drop i) := by rw [List.take_append_drop]; exact k2.cj
   rw [← begun_same ww (plain_W ww) (a9u _) f hf]
   exact else_word hx hy (tw_W A1) (tw_W A2) wp hf
end
end K08
namespace K08
open PySem L2 TW TX
seal L2.PE L2.PT L2.PA L2.PS L2.PSs L2.PI L2.PG L2.PGs L2.PPs L2.PW L2.PTs L2.PO
section
variable {P : Program} {w : World} {K : PySem.W.Frag} {mg : Str → Option Value} {base : Heap} {f : Addr} {fd : FuncData} {k : Nat}
abbrev a3k : Stmt := top 70
theorem a8d : a0c ["_law_script", "_law_by", "_law_word", "_law_cell"] ["_law_script", "_law_by"] (a03 a3k) := ⟨rfl, rfl, rfl, by decide +kernel, rfl, by decide +kernel, by decide +kernel⟩
theorem ok_law_letters (F : Fun K "_law_letters" "_law_letters" a3k f fd) : a1u P w K mg base CX0 (k + 1) f fd ["_law_script", "_law_by"] (abg K) := by
 refine F.ok a8d (fun vs H Q E h => ?_) (fun cdv A outer s H vs Q E hr h => ?_)
 ·obtain ⟨a, ns, b, rfl, _⟩ := h; rfl
 obtain ⟨a, ns, b, rfl, hS, hl, hb, hb2, q⟩ := h
 have nd := a8d.nd
 refine ⟨_, (a04 (a0f (i := 2) nd rfl (Or.inl rfl) a0i)
   (a04 (a3b PassesOwn.never rfl (a2y (pv 0)) (a0q (i := 3) nd rfl (Or.inl rfl)) (a08 (a0f (i := 2) nd rfl (Or.inl rfl) (a0o a2o (pv 2) (a0j (a1g (K := K) (Pm := w.params) rfl rfl) a0i (a0o a4m (a0o op_fdiv (pv 3) (pv 1)) a07) (fun _ _ => rfl))))))
   (a08 (a0d (pv 2))))), ?_⟩
 refine ⟨_, rfl, a, rfl, ⟨_, hS⟩, ?_⟩
 refine a3e (a4o.list (xs := ns.map V.int)) (fun i σ' H' => H' = H ∧ ∃ l, σ' = [some (.ref a), some (.int b), some (.str (S (letters b (ns.take i)))), l]) ⟨rfl, _, rfl⟩ (fun i σ' H' _ h => by rw [h.1]; exact hS) ?_ ?_
 ·rintro i x σ' H' hx ⟨rfl, l, rfl⟩
  rw [List.getElem?_map] at hx
  cases e : ns[i]? with
  | none => rw [e] at hx; cases hx
  | some n =>
   rw [e] at hx
   cases hx
   refine ⟨_, rfl, _, rfl, _, rfl, _, _, rfl, rfl, ⟨hb, by omega⟩, _, _, rfl, rfl, by show (0 : Int) < 3; decide, .inl (.inr (.inr ⟨_, _, _, rfl, rfl, by decide, tur_at n b, .inr ⟨_, _, rfl, rfl, ?_, rfl, some (.int n), ?_⟩⟩))⟩
   ·rw [a1a, a6g, List.length_take]
    show _ + 1 ≤ sizeLine
    have := sizeLine_eq
    omega
   ·have e2 : ns.take (i + 1) = ns.take i ++ [n] := by rw [List.take_add_one, e]; rfl
    have e3 : S (letters b (ns.take (i + 1))) = S (letters b (ns.take i)) ++ (⟨#[letr (n / b % 3)]⟩ : Str) := by
     rw [e2]
     unfold letters
     rw [List.map_append]
     exact (a2l _ _).symm
    rw [e3]
    rfl
 ·rintro σ' H' ⟨rfl, l, rfl⟩
  refine ⟨_, rfl, ?_⟩
  rw [List.length_map, List.take_length]
  exact q
abbrev a74 : Stmt := top 71
theorem sc_law_two : a0c ["_law_script", "_law_one", "_law_other", "_law_cell", "_law_letter", "_law_piece", "_law_at"] ["_law_script"] (a03 a74) := ⟨rfl, rfl, rfl, by decide +kernel, rfl, by decide +kernel, by decide +kernel⟩
theorem ok_law_two (G : Glo mg) (F : Fun K "_law_two" "_law_two" a74 f fd) : a1u P w K mg base CX0 (k + 1) f fd ["_law_script"] (spTwo K) := by
 refine F.ok sc_law_two (fun vs H Q E h => ?_) (fun cdv A outer s H vs Q E hr h => ?_)
 ·obtain ⟨a, ns, rfl, _⟩ := h; rfl
 obtain ⟨a, ns, rfl, hS, h63, q⟩ := h
 have nd := sc_law_two.nd
 refine ⟨_, (a04 (abx (a0x (a00 a0i (a00 a0i a01))) (pg_tup rfl (a1z (a0q (i := 1) nd rfl (Or.inl rfl)) (a1z (a0q (i := 2) nd rfl (Or.inl rfl)) a8n))))
   (a04 (a3b PassesOwn.never rfl (a2y (pv 0)) (a0q (i := 3) nd rfl (Or.inl rfl)) (a04 (ps_par (i := 4) (j := 5) rfl nd rfl rfl (by decide) rfl rfl (pa_two (pep_strix ix_str (a0o a4m (a0o a2p (pv 3) a07) a07) (fun _ _ => rfl)) (pea_ix ix_tup (pea_tup (a6l ac0 (a6l ac0 (a6l ac0 (a6l ac0 paa_nil))))) (a0o a4m (a0o a2p (pv 3) a07) a07) (fun _ _ => rfl))) rfl)
   (a04 (a0f (i := 6) nd rfl (Or.inl rfl) (a0o a4m (a0o a2p (pv 3) a07) (a0o a2o (a0k (a1c (K := K) rfl) rfl G.n_len a3u (a00 (pv 2) a01)) a07)))
   (a08 (a1i (a0h aaq (a0o a4m (pv 3) a07) a07 (a0g _)) (a08 (ps_par (i := 1) (j := 2) rfl nd rfl rfl (by decide) rfl rfl (a00 (a0o a0s (pv 1) (pv 4)) (a00 (a0o a0s (pv 2) (pv 4)) a01)) rfl)) (a08 (a1i (a0h aaq (a0o a4m (pv 3) a07) a07 (a0g _)) (a08 (a0f (i := 2) nd rfl (Or.inl rfl) (a0o a0s (a0o a0s (a0v a8b (pv 2) a1l (a1b (pv 6))) (pvS 5)) (a0v a8b (pv 2) (a1b (pv 6)) a1l)))) (a08 (ps_ifp (ptp_and (ptp_cmp aaq (pep_opI a4m (pv 3)) a07 (a0g _)) (pw_and1 (a0h ac3 (pvS 5) (pv 1) rfl))) (pssa_one (psa_set (i := 1) nd rfl (Or.inl rfl) (pea_bm PySem.F.plainAttrs_str PySem.F.slot_str_replace PySem.F.type_str_replace mt_repl (pv 1) (a6l (pea_of (pv 5)) (a6l ac0 (a6l (pea_of a07) paa_nil)))))) (a08 (a1i (a0h aaq (a0o a4m (pv 3) a07) a07 (a0g _)) (a08 (a0f (i := 1) nd rfl (Or.inl rfl) (a0o a0s (pv 1) (pvS 5)))) (a08 (a1i (a0h a6f (a0o a4m (a0o a2p (pv 3) a07) a07) a07 (a0g _)) (a08 (a0f (i := 1) nd rfl (Or.inl rfl) (a0o a0s (pv 1) (pv 4)))) a0m)))))))))))))
   (a08 (a0d (a0x (a00 (pv 1) (a00 (pv 2) a01))))))), ?_⟩
 refine ⟨a0u, fun t0 ht0 => ⟨t0, _, rfl, SqT.of a02, rfl, _, _, rfl, _, _, rfl, rfl, ?_⟩⟩
 refine ⟨_, rfl, a, rfl, ⟨_, (a06 ht0 _).seq hS⟩, ?_⟩
 refine a3e (a4o.list (xs := ns.map V.int)) (fun i σ' H' => a0r H H' ∧ ∃ x y c l p j, σ' = [some (.ref a), some (.str (S x)), some (.str (S y)), c, l, p, j] ∧ IsW x ∧ IsW y ∧ x.length ≤ 6 * i ∧ y.length ≤ 6 * i) ⟨a06 ht0 _, [], [], _, _, _, _, rfl, IsW.nil, IsW.nil, by decide, by decide⟩ (fun i σ' H' _ h => h.1.seq hS) ?_ ?_
 ·rintro i e0 σ' H' hx ⟨hs, x, y, c, l, p, j, rfl, wx, wy, lx, ly⟩
  rw [List.getElem?_map] at hx
  cases e : ns[i]? with
  | none => rw [e] at hx; cases hx
  | some n =>
   rw [e] at hx
   cases hx
   have hi : i < 63 := Nat.lt_of_lt_of_le (List.getElem?_eq_some_iff.mp e).1 h63
   refine ⟨_, rfl, _, _, rfl, rfl, ⟨by decide, by decide⟩, _, _, rfl, rfl, by show (0 : Int) < 3; decide, _, _, _, rfl, rfl, by decide, tur_at n 12, ?_⟩
   intro t1 k1 t2 k2 t3 k3 t4 k4
   obtain ⟨pc, t, hpc, ht, hat⟩ := pick4 n 36 t1 t2 t3 t4
   have tn : t ≠ 0 := by rcases ht with rfl | rfl | rfl | rfl <;> assumption
   refine ⟨a6h, fun pt hpt => ⟨_, rfl, _, _, rfl, rfl, ⟨by decide, by decide⟩, _, _, rfl, rfl, by show (0 : Int) < 4; decide, pt, _, _, _, rfl, rfl, SqT.of a02, hat, _, _, rfl, ?_⟩⟩
   have T := hs.trans (a06 hpt (.tup [V.stk "tu" t1, V.stk "ut" t2, V.stk "rr" t3, V.stk "trtrtr" t4]))
   generalize upd H' pt (.tup [V.stk "tu" t1, V.stk "ut" t2, V.stk "rr" t3, V.stk "trtrtr" t4]) = H1 at *
   have L := letr_L (n / 12 % 3)
   generalize letr (n / 12 % 3) = c at L
   refine ⟨_, rfl, _, _, rfl, rfl, ⟨by decide, by decide⟩, _, rfl, .str (S y), y.length, rfl, len_S (by omega), .inl ⟨_, _, rfl, rfl, _, _, rfl, rfl, by show (0 : Int) < (y.length : Int) + 1; omega, ?_⟩⟩
   have j0 := Int.emod_nonneg (n / 144) (show (y.length : Int) + 1 ≠ 0 by omega)
   have j1 := Int.emod_lt_of_pos (n / 144) (show (0 : Int) < (y.length : Int) + 1 by omega)
   obtain ⟨j, hj⟩ : ∃ j, j = n / 144 % ((y.length : Int) + 1) := ⟨_, rfl⟩
   rw [← hj] at j0 j1
   have lp := (a8o hpc).1
   have wl : IsW [c] := IsW.cons L IsW.nil
   refine ⟨_, rfl, _, _, rfl, rfl, by show (0 : Int) < 12; decide, _, _, rfl, rfl, _, rfl, a5h (fun _ => ?_) (fun _ => ?_)⟩
   ·refine ⟨_, rfl, _, rfl, _, _, rfl, rfl, sz2 (c := [c]) (by show _ + 1 ≤ _; omega), _, rfl, _, rfl, _, _, rfl, rfl, sz2 (c := [c]) (by show _ + 1 ≤ _; omega), _, _, rfl, T, x ++ [c], y ++ [c], some (.int n), some (.str (S [c])), some (.stk (S pc) t), some (.int (n / 144 % ((y.length : Int) + 1))), ?_, wx.append wl, wy.append wl, by rw [List.length_append, List.length_singleton]; omega, by rw [List.length_append, List.length_singleton]; omega⟩
    rw [← a2l, ← a2l]
    rfl
   refine ⟨_, rfl, _, _, rfl, rfl, by show (0 : Int) < 12; decide, _, _, rfl, rfl, _, rfl, a5h (fun _ => ?_) (fun _ => ?_)⟩
   ·have hz : (S y).length ≤ sizeLine := by rw [a1a]; exact big (by omega)
    refine ⟨_, rfl, _, rfl, n / 144 % ((y.length : Int) + 1), rfl, _, rfl, hz, ?_⟩
    rw [← hj, S_to (by omega) (by omega)]
    refine ⟨_, _, rfl, _, _, rfl, rfl, sz2 (by rw [List.length_take]; omega), _, rfl, _, rfl, n / 144 % ((y.length : Int) + 1), rfl, _, rfl, hz, ?_⟩
    rw [← hj, S_from (by omega) (by omega), a2l]
    refine ⟨_, _, rfl, rfl, sz2 (by rw [List.length_append, List.length_take, List.length_drop]; omega), T, x, y.take j.toNat ++ pc ++ y.drop j.toNat, some (.int n), some (.str (S [c])), some (.stk (S pc) t), some (.int (n / 144 % ((y.length : Int) + 1))), ?_, wx, ?_, by omega, ?_⟩
    ·rw [a2l]
     rfl
    ·exact (IsW.append (fun d hd => wy d (List.mem_of_mem_take hd)) (pcs_W hpc)).append fun d hd => wy d (List.mem_of_mem_drop hd)
    ·rw [List.length_append, List.length_append, List.length_take, List.length_drop]
     omega
   refine ⟨_, rfl, _, _, rfl, rfl, by show (0 : Int) < 12; decide, _, _, rfl, rfl, _, rfl, a5h (fun _ => ?_) (fun _ => ?_)⟩
   ·refine ⟨_, _, rfl, _, rfl, _, _, rfl, rfl, _, rfl, a5h (fun _ => ?_) (fun _ => ?_)⟩
    ·obtain ⟨z, ez, wz, lz⟩ := repl_word wx (S pc) (S pc).length
     refine ⟨_, rfl, rfl, _, rfl, fun t5 k5 => ⟨_, _, _, _, _, rfl, rfl, pcs_ne hpc, by rw [a1a]; omega, by decide, ?_, ?_⟩⟩
     ·exact ⟨T, x, y, _, _, _, _, rfl, wx, wy, by omega, by omega⟩
     ·rw [ez]
      exact ⟨T, z, y, _, _, _, _, rfl, wz, wy, by omega, by omega⟩
    ·refine ⟨_, rfl, _, _, rfl, rfl, by show (0 : Int) < 12; decide, _, _, rfl, rfl, _, rfl, a5h (fun _ => ?_) (fun _ => ?_)⟩
     ·refine ⟨_, rfl, _, _, rfl, _, _, rfl, rfl, sz2 (by omega), T, x ++ pc, y, some (.int n), some (.str (S [c])), some (.stk (S pc) t), some (.int (n / 144 % ((y.length : Int) + 1))), ?_, wx.append (pcs_W hpc), wy, by rw [List.length_append]; omega, by omega⟩
      rw [← a2l]
      rfl
     ·refine ⟨_, rfl, _, _, rfl, rfl, ⟨by decide, by decide⟩, _, _, rfl, rfl, by show (0 : Int) < 4; decide, rfl, _, rfl, a5h (fun _ => ?_) (fun _ => ?_)⟩
      ·refine ⟨_, rfl, _, rfl, _, _, rfl, rfl, sz2 (c := [c]) (by show _ + 1 ≤ _; omega), T, x ++ [c], y, some (.int n), some (.str (S [c])), some (.stk (S pc) t), some (.int (n / 144 % ((y.length : Int) + 1))), ?_, wx.append wl, wy, by rw [List.length_append, List.length_singleton]; omega, by omega⟩
       rw [← a2l]
       rfl
      ·exact ⟨T, x, y, _, _, _, _, rfl, wx, wy, by omega, by omega⟩
   ·refine ⟨_, rfl, _, _, rfl, rfl, by show (0 : Int) < 12; decide, _, _, rfl, rfl, _, rfl, a5h (fun _ => ?_) (fun _ => ?_)⟩
    ·refine ⟨_, rfl, _, _, rfl, _, _, rfl, rfl, sz2 (by omega), T, x ++ pc, y, some (.int n), some (.str (S [c])), some (.stk (S pc) t), some (.int (n / 144 % ((y.length : Int) + 1))), ?_, wx.append (pcs_W hpc), wy, by rw [List.length_append]; omega, by omega⟩
     rw [← a2l]
     rfl
    ·refine ⟨_, rfl, _, _, rfl, rfl, ⟨by decide, by decide⟩, _, _, rfl, rfl, by show (0 : Int) < 4; decide, rfl, _, rfl, a5h (fun _ => ?_) (fun _ => ?_)⟩
     ·refine ⟨_, rfl, _, rfl, _, _, rfl, rfl, sz2 (c := [c]) (by show _ + 1 ≤ _; omega), T, x ++ [c], y, some (.int n), some (.str (S [c])), some (.stk (S pc) t), some (.int (n / 144 % ((y.length : Int) + 1))), ?_, wx.append wl, wy, by rw [List.length_append, List.length_singleton]; omega, by omega⟩
      rw [← a2l]
      rfl
     ·exact ⟨T, x, y, _, _, _, _, rfl, wx, wy, by omega, by omega⟩
 ·rintro σ' H' ⟨hs, x, y, c, l, p, j, rfl, wx, wy, lx, ly⟩
  rw [List.length_map] at lx ly
  refine ⟨_, rfl, _, rfl, a0u, fun r hr' => ?_⟩
  exact q r x y _ (hs.trans (a06 hr' _)) a02 wx wy (by omega) (by omega)
abbrev a4u : Stmt := top 72
theorem aaa : a0c ["_law_letter", "_law_fraction", "_law_above", "_law_below"] ["_law_letter", "_law_fraction"] (a03 a4u) := ⟨rfl, rfl, rfl, by decide +kernel, rfl, by decide +kernel, by decide +kernel⟩
theorem ok_law_moved (F : Fun K "_law_moved" "_law_moved" a4u f fd) : a1u P w K mg base CX0 (k + 1) f fd ["_law_letter", "_law_fraction"] ab1 := by
 refine F.ok aaa (fun vs H Q E h => ?_) (fun cdv A outer s H vs Q E hr h => ?_)
 ·obtain ⟨c, p, g, rfl, _⟩ := h; rfl
 obtain ⟨c, p, g, rfl, hp, q⟩ := h
 have nd := aaa.nd
 have hu := hr.units
 have hp' : H p = some (.tup [.int g.1, .int g.2]) := hp
 refine ⟨_, (a04 (abx (pv 1) (pg_tup rfl (a1z (a0q (i := 2) nd rfl (Or.inl rfl)) (a1z (a0q (i := 3) nd rfl (Or.inl rfl)) a8n))))
   (a04 (a1i (a0h a6f (pv 0) a0i (a0g _)) (a08 (a0d (a0x (a00 (a0o a2o (pv 2) (pv 3)) (a00 (pv 3) a01))))) a0m)
   (a04 (a1i (a0h a6f (pv 0) a0i (a0g _)) (a08 (a0d (a0x (a00 (a0o op_sub (pv 2) (pv 3)) (a00 (pv 3) a01))))) a0m)
   (a04 (a1i (a0h a6f (pv 2) a07 (a0g _)) (a08 (a0d (a0x (a00 a07 (a00 a07 a01))))) a0m)
   (a08 (a0d (a5m (a0h op_gt (pv 2) a07 (a0g _)) (a0x (a00 (a7l a4p (pv 3)) (a00 (pv 2) a01))) (a0x (a00 (pv 3) (a00 (a7l a4p (pv 2)) a01)))))))))), ?_⟩
 refine ⟨_, rfl, p, _, rfl, SqT.of hp', rfl, _, _, rfl, _, _, rfl, rfl, ?_⟩
 refine ⟨_, rfl, ⟨rfl, _, rfl, ?_⟩⟩
 rw [eq_sign c 116 _ lit_t]
 refine a5h (fun e => ?_) (fun e => ?_)
 ·have e' : c = 116 := of_decide_eq_true e
  refine ⟨_, rfl, _, rfl, .inl ⟨_, _, rfl, rfl, _, rfl, a0u, fun r hr' => q r _ (a06 hr' _) ?_⟩⟩
  rw [a02, mv, if_pos e']
  rfl
 ·have e' : ¬ c = 116 := of_decide_eq_false (Bool.eq_false_iff.mpr e)
  refine ⟨_, rfl, ⟨rfl, _, rfl, ?_⟩⟩
  rw [eq_sign c 117 _ lit_u]
  refine a5h (fun d => ?_) (fun d => ?_)
  ·have d' : c = 117 := of_decide_eq_true d
   refine ⟨_, rfl, _, rfl, _, _, rfl, rfl, _, rfl, a0u, fun r hr' => q r _ (a06 hr' _) ?_⟩
   rw [a02, mv, if_neg e', if_pos d']
   rfl
  ·have d' : ¬ c = 117 := of_decide_eq_false (Bool.eq_false_iff.mpr d)
   refine ⟨_, rfl, ⟨rfl, _, rfl, ?_⟩⟩
   refine a5h (fun z => ?_) (fun z => ?_)
   ·have z' : g.1 = 0 := by simpa using z
    refine ⟨a0u, fun r hr' => q r _ (a06 hr' _) ?_⟩
    rw [a02, mv, if_neg e', if_neg d', if_neg (by omega), if_neg (by omega)]
    rfl
   ·have z' : ¬ g.1 = 0 := by simpa using z
    refine ⟨_, rfl, _, _, rfl, rfl, _, rfl, ?_⟩
    refine a5h (fun y => ?_) (fun y => ?_)
    ·have y' : 0 < g.1 := of_decide_eq_true y
     refine ⟨_, rfl, _, rfl, _, rfl, a0u, fun r hr' => q r _ (a06 hr' _) ?_⟩
     rw [a02, mv, if_neg e', if_neg d', if_pos y']
     rfl
    ·have y' : ¬ 0 < g.1 := of_decide_eq_false (Bool.eq_false_iff.mpr y)
     refine ⟨_, rfl, _, rfl, _, rfl, a0u, fun r hr' => q r _ (a06 hr' _) ?_⟩
     rw [a02, mv, if_neg e', if_neg d', if_neg y', if_pos (by omega)]
     rfl
abbrev a4d : Stmt := top 73
theorem a94 : a0c ["_law_word", "_law_fraction", "_law_letter"] ["_law_word", "_law_fraction"] (a03 a4d) := ⟨rfl, rfl, rfl, by decide +kernel, rfl, by decide +kernel, by decide +kernel⟩
theorem ok_law_walked (F : Fun K "_law_walked" "_law_walked" a4d f fd) (c_law_moved : Callee P w K mg base k "_law_moved" ["_law_letter", "_law_fraction"] ab1) : a1u P w K mg base CX0 (k + 1) f fd ["_law_word", "_law_fraction"] a8z := by
 refine F.ok a94 (fun vs H Q E h => ?_) (fun cdv A outer s H vs Q E hr h => ?_)
 ·obtain ⟨u, p, g, rfl, _⟩ := h; rfl
 obtain ⟨u, p, g, rfl, hp, q⟩ := h
 have nd := a94.nd
 refine ⟨_, (a04 (a3b PassesOwn.never rfl (aby (pv 0)) (a0q (i := 2) nd rfl (Or.inl rfl)) (a08 (a0f (i := 1) nd rfl (Or.inl rfl) (a05 c_law_moved hr rfl (a00 (pv 2) (a00 (pv 1) a01))))))
   (a08 (a0d (pv 1)))), ?_⟩
 refine ⟨_, rfl, _, rfl, ?_⟩
 refine a3e (Ok := fun _ => True) a4o.str (fun i σ' H' => a0r H H' ∧ ∃ t l, σ' = [some (.str (S u)), some (.ref t), l] ∧ H' t = some (fT (walk (u.take i) g))) ⟨a0r.refl _, p, _, rfl, hp⟩ (fun _ _ _ _ _ => trivial) ?_ ?_
 ·rintro i x σ' H' hx ⟨hs, t, l, rfl, ht⟩
  obtain ⟨c, hc, rfl⟩ := sg_at hx
  refine ⟨_, rfl, _, rfl, c, t, walk (u.take i) g, rfl, ht, fun p2 H2 hs2 hp2 => ⟨hs.trans hs2, p2, _, rfl, ?_⟩⟩
  rw [take_snoc hc, ab8]
  exact hp2
 ·rintro σ' H' ⟨hs, t, l, rfl, ht⟩
  refine ⟨_, rfl, q t H' hs ?_⟩
  rw [ht, sg_S, List.length_map, List.take_length]
abbrev a4s : Stmt := top 74
theorem sc_law_same : a0c ["_law_one", "_law_other"] ["_law_one", "_law_other"] (a03 a4s) := ⟨rfl, rfl, rfl, by decide +kernel, rfl, by decide +kernel, by decide +kernel⟩
theorem ok_law_same (G : Glo mg) (F : Fun K "_law_same" "_law_same" a4s f fd) (c_law_walked : Callee P w K mg base k "_law_walked" ["_law_word", "_law_fraction"] a8z) : a1u P w K mg base CX0 (k + 1) f fd ["_law_one", "_law_other"] abh := by
 refine F.ok sc_law_same (fun vs H Q E h => ?_) (fun cdv A outer s H vs Q E hr h => ?_)
 ·obtain ⟨u, v, rfl, _⟩ := h; rfl
 obtain ⟨u, v, rfl, q⟩ := h
 have hu := hr.units
 refine ⟨_, (a08 (a0d (a0k (a80 (K := K) rfl rfl) rfl G.n_all bt_all (a00 (ac2 (ys := ["_law_one", "_law_other"]) (js := [0, 1]) rfl (LcS.to (os := a03 a4s) ⟨rfl, by decide +kernel, by decide +kernel, rfl, by decide +kernel, by decide +kernel, by decide +kernel⟩ rfl rfl) (a2y (a2a (a00 (a0x (a00 a07 (a00 a07 a01))) (a00 (a0x (a00 a07 (a00 a07 a01))) (a00 (a0x (a00 a07 (a00 a07 a01))) a01))))) (fun _ _ _ _ => a3t) (fun _ _ _ _ => (a0z (a6t (K := K) hu rfl) (a05 c_law_walked hr rfl (a00 (pv 1) (a00 (pv 0) a01))) (a05 c_law_walked hr rfl (a00 (pv 2) (a00 (pv 0) a01))) (a0g _)))) a01)))), ?_⟩
 refine ⟨a0u, fun p1 k1 => ⟨a0u, fun p2 k2 => ⟨a0u, fun p3 k3 => ⟨a1h, fun pl kl => ⟨pl, rfl, ⟨_, SqL.of a02⟩, ?_⟩⟩⟩⟩⟩
 have S1 := a06 k1 (.tup [.int 0, .int 1])
 have S2 := a06 k2 (.tup [.int 1, .int 0])
 have S3 := a06 k3 (.tup [.int 1, .int 1])
 have S4 := a06 kl (.lst [.ref p1, .ref p2, .ref p3])
 have E1 := (S2.trans (S3.trans S4)) p1 _ a02
 have E2 := (S3.trans S4) p2 _ a02
 have E3 := S4 p3 _ a02
 have S0 := S1.trans (S2.trans (S3.trans S4))
 have EL := @a02 (upd (upd (upd H p1 (.tup [.int 0, .int 1])) p2 (.tup [.int 1, .int 0])) p3 (.tup [.int 1, .int 1])) pl (.lst [.ref p1, .ref p2, .ref p3])
 generalize upd (upd (upd (upd H p1 (.tup [.int 0, .int 1])) p2 (.tup [.int 1, .int 0])) p3 (.tup [.int 1, .int 1])) pl (.lst [.ref p1, .ref p2, .ref p3]) = H9 at *
 refine a9i (a4o.list (xs := [.ref p1, .ref p2, .ref p3])) (fun i => V.bl (alI u v i)) (fun H' hs => SqL.of (hs _ _ EL)) a1h (fun i x H' Q' hx hs hq => ?_) (fun H' p hs hp => ?_)
 ·have hg : ∃ t, x = .ref t ∧ H9 t = some (fT (tf i)) := by
   match i with
   | 0 => cases hx; exact ⟨p1, rfl, E1⟩
   | 1 => cases hx; exact ⟨p2, rfl, E2⟩
   | 2 => cases hx; exact ⟨p3, rfl, E3⟩
   | n + 3 => cases hx
  obtain ⟨t, rfl, ht⟩ := hg
  refine ⟨_, rfl, _, rfl, u, t, tf i, rfl, hs _ _ ht, fun q1 H1 s1 e1 => ?_⟩
  refine ⟨_, rfl, _, rfl, v, t, tf i, rfl, s1 _ _ (hs _ _ ht), fun q2 H2 s2 e2 => ?_⟩
  refine .inr ⟨fD (walk u (tf i)), fD (walk v (tf i)), a2d (s2 _ _ e1), a2d e2, a1k _, ?_⟩
  have e : (if false = true then !PyData.eqv (fD (walk u (tf i))) (fD (walk v (tf i))) else PyData.eqv (fD (walk u (tf i))) (fD (walk v (tf i)))) = alI u v i := by
   rw [if_neg Bool.false_ne_true, a6o]
   rfl
  rw [e]
  exact hq _ (s1.trans s2)
 ·refine ⟨p, [alI u v 0, alI u v 1, alI u v 2], rfl, SqL.of a02, ?_⟩
  show Q (V.bl ([alI u v 0, alI u v 1, alI u v 2].all id)) _
  rw [ab6]
  exact q _ (S0.trans (hs.trans (a06 hp _)))
abbrev a2i : Stmt := top 75
theorem a7h : a0c ["_law_word", "_law_found", "_law_letter"] ["_law_word"] (a03 a2i) := ⟨rfl, rfl, rfl, by decide +kernel, rfl, by decide +kernel, by decide +kernel⟩
theorem aar (F : Fun K "_law_backwards" "_law_backwards" a2i f fd) : a1u P w K mg base CX0 (k + 1) f fd ["_law_word"] spLBack := by
 refine F.ok a7h (fun vs H Q E h => ?_) (fun cdv A outer s H vs Q E hr h => ?_)
 ·obtain ⟨u, rfl, _⟩ := h; rfl
 obtain ⟨u, rfl, hl, q⟩ := h
 have nd := a7h.nd
 have hu1 := hu_of hr
 refine ⟨_, (a04 (a0f (i := 1) nd rfl (Or.inl rfl) a0i)
   (a04 (a3b PassesOwn.never rfl (aby (pv 0)) (a0q (i := 2) nd rfl (Or.inl rfl)) (a08 (a0f (i := 1) nd rfl (Or.inl rfl) (a0o a2o (pe_dget2 hu1 (pe_disp (pps_cons a0i a0i (pps_cons a0i a0i pps_nil)) rfl rfl (by simp) (by decide)) (pv 2) a0i ⟨rfl, rfl, rfl, rfl⟩) (pv 1)))))
   (a08 (a0d (pv 1))))), ?_⟩
 refine ⟨_, rfl, _, rfl, ?_⟩
 refine a3e (Ok := fun _ => True) a4o.str (fun i σ' H' => a0r H H' ∧ ∃ l, σ' = [some (.str (S u)), some (.str (S (bk (u.take i)))), l]) ⟨a0r.refl _, _, rfl⟩ (fun _ _ _ _ _ => trivial) ?_ ?_
 ·rintro i x σ' H' hx ⟨hs, l, rfl⟩
  obtain ⟨c, hc, rfl⟩ := sg_at hx
  intro p hp
  refine ⟨a02, tab, rfl, by decide, p, rfl, ?_⟩
  refine ⟨.inl ⟨_, .inl a02⟩, ?_⟩
  refine ⟨_, rfl, ?_⟩
  refine ⟨_, DGet.k (k := .inr (S [c])) a02, ?_⟩
  rw [tab_get]
  refine ⟨_, rfl, .inr ⟨_, _, rfl, rfl, ?_, hs.trans (by rw [a2c]; exact a06 hp _), some (.str (S [c])), ?_⟩⟩
  ·rw [a1a, a1a, a2r, List.length_take]
   show 1 + _ ≤ sizeLine
   have := sizeLine_eq
   omega
  ·rw [take_snoc hc, bk_snoc, a2l]
   rfl
 ·rintro σ' H' ⟨hs, l, rfl⟩
  refine ⟨_, rfl, ?_⟩
  rw [sg_S, List.length_map, List.take_length]
  exact q _ hs
abbrev a5q : Stmt := top 76
theorem abn : a0c ["_law_word", "_law_step", "_law_deed", "_law_at", "_law_piece"] ["_law_word", "_law_step"] (a03 a5q) := ⟨rfl, rfl, rfl, by decide +kernel, rfl, by decide +kernel, by decide +kernel⟩
theorem ok_law_done (G : Glo mg) (F : Fun K "_law_done" "_law_done" a5q f fd) : a1u P w K mg base CX0 (k + 1) f fd ["_law_word", "_law_step"] spDoneG := by
 refine F.ok abn (fun vs H Q E h => ?_) (fun cdv A outer s H vs Q E hr h => ?_)
 ·obtain ⟨u, p, t, rfl, _⟩ := h; rfl
 obtain ⟨u, p, ⟨d, i, pc⟩, rfl, hp, hl, q⟩ := h
 have nd := abn.nd
 have hu := hr.units
 have hz : (S u).length ≤ sizeLine := by rw [a1a]; exact big (by omega)
 have hp' : H p = some (.tup [.str d, .int i, .str (S pc)]) := hp
 refine ⟨_, (a04 (a1i (PW.pt (pw_or (a1v (a1j (a0k (a3w (K := K) rfl) rfl G.n_isinstance a0t (a00 (pv 1) (a00 (a6e (v := .ty "tuple") rfl G.n_tuple ab4 rfl) a01))))) (pw_or1 (a0h (a7t (K := K) hu rfl) (a0k (a1c (K := K) rfl) rfl G.n_len a3u (a00 (pv 1) a01)) a07 (a0g _))))) (a08 (a0d ac1)) a0m)
   (a04 (abx (pv 1) (pg_tup rfl (a1z (a0q (i := 2) nd rfl (Or.inl rfl)) (a1z (a0q (i := 3) nd rfl (Or.inl rfl)) (a1z (a0q (i := 4) nd rfl (Or.inl rfl)) a8n)))))
   (a04 (a1i (PW.pt (pw_or (a1v (a1j (a0k (a3w (K := K) rfl) rfl G.n_isinstance a0t (a00 (pv 3) (a00 (a6e (v := .ty "int") rfl G.n_int bt_int rfl) a01))))) (pw_or (a1j (a0k (a3w (K := K) rfl) rfl G.n_isinstance a0t (a00 (pv 3) (a00 (a6e (v := .ty "bool") rfl G.n_bool bt_bool rfl) a01)))) (pw_or1 (a1v (pt_chain op_le op_le a07 (pv 3) (a0k (a1c (K := K) rfl) rfl G.n_len a3u (a00 (pv 0) a01)))))))) (a08 (a0d ac1)) a0m)
   (a04 (a1i (PW.pt (pw_or (a0h (a9v (K := K) rfl) (pv 4) (a2a (a00 a0i (a00 a0i (a00 a0i (a00 a0i a01))))) rfl) (pw_or1 (a0h (a9v (K := K) rfl) (pv 2) (a2a (a00 a0i (a00 a0i a01))) rfl)))) (a08 (a0d ac1)) a0m)
   (a04 (a1i (a0h (a6t (K := K) hu rfl) (pv 2) a0i (a0g _)) (a08 (a0d (a0o a2o (a0o a2o (a0v (a7g (K := K) rfl) (pv 0) a1l (a1b (pv 3))) (pv 4)) (a0v (a7g (K := K) rfl) (pv 0) (a1b (pv 3)) a1l)))) a0m)
   (a08 (a0d (a5m (a0h (a6t (K := K) hu rfl) (a0v (a7g (K := K) rfl) (pv 0) (a1b (pv 3)) (a1b (a0o a2o (pv 3) (a0k (a1c (K := K) rfl) rfl G.n_len a3u (a00 (pv 4) a01))))) (pv 4) (a0g _)) (a0o a2o (a0v (a7g (K := K) rfl) (pv 0) a1l (a1b (pv 3))) (a0v (a7g (K := K) rfl) (pv 0) (a1b (a0o a2o (pv 3) (a0k (a1c (K := K) rfl) rfl G.n_len a3u (a00 (pv 4) a01)))) a1l)) ac1)))))))), ?_⟩
 refine ⟨_, rfl, _, _, _, _, rfl, .tup hp', a5n "tuple", _, rfl, ?_⟩
 refine a5a ?_
 refine ⟨_, rfl, .ref p, 3, rfl, ?len, .inl ⟨rfl, _, rfl, ?_⟩⟩
 case len => exact .inr ⟨_, SqT.of hp', rfl⟩
 refine a5a ?_
 refine ⟨_, rfl, p, _, rfl, SqT.of hp', rfl, _, _, rfl, _, _, rfl, _, _, rfl, rfl, ?_⟩
 refine ⟨_, rfl, _, _, _, _, rfl, .int i, a5n "int", _, rfl, ?_⟩
 refine a5a ?_
 refine ⟨_, rfl, _, _, _, _, rfl, .int i, aah, _, rfl, ?_⟩
 refine a5a ?_
 refine ⟨_, rfl, _, _, rfl, rfl, _, rfl, ?_⟩
 have off : (i < 0 ∨ (u.length : Int) < i) → Q .non H := fun h => by
  have z := q H (a0r.refl _)
  rw [gdue_off h] at z
  exact z
 refine a5h (fun c => ?_) (fun c => ?_)
 ·have c0 : 0 ≤ i := of_decide_eq_true c
  refine ⟨_, rfl, .str (S u), u.length, rfl, len_S (by omega), _, _, rfl, rfl, _, rfl, ?_⟩
  by_cases c1 : i ≤ (u.length : Int)
  ·rw [decide_eq_true c1]
   refine a5a ?_
   refine ⟨_, rfl, a6h, fun t ht => .inl ⟨t, _, rfl, .inl (SqL.of a02), rfl, rfl, _, rfl, ?_⟩⟩
   rw [in_pcS]
   cases h1 : pcS.contains (S pc) with
   | false =>
    have z := q _ (a06 ht (.lst [.str "tu", .str "ut", .str "rr", .str "trtrtr"]))
    rw [g_no (fun z => by rw [gok_eq, h1, Bool.and_false] at z; cases z)] at z
    exact a7k z
   | true =>
   refine a5a ?_
   refine ⟨_, rfl, a0u, fun t2 ht2 => .inl ⟨t2, _, rfl, .inl (SqL.of a02), rfl, rfl, _, rfl, ?_⟩⟩
   rw [in_dS]
   cases h2 : dS2.contains d with
   | false =>
    have z := q _ ((a06 ht (.lst [.str "tu", .str "ut", .str "rr", .str "trtrtr"])).trans (a06 ht2 (.lst [.str "in", .str "out"])))
    rw [g_no (fun z => by rw [gok_eq, h2, Bool.false_and] at z; cases z)] at z
    exact a7k z
   | true =>
   refine a5a ?_
   obtain ⟨b, eb, hpc, ed⟩ := g_ok (t := (d, i, pc)) (by rw [gok_eq, h1, h2]; rfl)
   have eb' : d = dS b := eb
   subst eb'
   have lp := (a8o hpc).1
   generalize hH2 : upd _ t2 _ = H2
   have sH : a0r H H2 := by rw [← hH2]; exact (a06 ht _).trans (a06 ht2 _)
   have q2 := q H2 sH
   rw [ed] at q2
   dsimp only at q2 hpc lp
   clear hH2 ht ht2
   refine ⟨_, rfl, .inl ⟨rfl, _, rfl, ?_⟩⟩
   rw [dS_in]
   cases b with
   | true =>
    rw [due_in c0 c1] at q2
    refine a7k ?_
    refine ⟨_, rfl, _, rfl, i, rfl, .inl ⟨_, rfl, hz, ?_⟩⟩
    rw [S_to c0 c1]
    refine ⟨_, rfl, .inr ⟨_, _, rfl, rfl, sz2 (by rw [List.length_take]; omega), ?_⟩⟩
    refine ⟨_, rfl, _, rfl, i, rfl, .inl ⟨_, rfl, hz, ?_⟩⟩
    rw [S_from c0 c1, a2l]
    refine .inr ⟨_, _, rfl, rfl, sz2 (by rw [List.length_append, List.length_take, List.length_drop]; omega), ?_⟩
    rw [a2l]
    exact q2
   | false =>
    refine a5a ?_
    rw [due_out c0 c1] at q2
    refine ⟨_, rfl, _, rfl, i, rfl, _, rfl, _, rfl, .str (S pc), pc.length, rfl, len_S (by omega), .inl ⟨_, _, rfl, rfl, _, rfl, .inl ⟨_, rfl, hz, _, rfl, .inl ⟨rfl, _, rfl, ?_⟩⟩⟩⟩
    rw [S_mid c0 c1, eqS]
    by_cases e : (u.drop i.toNat).take pc.length = pc
    ·rw [if_pos e] at q2
     have room := out_room c0 c1 e
     rw [e, decide_eq_true rfl]
     refine a7k ?_
     refine ⟨_, rfl, _, rfl, i, rfl, .inl ⟨_, rfl, hz, ?_⟩⟩
     rw [S_to c0 c1]
     refine ⟨_, rfl, _, rfl, _, rfl, .str (S pc), pc.length, rfl, len_S (by omega), .inl ⟨_, _, rfl, rfl, _, rfl, .inl ⟨_, rfl, hz, ?_⟩⟩⟩
     rw [S_from (by omega) room, show (i + (pc.length : Int)).toNat = i.toNat + pc.length by omega]
     refine .inr ⟨_, _, rfl, rfl, sz2 (by rw [List.length_take, List.length_drop]; omega), ?_⟩
     rw [a2l]
     exact q2
    ·rw [if_neg e] at q2
     rw [decide_eq_false (fun z => e (aav z))]
     exact a5a q2
  ·rw [decide_eq_false c1]
   exact a7k (off (.inr (by omega)))
 ·have c0 : ¬ 0 ≤ i := of_decide_eq_false (Bool.eq_false_iff.mpr c)
  exact ⟨_, rfl, a7k (off (.inl (by omega)))⟩
abbrev a4t : Stmt := top 77
theorem aa9 : a0c ["_law_script", "_law_part", "_law_base", "_law_other", "_law_there", "_law_away", "_law_first"] ["_law_script"] (a03 a4t) := ⟨rfl, rfl, rfl, by decide +kernel, rfl, by decide +kernel, by decide +kernel⟩
theorem ok_law_pairs (F : Fun K "_law_pairs" "_law_pairs" a4t f fd) (c_law_letters : Callee P w K mg base k "_law_letters" ["_law_script", "_law_by"] (abg K)) (c_law_walked : Callee P w K mg base k "_law_walked" ["_law_word", "_law_fraction"] a8z) (c_law_moved : Callee P w K mg base k "_law_moved" ["_law_letter", "_law_fraction"] ab1) : a1u P w K mg base CX0 (k + 1) f fd ["_law_script"] (spLPairs K) := by
 refine F.ok aa9 (fun vs H Q E h => ?_) (fun cdv A outer s H vs Q E hr h => ?_)
 ·obtain ⟨a, ns, rfl, _⟩ := h; rfl
 obtain ⟨a, ns, rfl, hS, h63, q⟩ := h
 have nd := aa9.nd
 have hu := hr.units
 refine ⟨_, (a04 (a0f (i := 1) nd rfl (Or.inl rfl) (a05 c_law_walked hr rfl (a00 (a05 c_law_letters hr rfl (a00 (pv 0) (a00 a07 a01))) (a00 (a0x (a00 a07 (a00 a07 a01))) a01))))
   (a04 (a1i (a0h (a6t (K := K) hu rfl) (pv 1) (a0x (a00 a07 (a00 a07 a01))) (a0g _)) (a08 (a0f (i := 1) nd rfl (Or.inl rfl) (a0x (a00 a07 (a00 a07 a01))))) a0m)
   (a04 (ps_par (i := 2) (j := 3) rfl nd rfl rfl (by decide) rfl rfl (a00 (a0x (a00 (a0x (a00 a07 (a00 a07 a01))) (a00 (pv 1) a01))) (a00 (a0x (a00 (a0x (a00 a07 (a00 a07 a01))) (a00 (pv 1) a01))) a01)) rfl)
   (a04 (a1i (PW.pt (pw_and (a0h (a7t (K := K) hu rfl) (pv 0) (a2a a01) (a0g _)) (pw_and (a0h (a6t (K := K) hu rfl) (a0o a4m (a0o a2p (a0j (a1g (K := K) (Pm := w.params) rfl rfl) (pv 0) (a7l a4p a07) (fun _ _ => rfl)) a07) a07) a07 (a0g _)) (pw_and1 (a0h (a7t (K := K) hu rfl) (pv 1) (a0x (a00 a07 (a00 a07 a01))) (a0g _)))))) (a08 (a0f (i := 3) nd rfl (Or.inl rfl) (a0x (a00 (a0x (a00 a07 (a00 a07 a01))) (a00 (a05 c_law_moved hr rfl (a00 a0i (a00 (pv 1) a01))) a01))))) a0m)
   (a04 (a1i (PW.pt (pw_and (a0h (a7t (K := K) hu rfl) (pv 0) (a2a a01) (a0g _)) (pw_and1 (a0h (a6t (K := K) hu rfl) (a0o a4m (a0o a2p (a0j (a1g (K := K) (Pm := w.params) rfl rfl) (pv 0) (a7l a4p a07) (fun _ _ => rfl)) a07) a07) a07 (a0g _))))) (a08 (a0f (i := 3) nd rfl (Or.inl rfl) (a0x (a00 (pv 1) (a00 (a0x (a00 a07 (a00 a07 a01))) a01))))) a0m)
   (a04 (ps_par (i := 4) (j := 5) rfl nd rfl rfl (by decide) rfl rfl (a00 (a05 c_law_letters hr rfl (a00 (pv 0) (a00 a07 a01))) (a00 (a05 c_law_letters hr rfl (a00 (pv 0) (a00 a07 a01))) a01)) rfl)
   (a04 (a0f (i := 6) nd rfl (Or.inl rfl) (a0x (a00 (a05 c_law_walked hr rfl (a00 (pv 4) (a00 (a0j (a1g (K := K) (Pm := w.params) rfl rfl) (pv 2) a07 (fun _ _ => rfl)) a01))) (a00 (a05 c_law_walked hr rfl (a00 (pv 4) (a00 (a0j (a1g (K := K) (Pm := w.params) rfl rfl) (pv 2) a07 (fun _ _ => rfl)) a01))) a01))))
   (a08 (a0d (a0x (a00 (pv 6) (a00 (a0x (a00 (a05 c_law_walked hr rfl (a00 (pv 5) (a00 (a0j (a1g (K := K) (Pm := w.params) rfl rfl) (pv 3) a07 (fun _ _ => rfl)) a01))) (a00 (a05 c_law_walked hr rfl (a00 (pv 5) (a00 (a0j (a1g (K := K) (Pm := w.params) rfl rfl) (pv 3) a07 (fun _ _ => rfl)) a01))) a01))) a01)))))))))))), ?_⟩
 refine ⟨_, rfl, a, ns, 27, rfl, hS, h63, by decide, by decide, ?_⟩
 refine ⟨a0u, fun z1 hz1 => ?_⟩
 have s0 := a06 (o := .tup [.int 0, .int 1]) hz1
 refine ⟨letters 27 ns, z1, (0, 1), rfl, a02, fun p0 H1 s1 hp0 => ?_⟩
 have l27 : (letters 27 ns).length ≤ 63 := by rw [a6g]; exact h63
 have l1 : (letters 1 ns).length ≤ 63 := by rw [a6g]; exact h63
 have l3 : (letters 3 ns).length ≤ 63 := by rw [a6g]; exact h63
 have F0 : Fair (walk (letters 27 ns) (0, 1)) := ⟨a2f ab7, Nat.le_trans (abl (m := 1) l27 (by decide)) (pow_le (by decide)), by have := qf_walk (letters 27 ns) ab7; rw [qf_nought] at this; omega⟩
 generalize walk (letters 27 ns) (0, 1) = g0 at hp0 F0
 try dsimp only [aau]
 refine seq_by (fun σ' H' => ∃ p g, σ' = [some (.ref a), some (.ref p), none, none, none, none, none] ∧ a0r H H' ∧ H' p = some (fT g) ∧ Fair g ∧ g ≠ (1, 0)) (mo_if (a6w (a7w mo_eqq a5j (acb (a2z acy (a2z acy a7x))))) (mo_set (acb (a2z acy (a2z acy a7x)))) mo_next) ?_ ?_
 ·refine ⟨_, rfl, a0u, fun t1 ht1 => .inr ⟨fD g0, fD (1, 0), a2d (a06 ht1 _ _ _ hp0), a2d a02, a1k _, _, rfl, aai (fun e => ?_) fun e => ?_⟩⟩
  ·refine ⟨a0u, fun t2 ht2 => ⟨t2, (0, 1), rfl, s0.trans (s1.trans ((a06 ht1 _).trans (a06 ht2 _))), a02, fair_nought, by decide⟩⟩
  ·exact ⟨p0, g0, rfl, s0.trans (s1.trans (a06 ht1 _)), a06 ht1 _ _ _ hp0, F0, e⟩
 rintro σ' H2 ⟨p, g, rfl, s2, hp, Fg, gne⟩
 refine ⟨a0u, fun e1 k1 => ⟨_, rfl, a0u, fun b1 k2 => ⟨a0u, fun e2 k3 => ⟨_, rfl, a0u, fun b2 k4 => ⟨_, _, rfl, ?_⟩⟩⟩⟩⟩
 have S1 := a06 (o := .tup [.int 1, .int 0]) k1
 have S2 := a06 (o := .tup [.ref e1, .ref p]) k2
 have S3 := a06 (o := .tup [.int 1, .int 0]) k3
 have S4 := a06 (o := .tup [.ref e2, .ref p]) k4
 have T4 := S1.trans (S2.trans (S3.trans S4))
 have BA := (S3.trans S4) b1 _ a02
 have EA := (S2.trans (S3.trans S4)) e1 _ a02
 have EB := S4 e2 _ a02
 have OB := @a02 (upd (upd (upd H2 e1 (.tup [.int 1, .int 0])) b1 (.tup [.ref e1, .ref p])) e2 (.tup [.int 1, .int 0])) b2 (.tup [.ref e2, .ref p])
 have hp4 := T4 _ _ hp
 have s4 := s2.trans T4
 generalize upd (upd (upd (upd H2 e1 (.tup [.int 1, .int 0])) b1 (.tup [.ref e1, .ref p])) e2 (.tup [.int 1, .int 0])) b2 (.tup [.ref e2, .ref p]) = H4 at *
 have pB : a4k H4 b1 (1, 0) g := ⟨e1, p, BA, EA, hp4⟩
 have pO : a4k H4 b2 (1, 0) g := ⟨e2, p, OB, EB, hp4⟩
 have hTest : MoT (tTest (tOp (rNee K) (tVar 0) (tLst tNil))) := a6w (a7w mo_nee a5j (mo_lst a7x))
 have hLast : ∀ n : Int, MoT (tTest (tOp (rEqq K) (tOp (rI (fun _ j => 0 < j) fun i j => V.int (i % j)) (tOp (rI CDivL fun i j => V.int (i / j)) (tOp (rIxA K w.params) (tVar 0) (tUn (rU fun i => V.int (-i)) (tC (.int 1)))) (tC (.int 81))) (tC (.int 3))) (tC (.int n)))) := fun n => a6w (a7w mo_eqq (a7w mo_rI (a7w mo_rI (a7w mo_ix a5j (mo_un mo_rU acy)) acy) acy) acy)
 try dsimp only [aau]
 refine seq_by (fun σ' H' => ∃ o x y, σ' = [some (.ref a), some (.ref p), some (.ref b1), some (.ref o), none, none, none] ∧ a0r H4 H' ∧ a4k H' o x y ∧ Fair x ∧ Fair y ∧ x ≠ y) (mo_if (mo_and hTest (mo_and (hLast 1) (a6w (a7w mo_nee a5j (acb (a2z acy (a2z acy a7x))))))) (mo_set (acb (a2z (acb (a2z acy (a2z acy a7x))) (a2z (mo_call mo_spLMoved (a2z acy (a2z a5j a7x))) a7x)))) mo_next) ?_ ?_
 ·refine ⟨_, rfl, big (by decide), fun m hm => ?_⟩
  have sm := a06 (o := .lst []) hm
  refine .inr ⟨_, _, rd_script (s4.trans sm |>.seq hS), rd_nil a02, aa1 _, _, rfl, neL (fun e => ?_) fun e => ?_⟩
  ·exact ⟨b2, (1, 0), g, rfl, sm, pO.same sm, a9l, Fg, fun z => gne z.symm⟩
  ·obtain ⟨n, hn⟩ := last_at e
   refine ⟨_, rfl, _, rfl, .inl (.inl ⟨a, _, -1, .int n, rfl, rfl, (s4.trans sm).seq hS, hn, _, _, rfl, rfl, ⟨by decide, by decide⟩, _, _, rfl, rfl, (by show (0 : Int) < 3; decide), .inl ⟨rfl, _, rfl, ?_⟩⟩)⟩
   refine a5h (fun _ => ?_) (fun _ => ⟨b2, (1, 0), g, rfl, sm, pO.same sm, a9l, Fg, fun z => gne z.symm⟩)
   refine ⟨_, rfl, a0u, fun t ht => .inr ⟨fD g, fD (0, 1), a2d (a06 ht _ _ _ (sm _ _ hp4)), a2d a02, a1k _, _, rfl, ?_⟩⟩
   rw [if_pos (c := (true = true)) rfl, a6o]
   have st := sm.trans (a06 (o := .tup [.int 0, .int 1]) ht)
   by_cases g0 : g = (0, 1)
   ·rw [decide_eq_true g0]
    exact a5a ⟨b2, (1, 0), g, rfl, st, pO.same st, a9l, Fg, fun z => gne z.symm⟩
   ·rw [decide_eq_false g0]
    refine a7k ⟨a0u, fun e3 k5 => ⟨_, rfl, 114, p, g, by rw [a7a] <;> rfl, a06 k5 _ _ _ (st _ _ hp4), fun r H5 s5 hr5 => ⟨a0u, fun b3 k6 => ?_⟩⟩⟩
    have T5 := st.trans ((a06 k5 (.tup [.int 1, .int 0])).trans (s5.trans (a06 k6 (.tup [.ref e3, .ref r]))))
    refine ⟨b3, (1, 0), mv 114 g, rfl, T5, ⟨e3, r, a02, a06 k6 _ _ _ (s5 _ _ a02), a06 k6 _ _ _ hr5⟩, a9l, ?_, ?_⟩
    ·exact ⟨mv_F Fg.F, by have := turn_size Fg.F; have := Fg.sz; omega, Nat.le_trans (turn_qf g) Fg.q⟩
    ·intro z
     refine g0 ?_
     have := ab9 Fg.F
     rw [← z] at this
     rw [← this]
     rfl
 rintro σ' H5 ⟨o, x, y, rfl, s5, pO5, Fx, Fy, xy⟩
 have hp5 := s5 _ _ hp4
 try dsimp only [aau]
 refine seq_by (fun σ' H' => ∃ o x y, σ' = [some (.ref a), some (.ref p), some (.ref b1), some (.ref o), none, none, none] ∧ a0r H4 H' ∧ a4k H' o x y ∧ Fair x ∧ Fair y ∧ x ≠ y) (mo_if (mo_and hTest (hLast 2)) (mo_set (acb (a2z a5j (a2z (acb (a2z acy (a2z acy a7x))) a7x)))) mo_next) ?_ ?_
 ·refine ⟨_, rfl, big (by decide), fun m hm => ?_⟩
  have sm := a06 (o := .lst []) hm
  have t5 := s5.trans sm
  refine .inr ⟨_, _, rd_script ((s4.trans t5).seq hS), rd_nil a02, aa1 _, _, rfl, neL (fun e => ?_) fun e => ?_⟩
  ·exact ⟨o, x, y, rfl, t5, pO5.same sm, Fx, Fy, xy⟩
  ·obtain ⟨n, hn⟩ := last_at e
   refine ⟨_, rfl, _, rfl, .inl (.inl ⟨a, _, -1, .int n, rfl, rfl, (s4.trans t5).seq hS, hn, _, _, rfl, rfl, ⟨by decide, by decide⟩, _, _, rfl, rfl, (by show (0 : Int) < 3; decide), .inl ⟨rfl, _, rfl, ?_⟩⟩)⟩
   refine a5h (fun _ => ?_) (fun _ => ⟨o, x, y, rfl, t5, pO5.same sm, Fx, Fy, xy⟩)
   refine ⟨_, rfl, a0u, fun e3 k5 => ⟨a0u, fun b3 k6 => ?_⟩⟩
   have T6 := (a06 k5 (.tup [.int 1, .int 0])).trans (a06 k6 (.tup [.ref p, .ref e3]))
   exact ⟨b3, g, (1, 0), rfl, t5.trans T6, ⟨p, e3, a02, T6 _ _ (sm _ _ hp5), a06 k6 _ _ _ a02⟩, Fg, a9l, gne⟩
 rintro σ' H6 ⟨o', x', y', rfl, s6, pO6, Fx', Fy', xy'⟩
 have t6 := s4.trans s6
 refine ⟨_, rfl, a, ns, 1, rfl, t6.seq hS, h63, by decide, by decide, ?_⟩
 refine ⟨_, rfl, a, ns, 3, rfl, t6.seq hS, h63, by decide, by decide, _, _, rfl, ?_⟩
 obtain ⟨ba, bb, eb, ea, eb2⟩ := pB.same s6
 refine ⟨_, rfl, _, rfl, .inl (.inr (.inl ⟨b1, _, 0, .ref ba, rfl, rfl, SqT.of eb, rfl, letters 1 ns, ba, (1, 0), rfl, ea, fun r1 H7 s7 h7 => ?_⟩))⟩
 refine ⟨_, rfl, _, rfl, .inl (.inr (.inl ⟨b1, _, 1, .ref bb, rfl, rfl, SqT.of (s7 _ _ eb), rfl, letters 1 ns, bb, g, rfl, s7 _ _ eb2, fun r2 H8 s8 h8 => ?_⟩))⟩
 refine ⟨a0u, fun m1 k7 => ?_⟩
 have s9 := a06 (o := .tup [.ref r1, .ref r2]) k7
 have T9 := s7.trans (s8.trans s9)
 have P1 : a4k (upd H8 m1 (.tup [.ref r1, .ref r2])) m1 (walk (letters 1 ns) (1, 0)) (walk (letters 1 ns) g) := ⟨r1, r2, a02, s9 _ _ (s8 _ _ h7), s9 _ _ h8⟩
 obtain ⟨oa, ob, eo, eoa, eob⟩ := pO6.same T9
 refine ⟨_, rfl, ?_⟩
 refine ⟨_, rfl, _, rfl, .inl (.inr (.inl ⟨o', _, 0, .ref oa, rfl, rfl, SqT.of eo, rfl, letters 3 ns, oa, x', rfl, eoa, fun r3 H10 s10 h10 => ?_⟩))⟩
 refine ⟨_, rfl, _, rfl, .inl (.inr (.inl ⟨o', _, 1, .ref ob, rfl, rfl, SqT.of (s10 _ _ eo), rfl, letters 3 ns, ob, y', rfl, s10 _ _ eob, fun r4 H11 s11 h11 => ?_⟩))⟩
 refine ⟨a0u, fun m2 k8 => ⟨a0u, fun m3 k9 => ?_⟩⟩
 have s12 := a06 (o := .tup [.ref r3, .ref r4]) k8
 have s13 := a06 (o := .tup [.ref m1, .ref m2]) k9
 have P2 : a4k (upd H11 m2 (.tup [.ref r3, .ref r4])) m2 (walk (letters 3 ns) x') (walk (letters 3 ns) y') := ⟨r3, r4, a02, s12 _ _ (s11 _ _ h10), s12 _ _ h11⟩
 refine q m3 m1 m2 _ _ _ _ _ (t6.trans (T9.trans (s10.trans (s11.trans (s12.trans s13))))) a02 (P1.same (s10.trans (s11.trans (s12.trans s13)))) (P2.same s13) ?_ ?_ ?_ ?_ ?_ ?_
 ·exact a89 (m := 66) (c := 70) F_end l1 (by decide) (by rw [qf_end]; decide) (by decide) (by decide)
 ·exact a89 Fg.F l1 Fg.sz (Nat.le_trans Fg.q (by decide : 64 ≤ 70)) (by decide) (by decide)
 ·exact a89 Fx'.F l3 Fx'.sz (Nat.le_trans Fx'.q (by decide : 64 ≤ 70)) (by decide) (by decide)
 ·exact a89 Fy'.F l3 Fy'.sz (Nat.le_trans Fy'.q (by decide : 64 ≤ 70)) (by decide) (by decide)
 ·intro z
  exact gne (walk_inj (acg 1 ns) F_end Fg.F z).symm
 ·intro z
  exact xy' (walk_inj (acg 3 ns) Fx'.F Fy'.F z)
end
end K08
namespace K08
open PySem L2 TW TX
seal L2.PE L2.PT L2.PA L2.PS L2.PSs L2.PI L2.PG L2.PGs L2.PPs L2.PW L2.PTs L2.PO
section
variable {P : Program} {w : World} {K : PySem.W.Frag} {mg : Str → Option Value} {base : Heap} {f : Addr} {fd : FuncData} {k : Nat}
abbrev a4v : Stmt := top 78
theorem sc_law_begun : a0c ["_law_ahead", "_law_word"] ["_law_ahead", "_law_word"] (a03 a4v) := ⟨rfl, rfl, rfl, by decide +kernel, rfl, by decide +kernel, by decide +kernel⟩
theorem ok_law_begun (F : Fun K "_law_begun" "_law_begun" a4v f fd) (c_law_backwards : Callee P w K mg base k "_law_backwards" ["_law_word"] spLBack) : a1u P w K mg base CX0 (k + 1) f fd ["_law_ahead", "_law_word"] spLBegun := by
 refine F.ok sc_law_begun (fun vs H Q E h => ?_) (fun cdv A outer s H vs Q E hr h => ?_)
 ·obtain ⟨a, u, rfl, _⟩ := h; rfl
 obtain ⟨a, u, rfl, la, lu, q⟩ := h
 refine ⟨_, (a08 (a0d (a0o a0s (a0o a0s (pv 0) (pv 1)) (a05 c_law_backwards hr rfl (a00 (pv 0) a01))))), ?_⟩
 refine ⟨_, rfl, _, rfl, _, _, rfl, rfl, by rw [a1a, a1a]; exact big (by omega), _, rfl, a, rfl, by omega, fun H1 s1 => ?_⟩
 refine ⟨_, _, rfl, rfl, by rw [a2l, a1a, a1a, a2r, List.length_append]; exact big (by omega), ?_⟩
 rw [a2l, a2l]
 exact q _ s1
abbrev a2m : Stmt := top 79
theorem a95 : a0c ["_law_word", "_law_pieces_here"] ["_law_word"] (a03 a2m) := ⟨rfl, rfl, rfl, by decide +kernel, rfl, by decide +kernel, by decide +kernel⟩
theorem ok_law_pieces (G : Glo mg) (F : Fun K "_law_pieces" "_law_pieces" a2m f fd) : a1u P w K mg base CX0 (k + 1) f fd ["_law_word"] spPieces := by
 refine F.ok a95 (fun vs H Q E h => ?_) (fun cdv A outer s H vs Q E hr h => ?_)
 ·obtain ⟨u, rfl, _⟩ := h; rfl
 obtain ⟨u, rfl, lu, q⟩ := h
 have nd := a95.nd
 have hlS : (S u).length ≤ sizeLine := by rw [a1a]; exact big (by omega)
 refine ⟨_, (a04 (ps_setlc (i0 := 1) (ys := ["_law_word"]) (js := [0]) nd rfl (Or.inl rfl) rfl (LcS.to (os := a03 a2m) ⟨rfl, by decide +kernel, by decide +kernel, rfl, by decide +kernel, by decide +kernel, by decide +kernel⟩ rfl rfl) (pi_range3 rfl G.n_range (a00 a07 (a00 (a0k (a1c (K := K) rfl) rfl G.n_len a3u (a00 (pv 0) a01)) (a00 a07 a01)))) (fun _ _ _ _ => a3t) (fun _ _ _ _ => (a0v a8b (pv 1) (a1b (pv 0)) (a1b (a0o op_add (pv 0) a07)))))
   (a08 (a0d (a5m (a1j (a0k (a80 (K := K) rfl rfl) rfl G.n_all bt_all (a00 (ac2 (ys := []) (js := []) rfl (LcS.to (os := a03 a2m) ⟨rfl, by decide +kernel, by decide +kernel, rfl, by decide +kernel, by decide +kernel, by decide +kernel⟩ rfl rfl) (a2y (pv 1)) (fun _ _ _ _ => a3t) (fun _ _ _ _ => (a0z (a9w (K := K) rfl) (pv 0) (a2a (a00 a0i (a00 a0i a01))) rfl))) a01))) (pv 1) (a2a a01))))), ?_⟩
 refine ⟨_, rfl, .str (S u), u.length, rfl, ⟨hlS, (a1a u).symm⟩, 0, (u.length : Int), 3, rfl, ⟨by decide, by decide, by omega, by omega, by decide, by decide⟩, ?_⟩
 rw [cnt3_eq]
 refine a9i a4o.rng3 (fun i => V.str (S ((u.drop (3 * i)).take 3))) (fun _ _ => trivial) (by unfold aap; rw [List.length_map, List.length_range]; exact big (by omega)) (fun i x H' Q' hx hs hq => ?_) (fun H1 p s1 hp => ?_)
 ·unfold aap at hx
  rw [List.getElem?_map] at hx
  have hi : i < (u.length + 2) / 3 := by
   cases e : (List.range ((u.length + 2) / 3))[i]? with
   | none => rw [e] at hx; cases hx
   | some j => exact List.length_range (n := (u.length + 2) / 3) ▸ (List.getElem?_eq_some_iff.mp e).1
  rw [List.getElem?_range hi] at hx
  cases hx
  have e0 : (0 : Int) + ((i : Nat) : Int) * 3 = ((3 * i : Nat) : Int) := by omega
  refine ⟨_, rfl, _, rfl, _, rfl, _, rfl, _, _, rfl, rfl, _, rfl, _, rfl, hlS, ?_⟩
  rw [e0, show (((3 * i : Nat) : Int) + 3) = ((3 * i : Nat) : Int) + ((3 : Nat) : Int) from rfl, S_mid (by omega) (by omega)]
  exact hq _ (a0r.refl _)
 have er : ((List.range (aap 0 3 ((u.length + 2) / 3)).length).map fun i => V.str (S ((u.drop (3 * i)).take 3))) = sV (chunks u) := by
  unfold aap chunks sV
  rw [List.length_map, List.length_range, List.map_map]
  rfl
 rw [er]
 have s2 := s1.trans (a06 hp (.lst (sV (chunks u))))
 have e2 := @a02 H1 p (.lst (sV (chunks u)))
 generalize upd H1 p (.lst (sV (chunks u))) = H2 at *
 have lc := chunks_len u
 refine ⟨_, rfl, p, rfl, ⟨_, SqL.of e2⟩, ?_⟩
 refine lc_grow a4o.list inRp (fun H' hs => SqL.of (hs _ _ e2)) (by rw [a7i]; exact big (by omega)) (fun i x H' Q' hx hs hq => ?_) (fun H3 p3 s3 hp3 => ?_)
 ·obtain ⟨c, _, rfl⟩ := sV_at hx
  refine ⟨_, rfl, a0u, fun r hr => ⟨r, _, rfl, .inl (SqL.of a02), rfl, rfl, ?_⟩⟩
  rw [if_neg Bool.false_ne_true, rpcs_lit, inV_S, ← inRp_S]
  exact hq _ (a06 hr _)
 ·rw [inRp_all]
  refine ⟨p3, (chunks u).map fun p => aao.contains p, rfl, SqL.of a02, _, rfl, ?_⟩
  have ea : ((chunks u).map fun p => aao.contains p).all id = (chunks u).all fun p => aao.contains p := by rw [List.all_map]; rfl
  have s4 := s3.trans (a06 hp3 (.lst (((chunks u).map fun p => aao.contains p).map V.bl)))
  show if (((chunks u).map fun p => aao.contains p).all id) = true then _ else _
  rw [ea]
  refine a5h (fun c => ?_) (fun c => ?_)
  ·refine ⟨_, rfl, q p _ (s2.trans s4) ?_⟩
   rw [s4 _ _ e2]
   unfold a1n
   rw [if_pos c]
  ·refine ⟨Nat.zero_le _, fun r hr => q r _ ((s2.trans s4).trans (a06 hr _)) ?_⟩
   rw [a02]
   unfold a1n
   rw [if_neg c]
   rfl
abbrev a2u : Stmt := top 80
theorem abm : a0c ["_law_word"] ["_law_word"] (a03 a2u) := ⟨rfl, rfl, rfl, by decide +kernel, rfl, by decide +kernel, by decide +kernel⟩
theorem ac5 (F : Fun K "_law_is_round" "_law_is_round" a2u f fd) (c_law_pieces : Callee P w K mg base k "_law_pieces" ["_law_word"] spPieces) : a1u P w K mg base CX0 (k + 1) f fd ["_law_word"] spLRound := by
 refine F.ok abm (fun vs H Q E h => ?_) (fun cdv A outer s H vs Q E hr h => ?_)
 ·obtain ⟨u, rfl, _⟩ := h; rfl
 obtain ⟨u, rfl, lu, q⟩ := h
 have hu := hr.units
 refine ⟨_, (a08 (a0d (pe_or (a0z (a9w (K := K) rfl) (pv 0) (a2a (a00 a0i (a00 a0i (a00 a0i (a00 a0i a01))))) rfl) (a4j (a0z (a7e (K := K) hu rfl) (a05 c_law_pieces hr rfl (a00 (pv 0) a01)) (a2a a01) (a0g _)))))), ?_⟩
 refine ⟨_, rfl, a6h, fun r hr1 => ⟨r, _, rfl, .inl (SqL.of a02), rfl, rfl, _, rfl, ?_⟩⟩
 rw [if_neg Bool.false_ne_true, lones_lit, inV_S]
 have s1 := a06 hr1 (.lst (sV lones))
 generalize upd H r (.lst (sV lones)) = H1 at *
 unfold aag at q
 refine a5h (fun c => ?_) (fun c => ?_)
 ·rw [c] at q
  exact q _ s1
 ·rw [Bool.eq_false_iff.mpr c] at q
  refine ⟨_, rfl, u, rfl, lu, fun p H2 s2 h2 => ⟨Nat.zero_le _, fun r2 hr2 => ?_⟩⟩
  refine ⟨_, _, rd_slist (a06 hr2 _ _ _ h2) (pcs_ok u), rd_nil2 a02, depth_slist _, ?_⟩
  rw [ne_slist]
  exact q _ ((s1.trans s2).trans (a06 hr2 _))
abbrev a1e : Stmt := top 81
theorem a5e : a0c ["_law_one", "_law_other", "_law_pieces_here", "_law_turns"] ["_law_one", "_law_other"] (a03 a1e) := ⟨rfl, rfl, rfl, by decide +kernel, rfl, by decide +kernel, by decide +kernel⟩
theorem a7v (G : Glo mg) (F : Fun K "_law_from_elsewhere" "_law_from_elsewhere" a1e f fd) (c_law_pieces : Callee P w K mg base k "_law_pieces" ["_law_word"] spPieces) : a1u P w K mg base CX0 (k + 1) f fd ["_law_one", "_law_other"] spFromG := by
 refine F.ok a5e (fun vs H Q E h => ?_) (fun cdv A outer s H vs Q E hr h => ?_)
 ·obtain ⟨u, v, rfl, _⟩ := h; rfl
 obtain ⟨u, v, rfl, lu, lw, q⟩ := h
 have nd := a5e.nd
 refine ⟨_, (a04 (a0f (i := 2) nd rfl (Or.inr rfl) (a05 c_law_pieces hr rfl (a00 (pv 1) a01)))
   (a04 (ps_setlc (i0 := 3) (ys := ["_law_pieces_here"]) (js := [2]) nd rfl (Or.inl rfl) rfl (LcS.to (os := a03 a1e) ⟨rfl, by decide +kernel, by decide +kernel, rfl, by decide +kernel, by decide +kernel, by decide +kernel⟩ rfl rfl) (pi_range1 rfl G.n_range (a00 (a0k (a1c (K := K) rfl) rfl G.n_len a3u (a00 (pv 2) a01)) a01)) (fun _ _ _ _ => a3t) (fun _ _ _ _ => (pe_bmK (K := K) rfl PySem.F.plainAttrs_str PySem.F.slot_str_join PySem.F.type_str_join (mt_joinK (K := K) rfl) a0i (a00 (a0o op_cat (a0v (a91 (K := K) rfl) (pv 1) (a1b (pv 0)) a1l) (a0v (a91 (K := K) rfl) (pv 1) a1l (a1b (pv 0)))) a01))))
   (a08 (a0d (pe_or (a0z a6f (pv 0) (pv 1) (a0g _)) (a4j (a0z (a9w (K := K) rfl) (pv 0) (pv 3) rfl))))))), ?_⟩
 refine ⟨_, rfl, v, rfl, lw, fun p H1 s1 h1 => ?_⟩
 have lp := a8o v
 refine ⟨_, rfl, _, _, rfl, .inl ⟨_, SqL.of h1, rfl⟩, _, rfl, by omega, by rw [a7i]; omega, ?_⟩
 have en : (((sV (a1n v)).length : Nat) : Int).toNat = (a1n v).length := by rw [a7i]; omega
 rw [en]
 have ef : (a1n v).flatten.length ≤ 20000 := by
  by_cases hn : a1n v = []
  ·rw [hn]; simp
  ·rw [pcs_flat hn]; exact lw
 refine a9i a4o.rng (fun i => V.str (S ((a1n v).drop i ++ (a1n v).take i).flatten)) (fun _ _ => trivial) (by rw [a1p]; exact big (by omega)) (fun i x H' Q' hx hs hq => ?_) (fun H2 p2 s2 hp2 => ?_)
 ·have hi : i < (a1n v).length := by
   have := (List.getElem?_eq_some_iff.mp hx).1
   rwa [a1p] at this
  have ex : x = .int (0 + (i : Nat)) := by
   unfold rngV at hx
   rw [List.getElem?_map, List.getElem?_range hi] at hx
   exact (Option.some.inj hx).symm
  rw [Int.zero_add] at ex
  subst ex
  have h2 := hs _ _ h1
  have c1 : a8i (sV (a1n v)) (some ((i : Nat) : Int)) none = sV ((a1n v).drop i) := by
   rw [a4n _ (by rw [a7i]; omega)]
   unfold sV
   rw [List.map_drop]
  have c2 : a8i (sV (a1n v)) none (some ((i : Nat) : Int)) = sV ((a1n v).take i) := by
   rw [acs _ (by rw [a7i]; omega)]
   unfold sV
   rw [List.map_take]
  refine ⟨rfl, _, rfl, _, rfl, _, rfl, p, _, rfl, SqL.of h2, fun m1 k1 => ?_⟩
  have S1 := a06 k1 (.lst (a8i (sV (a1n v)) (some ((i : Nat) : Int)) none))
  have E1 := @a02 H' m1 (.lst (a8i (sV (a1n v)) (some ((i : Nat) : Int)) none))
  generalize upd H' m1 (.lst (a8i (sV (a1n v)) (some ((i : Nat) : Int)) none)) = H3 at *
  refine ⟨_, rfl, _, rfl, _, rfl, p, _, rfl, SqL.of (S1 _ _ h2), fun m2 k2 => ?_⟩
  have S2 := a06 k2 (.lst (a8i (sV (a1n v)) none (some ((i : Nat) : Int))))
  have E2 := @a02 H3 m2 (.lst (a8i (sV (a1n v)) none (some ((i : Nat) : Int))))
  generalize upd H3 m2 (.lst (a8i (sV (a1n v)) none (some ((i : Nat) : Int)))) = H4 at *
  refine ⟨m1, m2, _, _, rfl, rfl, S2 _ _ E1, E2, ?_, fun m3 k3 => ?_⟩
  ·rw [c1, c2, a7i, a7i, List.length_drop, List.length_take]
   exact big (by omega)
  refine ⟨_, m3, ((a1n v).drop i ++ (a1n v).take i).map S, rfl, rfl, acw a02 (by rw [c1, c2, a98]), aba ?_, ?_⟩
  ·rw [List.flatten_append, List.length_append, Nat.add_comm, ← List.length_append, ← List.flatten_append, List.take_append_drop]
   omega
  ·rw [a6n]
   exact hq _ ((S1.trans S2).trans (a06 k3 _))
 have er : ((List.range (rngV 0 (a1n v).length).length).map fun i => V.str (S ((a1n v).drop i ++ (a1n v).take i).flatten)) = sV ((List.range (a1n v).length).map fun i => ((a1n v).drop i ++ (a1n v).take i).flatten) := by
  rw [a1p]
  unfold sV
  rw [List.map_map]
  rfl
 rw [er]
 have s3 := (s1.trans s2).trans (a06 hp2 (.lst (sV ((List.range (a1n v).length).map fun i => ((a1n v).drop i ++ (a1n v).take i).flatten))))
 have q2 := q _ s3
 have eF : aco u v = (decide (u = v) || ((List.range (a1n v).length).map fun i => ((a1n v).drop i ++ (a1n v).take i).flatten).contains u) := rfl
 rw [eF] at q2
 have eD : decide (V.str (S u) = V.str (S v)) = decide (u = v) := by rw [eqS, decide_eq_decide, S_eq]
 refine ⟨_, rfl, _, rfl, rfl, _, rfl, ?_⟩
 rw [eD]
 refine a5h (fun c => ?_) (fun c => ?_)
 ·rw [c, Bool.true_or] at q2
  exact q2
 ·refine ⟨_, rfl, _, rfl, p2, _, rfl, .inl (SqL.of a02), rfl, flat_sV _, ?_⟩
  rw [if_neg Bool.false_ne_true, inV_S]
  rw [Bool.eq_false_iff.mpr c, Bool.false_or] at q2
  exact q2
abbrev a5p : Stmt := top 82
theorem sc_law_says : a0c ["_law_said", "_law_due"] ["_law_said", "_law_due"] (a03 a5p) := ⟨rfl, rfl, rfl, by decide +kernel, rfl, by decide +kernel, by decide +kernel⟩
theorem ok_law_says (G : Glo mg) (F : Fun K "_law_says" "_law_says" a5p f fd) : a1u P w K mg base CX0 (k + 1) f fd ["_law_said", "_law_due"] spSays := by
 refine F.ok sc_law_says (fun vs H Q E h => ?_) (fun cdv A outer s H vs Q E hr h => ?_)
 ·obtain ⟨a, b, rfl, _⟩ := h; rfl
 obtain ⟨a, b, rfl, q⟩ := h
 refine ⟨_, (a08 (a0d (a3d (a0k (a3w (K := K) rfl) rfl G.n_isinstance a0t (a00 (pv 0) (a00 (a6e (v := .ty "bool") rfl G.n_bool bt_bool rfl) a01))) (a4j (a0z a6f (pv 0) (pv 1) (a0g _)))))), ?_⟩
 refine ⟨_, rfl, _, _, _, _, rfl, .bl a, a5n "bool", _, rfl, a7k ?_⟩
 refine ⟨_, rfl, _, rfl, rfl, ?_⟩
 have e : decide (V.bl a = V.bl b) = decide (a = b) := by cases a <;> cases b <;> rfl
 rw [e]
 exact q
abbrev a5r : Stmt := top 83
theorem abo : a0c ["_law_steps", "_law_script", "_law_made", "_law_cell", "_law_step"] ["_law_steps", "_law_script"] (a03 a5r) := ⟨rfl, rfl, rfl, by decide +kernel, rfl, by decide +kernel, by decide +kernel⟩
theorem ok_law_bent (G : Glo mg) (F : Fun K "_law_bent" "_law_bent" a5r f fd) : a1u P w K mg base CX0 (k + 1) f fd ["_law_steps", "_law_script"] (spBent K) := by
 refine F.ok abo (fun vs H Q E h => ?_) (fun cdv A outer s H vs Q E hr h => ?_)
 ·obtain ⟨m, a, ps, ts, ns, rfl, _⟩ := h; rfl
 obtain ⟨m, a, ps, ts, ns, rfl, hm, hps, hok, hlt, hS, h63, q⟩ := h
 have nd := abo.nd
 have hu := hr.units
 refine ⟨_, (a04 (a0f (i := 2) nd rfl (Or.inl rfl) (a9a a6p rfl G.n_list bt_list (a00 (pv 0) a01)))
   (a04 (a3b PassesOwn.never rfl (a2y (pv 1)) (a0q (i := 3) nd rfl (Or.inl rfl)) (a04 (a0f (i := 4) nd rfl (Or.inl rfl) (a0x (a00 (a0j (a0e (K := K) rfl) (a0x (a00 a0i (a00 a0i (a00 a0i a01)))) (a0o a4m (pv 3) a07) (fun _ _ => rfl)) (a00 (a0o op_sub (a0o a4m (a0o a2p (pv 3) a07) a07) a07) (a00 (a0j (a0e (K := K) rfl) (a0x (a00 a0i (a00 a0i (a00 a0i (a00 a0i (a00 a0i a01)))))) (a0o a4m (a0o a2p (pv 3) a07) a07) (fun _ _ => rfl)) a01)))))
   (a04 (a1i (PW.pt (pw_and (a0h a6f (a0o a4m (a0o a2p (pv 3) a07) a07) a07 (a0g _)) (pw_and1 (a0h (a7e (K := K) hu rfl) (pv 2) (a2a a01) (a0g _))))) (a08 (abx (pv 4) (pg_sub (pv 2) (a0o a4m (a0o a2p (pv 3) a07) (a0k (a1c (K := K) rfl) rfl G.n_len a3u (a00 (pv 2) a01))) set_list))) a0m)
   (a04 (a1i (a0h a6f (a0o a4m (a0o a2p (pv 3) a07) a07) a07 (a0g _)) (a08 (a0f (i := 2) nd rfl (Or.inl rfl) (a0v (a91 (K := K) rfl) (pv 2) (a1b a07) a1l))) a0m)
   (a08 (a1i (a0h a6f (a0o a4m (a0o a2p (pv 3) a07) a07) a07 (a0g _)) (a08 (a1r (a6s PySem.F.plainAttrs_list PySem.F.slot_list_append PySem.F.type_list_append a3h (pv 2) (a00 (pv 4) a01)))) a0m))))))
   (a08 (a0d (pv 2))))), ?_⟩
 refine ⟨_, rfl, m, ps, rfl, .inl (SqL.of hm), fun l hl0 => ?_⟩
 have s0 := a06 hl0 (.lst ps)
 refine ⟨_, rfl, a, rfl, ⟨_, s0.seq hS⟩, ?_⟩
 refine a3e (a4o.list (xs := ns.map V.int)) (fun i σ' H' => a0r H H' ∧ ∃ l c st ps ts, σ' = [some (.ref m), some (.ref a), some (.ref l), c, st] ∧ H l = none ∧ H' l = some (.lst ps) ∧ GAt H' ps ts ∧ (∀ t ∈ ts, GOk t) ∧ ts.length ≤ 10000 + i) ⟨s0, l, _, _, ps, ts, rfl, hl0, a02, hps.same s0, hok, by omega⟩ (fun i σ' H' _ h => h.1.seq hS) ?_ ?_
 ·rintro i x σ' H' hx ⟨hs, l, c, st, ps, ts, rfl, nl, hl1, hg, ok, ll⟩
  rw [List.getElem?_map] at hx
  cases e : ns[i]? with
  | none => rw [e] at hx; cases hx
  | some n =>
  rw [e] at hx
  cases hx
  have hi : i < 63 := Nat.lt_of_lt_of_le (List.getElem?_eq_some_iff.mp e).1 h63
  obtain ⟨d, dk, hd⟩ := pick3 n
  obtain ⟨pc, pk, hpc⟩ := pick5 n 27
  refine ⟨a1h, fun p1 k1 => ⟨_, rfl, _, _, rfl, rfl, by show (0 : Int) < 3; decide, p1, _, _, _, rfl, rfl, SqT.of a02, hd, ?_⟩⟩
  have S1 := a06 k1 (.tup [.str "in", .str "out", .str "on"])
  generalize upd H' p1 (.tup [.str "in", .str "out", .str "on"]) = G1 at *
  refine ⟨_, rfl, _, _, rfl, rfl, ⟨by decide, by decide⟩, _, _, rfl, rfl, by show (0 : Int) < 9; decide, _, _, rfl, rfl, ?_⟩
  refine ⟨big (show 5 ≤ 1000000 by decide), fun p2 k2 => ⟨_, rfl, _, _, rfl, rfl, ⟨by decide, by decide⟩, _, _, rfl, rfl, by show (0 : Int) < 5; decide, p2, _, _, _, rfl, rfl, SqT.of a02, hpc, ?_⟩⟩
  have S2 := a06 k2 (.tup [.str "tu", .str "ut", .str "rr", .str "trtrtr", .str "ru"])
  generalize upd G1 p2 (.tup [.str "tu", .str "ut", .str "rr", .str "trtrtr", .str "ru"]) = G2 at *
  refine ⟨a1h, fun p3 k3 => ?_⟩
  have S3 := a06 k3 (.tup [.str d, .int (n / 3 % 9 - 1), .str (S pc)])
  have E3 : upd G2 p3 (.tup [.str d, .int (n / 3 % 9 - 1), .str (S pc)]) p3 = some (gV (d, n / 3 % 9 - 1, pc)) := a02
  have Ok3 : GOk (d, n / 3 % 9 - 1, pc) := ⟨dk, pk⟩
  generalize upd G2 p3 (.tup [.str d, .int (n / 3 % 9 - 1), .str (S pc)]) = G3 at *
  generalize (d, n / 3 % 9 - 1, pc) = t3 at E3 Ok3
  have T3 := S1.trans (S2.trans S3)
  have T := hs.trans T3
  have hl3 := T3 _ _ hl1
  have hg3 := hg.same T3
  by_cases r0 : n / 135 % 9 = 0
  ·refine ⟨_, rfl, _, _, rfl, rfl, ⟨by decide, by decide⟩, _, _, rfl, rfl, by show (0 : Int) < 9; decide, rfl, _, rfl, isT r0 ?_⟩
   refine ⟨_, rfl, big (by decide), fun p4 k4 => ?_⟩
   have S4 := a06 k4 (.lst [])
   have E4 := @a02 G3 p4 (.lst [])
   have hl4 := S4 _ _ hl3
   have hg4 := hg3.same S4
   have E3' := S4 _ _ E3
   have T4 := T.trans S4
   generalize upd G3 p4 (.lst []) = G4 at *
   refine ⟨_, _, rd_glist hl4 hg4 ok, rd_nil2 E4, acr _, _, rfl, ?_⟩
   rw [if_pos (c := (true = true)) rfl]
   cases ts with
   | nil =>
    have e0 : PyData.eqv (.list (([] : List Gst).map gD)) (.list []) = true := by simp [PyData.eqv, PyData.eqvAll]
    rw [e0]
    refine a5a ?_
    refine ⟨_, rfl, _, _, rfl, rfl, ⟨by decide, by decide⟩, _, _, rfl, rfl, by show (0 : Int) < 9; decide, rfl, _, rfl, isF (by omega) ?_⟩
    refine ⟨_, rfl, _, _, rfl, rfl, ⟨by decide, by decide⟩, _, _, rfl, rfl, by show (0 : Int) < 9; decide, rfl, _, rfl, isF (by omega) ?_⟩
    exact ⟨T4, l, _, _, ps, [], rfl, nl, hl4, hg4, ok, by omega⟩
   | cons t0 ts =>
    rw [gList_nil]
    refine a7k ?_
    have lps := hg4.len
    rw [List.length_cons] at lps
    have j0 := Int.emod_nonneg (n / 1215) (show (ps.length : Int) ≠ 0 by omega)
    have j1 := Int.emod_lt_of_pos (n / 1215) (show (0 : Int) < (ps.length : Int) by omega)
    refine ⟨_, rfl, _, rfl, _, rfl, _, _, rfl, rfl, ⟨by decide, by decide⟩, _, rfl, .ref l, ps.length, rfl, .inl ⟨_, SqL.of hl4, rfl⟩, _, _, rfl, rfl, by show (0 : Int) < (ps.length : Int); omega, ?_⟩
    refine ⟨l, ps, _, (n / 1215 % (ps.length : Int)).toNat, rfl, rfl, hl4, by unfold ixN; rw [if_pos j0, if_pos j1], ?_⟩
    refine ⟨_, rfl, _, _, rfl, rfl, ⟨by decide, by decide⟩, _, _, rfl, rfl, by show (0 : Int) < 9; decide, rfl, _, rfl, isF (by omega) ?_⟩
    refine ⟨_, rfl, _, _, rfl, rfl, ⟨by decide, by decide⟩, _, _, rfl, rfl, by show (0 : Int) < 9; decide, rfl, _, rfl, isF (by omega) ?_⟩
    refine ⟨T4.up nl, l, _, _, _, (t0 :: ts).set (n / 1215 % (ps.length : Int)).toNat t3, rfl, nl, a02, ?_, fun t ht => ?_, by rw [List.length_set]; omega⟩
    ·exact (hg4.set E3' _).map fun p t e => by rw [a0p (tup_ne e hl4)]; exact e
    ·rcases List.mem_or_eq_of_mem_set ht with h | h
     ·exact ok t h
     ·rw [h]; exact Ok3
  ·refine ⟨_, rfl, _, _, rfl, rfl, ⟨by decide, by decide⟩, _, _, rfl, rfl, by show (0 : Int) < 9; decide, rfl, _, rfl, isF r0 ?_⟩
   by_cases r1 : n / 135 % 9 = 1
   ·refine ⟨_, rfl, _, _, rfl, rfl, ⟨by decide, by decide⟩, _, _, rfl, rfl, by show (0 : Int) < 9; decide, rfl, _, rfl, isT r1 ?_⟩
    refine ⟨_, rfl, _, rfl, l, _, rfl, SqL.of hl3, fun l2 kl2 => ?_⟩
    refine ⟨_, rfl, _, _, rfl, rfl, ⟨by decide, by decide⟩, _, _, rfl, rfl, by show (0 : Int) < 9; decide, rfl, _, rfl, isF (by omega) ?_⟩
    have S4 := a06 kl2 (.lst (a8i ps (some (1 : Int)) none))
    refine ⟨T.trans S4, l2, _, _, _, ts.drop 1, rfl, T.non kl2, a02, ?_, fun t ht => ok t (List.mem_of_mem_drop ht), by rw [List.length_drop]; omega⟩
    rw [cut_one] at S4 ⊢
    exact (hg3.drop 1).same S4
   ·refine ⟨_, rfl, _, _, rfl, rfl, ⟨by decide, by decide⟩, _, _, rfl, rfl, by show (0 : Int) < 9; decide, rfl, _, rfl, isF r1 ?_⟩
    by_cases r2 : n / 135 % 9 = 2
    ·refine ⟨_, rfl, _, _, rfl, rfl, ⟨by decide, by decide⟩, _, _, rfl, rfl, by show (0 : Int) < 9; decide, rfl, _, rfl, isT r2 ?_⟩
     have lps := hg3.len
     refine ⟨_, rfl, .inl ⟨rfl, _, SqL.of hl3⟩, _, rfl, l, ps, _, rfl, rfl, hl3, by have := sizeLine_eq; omega, ?_⟩
     refine ⟨T.up nl, l, _, _, _, ts ++ [t3], rfl, nl, a02, ?_, fun t ht => ?_, by rw [List.length_append, List.length_singleton]; omega⟩
     ·exact (hg3.snoc E3).map fun p t e => by rw [a0p (tup_ne e hl3)]; exact e
     ·rcases List.mem_append.mp ht with h | h
      ·exact ok t h
      ·rw [List.mem_singleton.mp h]; exact Ok3
    ·refine ⟨_, rfl, _, _, rfl, rfl, ⟨by decide, by decide⟩, _, _, rfl, rfl, by show (0 : Int) < 9; decide, rfl, _, rfl, isF r2 ?_⟩
     exact ⟨T, l, _, _, ps, ts, rfl, nl, hl3, hg3, ok, by omega⟩
 ·rintro σ' H' ⟨hs, l, c, st, ps, ts, rfl, nl, hl1, hg, ok, ll⟩
  rw [List.length_map] at ll
  exact ⟨_, rfl, q l ps ts H' hs hl1 hg ok (by omega)⟩
abbrev a75 : Stmt := top 84
theorem sc_law_led : a0c ["_law_word", "_law_steps", "_law_other", "_law_step"] ["_law_word", "_law_steps", "_law_other"] (a03 a75) := ⟨rfl, rfl, rfl, by decide +kernel, rfl, by decide +kernel, by decide +kernel⟩
theorem ok_law_led (F : Fun K "_law_led" "_law_led" a75 f fd) (c_law_done : Callee P w K mg base k "_law_done" ["_law_word", "_law_step"] spDoneG) : a1u P w K mg base CX0 (k + 1) f fd ["_law_word", "_law_steps", "_law_other"] spLedG := by
 refine F.ok sc_law_led (fun vs H Q E h => ?_) (fun cdv A outer s H vs Q E hr h => ?_)
 ·obtain ⟨x, y, m, ps, ts, rfl, _⟩ := h; rfl
 obtain ⟨x, y, m, ps, ts, rfl, hm, hps, ok, q⟩ := h
 have nd := sc_law_led.nd
 refine ⟨_, (a04 (a3b PassesOwn.never rfl (a2y (pv 1)) (a0q (i := 3) nd rfl (Or.inl rfl)) (a04 (a0f (i := 0) nd rfl (Or.inl rfl) (a05 c_law_done hr rfl (a00 (pv 0) (a00 (pv 3) a01))))
   (a08 (a1i (a0h op_isN (pv 0) ac1 (a0g _)) (a08 (a0d a5f)) a0m))))
   (a08 (a0d (a0z a6f (pv 0) (pv 2) (a0g _))))), ?_⟩
 refine ⟨_, rfl, m, rfl, ⟨_, SqL.of hm⟩, ?_⟩
 refine a3e (a4o.list (xs := ps)) (fun i σ' H' => a0r H H' ∧ ∃ z l, σ' = [some (.str (S z)), some (.ref m), some (.str (S y)), l] ∧ grns (ts.take i) x = some z) ⟨a0r.refl _, x, _, rfl, by rw [List.take_zero]; rfl⟩ (fun i σ' H' _ h => SqL.of (h.1 _ _ hm)) ?_ ?_
 ·rintro i v σ' H' hv ⟨hs, z, l, rfl, hz⟩
  obtain ⟨p, t, rfl, ht, hp⟩ := hps.at hv
  refine ⟨_, rfl, _, rfl, z, p, t, rfl, hs _ _ hp, acl ok hz, fun H1 s1 => ?_⟩
  refine ⟨_, rfl, rfl, _, rfl, ?_⟩
  cases e : acz z t with
  | none =>
   refine a7k ?_
   have q2 := q _ (hs.trans s1)
   rw [decide_eq_false (by rw [grns_stop hz ht e]; exact fun z => by cases z)] at q2
   exact q2
  | some v => exact a5a ⟨hs.trans s1, v, _, rfl, grns_next hz ht e⟩
 ·rintro σ' H' ⟨hs, z, l, rfl, hz⟩
  have e : ts.take ps.length = ts := by rw [hps.len, List.take_length]
  rw [e] at hz
  refine ⟨_, rfl, _, rfl, rfl, ?_⟩
  have q2 := q _ hs
  have e2 : decide (V.str (S z) = V.str (S y)) = decide (grns ts x = some y) := by
   rw [eqS, hz, decide_eq_decide, S_eq]
   simp
  rw [e2]
  exact q2
end
end K08
namespace K08
open PySem L2 TW TX
seal L2.PE L2.PT L2.PA L2.PS L2.PSs L2.PI L2.PG L2.PGs L2.PPs L2.PW L2.PTs L2.PO
section
variable {P : Program} {w : World} {K : PySem.W.Frag} {mg : Str → Option Value} {base : Heap} {f : Addr} {fd : FuncData} {k : Nat}
abbrev a1f : Stmt := top 85
theorem a5i : a0c ["_law_script", "_law_one", "_law_other", "_law_found", "_law_told", "_law_steps", "_law_handed", "_law_answer", "_law_at", "_law_begin", "_law_dance", "_law_due", "_law_many"] ["_law_script", "_law_one", "_law_other"] (a03 a1f) := ⟨rfl, rfl, rfl, by decide +kernel, rfl, by decide +kernel, by decide +kernel⟩
theorem a8a {CAlike CUnlike CQuiet COnward : Addr} (G : Glo mg) (mAlike : mg "Alike" = some (.ref CAlike)) (kA : KCls K CAlike) (kU : KCls K CUnlike) (kQ : KCls K CQuiet) (kO : KCls K COnward) (nA : PySem.W.findIn K (.ref CAlike) "steps" = some none)
  (a2 : PySem.W.kitOne K (.ref CAlike) (.ref CAlike) = some true) (u2 : PySem.W.kitOne K (.ref CUnlike) (.ref CAlike) = some false) (F : Fun K "_law_alike_by_hand" "_law_alike_by_hand" a1f f fd)
  (c_alike : Callee P w K mg base (k + 1) "alike" ["one", "other"] (spAlike CAlike CUnlike)) (c_law_bent : Callee P w K mg base (k + 1) "_law_bent" ["_law_steps", "_law_script"] (spBent K)) (c_law_says : Callee P w K mg base (k + 1) "_law_says" ["_law_said", "_law_due"] spSays) (c_law_led : Callee P w K mg base (k + 1) "_law_led" ["_law_word", "_law_steps", "_law_other"] spLedG) (c_law_walked : Callee P w K mg base (k + 1) "_law_walked" ["_law_word", "_law_fraction"] a8z) (c_law_begun : Callee P w K mg base (k + 1) "_law_begun" ["_law_ahead", "_law_word"] spLBegun) (c_law_same : Callee P w K mg base (k + 1) "_law_same" ["_law_one", "_law_other"] abh)
  (c_A_shows : Method P w K mg base (k + 1) CAlike "shows" ["self", "one", "other"] (a90 CAlike)) (c_Unlike_shows : Method P w K mg base (k + 1) CUnlike "shows" ["self", "one", "other"] (a8x CUnlike)) (c_Onward_shows : Method P w K mg base (k + 1) COnward "shows" ["self", "dance"] (a8y COnward)) (c_Quiet_shows : Method P w K mg base (k + 1) CQuiet "shows" ["self", "dance"] (aa6 CQuiet))
  (c_Alike : Maker P w K mg base k "Alike" CAlike ["self", "steps"] (spInitA CAlike)) (c_Unlike : Maker P w K mg base k "Unlike" CUnlike ["self", "fraction"] (a4q CUnlike "fraction")) (c_Onward : Maker P w K mg base k "Onward" COnward ["self", "fraction"] (a4q COnward "fraction")) (c_Quiet : Maker P w K mg base k "Quiet" CQuiet ["self", "many"] (a4q CQuiet "many")) :
  a1u P w K mg base CX0 (k + 2) f fd ["_law_script", "_law_one", "_law_other"] (spHand K) := by
 refine F.ok a5i (fun vs H Q E h => ?_) (fun cdv A outer s H vs Q E hr h => ?_)
 ·obtain ⟨a, ns, x, y, rfl, _⟩ := h; rfl
 obtain ⟨a, ns, x, y, rfl, hS, h63, wx, wy, lx, ly, q⟩ := h
 have nd := a5i.nd
 have hu := hr.units
 refine ⟨_, (a04 (a0f (i := 3) nd rfl (Or.inl rfl) (a05 c_alike hr rfl (a00 (pv 1) (a00 (pv 2) a01))))
   (a04 (a0f (i := 4) nd rfl (Or.inl rfl) (a5m (a1j (a0k (a7c (K := K) rfl) rfl G.n_isinstance a0t (a00 (pv 3) (a00 (a2n (v := .ref CAlike) rfl mAlike rfl) a01)))) (a1m (pv 3) rfl) (a1m (a05 c_alike hr rfl (a00 (pv 1) (a00 (pv 1) a01))) rfl)))
   (a04 (a3b PassesOwn.never rfl (a2y (a2a (a00 (pv 4) (a00 (a0v (a91 (K := K) rfl) (pv 4) (a1b a07) a1l) (a00 (pe_revL (pv 4) (a7l a4p a07)) (a00 (a05 c_law_bent hr rfl (a00 (pv 4) (a00 (pv 0) a01))) a01)))))) (a0q (i := 5) nd rfl (Or.inl rfl)) (a04 (a0f (i := 6) nd rfl (Or.inl rfl) (a9a a6p rfl G.n_list bt_list (a00 (pv 5) a01)))
   (a04 (a0f (i := 7) nd rfl (Or.inl rfl) (a3c c_Alike hr rfl (a00 (pv 6) a01)))
   (a04 (a1r (a6s PySem.F.plainAttrs_list PySem.F.slot_list_append PySem.F.type_list_append a3h (pv 6) (a00 a07 a01)))
   (a04 (a1i (PW.pt (pw_or (a0h (a7e (K := K) hu rfl) (a1m (pv 7) rfl) (pv 5) (a0g _)) (pw_or1 (a1v (a1j (a05 c_law_says hr rfl (a00 (a5l (pl := _) (pv 7) kA.cl c_A_shows hr (a00 (pv 1) (a00 (pv 2) a01))) (a00 (a05 c_law_led hr rfl (a00 (pv 1) (a00 (pv 5) (a00 (pv 2) a01)))) a01)))))))) (a08 (a0d a5f)) a0m)
   (a08 (a1i (a1v (a1j (a05 c_law_says hr rfl (a00 (a5l (pl := _) (pv 7) kA.cl c_A_shows hr (a00 (pv 1) (a00 (pv 1) a01))) (a00 (a05 c_law_led hr rfl (a00 (pv 1) (a00 (pv 5) (a00 (pv 1) a01)))) a01))))) (a08 (a0d a5f)) a0m)))))))
   (a04 (a3b PassesOwn.never rfl (a2y (a2a (a00 (a0o a2p (a0k (a1c (K := K) rfl) rfl G.n_len a3u (a00 (pv 1) a01)) a07) (a00 a07 a01)))) (a0q (i := 8) nd rfl (Or.inl rfl)) (a04 (a0f (i := 9) nd rfl (Or.inl rfl) (a05 c_law_walked hr rfl (a00 (a0v a8b (pv 1) a1l (a1b (pv 8))) (a00 (a0x (a00 a07 (a00 a07 a01))) a01))))
   (a04 (a1i (a1v (a1j (a05 c_law_says hr rfl (a00 (a5l (pl := _) (a3c c_Unlike hr rfl (a00 (pv 9) a01)) kU.cl c_Unlike_shows hr (a00 (pv 1) (a00 (pv 2) a01))) (a00 (a0z (a7e (K := K) hu rfl) (a05 c_law_walked hr rfl (a00 (pv 1) (a00 (pv 9) a01))) (a05 c_law_walked hr rfl (a00 (pv 2) (a00 (pv 9) a01))) (a0g _)) a01))))) (a08 (a0d a5f)) a0m)
   (a08 (a1i (a1v (a1j (a05 c_law_says hr rfl (a00 (a5l (pl := _) (a3c c_Onward hr rfl (a00 (pv 9) a01)) kO.cl c_Onward_shows hr (a00 (pv 2) a01)) (a00 (a0z (a7e (K := K) hu rfl) (a05 c_law_walked hr rfl (a00 (a0o a7s (pv 2) a07) (a00 (pv 9) a01))) (pv 9) (a0g _)) a01))))) (a08 (a0d a5f)) a0m)))))
   (a04 (a3b PassesOwn.never rfl (a2y (a2a (a00 a0i (a00 a0i (a00 a0i (a00 (a05 c_law_begun hr rfl (a00 (a0v a8b (pv 1) a1l (a1b a07)) (a00 a0i a01))) a01)))))) (a0q (i := 10) nd rfl (Or.inr rfl)) (a04 (ps_setlc (i0 := 11) (ys := ["_law_dance"]) (js := [10]) nd rfl (Or.inl rfl) rfl (LcS.to (os := a03 a1f) ⟨rfl, by decide +kernel, by decide +kernel, rfl, by decide +kernel, by decide +kernel, by decide +kernel⟩ rfl rfl) (abz rfl G.n_range (a00 a07 (a00 a07 a01))) (fun _ _ _ _ => pts_one (a1j (a05 c_law_same hr rfl (a00 (a0o a7s (pv 1) (pv 0)) (a00 a0i a01))))) (fun _ _ _ _ => (pv 0)))
   (a08 (a3b PassesOwn.never rfl (abz rfl G.n_range (a00 (a7l a4p a07) (a00 a07 a01))) (a0q (i := 12) nd rfl (Or.inl rfl)) (a08 (a1i (a1v (a1j (a05 c_law_says hr rfl (a00 (a5l (pl := _) (a3c c_Quiet hr rfl (a00 (pv 12) a01)) kQ.cl c_Quiet_shows hr (a00 (pv 10) a01)) (a00 (a3d (a0z (a7e (K := K) hu rfl) (pv 11) (a2a a01) (a0g _)) (a4j (a0z a6f (a0j (a8r (K := K) rfl) (pv 11) a07 (fun _ _ => rfl)) (pv 12) (a0g _)))) a01))))) (a08 (a0d a5f)) a0m))))))
   (a08 (a0d a5f))))))), ?_⟩
 have hzx : (S x).length ≤ sizeLine := by rw [a1a]; exact big (by omega)
 have hly : (S y).length ≤ 10000 := by rw [a1a]; omega
 refine seq_cut2 (fun σ' H' => a0r H H' ∧ ∃ f3 m ps ts, σ' = [some (.ref a), some (.str (S x)), some (.str (S y)), f3, some (.ref m), none, none, none, none, none, none, none, none] ∧ H' m = some (.lst ps) ∧ GAt H' ps ts ∧ (∀ t ∈ ts, GOk t) ∧ ts.length ≤ 10000) (fun M hM => ?_) ?_
 ·refine ⟨_, rfl, _, rfl, x, y, rfl, wx, wy, by omega, by omega, fun ea o dx m ps H1 s1 nm ho hm hps => ?_, fun ea o g H1 s1 hU hg hne => ?_⟩
  ·refine ⟨_, rfl, .inr ⟨_, _, _, _, rfl, kA.ty ho, a2, _, rfl, a7k ?_⟩⟩
   refine ⟨_, rfl, o, CAlike, dx, _, _, rfl, ho, kA.cl, nA, rfl, ?_⟩
   refine hM _ _ ⟨s1, _, m, ps, _, rfl, hm, GAt.of hps, fun t ht => ?_, ?_⟩
   ·obtain ⟨t0, h0, rfl⟩ := List.mem_map.mp ht
    exact gOf_ok (steps2_pcs x y t0 h0)
   ·rw [List.length_map]
    have := steps2_len x y
    omega
  ·obtain ⟨dx, p0, ho, hp0⟩ := id hU
   refine ⟨_, rfl, .inr ⟨_, _, _, _, rfl, kU.ty ho, u2, _, rfl, a5a ?_⟩⟩
   have ex : al x x = true := (al_iff x x).mpr ⟨rfl, rfl, rfl⟩
   refine ⟨_, rfl, _, rfl, x, x, rfl, wx, wx, by omega, by omega, fun _ o2 dx2 m ps H2 s2 nm ho2 hm hps => ?_, fun en => absurd ex (by rw [en]; exact Bool.false_ne_true)⟩
   refine ⟨o2, CAlike, dx2, _, _, rfl, ho2, kA.cl, nA, rfl, ?_⟩
   refine hM _ _ ⟨s1.trans s2, _, m, ps, _, rfl, hm, GAt.of hps, fun t ht => ?_, ?_⟩
   ·obtain ⟨t0, h0, rfl⟩ := List.mem_map.mp ht
    exact gOf_ok (steps2_pcs x x t0 h0)
   ·rw [List.length_map]
    have := steps2_len x x
    omega
 rintro σ' H1 ⟨s1, f3, m, ps, ts, rfl, hm, hg, ok, lt⟩
 refine a7p (fun σ' H' => a0r H H' ∧ ∃ f4 f5 f6 f7 f8, σ' = [some (.ref a), some (.str (S x)), some (.str (S y)), f3, f4, f5, f6, f7, f8, none, none, none, none]) (fun M hM => ?_) ?_
 ·refine ⟨_, rfl, _, rfl, _, rfl, m, _, rfl, SqL.of hm, fun m1 k1 => ?_⟩
  have S1 := a06 k1 (.lst (a8i ps (some (1 : Int)) none))
  have E1 := @a02 H1 m1 (.lst (a8i ps (some (1 : Int)) none))
  generalize upd H1 m1 (.lst (a8i ps (some (1 : Int)) none)) = G1 at *
  rw [cut_one] at E1
  refine ⟨_, rfl, _, rfl, m, _, rfl, rfl, SqL.of (S1 _ _ hm), fun m2 k2 => ?_⟩
  have S2 := a06 k2 (.lst ps.reverse)
  have E2 := @a02 G1 m2 (.lst ps.reverse)
  generalize upd G1 m2 (.lst ps.reverse) = G2 at *
  have S12 := S1.trans S2
  refine ⟨_, rfl, _, rfl, m, a, ps, ts, ns, rfl, S12 _ _ hm, hg.same S12, ok, lt, (s1.trans S12).seq hS, h63, fun m3 ps3 ts3 G3 S3 E3 hg3 ok3 lt3 => ?_⟩
  refine ⟨a6h, fun l kl => ⟨l, rfl, ⟨_, SqL.of a02⟩, ?_⟩⟩
  have S4 := a06 kl (.lst [.ref m, .ref m1, .ref m2, .ref m3])
  have E4 := @a02 G3 l (.lst [.ref m, .ref m1, .ref m2, .ref m3])
  generalize upd G3 l (.lst [.ref m, .ref m1, .ref m2, .ref m3]) = G4 at *
  have T4 := S12.trans (S3.trans S4)
  refine a3e (a4o.list (xs := [.ref m, .ref m1, .ref m2, .ref m3])) (fun i σ' H' => a0r G4 H' ∧ ∃ f5 f6 f7, σ' = [some (.ref a), some (.str (S x)), some (.str (S y)), f3, some (.ref m), f5, f6, f7, none, none, none, none, none]) ⟨a0r.refl _, _, _, _, rfl⟩ (fun i σ' H' _ h => SqL.of (h.1 _ _ E4)) ?_ ?_
  ·rintro i v σ' H' hv ⟨hs, f5, f6, f7, rfl⟩
   obtain ⟨mj, pj, tj, rfl, hmj, hgj, okj, ltj⟩ : ∃ mj pj tj, v = .ref mj ∧ G4 mj = some (.lst pj) ∧ GAt G4 pj tj ∧ (∀ t ∈ tj, GOk t) ∧ tj.length ≤ 10063 := by
    match i, hv with
    | 0, hv => cases hv; exact ⟨m, ps, ts, rfl, T4 _ _ hm, hg.same T4, ok, by omega⟩
    | 1, hv => cases hv; exact ⟨m1, _, ts.drop 1, rfl, S4 _ _ (S3 _ _ (S2 _ _ E1)), (hg.drop 1).same T4, fun t ht => ok t (List.mem_of_mem_drop ht), by rw [List.length_drop]; omega⟩
    | 2, hv => cases hv; exact ⟨m2, _, ts.reverse, rfl, S4 _ _ (S3 _ _ E2), hg.rev.same T4, fun t ht => ok t (List.mem_reverse.mp ht), by rw [List.length_reverse]; omega⟩
    | 3, hv => cases hv; exact ⟨m3, ps3, ts3, rfl, S4 _ _ E3, hg3.same S4, ok3, lt3⟩
    | n + 4, hv => cases hv
   have hmj' := hs _ _ hmj
   have hgj' := hgj.same hs
   have ljp := hgj'.len
   refine ⟨_, rfl, mj, pj, rfl, .inl (SqL.of hmj'), fun h kh => ?_⟩
   have Sa := a06 kh (.lst pj)
   have Ea := @a02 H' h (.lst pj)
   generalize upd H' h (.lst pj) = Ha at *
   refine ⟨_, rfl, fun o dx no ndx _ => ?_⟩
   have Mb := a2b (o := .own o) (o' := .ins CAlike dx []) no ndx
   refine ⟨o, dx, h, pj, rfl, a02, Mb _ _ Ea, fun m' nm' => ⟨rfl, ?_⟩⟩
   have hne : o ≠ h := fun z => by subst z; rw [Ea] at no; cases no
   have hnm : o ≠ m' := a0n a02 nm'
   have hhm : h ≠ m' := a0n (Mb _ _ Ea) nm'
   have Sc := ((Sa.trans (Mb.trans (a06 nm' (.lst pj))))).up (o := .ins CAlike dx [("steps", .ref m')]) (Sa.non no)
   have Eo : upd (upd (upd (upd Ha dx (.own o)) o (.ins CAlike dx [])) m' (.lst pj)) o (.ins CAlike dx [("steps", .ref m')]) o = some (.ins CAlike dx [("steps", .ref m')]) := a02
   have Em : upd (upd (upd (upd Ha dx (.own o)) o (.ins CAlike dx [])) m' (.lst pj)) o (.ins CAlike dx [("steps", .ref m')]) m' = some (.lst pj) := by rw [a0p (Ne.symm hnm), a02]
   have Eh : upd (upd (upd (upd Ha dx (.own o)) o (.ins CAlike dx [])) m' (.lst pj)) o (.ins CAlike dx [("steps", .ref m')]) h = some (.lst pj) := by rw [a0p (Ne.symm hne), a0p hhm]; exact Mb _ _ Ea
   generalize upd (upd (upd (upd Ha dx (.own o)) o (.ins CAlike dx [])) m' (.lst pj)) o (.ins CAlike dx [("steps", .ref m')]) = Hc at *
   refine ⟨_, rfl, .inl ⟨rfl, _, SqL.of Eh⟩, h, pj, _, rfl, rfl, Eh, by have := sizeLine_eq; omega, ?_⟩
   have Sd := Sc.up (o := .lst (pj ++ [.int 0])) kh
   have Eo' : upd Hc h (.lst (pj ++ [.int 0])) o = some (.ins CAlike dx [("steps", .ref m')]) := by rw [a0p hne]; exact Eo
   have Em' : upd Hc h (.lst (pj ++ [.int 0])) m' = some (.lst pj) := by rw [a0p (Ne.symm hhm)]; exact Em
   generalize upd Hc h (.lst (pj ++ [.int 0])) = Hd at *
   have hmd := Sd _ _ hmj'
   have hgd := hgj'.same Sd
   refine ⟨_, rfl, o, CAlike, dx, _, _, rfl, Eo', kA.cl, nA, rfl, _, rfl, _, _, rd_glist Em' hgd okj, rd_glist hmd hgd okj, acr _, _, rfl, ?_⟩
   rw [if_pos (c := (true = true)) rfl, gList_refl]
   refine a5a ?_
   refine ⟨_, rfl, o, dx, _, rfl, Eo', rfl, _, rfl, _, rfl, o, x, y, tj, rfl, ⟨dx, m', pj, Eo', Em', hgd⟩, by omega, fun He Se => ?_⟩
   refine ⟨_, rfl, _, rfl, _, rfl, x, y, mj, pj, tj, rfl, Se _ _ hmd, hgd.same Se, by omega, fun Hf Sf => ?_⟩
   refine ⟨_, _, rfl, _, rfl, saysF rfl ?_⟩
   have Sf' := Se.trans Sf
   refine ⟨_, rfl, o, dx, _, rfl, Sf' _ _ Eo', rfl, _, rfl, _, rfl, o, x, x, tj, rfl, ⟨dx, m', pj, Sf' _ _ Eo', Sf' _ _ Em', hgd.same Sf'⟩, by omega, fun Hg Sg => ?_⟩
   have Sg' := Sf'.trans Sg
   refine ⟨_, rfl, _, rfl, _, rfl, x, x, mj, pj, tj, rfl, Sg' _ _ hmd, hgd.same Sg', by omega, fun Hh Sh => ?_⟩
   refine ⟨_, _, rfl, _, rfl, saysF rfl ?_⟩
   exact ⟨hs.trans (Sd.trans (Sg'.trans Sh)), _, _, _, rfl⟩
  ·rintro σ' H' ⟨hs, f5, f6, f7, rfl⟩
   exact hM _ _ ⟨s1.trans (T4.trans hs), _, _, _, _, _, rfl⟩
 clear hm hg ok lt
 rintro σ' H2 ⟨s2, f4, f5, f6, f7, f8, rfl⟩
 refine a7p (fun σ' H' => a0r H H' ∧ ∃ f8 f9, σ' = [some (.ref a), some (.str (S x)), some (.str (S y)), f3, f4, f5, f6, f7, f8, f9, none, none, none]) (fun M hM => ?_) ?_
 ·refine ⟨_, rfl, .str (S x), x.length, rfl, len_S (by omega), _, _, rfl, rfl, ⟨by decide, by decide⟩, a0u, fun l kl => ⟨l, rfl, ⟨_, SqL.of a02⟩, ?_⟩⟩
  have S4 := a06 kl (.lst [.int ((x.length : Int) / 2), .int 0])
  have E4 := @a02 H2 l (.lst [.int ((x.length : Int) / 2), .int 0])
  generalize upd H2 l (.lst [.int ((x.length : Int) / 2), .int 0]) = G4 at *
  refine a3e (a4o.list (xs := [.int ((x.length : Int) / 2), .int 0])) (fun i σ' H' => a0r G4 H' ∧ ∃ f8 f9, σ' = [some (.ref a), some (.str (S x)), some (.str (S y)), f3, f4, f5, f6, f7, f8, f9, none, none, none]) ⟨a0r.refl _, _, _, rfl⟩ (fun i σ' H' _ h => SqL.of (h.1 _ _ E4)) ?_ ?_
  ·rintro i v σ' H' hv ⟨hs, f8, f9, rfl⟩
   obtain ⟨j, rfl, j0, j1⟩ : ∃ j : Int, v = .int j ∧ 0 ≤ j ∧ j ≤ x.length := by
    match i, hv with
    | 0, hv => cases hv; exact ⟨_, rfl, by omega, by omega⟩
    | 1, hv => cases hv; exact ⟨_, rfl, by omega, by omega⟩
    | n + 2, hv => cases hv
   refine ⟨_, rfl, _, rfl, j, rfl, _, rfl, hzx, ?_⟩
   rw [S_to j0 j1]
   refine ⟨a0u, fun p kp => ⟨x.take j.toNat, p, (0, 1), rfl, a02, fun r Ha Sa Er => ?_⟩⟩
   have T1 := hs.trans ((a06 kp (.tup [.int 0, .int 1])).trans Sa)
   generalize walk (x.take j.toNat) (0, 1) = g at Er
   refine ⟨_, rfl, fun o dx no ndx _ => ⟨o, dx, _, rfl, a02, rfl, ?_⟩⟩
   rw [a2c]
   have Mb := a2b (o := .own o) (o' := .ins CUnlike dx [("fraction", .ref r)]) no ndx
   have Eo := @a02 (upd Ha dx (.own o)) o (.ins CUnlike dx [("fraction", .ref r)])
   generalize upd (upd Ha dx (.own o)) o (.ins CUnlike dx [("fraction", .ref r)]) = Hb at *
   have Er1 := Mb _ _ Er
   refine ⟨o, dx, _, rfl, Eo, rfl, _, rfl, _, rfl, o, x, y, g, rfl, ⟨dx, r, Eo, Er1⟩, fun Hc Sc => ?_⟩
   refine ⟨_, rfl, _, rfl, x, r, g, rfl, Sc _ _ Er1, fun r1 Hd Sd e1 => ⟨_, rfl, _, rfl, y, r, g, rfl, Sd _ _ (Sc _ _ Er1), fun r2 He Se e2 => ?_⟩⟩
   refine ⟨fD (walk x g), fD (walk y g), a2d (Se _ _ e1), a2d e2, a1k _, _, _, rfl, _, rfl, ?_⟩
   rw [if_pos (c := (true = true)) rfl, a6o]
   refine saysF rfl ?_
   have Te := Sc.trans (Sd.trans Se)
   have Er2 := Te _ _ Er1
   refine ⟨_, rfl, fun o2 dx2 no2 ndx2 _ => ⟨o2, dx2, _, rfl, a02, rfl, ?_⟩⟩
   rw [a2c]
   have Mc := a2b (o := .own o2) (o' := .ins COnward dx2 [("fraction", .ref r)]) no2 ndx2
   have Eo2 := @a02 (upd He dx2 (.own o2)) o2 (.ins COnward dx2 [("fraction", .ref r)])
   generalize upd (upd He dx2 (.own o2)) o2 (.ins COnward dx2 [("fraction", .ref r)]) = Hg at *
   have Er3 := Mc _ _ Er2
   refine ⟨o2, dx2, _, rfl, Eo2, rfl, _, rfl, o2, dx2, y, r, g, rfl, Eo2, Er3, by omega, fun Hh Sh => ?_⟩
   have Er4 := Sh _ _ Er3
   refine ⟨_, rfl, .inr ⟨_, _, rfl, rfl, by decide, by decide, hly, ?_⟩⟩
   rw [a8w]
   refine ⟨_, rfl, rp 6 y, r, g, rfl, Er4, fun r3 Hi Si e3 => ⟨_, rfl, ?_⟩⟩
   refine ⟨fD (walk (rp 6 y) g), fD g, a2d e3, a2d (Si _ _ Er4), a1k _, _, _, rfl, _, rfl, ?_⟩
   rw [if_pos (c := (true = true)) rfl, a6o]
   refine saysF rfl ?_
   exact ⟨T1.trans (Mb.trans (Te.trans (Mc.trans (Sh.trans Si)))), _, _, rfl⟩
  ·rintro σ' H' ⟨hs, f8, f9, rfl⟩
   exact hM _ _ ⟨s2.trans (S4.trans hs), _, _, rfl⟩
 clear s2
 rintro σ' H3 ⟨s3, f8, f9, rfl⟩
 obtain ⟨c9, e9, w9, l9⟩ := slice_word wx none (some 9)
 refine ⟨_, rfl, _, rfl, _, rfl, hzx, ?_⟩
 rw [show Txt.slice (S x) none (some 9) = S c9 from e9, lit_ru]
 refine ⟨c9, [114, 117], rfl, by omega, by decide, fun G1 S1 => ?_⟩
 refine ⟨a6h, fun l kl => ⟨l, rfl, ⟨_, SqL.of a02⟩, ?_⟩⟩
 have wr : IsW [114, 117] := IsW.cons (.inr (.inr rfl)) (IsW.cons (.inr (.inl rfl)) IsW.nil)
 have wb : IsW (c9 ++ [114, 117] ++ bk c9) := (w9.append wr).append (bk_W _)
 have lb : (c9 ++ [114, 117] ++ bk c9).length ≤ 1000 := by
  rw [List.length_append, List.length_append, a2r]
  show c9.length + 2 + c9.length ≤ 1000
  omega
 generalize c9 ++ [114, 117] ++ bk c9 = b9 at *
 have S2 := a06 kl (.lst [.str "", .str "r", .str "tr", .str (S b9)])
 have E2 := @a02 G1 l (.lst [.str "", .str "r", .str "tr", .str (S b9)])
 generalize upd G1 l (.lst [.str "", .str "r", .str "tr", .str (S b9)]) = G2 at *
 refine a3e (a4o.list (xs := [.str "", .str "r", .str "tr", .str (S b9)])) (fun i σ' H' => a0r G2 H' ∧ ∃ f10 f11 f12, σ' = [some (.ref a), some (.str (S x)), some (.str (S y)), f3, f4, f5, f6, f7, f8, f9, f10, f11, f12]) ⟨a0r.refl _, _, _, _, rfl⟩ (fun i σ' H' _ h => SqL.of (h.1 _ _ E2)) ?_ ?_
 ·rintro i v σ' H' hv ⟨hs, f10, f11, f12, rfl⟩
  obtain ⟨d, rfl, ld⟩ : ∃ d, v = .str (S d) ∧ d.length ≤ 1000 := by
   match i, hv with
   | 0, hv => cases hv; exact ⟨[], rfl, by decide⟩
   | 1, hv => cases hv; exact ⟨[114], by rw [a7a], by decide⟩
   | 2, hv => cases hv; exact ⟨[116, 114], by rw [lit_tr], by decide⟩
   | 3, hv => cases hv; exact ⟨b9, rfl, lb⟩
   | n + 4, hv => cases hv
  have hlS : (S d).length ≤ 10000 := by rw [a1a]; omega
  refine ⟨1, 4, rfl, ⟨by decide, by decide, by decide, by decide⟩, ?_⟩
  refine lc_gen a4o.rng (fun i => al (rp (i + 1) d) []) (fun i => V.int (1 + (i : Nat))) (fun _ _ => trivial) (by rw [a1p]; exact a1h) (fun i x H' R hx hs hR => ?_) (fun i x H' Q' hx _ hs hq => ?_) (fun Ha l sa hla => ?_)
  ·have hi : i < 3 := by
    have := (List.getElem?_eq_some_iff.mp hx).1
    rwa [a1p] at this
   have ex : x = .int (1 + (i : Nat)) := by
    unfold rngV at hx
    rw [List.getElem?_map, List.getElem?_range (show i < (4 - 1 : Int).toNat from hi)] at hx
    exact (Option.some.inj hx).symm
   subst ex
   refine ⟨_, rfl, _, rfl, .inr ⟨_, _, rfl, rfl, by omega, by omega, hlS, ?_⟩⟩
   rw [a8w]
   have e1 : (1 + (i : Int)).toNat = i + 1 := by omega
   rw [e1]
   exact ⟨rp (i + 1) d, [], rfl, fun H2 s2 => ⟨_, rfl, hR _ s2⟩⟩
  ·have hi : i < 3 := by
    have := (List.getElem?_eq_some_iff.mp hx).1
    rwa [a1p] at this
   have ex : x = .int (1 + (i : Nat)) := by
    unfold rngV at hx
    rw [List.getElem?_map, List.getElem?_range (show i < (4 - 1 : Int).toNat from hi)] at hx
    exact (Option.some.inj hx).symm
   subst ex
   exact ⟨_, rfl, hq _ (a0r.refl _)⟩
  have eK : keepI (fun i => al (rp (i + 1) d) []) (fun i => V.int (1 + (i : Nat))) (rngV 1 (4 - 1 : Int).toNat).length = iV (duel d) := by
   rw [a1p]
   exact keep_due d
  rw [eK]
  have Sb := sa.trans (a06 hla (.lst (iV (duel d))))
  have eL := @a02 Ha l (.lst (iV (duel d)))
  generalize upd Ha l (.lst (iV (duel d))) = Hb at *
  refine ⟨1, rfl, _, _, rfl, ⟨by decide, by decide, by decide, by decide⟩, ?_⟩
  refine a3e a4o.rng (fun i σ' H' => a0r Hb H' ∧ ∃ f12, σ' = [some (.ref a), some (.str (S x)), some (.str (S y)), f3, f4, f5, f6, f7, f8, f9, some (.str (S d)), some (.ref l), f12]) ⟨a0r.refl _, _, rfl⟩ (fun _ _ _ _ _ => trivial) ?_ ?_
  ·rintro i2 v σ' Hc hv2 ⟨hs2, f12, rfl⟩
   obtain ⟨n, rfl⟩ : ∃ n : Int, v = .int n := by
    have hm := List.mem_of_getElem? hv2
    unfold rngV at hm
    obtain ⟨j, _, rfl⟩ := List.mem_map.mp hm
    exact ⟨_, rfl⟩
   refine ⟨_, rfl, fun o dx no ndx _ => ⟨o, dx, _, rfl, a02, rfl, ?_⟩⟩
   rw [a2c]
   have Mb := a2b (o := .own o) (o' := .ins CQuiet dx [("many", .int n)]) no ndx
   have Eo := @a02 (upd Hc dx (.own o)) o (.ins CQuiet dx [("many", .int n)])
   generalize upd (upd Hc dx (.own o)) o (.ins CQuiet dx [("many", .int n)]) = Hd at *
   refine ⟨o, dx, _, rfl, Eo, rfl, _, rfl, o, dx, d, n, rfl, Eo, by omega, fun He Se => ?_⟩
   refine ⟨_, rfl, big (by decide), fun m km => ?_⟩
   have Sm := a06 km (.lst [])
   have Tm := hs2.trans (Mb.trans (Se.trans Sm))
   have eLm := Tm _ _ eL
   refine ⟨_, _, rd_list eLm, rd_nil2 a02, aa1 _, _, rfl, ?_⟩
   rw [if_pos (c := (true = true)) rfl]
   have says := duel_says d n
   cases hd : duel d with
   | nil =>
    rw [hd] at says
    have e0 : PyData.eqv (.list (([] : List Int).map PyData.int)) (.list []) = true := by simp [PyData.eqv, PyData.eqvAll]
    rw [e0]
    refine a5a ⟨_, _, rfl, _, rfl, saysF (by rw [says]; rfl) ?_⟩
    exact ⟨Tm, _, rfl⟩
   | cons h0 r0 =>
    rw [hd] at says eLm
    rw [acf]
    refine a7k ⟨_, rfl, l, _, 0, .int h0, rfl, rfl, SqL.of eLm, atI_zero rfl, _, rfl, rfl, _, _, rfl, _, rfl, saysF ?_ ?_⟩
    ·rw [says]
     show (true && decide (some h0 = some n)) = decide (V.int h0 = V.int n)
     rw [Bool.true_and, Bool.eq_iff_iff]
     simp
    ·exact ⟨Tm, _, rfl⟩
  ·rintro σ' Hc ⟨hs2, f12, rfl⟩
   exact ⟨hs.trans (Sb.trans hs2), _, _, _, rfl⟩
 ·rintro σ' H' ⟨hs, f10, f11, f12, rfl⟩
  exact q _ (s3.trans (S1.trans (S2.trans hs)))
end
end K08
namespace K08
open PySem L2 TW TX
seal L2.PE L2.PT L2.PA L2.PS L2.PSs L2.PI L2.PG L2.PGs L2.PPs L2.PW L2.PTs L2.PO
section
variable {P : Program} {w : World} {K : PySem.W.Frag} {mg : Str → Option Value} {base : Heap} {f : Addr} {fd : FuncData} {k : Nat}
abbrev a1s : Stmt := top 86
theorem a6j : a0c ["_law_script", "_law_one", "_law_other", "_law_pair", "_law_more", "_law_found", "_law_words", "_law_word", "_law_due", "_law_away", "_law_first", "_law_second"] ["_law_script", "_law_one", "_law_other"] (a03 a1s) := ⟨rfl, rfl, rfl, by decide +kernel, rfl, by decide +kernel, by decide +kernel⟩
theorem gName_app {i : Nat} {x : V} {σ : St} {H : Hp} {Q : St → Hp → Prop} : aau i x σ H Q = Q (σ.set i (some x)) H := rfl
theorem a9c {CLed CParts : Addr} (G : Glo mg) (mLed : mg "Led" = some (.ref CLed)) (kL : KCls K CLed) (kP : KCls K CParts) (nL : PySem.W.findIn K (.ref CLed) "word" = some none) (nP1 : PySem.W.findIn K (.ref CParts) "there" = some none) (nP2 : PySem.W.findIn K (.ref CParts) "back" = some none)
  (l2 : PySem.W.kitOne K (.ref CLed) (.ref CLed) = some true) (p2 : PySem.W.kitOne K (.ref CParts) (.ref CLed) = some false) (F : Fun K "_law_led_by_hand" "_law_led_by_hand" a1s f fd)
  (c_law_pairs : Callee P w K mg base (k + 1) "_law_pairs" ["_law_script"] (spLPairs K)) (c_led : Callee P w K mg base (k + 1) "led" ["pair", "other"] (spLed CLed CParts)) (c_law_walked : Callee P w K mg base (k + 1) "_law_walked" ["_law_word", "_law_fraction"] a8z) (c_law_says : Callee P w K mg base (k + 1) "_law_says" ["_law_said", "_law_due"] spSays)
  (c_Led_shows : Method P w K mg base (k + 1) CLed "shows" ["self", "pair", "other"] (spLedShows CLed)) (c_Parts_shows : Method P w K mg base (k + 1) CParts "shows" ["self", "pair", "other"] (aa7 CParts))
  (c_Led : Maker P w K mg base k "Led" CLed ["self", "word"] (a4q CLed "word")) (c_Parts : Maker P w K mg base k "Parts" CParts ["self", "there", "back"] (spInit2 CParts "there" "back")) :
  a1u P w K mg base CX0 (k + 2) f fd ["_law_script", "_law_one", "_law_other"] (spHand K) := by
 refine F.ok a6j (fun vs H Q E h => ?_) (fun cdv A outer s H vs Q E hr h => ?_)
 ·obtain ⟨a, ns, x, y, rfl, _⟩ := h; rfl
 obtain ⟨a, ns, x, y, rfl, hS, h63, wx, wy, lx, ly, q⟩ := h
 have nd := a6j.nd
 have hu := hr.units
 refine ⟨_, (a04 (abx (a05 c_law_pairs hr rfl (a00 (pv 0) a01)) (pg_tup rfl (a1z (a0q (i := 3) nd rfl (Or.inl rfl)) (a1z (a0q (i := 4) nd rfl (Or.inl rfl)) a8n))))
   (a04 (a0f (i := 5) nd rfl (Or.inl rfl) (a05 c_led hr rfl (a00 (pv 3) (a00 (pv 4) a01))))
   (a04 (a0f (i := 6) nd rfl (Or.inl rfl) (a0o op_cat (a2a (a00 (pv 1) (a00 (pv 2) (a00 a0i a01)))) (a5m (a1j (a0k (a7c (K := K) rfl) rfl G.n_isinstance a0t (a00 (pv 5) (a00 (a2n (v := .ref CLed) rfl mLed rfl) a01)))) (a2a (a00 (a1m (pv 5) rfl) a01)) (a2a (a00 (a1m (pv 5) rfl) (a00 (a1m (pv 5) rfl) a01))))))
   (a04 (a3b PassesOwn.never rfl (a2y (a0o op_cat (pv 6) (a2a (a00 (a0o a0s (a0j (a8r (K := K) rfl) (pv 6) (a7l a4p a07) (fun _ _ => rfl)) a0i) (a00 (a0o a0s (a0j (a8r (K := K) rfl) (pv 6) a07 (fun _ _ => rfl)) a0i) a01))))) (a0q (i := 7) nd rfl (Or.inl rfl)) (a04 (a0f (i := 8) nd rfl (Or.inl rfl) (a3d (a0z (a6u (K := K) hu rfl) (a05 c_law_walked hr rfl (a00 (pv 7) (a00 (a0j (a0e (K := K) rfl) (pv 3) a07 (fun _ _ => rfl)) a01))) (a0j (a0e (K := K) rfl) (pv 4) a07 (fun _ _ => rfl)) (a0g _)) (a4j (a0z (a6u (K := K) hu rfl) (a05 c_law_walked hr rfl (a00 (pv 7) (a00 (a0j (a0e (K := K) rfl) (pv 3) a07 (fun _ _ => rfl)) a01))) (a0j (a0e (K := K) rfl) (pv 4) a07 (fun _ _ => rfl)) (a0g _)))))
   (a04 (a1i (a1v (a1j (a05 c_law_says hr rfl (a00 (a5l (pl := _) (a3c c_Led hr rfl (a00 (pv 7) a01)) kL.cl c_Led_shows hr (a00 (pv 3) (a00 (pv 4) a01))) (a00 (pv 8) a01))))) (a08 (a0d a5f)) a0m)
   (a08 (a3b PassesOwn.never rfl (a2y (pv 6)) (a0q (i := 9) nd rfl (Or.inl rfl)) (a04 (ps_par (i := 10) (j := 11) rfl nd rfl rfl (by decide) rfl rfl (a00 (a05 c_law_walked hr rfl (a00 (pv 7) (a00 (a0j (a0e (K := K) rfl) (pv 3) a07 (fun _ _ => rfl)) a01))) (a00 (a05 c_law_walked hr rfl (a00 (pv 9) (a00 (a0j (a0e (K := K) rfl) (pv 4) a07 (fun _ _ => rfl)) a01))) a01)) rfl)
   (a04 (a0f (i := 8) nd rfl (Or.inl rfl) (a3d (a0z (a6u (K := K) hu rfl) (a05 c_law_walked hr rfl (a00 (pv 7) (a00 (a0j (a0e (K := K) rfl) (pv 3) a07 (fun _ _ => rfl)) a01))) (a0x (a00 a07 (a00 a07 a01))) (a0g _)) (a4j (a0z (a6u (K := K) hu rfl) (a05 c_law_walked hr rfl (a00 (pv 9) (a00 (a0j (a0e (K := K) rfl) (pv 4) a07 (fun _ _ => rfl)) a01))) (a0x (a00 a07 (a00 a07 a01))) (a0g _)))))
   (a04 (a0f (i := 8) nd rfl (Or.inl rfl) (a3d (pv 8) (a3d (pe_chain op_le aaq a07 (a0j (a0e (K := K) rfl) (pv 10) a07 (fun _ _ => rfl)) (a0j (a0e (K := K) rfl) (pv 10) a07 (fun _ _ => rfl))) (a3d (pe_chain op_le aaq a07 (a0j (a0e (K := K) rfl) (pv 11) a07 (fun _ _ => rfl)) (a0j (a0e (K := K) rfl) (pv 11) a07 (fun _ _ => rfl))) (a4j (a0z (a7e (K := K) hu rfl) (pv 10) (pv 11) (a0g _)))))))
   (a08 (a1i (a1v (a1j (a05 c_law_says hr rfl (a00 (a5l (pl := _) (a3c c_Parts hr rfl (a00 (pv 7) (a00 (pv 9) a01))) kP.cl c_Parts_shows hr (a00 (pv 3) (a00 (pv 4) a01))) (a00 (pv 8) a01))))) (a08 (a0d a5f)) a0m))))))))))
   (a08 (a0d a5f)))))), ?_⟩
 refine ⟨_, rfl, a, ns, rfl, hS, h63, fun t p r g h g' h' H1 s1 ht hp hrr Ng Nh Ng' Nh' ne ne' => ⟨t, _, rfl, SqT.of ht, rfl, _, _, rfl, _, _, rfl, rfl, ?_⟩⟩
 dsimp only
 refine seq_cut2 (fun σ' H' => a0r H1 H' ∧ ∃ f5 l ls, σ' = [some (.ref a), some (.str (S x)), some (.str (S y)), some (.ref p), some (.ref r), f5, some (.ref l), none, none, none, none, none] ∧ H' l = some (.lst (sV ls)) ∧ 4 ≤ ls.length ∧ ls.length ≤ 5 ∧ ∀ u ∈ ls, u.length ≤ 10000) (fun M hM => ?_) ?_
 ·refine ⟨_, rfl, _, rfl, p, r, g, h, g', h', rfl, hp, hrr, Ng, Nh, Ng', Nh', ne, ne', fun o H2 u s2 hL ok => ?_, fun o H2 u v s2 hP ok => ?_⟩
  ·obtain ⟨dx, ho⟩ := hL
   refine ⟨_, rfl, _, rfl, a1h, fun l1 k1 => ?_⟩
   have S1 := a06 k1 (.lst [.str (S x), .str (S y), .str ""])
   have E1 := @a02 H2 l1 (.lst [.str (S x), .str (S y), .str ""])
   generalize upd H2 l1 (.lst [.str (S x), .str (S y), .str ""]) = G1 at *
   have ho1 := S1 _ _ ho
   refine ⟨_, rfl, .inr ⟨_, _, _, _, rfl, kL.ty ho1, l2, _, rfl, a7k ?_⟩⟩
   refine ⟨_, rfl, o, CLed, dx, _, _, rfl, ho1, kL.cl, nL, rfl, big (show 1 ≤ 1000000 by decide), fun l2 k2 => ?_⟩
   have S2 := a06 k2 (.lst [.str (S u)])
   have E2 := @a02 G1 l2 (.lst [.str (S u)])
   generalize upd G1 l2 (.lst [.str (S u)]) = G2 at *
   refine ⟨l1, l2, _, _, rfl, rfl, S2 _ _ E1, E2, big (show 4 ≤ 1000000 by decide), fun l3 k3 => ?_⟩
   refine hM _ _ ⟨s2.trans (S1.trans (S2.trans (a06 k3 _))), _, l3, [x, y, [], u], rfl, a02, by simp, by simp, fun c hc => ?_⟩
   simp only [List.mem_cons, List.not_mem_nil, or_false] at hc
   rcases hc with rfl | rfl | rfl | rfl
   ·omega
   ·omega
   ·decide
   ·exact ok.2.1
  ·obtain ⟨dx, ho⟩ := hP
   refine ⟨_, rfl, _, rfl, a1h, fun l1 k1 => ?_⟩
   have S1 := a06 k1 (.lst [.str (S x), .str (S y), .str ""])
   have E1 := @a02 H2 l1 (.lst [.str (S x), .str (S y), .str ""])
   generalize upd H2 l1 (.lst [.str (S x), .str (S y), .str ""]) = G1 at *
   have ho1 := S1 _ _ ho
   refine ⟨_, rfl, .inr ⟨_, _, _, _, rfl, kP.ty ho1, p2, _, rfl, a5a ?_⟩⟩
   refine ⟨_, rfl, o, CParts, dx, _, _, rfl, ho1, kP.cl, nP1, rfl, _, rfl, o, CParts, dx, _, _, rfl, ho1, kP.cl, nP2, rfl, a0u, fun l2 k2 => ?_⟩
   have S2 := a06 k2 (.lst [.str (S u), .str (S v)])
   have E2 := @a02 G1 l2 (.lst [.str (S u), .str (S v)])
   generalize upd G1 l2 (.lst [.str (S u), .str (S v)]) = G2 at *
   refine ⟨l1, l2, _, _, rfl, rfl, S2 _ _ E1, E2, big (show 5 ≤ 1000000 by decide), fun l3 k3 => ?_⟩
   refine hM _ _ ⟨s2.trans (S1.trans (S2.trans (a06 k3 _))), _, l3, [x, y, [], u, v], rfl, a02, by simp, by simp, fun c hc => ?_⟩
   simp only [List.mem_cons, List.not_mem_nil, or_false] at hc
   rcases hc with rfl | rfl | rfl | rfl | rfl
   ·omega
   ·omega
   ·decide
   ·exact ok.2.2.1
   ·exact ok.2.2.2.1
 rintro σ' H2 ⟨s2, f5, l, ls, rfl, hl, l4, l5, lw⟩
 have hp2 := hp.same s2
 have hr2 := hrr.same s2
 obtain ⟨lst, hlst⟩ : ∃ c, atI (sV ls) (-1) = some (.str (S c)) ∧ c ∈ ls := by
  have hn : ls ≠ [] := fun z => by rw [z] at l4; cases l4
  obtain ⟨r, c, rfl⟩ : ∃ r c, ls = r ++ [c] := ⟨ls.dropLast, ls.getLast hn, (List.dropLast_concat_getLast hn).symm⟩
  refine ⟨c, ?_, by simp⟩
  rw [a98]
  exact ab5 _ _
 obtain ⟨c3, h3, m3⟩ : ∃ c, atI (sV ls) 3 = some (.str (S c)) ∧ c ∈ ls := by
  have e : ls[3]? = some ls[3] := List.getElem?_eq_getElem (by omega)
  refine ⟨ls[3], ?_, List.mem_of_getElem? e⟩
  refine a3v (j := 3) ?_
  unfold sV
  rw [List.getElem?_map, e]
  rfl
 have zl := lw _ hlst.2
 have z3 := lw _ m3
 refine ⟨_, rfl, _, rfl, _, rfl, l, _, _, _, rfl, rfl, SqL.of hl, hlst.1, _, _, rfl, rfl, by rw [a1a]; show _ + 1 ≤ _; exact big (by omega), ?_⟩
 refine ⟨_, rfl, l, _, _, _, rfl, rfl, SqL.of hl, h3, _, _, rfl, rfl, by rw [a1a]; show _ + 1 ≤ _; exact big (by omega), a0u, fun lb kb => ?_⟩
 rw [lit_t, a7a, a2l, a2l]
 have Sb := a06 kb (.lst [.str (S (lst ++ [116])), .str (S (c3 ++ [114]))])
 have Eb := @a02 H2 lb (.lst [.str (S (lst ++ [116])), .str (S (c3 ++ [114]))])
 generalize upd H2 lb (.lst [.str (S (lst ++ [116])), .str (S (c3 ++ [114]))]) = G1 at *
 refine ⟨l, lb, _, _, rfl, rfl, Sb _ _ hl, Eb, by rw [a7i]; show _ + 2 ≤ _; exact big (by omega), fun lc kc => ⟨lc, rfl, ⟨_, SqL.of a02⟩, ?_⟩⟩
 have ew : sV ls ++ [V.str (S (lst ++ [116])), V.str (S (c3 ++ [114]))] = sV (ls ++ [lst ++ [116], c3 ++ [114]]) := by rw [a98]; rfl
 rw [ew]
 have lw2 : ∀ u ∈ ls ++ [lst ++ [116], c3 ++ [114]], u.length ≤ 10001 := fun u hu => by
  rcases List.mem_append.mp hu with h | h
  ·have := lw u h; omega
  ·simp only [List.mem_cons, List.not_mem_nil, or_false] at h
   rcases h with rfl | rfl <;> rw [List.length_append, List.length_singleton] <;> omega
 have Sc := a06 kc (.lst (sV (ls ++ [lst ++ [116], c3 ++ [114]])))
 have Ec := @a02 G1 lc (.lst (sV (ls ++ [lst ++ [116], c3 ++ [114]])))
 generalize upd G1 lc (.lst (sV (ls ++ [lst ++ [116], c3 ++ [114]]))) = G2 at *
 generalize ls ++ [lst ++ [116], c3 ++ [114]] = ws at *
 have T2 := Sb.trans Sc
 have hl2 := T2 _ _ hl
 have hp3 := hp2.same T2
 have hr3 := hr2.same T2
 refine a3e (a4o.list (xs := sV ws)) (fun i σ' H' => a0r G2 H' ∧ ∃ f7 f8 f9 f10 f11, σ' = [some (.ref a), some (.str (S x)), some (.str (S y)), some (.ref p), some (.ref r), f5, some (.ref l), f7, f8, f9, f10, f11]) ⟨a0r.refl _, _, _, _, _, _, rfl⟩ (fun i σ' H' _ h => SqL.of (h.1 _ _ Ec)) ?_ ?_
 ·rintro i v σ' H' hv ⟨hs, f7, f8, f9, f10, f11, rfl⟩
  obtain ⟨u, hu1, rfl⟩ := sV_at hv
  obtain ⟨pa, pb, P1, P2, P3⟩ := hp3.same hs
  obtain ⟨ra, rb, R1, R2, R3⟩ := hr3.same hs
  rw [gName_app]
  dsimp only
  refine a7p (fun σ2 H2 => a0r H' H2 ∧ σ2 = [some (.ref a), some (.str (S x)), some (.str (S y)), some (.ref p), some (.ref r), f5, some (.ref l), some (.str (S u)), some (.bl (decide (walk u g = g') && decide (walk u h = h'))), f9, f10, f11]) (fun M hM => ?_) ?_
  ·refine ⟨_, rfl, _, rfl, p, _, 0, _, rfl, rfl, SqT.of P1, rfl, u, pa, g, rfl, P2, fun x1 Ha Sa e1 => ?_⟩
   refine ⟨_, rfl, r, _, 0, _, rfl, rfl, SqT.of (Sa _ _ R1), rfl, ?_⟩
   refine ⟨fD (walk u g), fD g', a2d e1, a2d (Sa _ _ R2), a1k _, _, rfl, aai (fun e => ?_) fun e => ?_⟩
   ·refine ⟨_, rfl, _, rfl, p, _, 1, _, rfl, rfl, SqT.of (Sa _ _ P1), rfl, u, pb, h, rfl, Sa _ _ P3, fun x2 Hb Sb e2 => ?_⟩
    refine ⟨_, rfl, r, _, 1, _, rfl, rfl, SqT.of (Sb _ _ (Sa _ _ R1)), rfl, ?_⟩
    refine ⟨fD (walk u h), fD h', a2d e2, a2d (Sb _ _ (Sa _ _ R3)), a1k _, ?_⟩
    rw [if_neg (c := (false = true)) Bool.false_ne_true, a6o]
    refine hM _ _ ⟨Sa.trans Sb, ?_⟩
    rw [decide_eq_true e, Bool.true_and]
    rfl
   ·refine hM _ _ ⟨Sa, ?_⟩
    rw [decide_eq_false e, Bool.false_and]
    rfl
  rintro σ2 Hc ⟨Sc, rfl⟩
  have hp4 := (hp3.same hs).same Sc
  have hr4 := (hr3.same hs).same Sc
  refine ⟨_, rfl, fun o dx no ndx _ => ⟨o, dx, _, rfl, a02, rfl, ?_⟩⟩
  rw [a2c]
  have Mb := a2b (o := .own o) (o' := .ins CLed dx [("word", .str (S u))]) no ndx
  have Eo := @a02 (upd Hc dx (.own o)) o (.ins CLed dx [("word", .str (S u))])
  generalize upd (upd Hc dx (.own o)) o (.ins CLed dx [("word", .str (S u))]) = Hd at *
  refine ⟨o, dx, _, rfl, Eo, rfl, _, rfl, _, rfl, o, p, r, u, g, h, g', h', rfl, ⟨dx, Eo⟩, hp4.same Mb, hr4.same Mb, fun He Se => ?_⟩
  refine ⟨_, rfl, _, _, rfl, _, rfl, saysF rfl ?_⟩
  have Te := Sc.trans (Mb.trans Se)
  have hlE := Te _ _ (hs _ _ hl2)
  have hp5 := (hp3.same hs).same Te
  have hr5 := (hr3.same hs).same Te
  refine ⟨_, rfl, l, rfl, ⟨_, SqL.of hlE⟩, ?_⟩
  refine a3e (a4o.list (xs := sV ls)) (fun i σ' H' => a0r He H' ∧ ∃ f8 f9 f10 f11, σ' = [some (.ref a), some (.str (S x)), some (.str (S y)), some (.ref p), some (.ref r), f5, some (.ref l), some (.str (S u)), f8, f9, f10, f11]) ⟨a0r.refl _, _, _, _, _, rfl⟩ (fun i σ' H' _ h => SqL.of (h.1 _ _ hlE)) ?_ ?_
  ·rintro i2 v2 σ' Hf hv2 ⟨hs2, f8, f9, f10, f11, rfl⟩
   obtain ⟨v, hu2, rfl⟩ := sV_at hv2
   obtain ⟨pa, pb, P1, P2, P3⟩ := hp5.same hs2
   obtain ⟨ra, rb, R1, R2, R3⟩ := hr5.same hs2
   refine ⟨_, rfl, _, rfl, p, _, 1, _, rfl, rfl, SqT.of P1, rfl, u, pb, h, rfl, P3, fun x1 Ha Sa e1 => ?_⟩
   refine ⟨_, rfl, _, rfl, r, _, 1, _, rfl, rfl, SqT.of (Sa _ _ R1), rfl, v, rb, h', rfl, Sa _ _ R3, fun x2 Hb Sb e2 => ?_⟩
   refine ⟨_, _, rfl, ?_⟩
   have Sab := Sa.trans Sb
   have e1' := Sb _ _ e1
   dsimp only
   refine a7p (fun σ2 H2 => a0r Hb H2 ∧ σ2 = [some (.ref a), some (.str (S x)), some (.str (S y)), some (.ref p), some (.ref r), f5, some (.ref l), some (.str (S u)), some (.bl (decide (walk u g = (1, 0)) && decide (walk v g' = (1, 0)))), some (.str (S v)), some (.ref x1), some (.ref x2)]) (fun M hM => ?_) ?_
   ·refine ⟨_, rfl, _, rfl, p, _, 0, _, rfl, rfl, SqT.of (Sab _ _ P1), rfl, u, pa, g, rfl, Sab _ _ P2, fun x3 Hg Sg e3 => ?_⟩
    refine ⟨a0u, fun t3 k3 => ?_⟩
    have Sh := a06 k3 (.tup [.int 1, .int 0])
    have Eh : upd Hg t3 (.tup [.int 1, .int 0]) t3 = some (fT (1, 0)) := a02
    generalize upd Hg t3 (.tup [.int 1, .int 0]) = Hh at *
    refine ⟨fD (walk u g), fD (1, 0), a2d (Sh _ _ e3), a2d Eh, a1k _, _, rfl, aai (fun e => ?_) fun e => ?_⟩
    ·have Th := Sab.trans (Sg.trans Sh)
     refine ⟨_, rfl, _, rfl, r, _, 0, _, rfl, rfl, SqT.of (Th _ _ R1), rfl, v, ra, g', rfl, Th _ _ R2, fun x4 Hi Si e4 => ?_⟩
     refine ⟨a0u, fun t4 k4 => ?_⟩
     have Sj := a06 k4 (.tup [.int 1, .int 0])
     have Ej : upd Hi t4 (.tup [.int 1, .int 0]) t4 = some (fT (1, 0)) := a02
     generalize upd Hi t4 (.tup [.int 1, .int 0]) = Hj at *
     refine ⟨fD (walk v g'), fD (1, 0), a2d (Sj _ _ e4), a2d Ej, a1k _, ?_⟩
     rw [if_neg (c := (false = true)) Bool.false_ne_true, a6o]
     refine hM _ _ ⟨Sg.trans (Sh.trans (Si.trans Sj)), ?_⟩
     rw [decide_eq_true e, Bool.true_and]
     rfl
    ·refine hM _ _ ⟨Sg.trans Sh, ?_⟩
     rw [decide_eq_false e, Bool.false_and]
     rfl
   rintro σ2 Hg ⟨Sg, rfl⟩
   have e1g := Sg _ _ e1'
   have e2g := Sg _ _ e2
   obtain ⟨fu, hfu⟩ : ∃ fu, fu = walk u h := ⟨_, rfl⟩
   obtain ⟨fv, hfv⟩ : ∃ fv, fv = walk v h' := ⟨_, rfl⟩
   have e1t : Hg x1 = some (.tup [.int fu.1, .int fu.2]) := by rw [hfu]; exact e1g
   have e2t : Hg x2 = some (.tup [.int fv.1, .int fv.2]) := by rw [hfv]; exact e2g
   try dsimp only
   refine a7p (fun σ2 H2 => a0r Hg H2 ∧ σ2 = [some (.ref a), some (.str (S x)), some (.str (S y)), some (.ref p), some (.ref r), f5, some (.ref l), some (.str (S u)), some (.bl (ppb u g h && (ppb v g' h' && !decide (walk u h = walk v h')))), some (.str (S v)), some (.ref x1), some (.ref x2)]) (fun M hM => ?_) ?_
   ·have goal : ∀ b : Bool, b = (ppb u g h && (ppb v g' h' && !decide (walk u h = walk v h'))) → M [some (.ref a), some (.str (S x)), some (.str (S y)), some (.ref p), some (.ref r), f5, some (.ref l), some (.str (S u)), some (.bl b), some (.str (S v)), some (.ref x1), some (.ref x2)] Hg := fun b hb => by
     subst hb
     exact hM _ _ ⟨a0r.refl _, rfl⟩
    unfold ppb at goal
    rw [← hfu, ← hfv] at goal
    refine ⟨_, rfl, _, rfl, a5h (fun c => ?_) (fun c => ?_)⟩
    ·rw [Bool.and_eq_true] at c
     rw [c.1, c.2] at goal
     refine ⟨_, rfl, x1, _, 0, .int fu.1, rfl, rfl, SqT.of e1t, rfl, _, _, rfl, rfl, _, rfl, a5h (fun c1 => ?_) (fun c1 => ?_)⟩
     ·refine ⟨_, rfl, x1, _, 1, .int fu.2, rfl, rfl, SqT.of e1t, rfl, _, _, rfl, rfl, _, rfl, a5h (fun c2 => ?_) (fun c2 => ?_)⟩
      ·refine ⟨_, rfl, x2, _, 0, .int fv.1, rfl, rfl, SqT.of e2t, rfl, _, _, rfl, rfl, _, rfl, a5h (fun c3 => ?_) (fun c3 => ?_)⟩
       ·refine ⟨_, rfl, x2, _, 1, .int fv.2, rfl, rfl, SqT.of e2t, rfl, _, _, rfl, rfl, _, rfl, a5h (fun c4 => ?_) (fun c4 => ?_)⟩
        ·refine ⟨_, rfl, _, rfl, fD (walk u h), fD (walk v h'), a2d e1g, a2d e2g, a1k _, ?_⟩
         rw [if_pos (c := (true = true)) rfl, a6o, ← hfu, ← hfv]
         exact goal _ (by rw [c1, c2, c3, c4]; simp)
        ·exact goal _ (by rw [c1, c2, c3, Bool.eq_false_iff.mpr c4]; simp)
       ·refine ⟨_, rfl, a5a ?_⟩
        exact goal _ (by rw [c1, c2, Bool.eq_false_iff.mpr c3]; simp)
      ·exact goal _ (by rw [c1, Bool.eq_false_iff.mpr c2]; simp)
     ·refine ⟨_, rfl, a5a ?_⟩
      exact goal _ (by rw [Bool.eq_false_iff.mpr c1]; simp)
    ·have c' := Bool.eq_false_iff.mpr c
     refine goal _ ?_
     cases d1 : decide (walk u g = (1, 0)) <;> cases d2 : decide (walk v g' = (1, 0)) <;> rw [d1, d2] at c' <;> simp at c' ⊢
   rintro σ2 Hh ⟨Sh, rfl⟩
   have Th := Sab.trans (Sg.trans Sh)
   refine ⟨_, rfl, _, rfl, fun o2 dx2 no2 ndx2 _ => ⟨o2, dx2, _, _, rfl, a02, rfl, ?_⟩⟩
   rw [a2c]
   have Mc := a2b (o := .own o2) (o' := .ins CParts dx2 [("there", .str (S u)), ("back", .str (S v))]) no2 ndx2
   have Eo2 := @a02 (upd Hh dx2 (.own o2)) o2 (.ins CParts dx2 [("there", .str (S u)), ("back", .str (S v))])
   generalize upd (upd Hh dx2 (.own o2)) o2 (.ins CParts dx2 [("there", .str (S u)), ("back", .str (S v))]) = Hi at *
   have T6 := Th.trans Mc
   refine ⟨o2, dx2, _, rfl, Eo2, rfl, _, rfl, _, rfl, o2, p, r, u, v, g, h, g', h', rfl, ⟨dx2, Eo2⟩, (hp5.same hs2).same T6, (hr5.same hs2).same T6, fun Hj Sj => ?_⟩
   refine ⟨_, rfl, _, _, rfl, _, rfl, saysF rfl ?_⟩
   exact ⟨hs2.trans (T6.trans Sj), _, _, _, _, rfl⟩
  ·rintro σ' Hf ⟨hs2, f8, f9, f10, f11, rfl⟩
   exact ⟨hs.trans (Te.trans hs2), _, _, _, _, _, rfl⟩
 ·rintro σ' H' ⟨hs, f7, f8, f9, f10, f11, rfl⟩
  exact q _ (s1.trans (s2.trans (T2.trans hs)))
end
end K08
namespace K08
open PySem L2 TW TX
seal L2.PE L2.PT L2.PA L2.PS L2.PSs L2.PI L2.PG L2.PGs L2.PPs L2.PW L2.PTs L2.PO
section
variable {P : Program} {w : World} {K : PySem.W.Frag} {mg : Str → Option Value} {base : Heap} {f : Addr} {fd : FuncData} {k : Nat}
abbrev a0w : Stmt := top 87
theorem a5d : a0c ["_law_one", "_law_other", "_law_found", "_law_told", "_law_word", "_law_tried", "_law_there", "_law_first", "_law_away", "_law_second", "_law_others", "_law_mine", "_law_theirs", "_law_due"] ["_law_one", "_law_other"] (a03 a0w) := ⟨rfl, rfl, rfl, by decide +kernel, rfl, by decide +kernel, by decide +kernel⟩
theorem a7u {CElsewhere CRounds : Addr} (G : Glo mg) (mElsewhere : mg "Elsewhere" = some (.ref CElsewhere)) (mRounds : mg "Rounds" = some (.ref CRounds)) (kE : KCls K CElsewhere) (kR : KCls K CRounds) (nE : PySem.W.findIn K (.ref CElsewhere) "word" = some none)
  (nR1 : PySem.W.findIn K (.ref CRounds) "there" = some none) (nR2 : PySem.W.findIn K (.ref CRounds) "first" = some none) (nR3 : PySem.W.findIn K (.ref CRounds) "back" = some none) (nR4 : PySem.W.findIn K (.ref CRounds) "second" = some none)
  (e1 : PySem.W.kitOne K (.ref CElsewhere) (.ref CElsewhere) = some true) (e2 : PySem.W.kitOne K (.ref CElsewhere) (.ref CRounds) = some false) (r1 : PySem.W.kitOne K (.ref CRounds) (.ref CElsewhere) = some false) (r2 : PySem.W.kitOne K (.ref CRounds) (.ref CRounds) = some true) (F : Fun K "_law_rounds_by_hand" "_law_rounds_by_hand" a0w f fd)
  (c_elsewhere : Callee P w K mg base (k + 1) "elsewhere" ["one", "other"] (spElse8 CElsewhere CRounds)) (c_law_says : Callee P w K mg base (k + 1) "_law_says" ["_law_said", "_law_due"] spSays) (c_law_same : Callee P w K mg base (k + 1) "_law_same" ["_law_one", "_law_other"] abh) (c_law_begun : Callee P w K mg base (k + 1) "_law_begun" ["_law_ahead", "_law_word"] spLBegun) (c_law_is_round : Callee P w K mg base (k + 1) "_law_is_round" ["_law_word"] spLRound) (c_law_from_elsewhere : Callee P w K mg base (k + 1) "_law_from_elsewhere" ["_law_one", "_law_other"] spFromG)
  (c_Elsewhere_shows : Method P w K mg base (k + 1) CElsewhere "shows" ["self", "one", "other"] (abi CElsewhere)) (c_Rounds_shows : Method P w K mg base (k + 1) CRounds "shows" ["self", "one", "other"] (abd CRounds))
  (c_Elsewhere : Maker P w K mg base k "Elsewhere" CElsewhere ["self", "word"] (a4q CElsewhere "word")) (c_Rounds : Maker P w K mg base k "Rounds" CRounds ["self", "there", "first", "back", "second"] (spInit4 CRounds "there" "first" "back" "second")) :
  a1u P w K mg base CX0 (k + 2) f fd ["_law_one", "_law_other"] spHandR := by
 refine F.ok a5d (fun vs H Q E h => ?_) (fun cdv A outer s H vs Q E hr h => ?_)
 ·obtain ⟨x, y, rfl, _⟩ := h; rfl
 obtain ⟨x, y, rfl, wx, wy, lx, ly, q⟩ := h
 have nd := a5d.nd
 refine ⟨_, (a04 (a0f (i := 2) nd rfl (Or.inl rfl) (a05 c_elsewhere hr rfl (a00 (pv 0) (a00 (pv 1) a01))))
   (a04 (a0f (i := 3) nd rfl (Or.inl rfl) (a2a (a00 (pv 0) (a00 a0i (a00 (pv 1) (a00 a0i a01))))))
   (a04 (a1i (a1j (a0k (a7c (K := K) rfl) rfl G.n_isinstance a0t (a00 (pv 2) (a00 (a2n (v := .ref CRounds) rfl mRounds rfl) a01)))) (a08 (a0f (i := 3) nd rfl (Or.inl rfl) (a2a (a00 (a1m (pv 2) rfl) (a00 (a1m (pv 2) rfl) (a00 (a1m (pv 2) rfl) (a00 (a1m (pv 2) rfl) a01))))))) a0m)
   (a04 (a0f (i := 4) nd rfl (Or.inl rfl) (a5m (a1j (a0k (a7c (K := K) rfl) rfl G.n_isinstance a0t (a00 (pv 2) (a00 (a2n (v := .ref CElsewhere) rfl mElsewhere rfl) a01)))) (a1m (pv 2) rfl) (pv 0)))
   (a04 (a3b PassesOwn.never rfl (a2y (a2a (a00 (pv 4) (a00 (a0o a0s (pv 4) a0i) (a00 (pv 1) (a00 a0i a01)))))) (a0q (i := 5) nd rfl (Or.inl rfl)) (a08 (a1i (a1v (a1j (a05 c_law_says hr rfl (a00 (a5l (pl := _) (a3c c_Elsewhere hr rfl (a00 (pv 5) a01)) kE.cl c_Elsewhere_shows hr (a00 (pv 0) (a00 (pv 1) a01))) (a00 (a05 c_law_same hr rfl (a00 (pv 0) (a00 (a05 c_law_begun hr rfl (a00 (pv 5) (a00 (pv 1) a01))) a01))) a01))))) (a08 (a0d a5f)) a0m)))
   (a04 (abx (pv 3) (pg_lst rfl (a1z (a0q (i := 6) nd rfl (Or.inl rfl)) (a1z (a0q (i := 7) nd rfl (Or.inr rfl)) (a1z (a0q (i := 8) nd rfl (Or.inl rfl)) (a1z (a0q (i := 9) nd rfl (Or.inr rfl)) a8n))))))
   (a04 (a0f (i := 10) nd rfl (Or.inl rfl) (a2a (a00 a0i (a00 a0i (a00 (a0o a0s (pv 7) a0i) (a00 (a0o a0s (a0v a8b (pv 9) (a1b a07) a1l) (a0v a8b (pv 9) a1l (a1b a07))) (a00 (pv 7) a01)))))))
   (a04 (a3b PassesOwn.never rfl (a2y (a0o op_cat (ac2 (ys := ["_law_second"]) (js := [9]) rfl (LcS.to (os := a03 a0w) ⟨rfl, by decide +kernel, by decide +kernel, rfl, by decide +kernel, by decide +kernel, by decide +kernel⟩ rfl rfl) (a2y (pv 10)) (fun _ _ _ _ => a3t) (fun _ _ _ _ => (a0x (a00 (pv 0) (a00 (pv 1) a01))))) (ac2 (ys := ["_law_first"]) (js := [7]) rfl (LcS.to (os := a03 a0w) ⟨rfl, by decide +kernel, by decide +kernel, rfl, by decide +kernel, by decide +kernel, by decide +kernel⟩ rfl rfl) (a2y (pv 10)) (fun _ _ _ _ => a3t) (fun _ _ _ _ => (a0x (a00 (pv 1) (a00 (pv 0) a01))))))) (pg_tup rfl (a1z (a0q (i := 11) nd rfl (Or.inl rfl)) (a1z (a0q (i := 12) nd rfl (Or.inl rfl)) a8n))) (a04 (a0f (i := 13) nd rfl (Or.inl rfl) (a3d (a05 c_law_is_round hr rfl (a00 (pv 11) a01)) (a3d (a05 c_law_is_round hr rfl (a00 (pv 12) a01)) (a4j (pe_not (a05 c_law_from_elsewhere hr rfl (a00 (pv 11) (a00 (pv 12) a01))))))))
   (a04 (a0f (i := 13) nd rfl (Or.inl rfl) (a3d (pv 13) (a3d (a05 c_law_same hr rfl (a00 (pv 0) (a00 (a05 c_law_begun hr rfl (a00 (pv 6) (a00 (pv 11) a01))) a01))) (a4j (a05 c_law_same hr rfl (a00 (pv 1) (a00 (a05 c_law_begun hr rfl (a00 (pv 8) (a00 (pv 12) a01))) a01)))))))
   (a08 (a1i (a1v (a1j (a05 c_law_says hr rfl (a00 (a5l (pl := _) (a3c c_Rounds hr rfl (a00 (pv 6) (a00 (pv 11) (a00 (pv 8) (a00 (pv 12) a01))))) kR.cl c_Rounds_shows hr (a00 (pv 0) (a00 (pv 1) a01))) (a00 (pv 13) a01))))) (a08 (a0d a5f)) a0m)))))
   (a08 (a0d a5f)))))))))), ?_⟩
 refine seq_cut4 (fun σ' H' => a0r H H' ∧ ∃ f2 m a b c d z, σ' = [some (.str (S x)), some (.str (S y)), f2, some (.ref m), some (.str (S z)), none, none, none, none, none, none, none, none, none] ∧ H' m = some (.lst [.str (S a), .str (S b), .str (S c), .str (S d)]) ∧ IsW a ∧ IsW c ∧ IsW z ∧ a.length ≤ 10000 ∧ b.length ≤ 10000 ∧ c.length ≤ 10000 ∧ d.length ≤ 10000 ∧ z.length ≤ 10000) (fun M hM => ?_) ?_
 ·refine ⟨_, rfl, _, rfl, x, y, rfl, wx, wy, lx, ly, fun o H1 a s1 hE ok => ?_, fun o H1 a c R R' s1 hR ok => ?_⟩
  ·obtain ⟨dx, ho⟩ := hE
   refine ⟨_, rfl, _, rfl, a6h, fun l kl => ?_⟩
   have S1 := a06 kl (.lst [.str (S x), .str "r", .str (S y), .str "tr"])
   have E1 := @a02 H1 l (.lst [.str (S x), .str "r", .str (S y), .str "tr"])
   generalize upd H1 l (.lst [.str (S x), .str "r", .str (S y), .str "tr"]) = G1 at *
   have ho1 := S1 _ _ ho
   refine ⟨_, rfl, .inr ⟨_, _, _, _, rfl, kE.ty ho1, e2, _, rfl, a5a ?_⟩⟩
   refine ⟨_, rfl, .inr ⟨_, _, _, _, rfl, kE.ty ho1, e1, _, rfl, a7k ?_⟩⟩
   refine ⟨_, rfl, o, CElsewhere, dx, _, _, rfl, ho1, kE.cl, nE, rfl, ?_⟩
   rw [a7a, lit_tr] at E1
   exact hM _ _ ⟨s1.trans S1, _, l, x, [114], y, [116, 114], a, rfl, E1, wx, wy, ok.W, by omega, by decide, by omega, by decide, ok.l⟩
  ·obtain ⟨dx, ho⟩ := hR
   refine ⟨_, rfl, _, rfl, a6h, fun l kl => ?_⟩
   have S1 := a06 kl (.lst [.str (S x), .str "r", .str (S y), .str "tr"])
   generalize upd H1 l (.lst [.str (S x), .str "r", .str (S y), .str "tr"]) = G1 at *
   have ho1 := S1 _ _ ho
   refine ⟨_, rfl, .inr ⟨_, _, _, _, rfl, kR.ty ho1, r2, _, rfl, a7k ?_⟩⟩
   refine ⟨_, rfl, o, CRounds, dx, _, _, rfl, ho1, kR.cl, nR1, rfl, _, rfl, o, CRounds, dx, _, _, rfl, ho1, kR.cl, nR2, rfl, _, rfl, o, CRounds, dx, _, _, rfl, ho1, kR.cl, nR3, rfl, _, rfl, o, CRounds, dx, _, _, rfl, ho1, kR.cl, nR4, rfl, a6h, fun l2 kl2 => ?_⟩
   have S2 := a06 kl2 (.lst [.str (S a), .str (S (tw R)), .str (S c), .str (S (tw R'))])
   have E2 := @a02 G1 l2 (.lst [.str (S a), .str (S (tw R)), .str (S c), .str (S (tw R'))])
   generalize upd G1 l2 (.lst [.str (S a), .str (S (tw R)), .str (S c), .str (S (tw R'))]) = G2 at *
   refine ⟨_, rfl, .inr ⟨_, _, _, _, rfl, kR.ty (S2 _ _ ho1), r1, _, rfl, a5a ?_⟩⟩
   refine ⟨_, rfl, ?_⟩
   exact hM _ _ ⟨s1.trans (S1.trans S2), _, l2, a, tw R, c, tw R', x, rfl, E2, ok.Wa, ok.Wc, wx, ok.la, ok.lb, ok.lc, ok.ld, by omega⟩
 rintro σ' H1 ⟨s1, f2, m, a, b, c, d, z, rfl, hm, wa, wc, wz, la, lb, lc, ld, lz⟩
 refine a7p (fun σ' H' => a0r H1 H' ∧ ∃ f5, σ' = [some (.str (S x)), some (.str (S y)), f2, some (.ref m), some (.str (S z)), f5, none, none, none, none, none, none, none, none]) (fun M hM => ?_) ?_
 ·refine ⟨_, rfl, _, rfl, _, _, rfl, rfl, by rw [a1a]; show _ + 1 ≤ _; exact big (by omega), _, rfl, a6h, fun l kl => ⟨l, rfl, ⟨_, SqL.of a02⟩, ?_⟩⟩
  rw [a7a, a2l]
  have S1 := a06 kl (.lst [.str (S z), .str (S (z ++ [114])), .str (S y), .str ""])
  have E1 := @a02 H1 l (.lst [.str (S z), .str (S (z ++ [114])), .str (S y), .str ""])
  generalize upd H1 l (.lst [.str (S z), .str (S (z ++ [114])), .str (S y), .str ""]) = G1 at *
  refine a3e (a4o.list (xs := [.str (S z), .str (S (z ++ [114])), .str (S y), .str ""])) (fun i σ' H' => a0r G1 H' ∧ ∃ f5, σ' = [some (.str (S x)), some (.str (S y)), f2, some (.ref m), some (.str (S z)), f5, none, none, none, none, none, none, none, none]) ⟨a0r.refl _, _, rfl⟩ (fun i σ' H' _ h => SqL.of (h.1 _ _ E1)) ?_ ?_
  ·rintro i v σ' H' hv ⟨hs, f5, rfl⟩
   obtain ⟨t, rfl, wt, lt⟩ : ∃ t, v = .str (S t) ∧ IsW t ∧ t.length ≤ 10001 := by
    match i, hv with
    | 0, hv => cases hv; exact ⟨z, rfl, wz, by omega⟩
    | 1, hv => cases hv; exact ⟨_, rfl, wz.append (IsW.cons (.inr (.inr rfl)) IsW.nil), by rw [List.length_append, List.length_singleton]; omega⟩
    | 2, hv => cases hv; exact ⟨y, rfl, wy, by omega⟩
    | 3, hv => cases hv; exact ⟨[], rfl, IsW.nil, by decide⟩
    | n + 4, hv => cases hv
   refine ⟨_, rfl, fun o dx no ndx _ => ⟨o, dx, _, rfl, a02, rfl, ?_⟩⟩
   rw [a2c]
   have Mb := a2b (o := .own o) (o' := .ins CElsewhere dx [("word", .str (S t))]) no ndx
   have Eo := @a02 (upd H' dx (.own o)) o (.ins CElsewhere dx [("word", .str (S t))])
   generalize upd (upd H' dx (.own o)) o (.ins CElsewhere dx [("word", .str (S t))]) = Hb at *
   refine ⟨o, dx, _, rfl, Eo, rfl, _, rfl, _, rfl, o, t, x, y, rfl, ⟨dx, Eo⟩, wt, by omega, by omega, fun Hc Sc => ?_⟩
   refine ⟨_, rfl, _, rfl, _, rfl, t, y, rfl, by omega, by omega, fun Hd Sd => ⟨x, t ++ y ++ bk t, rfl, fun He Se => ?_⟩⟩
   refine ⟨_, _, rfl, _, rfl, saysF (al_comm _ _) ?_⟩
   exact ⟨hs.trans (Mb.trans (Sc.trans (Sd.trans Se))), _, rfl⟩
  ·rintro σ' H' ⟨hs, f5, rfl⟩
   exact hM _ _ ⟨S1.trans hs, _, rfl⟩
 rintro σ' H2 ⟨s2, f5, rfl⟩
 have hm2 := s2 _ _ hm
 refine ⟨_, rfl, m, _, rfl, SqL.of hm2, rfl, _, _, rfl, _, _, rfl, _, _, rfl, _, _, rfl, rfl, ?_⟩
 obtain ⟨d1, ed1, ld1⟩ := slice_S d (some 3) none
 obtain ⟨d2, ed2, ld2⟩ := slice_S d none (some 3)
 have hzd : (S d).length ≤ sizeLine := by rw [a1a]; exact big (by omega)
 refine ⟨_, rfl, _, _, rfl, rfl, by rw [a1a]; show _ + 3 ≤ _; exact big (by omega), ?_⟩
 refine ⟨_, rfl, _, rfl, _, rfl, hzd, ?_⟩
 rw [show Txt.slice (S d) (some 3) none = S d1 from ed1]
 refine ⟨_, rfl, _, rfl, _, rfl, hzd, ?_⟩
 rw [show Txt.slice (S d) none (some 3) = S d2 from ed2]
 refine ⟨_, _, rfl, rfl, sz2 (by omega), _, rfl, big (show 5 ≤ 1000000 by decide), fun lo ko => ?_⟩
 rw [lit_rtr, a2l, a2l, a7a, lit_tu]
 obtain ⟨os, hos, los⟩ : ∃ os : List (List Nat), sV os = [.str (S [114]), .str (S [116, 117]), .str (S (b ++ [114, 116, 114])), .str (S (d1 ++ d2)), .str (S b)] ∧ (os.length = 5 ∧ ∀ u ∈ os, u.length ≤ 20000) := by
  refine ⟨[[114], [116, 117], b ++ [114, 116, 114], d1 ++ d2, b], rfl, rfl, fun u hu => ?_⟩
  simp only [List.mem_cons, List.not_mem_nil, or_false] at hu
  rcases hu with rfl | rfl | rfl | rfl | rfl
  ·decide
  ·decide
  ·rw [List.length_append]; show _ + 3 ≤ _; omega
  ·rw [List.length_append]; omega
  ·omega
 rw [← hos]
 have S3 := a06 ko (.lst (sV os))
 have E3 := @a02 H2 lo (.lst (sV os))
 generalize upd H2 lo (.lst (sV os)) = H3 at *
 clear hos
 refine ⟨_, rfl, lo, rfl, ⟨_, SqL.of E3⟩, ?_⟩
 refine lc_rel (a4o.list (xs := sV os)) (fun H' i acc => ∀ v ∈ acc, TwoAt H' v) (fun H' hs => SqL.of (hs _ _ E3)) (by rw [a7i, los.1]; exact big (show 5 ≤ 1000000 by decide)) (fun v hv => by cases hv) (fun i e H' acc Q' hx hs hR hq => ?_) (fun H4 l1 acc1 s4 k1 hR1 la1 => ?_)
 ·obtain ⟨u, hu, rfl⟩ := sV_at hx
  have lu := los.2 u (List.mem_of_getElem? hu)
  refine ⟨_, rfl, _, rfl, a0u, fun p kp => hq _ _ (a06 kp _) fun v hv => ?_⟩
  rcases List.mem_append.mp hv with h | h
  ·exact (hR v h).same (a06 kp _)
  ·rw [List.mem_singleton.mp h]
   exact ⟨p, u, d, rfl, a02, lu, by omega⟩
 have S4 := a06 k1 (.lst acc1)
 have E4 := @a02 H4 l1 (.lst acc1)
 have hR1' : ∀ v ∈ acc1, TwoAt (upd H4 l1 (.lst acc1)) v := fun v hv => (hR1 v hv).same S4
 generalize upd H4 l1 (.lst acc1) = H5 at *
 have T5 := s4.trans S4
 refine ⟨_, rfl, lo, rfl, ⟨_, SqL.of (T5 _ _ E3)⟩, ?_⟩
 refine lc_rel (a4o.list (xs := sV os)) (fun H' i acc => ∀ v ∈ acc, TwoAt H' v) (fun H' hs => SqL.of (hs _ _ (T5 _ _ E3))) (by rw [a7i, los.1]; exact big (show 5 ≤ 1000000 by decide)) (fun v hv => by cases hv) (fun i e H' acc Q' hx hs hR hq => ?_) (fun H6 l2 acc2 s6 k2 hR2 la2 => ?_)
 ·obtain ⟨u, hu, rfl⟩ := sV_at hx
  have lu := los.2 u (List.mem_of_getElem? hu)
  refine ⟨_, rfl, _, rfl, a0u, fun p kp => hq _ _ (a06 kp _) fun v hv => ?_⟩
  rcases List.mem_append.mp hv with h | h
  ·exact (hR v h).same (a06 kp _)
  ·rw [List.mem_singleton.mp h]
   exact ⟨p, b, u, rfl, a02, by omega, lu⟩
 rw [a7i, los.1] at la1 la2
 have S6 := a06 k2 (.lst acc2)
 have E6 := @a02 H6 l2 (.lst acc2)
 have E4' := S6 _ _ (s6 _ _ E4)
 have hR2' : ∀ v ∈ acc2, TwoAt (upd H6 l2 (.lst acc2)) v := fun v hv => (hR2 v hv).same S6
 have hR1'' : ∀ v ∈ acc1, TwoAt (upd H6 l2 (.lst acc2)) v := fun v hv => (hR1' v hv).same (s6.trans S6)
 generalize upd H6 l2 (.lst acc2) = H7 at *
 refine ⟨l1, l2, _, _, rfl, rfl, E4', E6, by rw [la1, la2]; exact big (show 10 ≤ 1000000 by decide), fun l3 k3 => ⟨l3, rfl, ⟨_, SqL.of a02⟩, ?_⟩⟩
 have S7 := a06 k3 (.lst (acc1 ++ acc2))
 have E7 := @a02 H7 l3 (.lst (acc1 ++ acc2))
 have hR3 : ∀ v ∈ acc1 ++ acc2, TwoAt (upd H7 l3 (.lst (acc1 ++ acc2))) v := fun v hv => by
  rcases List.mem_append.mp hv with h | h
  ·exact (hR1'' v h).same S7
  ·exact (hR2' v h).same S7
 have T8 := s1.trans (s2.trans (S3.trans (T5.trans (s6.trans (S6.trans S7)))))
 generalize upd H7 l3 (.lst (acc1 ++ acc2)) = H8 at *
 generalize acc1 ++ acc2 = acc at *
 refine a3e (a4o.list (xs := acc)) (fun i σ' H' => a0r H8 H' ∧ ∃ f11 f12 f13, σ' = [some (.str (S x)), some (.str (S y)), f2, some (.ref m), some (.str (S z)), f5, some (.str (S a)), some (.str (S b)), some (.str (S c)), some (.str (S d)), some (.ref lo), f11, f12, f13]) ⟨a0r.refl _, _, _, _, rfl⟩ (fun i σ' H' _ h => SqL.of (h.1 _ _ E7)) ?_ ?_
 ·rintro i v σ' H' hv ⟨hs, f11, f12, f13, rfl⟩
  obtain ⟨p, mi, th, rfl, hp, lmi, lth⟩ := (hR3 v (List.mem_of_getElem? hv)).same hs
  refine ⟨p, _, rfl, SqT.of hp, rfl, _, _, rfl, _, _, rfl, rfl, ?_⟩
  try dsimp only
  refine a7p (fun σ2 H2 => a0r H' H2 ∧ σ2 = [some (.str (S x)), some (.str (S y)), f2, some (.ref m), some (.str (S z)), f5, some (.str (S a)), some (.str (S b)), some (.str (S c)), some (.str (S d)), some (.ref lo), some (.str (S mi)), some (.str (S th)), some (.bl (aag mi && (aag th && !aco mi th)))]) (fun M hM => ?_) ?_
  ·refine ⟨_, rfl, mi, rfl, lmi, fun Ha Sa => ⟨_, rfl, a5h (fun c1 => ?_) (fun c1 => ?_)⟩⟩
   ·refine ⟨_, rfl, th, rfl, lth, fun Hb Sb => ⟨_, rfl, a5h (fun c2 => ?_) (fun c2 => ?_)⟩⟩
    ·refine ⟨_, rfl, _, rfl, mi, th, rfl, lmi, lth, fun Hc Sc => ⟨_, rfl, ?_⟩⟩
     refine hM _ _ ⟨Sa.trans (Sb.trans Sc), ?_⟩
     rw [c1, c2]
     rfl
    ·refine hM _ _ ⟨Sa.trans Sb, ?_⟩
     rw [c1, Bool.eq_false_iff.mpr c2]
     rfl
   ·refine hM _ _ ⟨Sa, ?_⟩
    rw [Bool.eq_false_iff.mpr c1]
    rfl
  rintro σ2 Ha ⟨Sa, rfl⟩
  try dsimp only
  refine a7p (fun σ2 H2 => a0r Ha H2 ∧ σ2 = [some (.str (S x)), some (.str (S y)), f2, some (.ref m), some (.str (S z)), f5, some (.str (S a)), some (.str (S b)), some (.str (S c)), some (.str (S d)), some (.ref lo), some (.str (S mi)), some (.str (S th)), some (.bl (rndsB a mi c th x y))]) (fun M hM => ?_) ?_
  ·rw [rnds_says] at hM
   refine ⟨_, rfl, _, rfl, a5h (fun c1 => ?_) (fun c1 => ?_)⟩
   ·rw [c1, Bool.true_and] at hM
    refine ⟨_, rfl, _, rfl, _, rfl, a, mi, rfl, by omega, lmi, fun Hb Sb => ⟨x, a ++ mi ++ bk a, rfl, fun Hc Sc => ⟨_, rfl, a5h (fun c2 => ?_) (fun c2 => ?_)⟩⟩⟩
    ·rw [c2, Bool.true_and] at hM
     refine ⟨_, rfl, _, rfl, _, rfl, c, th, rfl, by omega, lth, fun Hd Sd => ⟨y, c ++ th ++ bk c, rfl, fun He Se => ?_⟩⟩
     exact hM _ _ ⟨Sb.trans (Sc.trans (Sd.trans Se)), rfl⟩
    ·rw [Bool.eq_false_iff.mpr c2, Bool.false_and] at hM
     exact hM _ _ ⟨Sb.trans Sc, rfl⟩
   ·rw [Bool.eq_false_iff.mpr c1, Bool.false_and] at hM
    exact hM _ _ ⟨a0r.refl _, rfl⟩
  rintro σ2 Hb ⟨Sb, rfl⟩
  refine ⟨_, rfl, _, rfl, _, rfl, _, rfl, fun o dx no ndx _ => ⟨o, dx, _, _, _, _, rfl, a02, rfl, ?_⟩⟩
  rw [a2c]
  have Mb := a2b (o := .own o) (o' := .ins CRounds dx [("there", .str (S a)), ("first", .str (S mi)), ("back", .str (S c)), ("second", .str (S th))]) no ndx
  have Eo := @a02 (upd Hb dx (.own o)) o (.ins CRounds dx [("there", .str (S a)), ("first", .str (S mi)), ("back", .str (S c)), ("second", .str (S th))])
  generalize upd (upd Hb dx (.own o)) o (.ins CRounds dx [("there", .str (S a)), ("first", .str (S mi)), ("back", .str (S c)), ("second", .str (S th))]) = Hc at *
  refine ⟨o, dx, _, rfl, Eo, rfl, _, rfl, _, rfl, o, a, mi, c, th, x, y, rfl, ⟨dx, Eo⟩, wa, wc, by omega, lmi, by omega, lth, fun Hd Sd => ?_⟩
  refine ⟨_, rfl, _, _, rfl, _, rfl, saysF rfl ?_⟩
  exact ⟨hs.trans (Sa.trans (Sb.trans (Mb.trans Sd))), _, _, _, rfl⟩
 ·rintro σ' H' ⟨hs, f11, f12, f13, rfl⟩
  exact q _ (T8.trans hs)
end
end K08
namespace K08
open PySem L2 TW TX
seal L2.PE L2.PT L2.PA L2.PS L2.PSs L2.PI L2.PG L2.PGs L2.PPs L2.PW L2.PTs L2.PO
section
variable {P : Program} {w : World} {K : PySem.W.Frag} {mg : Str → Option Value} {base : Heap} {f : Addr} {fd : FuncData} {k : Nat}
abbrev s_law : Stmt := top 88
theorem sc_law : a0c ["_law_script", "_law_one", "_law_other", "_law_short"] ["_law_script"] (a03 s_law) := ⟨rfl, rfl, rfl, by decide +kernel, rfl, by decide +kernel, by decide +kernel⟩
theorem ok_law (F : Fun K "law" "law" s_law f fd) (c_law_two : Callee P w K mg base k "_law_two" ["_law_script"] (spTwo K)) (c_law_alike_by_hand : Callee P w K mg base k "_law_alike_by_hand" ["_law_script", "_law_one", "_law_other"] (spHand K)) (c_law_led_by_hand : Callee P w K mg base k "_law_led_by_hand" ["_law_script", "_law_one", "_law_other"] (spHand K)) (c_law_letters : Callee P w K mg base k "_law_letters" ["_law_script", "_law_by"] (abg K)) (c_law_rounds_by_hand : Callee P w K mg base k "_law_rounds_by_hand" ["_law_one", "_law_other"] spHandR) :
  a1u P w K mg base CX0 (k + 1) f fd ["_law_script"] (spLaw K) := by
 refine F.ok sc_law (fun vs H Q E h => ?_) (fun cdv A outer s H vs Q E hr h => ?_)
 ·obtain ⟨a, ns, rfl, _⟩ := h; rfl
 obtain ⟨a, ns, rfl, hS, h63, q⟩ := h
 have nd := sc_law.nd
 refine ⟨_, (a04 (abx (a05 c_law_two hr rfl (a00 (pv 0) a01)) (pg_tup rfl (a1z (a0q (i := 1) nd rfl (Or.inl rfl)) (a1z (a0q (i := 2) nd rfl (Or.inl rfl)) a8n))))
   (a04 (a1i (PW.pt (pw_or (a1v (a1j (a05 c_law_alike_by_hand hr rfl (a00 (pv 0) (a00 (pv 1) (a00 (pv 2) a01)))))) (pw_or1 (a1v (a1j (a05 c_law_led_by_hand hr rfl (a00 (pv 0) (a00 (pv 1) (a00 (pv 2) a01))))))))) (a08 (a0d a5f)) a0m)
   (a04 (a0f (i := 3) nd rfl (Or.inl rfl) (a05 c_law_letters hr rfl (a00 (pv 0) (a00 a07 a01))))
   (a08 (a0d (a3d (a05 c_law_rounds_by_hand hr rfl (a00 (pv 1) (a00 (pv 2) a01))) (a4j (a05 c_law_rounds_by_hand hr rfl (a00 (pv 3) (a00 (a0o a0s a0i (pv 3)) a01)))))))))), ?_⟩
 refine ⟨_, rfl, a, ns, rfl, hS, h63, fun p x y H1 s1 hp wx wy lx ly => ⟨p, _, rfl, SqT.of hp, rfl, _, _, rfl, _, _, rfl, rfl, ?_⟩⟩
 refine ⟨_, rfl, _, rfl, _, rfl, a, ns, x, y, rfl, s1.seq hS, h63, wx, wy, lx, ly, fun H2 s2 => ⟨_, rfl, a5a ?_⟩⟩
 refine ⟨_, rfl, _, rfl, _, rfl, a, ns, x, y, rfl, (s1.trans s2).seq hS, h63, wx, wy, lx, ly, fun H3 s3 => ⟨_, rfl, a5a ?_⟩⟩
 refine ⟨_, rfl, a, ns, 1, rfl, (s1.trans (s2.trans s3)).seq hS, h63, by decide, by decide, ?_⟩
 refine ⟨_, rfl, _, rfl, x, y, rfl, wx, wy, lx, ly, fun H4 s4 => ⟨_, rfl, a7k ?_⟩⟩
 have lz := a6g 1 ns
 have wz := acg 1 ns
 generalize letters 1 ns = z at *
 refine ⟨_, rfl, _, rfl, _, _, rfl, rfl, by rw [a1a]; show 1 + _ ≤ _; exact big (by omega), ?_⟩
 rw [a7a, a2l]
 refine ⟨z, [114] ++ z, rfl, wz, (IsW.cons (.inr (.inr rfl)) IsW.nil).append wz, by omega, by rw [List.length_append, List.length_singleton]; omega, fun H5 s5 => q _⟩
end
end K08
namespace K08
open PySem L2 TW TX
theorem all_mk {l : PySem.W.OpenLaw} {w : World} {K : PySem.W.Frag} {h : Heap} {mg : Str → Option Value} {fa : Addr} (X : K.In h) (G : h.Ns mainGlobals mg) (hfa : mg "law" = some (.ref fa))
  {f0 : Addr} {od0 an0 : Option Addr} {sl0 : Array (Option Value)} {oc0 kV0 dc0 pm0 cd0 ct0 : Value}
  {f1 : Addr} {od1 an1 : Option Addr} {sl1 : Array (Option Value)} {oc1 kV1 dc1 pm1 cd1 ct1 : Value}
  {f2 : Addr} {od2 an2 : Option Addr} {sl2 : Array (Option Value)} {oc2 kV2 dc2 pm2 cd2 ct2 : Value}
  {f3 : Addr} {od3 an3 : Option Addr} {sl3 : Array (Option Value)} {oc3 kV3 dc3 pm3 cd3 ct3 : Value}
  {f4 : Addr} {od4 an4 : Option Addr} {sl4 : Array (Option Value)} {oc4 kV4 dc4 pm4 cd4 ct4 : Value}
  {f5 : Addr} {od5 an5 : Option Addr} {sl5 : Array (Option Value)} {oc5 kV5 dc5 pm5 cd5 ct5 : Value}
  {f6 : Addr} {od6 an6 : Option Addr} {sl6 : Array (Option Value)} {oc6 kV6 dc6 pm6 cd6 ct6 : Value}
  {f7 : Addr} {od7 an7 : Option Addr} {sl7 : Array (Option Value)} {oc7 kV7 dc7 pm7 cd7 ct7 : Value}
  {f8 : Addr} {od8 an8 : Option Addr} {sl8 : Array (Option Value)} {oc8 kV8 dc8 pm8 cd8 ct8 : Value}
  {f9 : Addr} {od9 an9 : Option Addr} {sl9 : Array (Option Value)} {oc9 kV9 dc9 pm9 cd9 ct9 : Value}
  {f10 : Addr} {od10 an10 : Option Addr} {sl10 : Array (Option Value)} {oc10 kV10 dc10 pm10 cd10 ct10 : Value}
  {f11 : Addr} {od11 an11 : Option Addr} {sl11 : Array (Option Value)} {oc11 kV11 dc11 pm11 cd11 ct11 : Value}
  {f12 : Addr} {od12 an12 : Option Addr} {sl12 : Array (Option Value)} {oc12 kV12 dc12 pm12 cd12 ct12 : Value}
  {f13 : Addr} {od13 an13 : Option Addr} {sl13 : Array (Option Value)} {oc13 kV13 dc13 pm13 cd13 ct13 : Value}
  {f14 : Addr} {od14 an14 : Option Addr} {sl14 : Array (Option Value)} {oc14 kV14 dc14 pm14 cd14 ct14 : Value}
  {f15 : Addr} {od15 an15 : Option Addr} {sl15 : Array (Option Value)} {oc15 kV15 dc15 pm15 cd15 ct15 : Value}
  {f16 : Addr} {od16 an16 : Option Addr} {sl16 : Array (Option Value)} {oc16 kV16 dc16 pm16 cd16 ct16 : Value}
  {f17 : Addr} {od17 an17 : Option Addr} {sl17 : Array (Option Value)} {oc17 kV17 dc17 pm17 cd17 ct17 : Value}
  {f18 : Addr} {od18 an18 : Option Addr} {sl18 : Array (Option Value)} {oc18 kV18 dc18 pm18 cd18 ct18 : Value}
  {f19 : Addr} {od19 an19 : Option Addr} {sl19 : Array (Option Value)} {oc19 kV19 dc19 pm19 cd19 ct19 : Value}
  {f20 : Addr} {od20 an20 : Option Addr} {sl20 : Array (Option Value)} {oc20 kV20 dc20 pm20 cd20 ct20 : Value}
  {f21 : Addr} {od21 an21 : Option Addr} {sl21 : Array (Option Value)} {oc21 kV21 dc21 pm21 cd21 ct21 : Value}
  {f22 : Addr} {od22 an22 : Option Addr} {sl22 : Array (Option Value)} {oc22 kV22 dc22 pm22 cd22 ct22 : Value}
  {f23 : Addr} {od23 an23 : Option Addr} {sl23 : Array (Option Value)} {oc23 kV23 dc23 pm23 cd23 ct23 : Value}
  {f24 : Addr} {od24 an24 : Option Addr} {sl24 : Array (Option Value)} {oc24 kV24 dc24 pm24 cd24 ct24 : Value}
  {f25 : Addr} {od25 an25 : Option Addr} {sl25 : Array (Option Value)} {oc25 kV25 dc25 pm25 cd25 ct25 : Value}
  {f26 : Addr} {od26 an26 : Option Addr} {sl26 : Array (Option Value)} {oc26 kV26 dc26 pm26 cd26 ct26 : Value}
  {f27 : Addr} {od27 an27 : Option Addr} {sl27 : Array (Option Value)} {oc27 kV27 dc27 pm27 cd27 ct27 : Value}
  {f28 : Addr} {od28 an28 : Option Addr} {sl28 : Array (Option Value)} {oc28 kV28 dc28 pm28 cd28 ct28 : Value}
  {f29 : Addr} {od29 an29 : Option Addr} {sl29 : Array (Option Value)} {oc29 kV29 dc29 pm29 cd29 ct29 : Value}
  {f30 : Addr} {od30 an30 : Option Addr} {sl30 : Array (Option Value)} {oc30 kV30 dc30 pm30 cd30 ct30 : Value}
  {f31 : Addr} {od31 an31 : Option Addr} {sl31 : Array (Option Value)} {oc31 kV31 dc31 pm31 cd31 ct31 : Value}
  {f32 : Addr} {od32 an32 : Option Addr} {sl32 : Array (Option Value)} {oc32 kV32 dc32 pm32 cd32 ct32 : Value}
  {f33 : Addr} {od33 an33 : Option Addr} {sl33 : Array (Option Value)} {oc33 kV33 dc33 pm33 cd33 ct33 : Value}
  {f34 : Addr} {od34 an34 : Option Addr} {sl34 : Array (Option Value)} {oc34 kV34 dc34 pm34 cd34 ct34 : Value}
  {f35 : Addr} {od35 an35 : Option Addr} {sl35 : Array (Option Value)} {oc35 kV35 dc35 pm35 cd35 ct35 : Value}
  {f36 : Addr} {od36 an36 : Option Addr} {sl36 : Array (Option Value)} {oc36 kV36 dc36 pm36 cd36 ct36 : Value}
  {f37 : Addr} {od37 an37 : Option Addr} {sl37 : Array (Option Value)} {oc37 kV37 dc37 pm37 cd37 ct37 : Value}
  {f38 : Addr} {od38 an38 : Option Addr} {sl38 : Array (Option Value)} {oc38 kV38 dc38 pm38 cd38 ct38 : Value}
  {f39 : Addr} {od39 an39 : Option Addr} {sl39 : Array (Option Value)} {oc39 kV39 dc39 pm39 cd39 ct39 : Value}
  {f40 : Addr} {od40 an40 : Option Addr} {sl40 : Array (Option Value)} {oc40 kV40 dc40 pm40 cd40 ct40 : Value}
  {f41 : Addr} {od41 an41 : Option Addr} {sl41 : Array (Option Value)} {oc41 kV41 dc41 pm41 cd41 ct41 : Value}
  {f42 : Addr} {od42 an42 : Option Addr} {sl42 : Array (Option Value)} {oc42 kV42 dc42 pm42 cd42 ct42 : Value}
  {f43 : Addr} {od43 an43 : Option Addr} {sl43 : Array (Option Value)} {oc43 kV43 dc43 pm43 cd43 ct43 : Value}
  {f44 : Addr} {od44 an44 : Option Addr} {sl44 : Array (Option Value)} {oc44 kV44 dc44 pm44 cd44 ct44 : Value}
  {f45 : Addr} {od45 an45 : Option Addr} {sl45 : Array (Option Value)} {oc45 kV45 dc45 pm45 cd45 ct45 : Value}
  {f46 : Addr} {od46 an46 : Option Addr} {sl46 : Array (Option Value)} {oc46 kV46 dc46 pm46 cd46 ct46 : Value}
  {f47 : Addr} {od47 an47 : Option Addr} {sl47 : Array (Option Value)} {oc47 kV47 dc47 pm47 cd47 ct47 : Value}
  {f48 : Addr} {od48 an48 : Option Addr} {sl48 : Array (Option Value)} {oc48 kV48 dc48 pm48 cd48 ct48 : Value}
  {f49 : Addr} {od49 an49 : Option Addr} {sl49 : Array (Option Value)} {oc49 kV49 dc49 pm49 cd49 ct49 : Value}
  {f50 : Addr} {od50 an50 : Option Addr} {sl50 : Array (Option Value)} {oc50 kV50 dc50 pm50 cd50 ct50 : Value}
  {f51 : Addr} {od51 an51 : Option Addr} {sl51 : Array (Option Value)} {oc51 kV51 dc51 pm51 cd51 ct51 : Value}
  {f52 : Addr} {od52 an52 : Option Addr} {sl52 : Array (Option Value)} {oc52 kV52 dc52 pm52 cd52 ct52 : Value}
  {f53 : Addr} {od53 an53 : Option Addr} {sl53 : Array (Option Value)} {oc53 kV53 dc53 pm53 cd53 ct53 : Value}
  {f54 : Addr} {od54 an54 : Option Addr} {sl54 : Array (Option Value)} {oc54 kV54 dc54 pm54 cd54 ct54 : Value}
  {f55 : Addr} {od55 an55 : Option Addr} {sl55 : Array (Option Value)} {oc55 kV55 dc55 pm55 cd55 ct55 : Value}
  {f56 : Addr} {od56 an56 : Option Addr} {sl56 : Array (Option Value)} {oc56 kV56 dc56 pm56 cd56 ct56 : Value}
  {f57 : Addr} {od57 an57 : Option Addr} {sl57 : Array (Option Value)} {oc57 kV57 dc57 pm57 cd57 ct57 : Value}
  {f58 : Addr} {od58 an58 : Option Addr} {sl58 : Array (Option Value)} {oc58 kV58 dc58 pm58 cd58 ct58 : Value}
  {f59 : Addr} {od59 an59 : Option Addr} {sl59 : Array (Option Value)} {oc59 kV59 dc59 pm59 cd59 ct59 : Value}
  {f60 : Addr} {od60 an60 : Option Addr} {sl60 : Array (Option Value)} {oc60 kV60 dc60 pm60 cd60 ct60 : Value}
  {f61 : Addr} {od61 an61 : Option Addr} {sl61 : Array (Option Value)} {oc61 kV61 dc61 pm61 cd61 ct61 : Value}
  {f62 : Addr} {od62 an62 : Option Addr} {sl62 : Array (Option Value)} {oc62 kV62 dc62 pm62 cd62 ct62 : Value}
  {f63 : Addr} {od63 an63 : Option Addr} {sl63 : Array (Option Value)} {oc63 kV63 dc63 pm63 cd63 ct63 : Value}
  {f64 : Addr} {od64 an64 : Option Addr} {sl64 : Array (Option Value)} {oc64 kV64 dc64 pm64 cd64 ct64 : Value}
  {f65 : Addr} {od65 an65 : Option Addr} {sl65 : Array (Option Value)} {oc65 kV65 dc65 pm65 cd65 ct65 : Value}
  {f66 : Addr} {od66 an66 : Option Addr} {sl66 : Array (Option Value)} {oc66 kV66 dc66 pm66 cd66 ct66 : Value}
  {f67 : Addr} {od67 an67 : Option Addr} {sl67 : Array (Option Value)} {oc67 kV67 dc67 pm67 cd67 ct67 : Value}
  {f68 : Addr} {od68 an68 : Option Addr} {sl68 : Array (Option Value)} {oc68 kV68 dc68 pm68 cd68 ct68 : Value}
  {f69 : Addr} {od69 an69 : Option Addr} {sl69 : Array (Option Value)} {oc69 kV69 dc69 pm69 cd69 ct69 : Value}
  {f70 : Addr} {od70 an70 : Option Addr} {sl70 : Array (Option Value)} {oc70 kV70 dc70 pm70 cd70 ct70 : Value}
  {f71 : Addr} {od71 an71 : Option Addr} {sl71 : Array (Option Value)} {oc71 kV71 dc71 pm71 cd71 ct71 : Value}
  {f72 : Addr} {od72 an72 : Option Addr} {sl72 : Array (Option Value)} {oc72 kV72 dc72 pm72 cd72 ct72 : Value}
  {f73 : Addr} {od73 an73 : Option Addr} {sl73 : Array (Option Value)} {oc73 kV73 dc73 pm73 cd73 ct73 : Value}
  {aLETTERS : Addr} {odL : Option Addr} {slL : Array (Option Value)} {nL : Nat} {t1 t2 t3 : Tok}
  {aEX : Addr} {nE : Nat} {e1 e2 e3 : Tok} {es : Array DictEntry}
  {aTF atf0 atf1 atf2 : Addr} {odT odt01 odt10 odt11 : Option Addr} {slT slt01 slt10 slt11 : Array (Option Value)} {nT nt01 nt10 nt11 : Nat} {u1 u2 u3 u4 u5 u6 : Tok}
  {aDE : Addr} {odDE : Option Addr} {slDE : Array (Option Value)} {nDE : Nat} {tDE0 tDE1 : Tok}
  {aPC : Addr} {odPC : Option Addr} {slPC : Array (Option Value)} {nPC : Nat} {tPC0 tPC1 tPC2 tPC3 : Tok}
  {aLR : Addr} {odLR : Option Addr} {slLR : Array (Option Value)} {nLR : Nat} {tLR0 tLR1 tLR2 tLR3 : Tok}
  {aRP : Addr} {odRP : Option Addr} {slRP : Array (Option Value)} {nRP : Nat} {tRP0 tRP1 : Tok}
  {aPO : Addr} {odPO : Option Addr} {slPO : Array (Option Value)} {nPO : Nat} {tPO0 tPO1 tPO2 : Tok}
  {aOV : Addr} {nOV : Nat} {esOV : Array DictEntry} {ov1 ov2 : Tok} {bT pT0 pT1 pT2 pT3 : Addr} {odOT odOT0 odOT1 odOT2 odOT3 : Option Addr} {slOT slOT0 slOT1 slOT2 slOT3 : Array (Option Value)} {nOT nOT0 nOT1 nOT2 nOT3 : Nat} {qT00 qT01 qT02 qT10 qT11 qT12 qT20 qT21 qT22 qT30 qT31 qT32 : Tok} {bU pU0 pU1 pU2 pU3 : Addr} {odOU odOU0 odOU1 odOU2 odOU3 : Option Addr} {slOU slOU0 slOU1 slOU2 slOU3 : Array (Option Value)} {nOU nOU0 nOU1 nOU2 nOU3 : Nat} {qU00 qU01 qU02 qU10 qU11 qU12 qU20 qU21 qU22 qU30 qU31 qU32 : Tok}
  {aBT bBt bBu bBr : Addr} {nBT nBt nBu nBr : Nat} {bt1 bt2 bt3 bt4 bt5 : Tok} {esBT : Array DictEntry} {odBt odBu odBr : Option Addr} {slBt slBu slBr : Array (Option Value)}
  {aTG : Addr} {nTG : Nat} {g1 g2 g3 g4 g5 : Tok} {esTG : Array DictEntry}
  {CAlike : Addr}
  {CUnlike : Addr}
  {CQuiet : Addr}
  {COnward : Addr}
  {CLed : Addr}
  {CParts : Addr}
  {CElsewhere : Addr}
  {CRounds : Addr}
  (q_Alike : PySem.W.nsIn K mainGlobals "Alike" = some (some (.ref CAlike)))
  (mi_Alike : PySem.W.findIn K (.ref CAlike) "__init__" = some (some (.ref f19)))
  (ma_Alike_shows : PySem.W.findIn K (.ref CAlike) "shows" = some (some (.ref f20)))
  (q_Unlike : PySem.W.nsIn K mainGlobals "Unlike" = some (some (.ref CUnlike)))
  (mi_Unlike : PySem.W.findIn K (.ref CUnlike) "__init__" = some (some (.ref f21)))
  (ma_Unlike_shows : PySem.W.findIn K (.ref CUnlike) "shows" = some (some (.ref f22)))
  (q_Quiet : PySem.W.nsIn K mainGlobals "Quiet" = some (some (.ref CQuiet)))
  (mi_Quiet : PySem.W.findIn K (.ref CQuiet) "__init__" = some (some (.ref f23)))
  (ma_Quiet_shows : PySem.W.findIn K (.ref CQuiet) "shows" = some (some (.ref f24)))
  (q_Onward : PySem.W.nsIn K mainGlobals "Onward" = some (some (.ref COnward)))
  (mi_Onward : PySem.W.findIn K (.ref COnward) "__init__" = some (some (.ref f25)))
  (ma_Onward_shows : PySem.W.findIn K (.ref COnward) "shows" = some (some (.ref f26)))
  (q_Led : PySem.W.nsIn K mainGlobals "Led" = some (some (.ref CLed)))
  (mi_Led : PySem.W.findIn K (.ref CLed) "__init__" = some (some (.ref f27)))
  (ma_Led_shows : PySem.W.findIn K (.ref CLed) "shows" = some (some (.ref f30)))
  (q_Parts : PySem.W.nsIn K mainGlobals "Parts" = some (some (.ref CParts)))
  (mi_Parts : PySem.W.findIn K (.ref CParts) "__init__" = some (some (.ref f28)))
  (ma_Parts_shows : PySem.W.findIn K (.ref CParts) "shows" = some (some (.ref f31)))
  (q_Elsewhere : PySem.W.nsIn K mainGlobals "Elsewhere" = some (some (.ref CElsewhere)))
  (mi_Elsewhere : PySem.W.findIn K (.ref CElsewhere) "__init__" = some (some (.ref f32)))
  (ma_Elsewhere_shows : PySem.W.findIn K (.ref CElsewhere) "shows" = some (some (.ref f33)))
  (q_Rounds : PySem.W.nsIn K mainGlobals "Rounds" = some (some (.ref CRounds)))
  (mi_Rounds : PySem.W.findIn K (.ref CRounds) "__init__" = some (some (.ref f34)))
  (ma_Rounds_shows : PySem.W.findIn K (.ref CRounds) "shows" = some (some (.ref f35)))
  (a0 : PySem.W.nsIn K mainGlobals "is_whole" = some (some (.ref f0)))
  (l0 : K.lookup f0 = some ⟨oc0, od0, .func (PySem.W.fnOf "is_whole" "is_whole" (a0b a5s) (a0a a5s) (a03 a5s) .none kV0 dc0 pm0 an0 cd0 ct0), sl0⟩)
  (c0 : PySem.W.codeIn K cd0 "is_whole" = true)
  (k0 : PySem.W.keepIn K (.ref f0) = true)
  (a1 : PySem.W.nsIn K mainGlobals "is_word" = some (some (.ref f1)))
  (l1 : K.lookup f1 = some ⟨oc1, od1, .func (PySem.W.fnOf "is_word" "is_word" (a0b a6d) (a0a a6d) (a03 a6d) .none kV1 dc1 pm1 an1 cd1 ct1), sl1⟩)
  (c1 : PySem.W.codeIn K cd1 "is_word" = true)
  (k1 : PySem.W.keepIn K (.ref f1) = true)
  (a2 : PySem.W.nsIn K mainGlobals "common_divisor" = some (some (.ref f2)))
  (l2 : K.lookup f2 = some ⟨oc2, od2, .func (PySem.W.fnOf "common_divisor" "common_divisor" (a0b a1x) (a0a a1x) (a03 a1x) .none kV2 dc2 pm2 an2 cd2 ct2), sl2⟩)
  (c2 : PySem.W.codeIn K cd2 "common_divisor" = true)
  (k2 : PySem.W.keepIn K (.ref f2) = true)
  (a3 : PySem.W.nsIn K mainGlobals "is_fraction" = some (some (.ref f3)))
  (l3 : K.lookup f3 = some ⟨oc3, od3, .func (PySem.W.fnOf "is_fraction" "is_fraction" (a0b a3l) (a0a a3l) (a03 a3l) .none kV3 dc3 pm3 an3 cd3 ct3), sl3⟩)
  (c3 : PySem.W.codeIn K cd3 "is_fraction" = true)
  (k3 : PySem.W.keepIn K (.ref f3) = true)
  (a4 : PySem.W.nsIn K mainGlobals "is_text_among" = some (some (.ref f4)))
  (l4 : K.lookup f4 = some ⟨oc4, od4, .func (PySem.W.fnOf "is_text_among" "is_text_among" (a0b a2j) (a0a a2j) (a03 a2j) .none kV4 dc4 pm4 an4 cd4 ct4), sl4⟩)
  (c4 : PySem.W.codeIn K cd4 "is_text_among" = true)
  (k4 : PySem.W.keepIn K (.ref f4) = true)
  (a5 : PySem.W.nsIn K mainGlobals "is_step" = some (some (.ref f5)))
  (l5 : K.lookup f5 = some ⟨oc5, od5, .func (PySem.W.fnOf "is_step" "is_step" (a0b a76) (a0a a76) (a03 a76) .none kV5 dc5 pm5 an5 cd5 ct5), sl5⟩)
  (c5 : PySem.W.codeIn K cd5 "is_step" = true)
  (k5 : PySem.W.keepIn K (.ref f5) = true)
  (a6 : PySem.W.nsIn K mainGlobals "check_word" = some (some (.ref f6)))
  (l6 : K.lookup f6 = some ⟨oc6, od6, .func (PySem.W.fnOf "check_word" "check_word" (a0b a4e) (a0a a4e) (a03 a4e) .none kV6 dc6 pm6 an6 cd6 ct6), sl6⟩)
  (c6 : PySem.W.codeIn K cd6 "check_word" = true)
  (k6 : PySem.W.keepIn K (.ref f6) = true)
  (a7 : PySem.W.nsIn K mainGlobals "turned" = some (some (.ref f7)))
  (l7 : K.lookup f7 = some ⟨oc7, od7, .func (PySem.W.fnOf "turned" "turned" (a0b a84) (a0a a84) (a03 a84) .none kV7 dc7 pm7 an7 cd7 ct7), sl7⟩)
  (c7 : PySem.W.codeIn K cd7 "turned" = true)
  (k7 : PySem.W.keepIn K (.ref f7) = true)
  (a8 : PySem.W.nsIn K mainGlobals "moved" = some (some (.ref f8)))
  (l8 : K.lookup f8 = some ⟨oc8, od8, .func (PySem.W.fnOf "moved" "moved" (a0b a9o) (a0a a9o) (a03 a9o) .none kV8 dc8 pm8 an8 cd8 ct8), sl8⟩)
  (c8 : PySem.W.codeIn K cd8 "moved" = true)
  (k8 : PySem.W.keepIn K (.ref f8) = true)
  (a9 : PySem.W.nsIn K mainGlobals "follow" = some (some (.ref f9)))
  (l9 : K.lookup f9 = some ⟨oc9, od9, .func (PySem.W.fnOf "follow" "follow" (a0b a87) (a0a a87) (a03 a87) .none kV9 dc9 pm9 an9 cd9 ct9), sl9⟩)
  (c9 : PySem.W.codeIn K cd9 "follow" = true)
  (k9 : PySem.W.keepIn K (.ref f9) = true)
  (a10 : PySem.W.nsIn K mainGlobals "lead_alike" = some (some (.ref f10)))
  (l10 : K.lookup f10 = some ⟨oc10, od10, .func (PySem.W.fnOf "lead_alike" "lead_alike" (a0b a3g) (a0a a3g) (a03 a3g) .none kV10 dc10 pm10 an10 cd10 ct10), sl10⟩)
  (c10 : PySem.W.codeIn K cd10 "lead_alike" = true)
  (k10 : PySem.W.keepIn K (.ref f10) = true)
  (a11 : PySem.W.nsIn K mainGlobals "is_quiet" = some (some (.ref f11)))
  (l11 : K.lookup f11 = some ⟨oc11, od11, .func (PySem.W.fnOf "is_quiet" "is_quiet" (a0b a5t) (a0a a5t) (a03 a5t) .none kV11 dc11 pm11 an11 cd11 ct11), sl11⟩)
  (c11 : PySem.W.codeIn K cd11 "is_quiet" = true)
  (k11 : PySem.W.keepIn K (.ref f11) = true)
  (a12 : PySem.W.nsIn K mainGlobals "back" = some (some (.ref f12)))
  (l12 : K.lookup f12 = some ⟨oc12, od12, .func (PySem.W.fnOf "back" "back" (a0b abw) (a0a abw) (a03 abw) .none kV12 dc12 pm12 an12 cd12 ct12), sl12⟩)
  (c12 : PySem.W.codeIn K cd12 "back" = true)
  (k12 : PySem.W.keepIn K (.ref f12) = true)
  (a13 : PySem.W.nsIn K mainGlobals "can_step" = some (some (.ref f13)))
  (l13 : K.lookup f13 = some ⟨oc13, od13, .func (PySem.W.fnOf "can_step" "can_step" (a0b a5u) (a0a a5u) (a03 a5u) .none kV13 dc13 pm13 an13 cd13 ct13), sl13⟩)
  (c13 : PySem.W.codeIn K cd13 "can_step" = true)
  (k13 : PySem.W.keepIn K (.ref f13) = true)
  (a14 : PySem.W.nsIn K mainGlobals "after_step" = some (some (.ref f14)))
  (l14 : K.lookup f14 = some ⟨oc14, od14, .func (PySem.W.fnOf "after_step" "after_step" (a0b a4f) (a0a a4f) (a03 a4f) .none kV14 dc14 pm14 an14 cd14 ct14), sl14⟩)
  (c14 : PySem.W.codeIn K cd14 "after_step" = true)
  (k14 : PySem.W.keepIn K (.ref f14) = true)
  (a15 : PySem.W.nsIn K mainGlobals "begun_by" = some (some (.ref f15)))
  (l15 : K.lookup f15 = some ⟨oc15, od15, .func (PySem.W.fnOf "begun_by" "begun_by" (a0b a5v) (a0a a5v) (a03 a5v) .none kV15 dc15 pm15 an15 cd15 ct15), sl15⟩)
  (c15 : PySem.W.codeIn K cd15 "begun_by" = true)
  (k15 : PySem.W.keepIn K (.ref f15) = true)
  (a16 : PySem.W.nsIn K mainGlobals "is_round" = some (some (.ref f16)))
  (l16 : K.lookup f16 = some ⟨oc16, od16, .func (PySem.W.fnOf "is_round" "is_round" (a0b a4w) (a0a a4w) (a03 a4w) .none kV16 dc16 pm16 an16 cd16 ct16), sl16⟩)
  (c16 : PySem.W.codeIn K cd16 "is_round" = true)
  (k16 : PySem.W.keepIn K (.ref f16) = true)
  (a17 : PySem.W.nsIn K mainGlobals "is_same_round" = some (some (.ref f17)))
  (l17 : K.lookup f17 = some ⟨oc17, od17, .func (PySem.W.fnOf "is_same_round" "is_same_round" (a0b a2k) (a0a a2k) (a03 a2k) .none kV17 dc17 pm17 an17 cd17 ct17), sl17⟩)
  (c17 : PySem.W.codeIn K cd17 "is_same_round" = true)
  (k17 : PySem.W.keepIn K (.ref f17) = true)
  (a18 : PySem.W.nsIn K mainGlobals "telling_fraction" = some (some (.ref f18)))
  (l18 : K.lookup f18 = some ⟨oc18, od18, .func (PySem.W.fnOf "telling_fraction" "telling_fraction" (a0b a1o) (a0a a1o) (a03 a1o) .none kV18 dc18 pm18 an18 cd18 ct18), sl18⟩)
  (c18 : PySem.W.codeIn K cd18 "telling_fraction" = true)
  (k18 : PySem.W.keepIn K (.ref f18) = true)
  (l19 : K.lookup f19 = some ⟨oc19, od19, .func (PySem.W.fnOf "__init__" "Alike.__init__" (a0b a4i) (a0a a4i) (a03 a4i) .none kV19 dc19 pm19 an19 cd19 ct19), sl19⟩)
  (c19 : PySem.W.codeIn K cd19 "Alike.__init__" = true)
  (k19 : PySem.W.keepIn K (.ref f19) = true)
  (l20 : K.lookup f20 = some ⟨oc20, od20, .func (PySem.W.fnOf "shows" "Alike.shows" (a0b a3s) (a0a a3s) (a03 a3s) .none kV20 dc20 pm20 an20 cd20 ct20), sl20⟩)
  (c20 : PySem.W.codeIn K cd20 "Alike.shows" = true)
  (k20 : PySem.W.keepIn K (.ref f20) = true)
  (l21 : K.lookup f21 = some ⟨oc21, od21, .func (PySem.W.fnOf "__init__" "Unlike.__init__" (a0b a3n) (a0a a3n) (a03 a3n) .none kV21 dc21 pm21 an21 cd21 ct21), sl21⟩)
  (c21 : PySem.W.codeIn K cd21 "Unlike.__init__" = true)
  (k21 : PySem.W.keepIn K (.ref f21) = true)
  (l22 : K.lookup f22 = some ⟨oc22, od22, .func (PySem.W.fnOf "shows" "Unlike.shows" (a0b a2v) (a0a a2v) (a03 a2v) .none kV22 dc22 pm22 an22 cd22 ct22), sl22⟩)
  (c22 : PySem.W.codeIn K cd22 "Unlike.shows" = true)
  (k22 : PySem.W.keepIn K (.ref f22) = true)
  (l23 : K.lookup f23 = some ⟨oc23, od23, .func (PySem.W.fnOf "__init__" "Quiet.__init__" (a0b a4g) (a0a a4g) (a03 a4g) .none kV23 dc23 pm23 an23 cd23 ct23), sl23⟩)
  (c23 : PySem.W.codeIn K cd23 "Quiet.__init__" = true)
  (k23 : PySem.W.keepIn K (.ref f23) = true)
  (l24 : K.lookup f24 = some ⟨oc24, od24, .func (PySem.W.fnOf "shows" "Quiet.shows" (a0b a3p) (a0a a3p) (a03 a3p) .none kV24 dc24 pm24 an24 cd24 ct24), sl24⟩)
  (c24 : PySem.W.codeIn K cd24 "Quiet.shows" = true)
  (k24 : PySem.W.keepIn K (.ref f24) = true)
  (l25 : K.lookup f25 = some ⟨oc25, od25, .func (PySem.W.fnOf "__init__" "Onward.__init__" (a0b a3r) (a0a a3r) (a03 a3r) .none kV25 dc25 pm25 an25 cd25 ct25), sl25⟩)
  (c25 : PySem.W.codeIn K cd25 "Onward.__init__" = true)
  (k25 : PySem.W.keepIn K (.ref f25) = true)
  (l26 : K.lookup f26 = some ⟨oc26, od26, .func (PySem.W.fnOf "shows" "Onward.shows" (a0b a2x) (a0a a2x) (a03 a2x) .none kV26 dc26 pm26 an26 cd26 ct26), sl26⟩)
  (c26 : PySem.W.codeIn K cd26 "Onward.shows" = true)
  (k26 : PySem.W.keepIn K (.ref f26) = true)
  (l27 : K.lookup f27 = some ⟨oc27, od27, .func (PySem.W.fnOf "__init__" "Led.__init__" (a0b a5y) (a0a a5y) (a03 a5y) .none kV27 dc27 pm27 an27 cd27 ct27), sl27⟩)
  (c27 : PySem.W.codeIn K cd27 "Led.__init__" = true)
  (k27 : PySem.W.keepIn K (.ref f27) = true)
  (l28 : K.lookup f28 = some ⟨oc28, od28, .func (PySem.W.fnOf "__init__" "Parts.__init__" (a0b a4h) (a0a a4h) (a03 a4h) .none kV28 dc28 pm28 an28 cd28 ct28), sl28⟩)
  (c28 : PySem.W.codeIn K cd28 "Parts.__init__" = true)
  (k28 : PySem.W.keepIn K (.ref f28) = true)
  (a29 : PySem.W.nsIn K mainGlobals "parts_pair" = some (some (.ref f29)))
  (l29 : K.lookup f29 = some ⟨oc29, od29, .func (PySem.W.fnOf "parts_pair" "parts_pair" (a0b a4a) (a0a a4a) (a03 a4a) .none kV29 dc29 pm29 an29 cd29 ct29), sl29⟩)
  (c29 : PySem.W.codeIn K cd29 "parts_pair" = true)
  (k29 : PySem.W.keepIn K (.ref f29) = true)
  (l30 : K.lookup f30 = some ⟨oc30, od30, .func (PySem.W.fnOf "shows" "Led.shows" (a0b a4y) (a0a a4y) (a03 a4y) .none kV30 dc30 pm30 an30 cd30 ct30), sl30⟩)
  (c30 : PySem.W.codeIn K cd30 "Led.shows" = true)
  (k30 : PySem.W.keepIn K (.ref f30) = true)
  (l31 : K.lookup f31 = some ⟨oc31, od31, .func (PySem.W.fnOf "shows" "Parts.shows" (a0b a3q) (a0a a3q) (a03 a3q) .none kV31 dc31 pm31 an31 cd31 ct31), sl31⟩)
  (c31 : PySem.W.codeIn K cd31 "Parts.shows" = true)
  (k31 : PySem.W.keepIn K (.ref f31) = true)
  (l32 : K.lookup f32 = some ⟨oc32, od32, .func (PySem.W.fnOf "__init__" "Elsewhere.__init__" (a0b a1y) (a0a a1y) (a03 a1y) .none kV32 dc32 pm32 an32 cd32 ct32), sl32⟩)
  (c32 : PySem.W.codeIn K cd32 "Elsewhere.__init__" = true)
  (k32 : PySem.W.keepIn K (.ref f32) = true)
  (l33 : K.lookup f33 = some ⟨oc33, od33, .func (PySem.W.fnOf "shows" "Elsewhere.shows" (a0b a1t) (a0a a1t) (a03 a1t) .none kV33 dc33 pm33 an33 cd33 ct33), sl33⟩)
  (c33 : PySem.W.codeIn K cd33 "Elsewhere.shows" = true)
  (k33 : PySem.W.keepIn K (.ref f33) = true)
  (l34 : K.lookup f34 = some ⟨oc34, od34, .func (PySem.W.fnOf "__init__" "Rounds.__init__" (a0b a3o) (a0a a3o) (a03 a3o) .none kV34 dc34 pm34 an34 cd34 ct34), sl34⟩)
  (c34 : PySem.W.codeIn K cd34 "Rounds.__init__" = true)
  (k34 : PySem.W.keepIn K (.ref f34) = true)
  (l35 : K.lookup f35 = some ⟨oc35, od35, .func (PySem.W.fnOf "shows" "Rounds.shows" (a0b a2w) (a0a a2w) (a03 a2w) .none kV35 dc35 pm35 an35 cd35 ct35), sl35⟩)
  (c35 : PySem.W.codeIn K cd35 "Rounds.shows" = true)
  (k35 : PySem.W.keepIn K (.ref f35) = true)
  (a36 : PySem.W.nsIn K mainGlobals "letters_of" = some (some (.ref f36)))
  (l36 : K.lookup f36 = some ⟨oc36, od36, .func (PySem.W.fnOf "letters_of" "letters_of" (a0b a4c) (a0a a4c) (a03 a4c) .none kV36 dc36 pm36 an36 cd36 ct36), sl36⟩)
  (c36 : PySem.W.codeIn K cd36 "letters_of" = true)
  (k36 : PySem.W.keepIn K (.ref f36) = true)
  (a37 : PySem.W.nsIn K mainGlobals "spelled" = some (some (.ref f37)))
  (l37 : K.lookup f37 = some ⟨oc37, od37, .func (PySem.W.fnOf "spelled" "spelled" (a0b a6c) (a0a a6c) (a03 a6c) .none kV37 dc37 pm37 an37 cd37 ct37), sl37⟩)
  (c37 : PySem.W.codeIn K cd37 "spelled" = true)
  (k37 : PySem.W.keepIn K (.ref f37) = true)
  (a38 : PySem.W.nsIn K mainGlobals "backwards" = some (some (.ref f38)))
  (l38 : K.lookup f38 = some ⟨oc38, od38, .func (PySem.W.fnOf "backwards" "backwards" (a0b a3y) (a0a a3y) (a03 a3y) .none kV38 dc38 pm38 an38 cd38 ct38), sl38⟩)
  (c38 : PySem.W.codeIn K cd38 "backwards" = true)
  (k38 : PySem.W.keepIn K (.ref f38) = true)
  (a39 : PySem.W.nsIn K mainGlobals "joined" = some (some (.ref f39)))
  (l39 : K.lookup f39 = some ⟨oc39, od39, .func (PySem.W.fnOf "joined" "joined" (a0b a86) (a0a a86) (a03 a86) .none kV39 dc39 pm39 an39 cd39 ct39), sl39⟩)
  (c39 : PySem.W.codeIn K cd39 "joined" = true)
  (k39 : PySem.W.keepIn K (.ref f39) = true)
  (a40 : PySem.W.nsIn K mainGlobals "runs_to_end" = some (some (.ref f40)))
  (l40 : K.lookup f40 = some ⟨oc40, od40, .func (PySem.W.fnOf "runs_to_end" "runs_to_end" (a0b a3j) (a0a a3j) (a03 a3j) .none kV40 dc40 pm40 an40 cd40 ct40), sl40⟩)
  (c40 : PySem.W.codeIn K cd40 "runs_to_end" = true)
  (k40 : PySem.W.keepIn K (.ref f40) = true)
  (a41 : PySem.W.nsIn K mainGlobals "follow_runs" = some (some (.ref f41)))
  (l41 : K.lookup f41 = some ⟨oc41, od41, .func (PySem.W.fnOf "follow_runs" "follow_runs" (a0b a3m) (a0a a3m) (a03 a3m) .none kV41 dc41 pm41 an41 cd41 ct41), sl41⟩)
  (c41 : PySem.W.codeIn K cd41 "follow_runs" = true)
  (k41 : PySem.W.keepIn K (.ref f41) = true)
  (a42 : PySem.W.nsIn K mainGlobals "runs_of_pair" = some (some (.ref f42)))
  (l42 : K.lookup f42 = some ⟨oc42, od42, .func (PySem.W.fnOf "runs_of_pair" "runs_of_pair" (a0b a2t) (a0a a2t) (a03 a2t) .none kV42 dc42 pm42 an42 cd42 ct42), sl42⟩)
  (c42 : PySem.W.codeIn K cd42 "runs_of_pair" = true)
  (k42 : PySem.W.keepIn K (.ref f42) = true)
  (a43 : PySem.W.nsIn K mainGlobals "is_pair" = some (some (.ref f43)))
  (l43 : K.lookup f43 = some ⟨oc43, od43, .func (PySem.W.fnOf "is_pair" "is_pair" (a0b a77) (a0a a77) (a03 a77) .none kV43 dc43 pm43 an43 cd43 ct43), sl43⟩)
  (c43 : PySem.W.codeIn K cd43 "is_pair" = true)
  (k43 : PySem.W.keepIn K (.ref f43) = true)
  (a44 : PySem.W.nsIn K mainGlobals "led" = some (some (.ref f44)))
  (l44 : K.lookup f44 = some ⟨oc44, od44, .func (PySem.W.fnOf "led" "led" (a0b s_led) (a0a s_led) (a03 s_led) .none kV44 dc44 pm44 an44 cd44 ct44), sl44⟩)
  (c44 : PySem.W.codeIn K cd44 "led" = true)
  (k44 : PySem.W.keepIn K (.ref f44) = true)
  (a45 : PySem.W.nsIn K mainGlobals "add_beat" = some (some (.ref f45)))
  (l45 : K.lookup f45 = some ⟨oc45, od45, .func (PySem.W.fnOf "add_beat" "add_beat" (a0b a5x) (a0a a5x) (a03 a5x) .none kV45 dc45 pm45 an45 cd45 ct45), sl45⟩)
  (c45 : PySem.W.codeIn K cd45 "add_beat" = true)
  (k45 : PySem.W.keepIn K (.ref f45) = true)
  (a46 : PySem.W.nsIn K mainGlobals "beats_of" = some (some (.ref f46)))
  (l46 : K.lookup f46 = some ⟨oc46, od46, .func (PySem.W.fnOf "beats_of" "beats_of" (a0b a5w) (a0a a5w) (a03 a5w) .none kV46 dc46 pm46 an46 cd46 ct46), sl46⟩)
  (c46 : PySem.W.codeIn K cd46 "beats_of" = true)
  (k46 : PySem.W.keepIn K (.ref f46) = true)
  (a47 : PySem.W.nsIn K mainGlobals "word_and_round" = some (some (.ref f47)))
  (l47 : K.lookup f47 = some ⟨oc47, od47, .func (PySem.W.fnOf "word_and_round" "word_and_round" (a0b a1w) (a0a a1w) (a03 a1w) .none kV47 dc47 pm47 an47 cd47 ct47), sl47⟩)
  (c47 : PySem.W.codeIn K cd47 "word_and_round" = true)
  (k47 : PySem.W.keepIn K (.ref f47) = true)
  (a48 : PySem.W.nsIn K mainGlobals "take_pair" = some (some (.ref f48)))
  (l48 : K.lookup f48 = some ⟨oc48, od48, .func (PySem.W.fnOf "take_pair" "take_pair" (a0b a4r) (a0a a4r) (a03 a4r) .none kV48 dc48 pm48 an48 cd48 ct48), sl48⟩)
  (c48 : PySem.W.codeIn K cd48 "take_pair" = true)
  (k48 : PySem.W.keepIn K (.ref f48) = true)
  (a49 : PySem.W.nsIn K mainGlobals "turn_over" = some (some (.ref f49)))
  (l49 : K.lookup f49 = some ⟨oc49, od49, .func (PySem.W.fnOf "turn_over" "turn_over" (a0b a3x) (a0a a3x) (a03 a3x) .none kV49 dc49 pm49 an49 cd49 ct49), sl49⟩)
  (c49 : PySem.W.codeIn K cd49 "turn_over" = true)
  (k49 : PySem.W.keepIn K (.ref f49) = true)
  (a50 : PySem.W.nsIn K mainGlobals "settle" = some (some (.ref f50)))
  (l50 : K.lookup f50 = some ⟨oc50, od50, .func (PySem.W.fnOf "settle" "settle" (a0b a85) (a0a a85) (a03 a85) .none kV50 dc50 pm50 an50 cd50 ct50), sl50⟩)
  (c50 : PySem.W.codeIn K cd50 "settle" = true)
  (k50 : PySem.W.keepIn K (.ref f50) = true)
  (a51 : PySem.W.nsIn K mainGlobals "made_plain" = some (some (.ref f51)))
  (l51 : K.lookup f51 = some ⟨oc51, od51, .func (PySem.W.fnOf "made_plain" "made_plain" (a0b a4b) (a0a a4b) (a03 a4b) .none kV51 dc51 pm51 an51 cd51 ct51), sl51⟩)
  (c51 : PySem.W.codeIn K cd51 "made_plain" = true)
  (k51 : PySem.W.keepIn K (.ref f51) = true)
  (a52 : PySem.W.nsIn K mainGlobals "undone" = some (some (.ref f52)))
  (l52 : K.lookup f52 = some ⟨oc52, od52, .func (PySem.W.fnOf "undone" "undone" (a0b a7d) (a0a a7d) (a03 a7d) .none kV52 dc52 pm52 an52 cd52 ct52), sl52⟩)
  (c52 : PySem.W.codeIn K cd52 "undone" = true)
  (k52 : PySem.W.keepIn K (.ref f52) = true)
  (a53 : PySem.W.nsIn K mainGlobals "alike" = some (some (.ref f53)))
  (l53 : K.lookup f53 = some ⟨oc53, od53, .func (PySem.W.fnOf "alike" "alike" (a0b a9p) (a0a a9p) (a03 a9p) .none kV53 dc53 pm53 an53 cd53 ct53), sl53⟩)
  (c53 : PySem.W.codeIn K cd53 "alike" = true)
  (k53 : PySem.W.keepIn K (.ref f53) = true)
  (a54 : PySem.W.nsIn K mainGlobals "elsewhere" = some (some (.ref f54)))
  (l54 : K.lookup f54 = some ⟨oc54, od54, .func (PySem.W.fnOf "elsewhere" "elsewhere" (a0b a4x) (a0a a4x) (a03 a4x) .none kV54 dc54 pm54 an54 cd54 ct54), sl54⟩)
  (c54 : PySem.W.codeIn K cd54 "elsewhere" = true)
  (k54 : PySem.W.keepIn K (.ref f54) = true)
  (a55 : PySem.W.nsIn K mainGlobals "_law_letters" = some (some (.ref f55)))
  (l55 : K.lookup f55 = some ⟨oc55, od55, .func (PySem.W.fnOf "_law_letters" "_law_letters" (a0b a3k) (a0a a3k) (a03 a3k) .none kV55 dc55 pm55 an55 cd55 ct55), sl55⟩)
  (c55 : PySem.W.codeIn K cd55 "_law_letters" = true)
  (k55 : PySem.W.keepIn K (.ref f55) = true)
  (a56 : PySem.W.nsIn K mainGlobals "_law_two" = some (some (.ref f56)))
  (l56 : K.lookup f56 = some ⟨oc56, od56, .func (PySem.W.fnOf "_law_two" "_law_two" (a0b a74) (a0a a74) (a03 a74) .none kV56 dc56 pm56 an56 cd56 ct56), sl56⟩)
  (c56 : PySem.W.codeIn K cd56 "_law_two" = true)
  (k56 : PySem.W.keepIn K (.ref f56) = true)
  (a57 : PySem.W.nsIn K mainGlobals "_law_moved" = some (some (.ref f57)))
  (l57 : K.lookup f57 = some ⟨oc57, od57, .func (PySem.W.fnOf "_law_moved" "_law_moved" (a0b a4u) (a0a a4u) (a03 a4u) .none kV57 dc57 pm57 an57 cd57 ct57), sl57⟩)
  (c57 : PySem.W.codeIn K cd57 "_law_moved" = true)
  (k57 : PySem.W.keepIn K (.ref f57) = true)
  (a58 : PySem.W.nsIn K mainGlobals "_law_walked" = some (some (.ref f58)))
  (l58 : K.lookup f58 = some ⟨oc58, od58, .func (PySem.W.fnOf "_law_walked" "_law_walked" (a0b a4d) (a0a a4d) (a03 a4d) .none kV58 dc58 pm58 an58 cd58 ct58), sl58⟩)
  (c58 : PySem.W.codeIn K cd58 "_law_walked" = true)
  (k58 : PySem.W.keepIn K (.ref f58) = true)
  (a59 : PySem.W.nsIn K mainGlobals "_law_same" = some (some (.ref f59)))
  (l59 : K.lookup f59 = some ⟨oc59, od59, .func (PySem.W.fnOf "_law_same" "_law_same" (a0b a4s) (a0a a4s) (a03 a4s) .none kV59 dc59 pm59 an59 cd59 ct59), sl59⟩)
  (c59 : PySem.W.codeIn K cd59 "_law_same" = true)
  (k59 : PySem.W.keepIn K (.ref f59) = true)
  (a60 : PySem.W.nsIn K mainGlobals "_law_backwards" = some (some (.ref f60)))
  (l60 : K.lookup f60 = some ⟨oc60, od60, .func (PySem.W.fnOf "_law_backwards" "_law_backwards" (a0b a2i) (a0a a2i) (a03 a2i) .none kV60 dc60 pm60 an60 cd60 ct60), sl60⟩)
  (c60 : PySem.W.codeIn K cd60 "_law_backwards" = true)
  (k60 : PySem.W.keepIn K (.ref f60) = true)
  (a61 : PySem.W.nsIn K mainGlobals "_law_done" = some (some (.ref f61)))
  (l61 : K.lookup f61 = some ⟨oc61, od61, .func (PySem.W.fnOf "_law_done" "_law_done" (a0b a5q) (a0a a5q) (a03 a5q) .none kV61 dc61 pm61 an61 cd61 ct61), sl61⟩)
  (c61 : PySem.W.codeIn K cd61 "_law_done" = true)
  (k61 : PySem.W.keepIn K (.ref f61) = true)
  (a62 : PySem.W.nsIn K mainGlobals "_law_pairs" = some (some (.ref f62)))
  (l62 : K.lookup f62 = some ⟨oc62, od62, .func (PySem.W.fnOf "_law_pairs" "_law_pairs" (a0b a4t) (a0a a4t) (a03 a4t) .none kV62 dc62 pm62 an62 cd62 ct62), sl62⟩)
  (c62 : PySem.W.codeIn K cd62 "_law_pairs" = true)
  (k62 : PySem.W.keepIn K (.ref f62) = true)
  (a63 : PySem.W.nsIn K mainGlobals "_law_begun" = some (some (.ref f63)))
  (l63 : K.lookup f63 = some ⟨oc63, od63, .func (PySem.W.fnOf "_law_begun" "_law_begun" (a0b a4v) (a0a a4v) (a03 a4v) .none kV63 dc63 pm63 an63 cd63 ct63), sl63⟩)
  (c63 : PySem.W.codeIn K cd63 "_law_begun" = true)
  (k63 : PySem.W.keepIn K (.ref f63) = true)
  (a64 : PySem.W.nsIn K mainGlobals "_law_pieces" = some (some (.ref f64)))
  (l64 : K.lookup f64 = some ⟨oc64, od64, .func (PySem.W.fnOf "_law_pieces" "_law_pieces" (a0b a2m) (a0a a2m) (a03 a2m) .none kV64 dc64 pm64 an64 cd64 ct64), sl64⟩)
  (c64 : PySem.W.codeIn K cd64 "_law_pieces" = true)
  (k64 : PySem.W.keepIn K (.ref f64) = true)
  (a65 : PySem.W.nsIn K mainGlobals "_law_is_round" = some (some (.ref f65)))
  (l65 : K.lookup f65 = some ⟨oc65, od65, .func (PySem.W.fnOf "_law_is_round" "_law_is_round" (a0b a2u) (a0a a2u) (a03 a2u) .none kV65 dc65 pm65 an65 cd65 ct65), sl65⟩)
  (c65 : PySem.W.codeIn K cd65 "_law_is_round" = true)
  (k65 : PySem.W.keepIn K (.ref f65) = true)
  (a66 : PySem.W.nsIn K mainGlobals "_law_from_elsewhere" = some (some (.ref f66)))
  (l66 : K.lookup f66 = some ⟨oc66, od66, .func (PySem.W.fnOf "_law_from_elsewhere" "_law_from_elsewhere" (a0b a1e) (a0a a1e) (a03 a1e) .none kV66 dc66 pm66 an66 cd66 ct66), sl66⟩)
  (c66 : PySem.W.codeIn K cd66 "_law_from_elsewhere" = true)
  (k66 : PySem.W.keepIn K (.ref f66) = true)
  (a67 : PySem.W.nsIn K mainGlobals "_law_says" = some (some (.ref f67)))
  (l67 : K.lookup f67 = some ⟨oc67, od67, .func (PySem.W.fnOf "_law_says" "_law_says" (a0b a5p) (a0a a5p) (a03 a5p) .none kV67 dc67 pm67 an67 cd67 ct67), sl67⟩)
  (c67 : PySem.W.codeIn K cd67 "_law_says" = true)
  (k67 : PySem.W.keepIn K (.ref f67) = true)
  (a68 : PySem.W.nsIn K mainGlobals "_law_bent" = some (some (.ref f68)))
  (l68 : K.lookup f68 = some ⟨oc68, od68, .func (PySem.W.fnOf "_law_bent" "_law_bent" (a0b a5r) (a0a a5r) (a03 a5r) .none kV68 dc68 pm68 an68 cd68 ct68), sl68⟩)
  (c68 : PySem.W.codeIn K cd68 "_law_bent" = true)
  (k68 : PySem.W.keepIn K (.ref f68) = true)
  (a69 : PySem.W.nsIn K mainGlobals "_law_led" = some (some (.ref f69)))
  (l69 : K.lookup f69 = some ⟨oc69, od69, .func (PySem.W.fnOf "_law_led" "_law_led" (a0b a75) (a0a a75) (a03 a75) .none kV69 dc69 pm69 an69 cd69 ct69), sl69⟩)
  (c69 : PySem.W.codeIn K cd69 "_law_led" = true)
  (k69 : PySem.W.keepIn K (.ref f69) = true)
  (a70 : PySem.W.nsIn K mainGlobals "_law_alike_by_hand" = some (some (.ref f70)))
  (l70 : K.lookup f70 = some ⟨oc70, od70, .func (PySem.W.fnOf "_law_alike_by_hand" "_law_alike_by_hand" (a0b a1f) (a0a a1f) (a03 a1f) .none kV70 dc70 pm70 an70 cd70 ct70), sl70⟩)
  (c70 : PySem.W.codeIn K cd70 "_law_alike_by_hand" = true)
  (k70 : PySem.W.keepIn K (.ref f70) = true)
  (a71 : PySem.W.nsIn K mainGlobals "_law_led_by_hand" = some (some (.ref f71)))
  (l71 : K.lookup f71 = some ⟨oc71, od71, .func (PySem.W.fnOf "_law_led_by_hand" "_law_led_by_hand" (a0b a1s) (a0a a1s) (a03 a1s) .none kV71 dc71 pm71 an71 cd71 ct71), sl71⟩)
  (c71 : PySem.W.codeIn K cd71 "_law_led_by_hand" = true)
  (k71 : PySem.W.keepIn K (.ref f71) = true)
  (a72 : PySem.W.nsIn K mainGlobals "_law_rounds_by_hand" = some (some (.ref f72)))
  (l72 : K.lookup f72 = some ⟨oc72, od72, .func (PySem.W.fnOf "_law_rounds_by_hand" "_law_rounds_by_hand" (a0b a0w) (a0a a0w) (a03 a0w) .none kV72 dc72 pm72 an72 cd72 ct72), sl72⟩)
  (c72 : PySem.W.codeIn K cd72 "_law_rounds_by_hand" = true)
  (k72 : PySem.W.keepIn K (.ref f72) = true)
  (a73 : PySem.W.nsIn K mainGlobals "law" = some (some (.ref f73)))
  (l73 : K.lookup f73 = some ⟨oc73, od73, .func (PySem.W.fnOf "law" "law" (a0b s_law) (a0a s_law) (a03 s_law) .none kV73 dc73 pm73 an73 cd73 ct73), sl73⟩)
  (c73 : PySem.W.codeIn K cd73 "law" = true)
  (k73 : PySem.W.keepIn K (.ref f73) = true)
  (z_len : PySem.W.nsIn K mainGlobals "len" = some none)
  (z_all : PySem.W.nsIn K mainGlobals "all" = some none)
  (z_any : PySem.W.nsIn K mainGlobals "any" = some none)
  (z_isinstance : PySem.W.nsIn K mainGlobals "isinstance" = some none)
  (z_abs : PySem.W.nsIn K mainGlobals "abs" = some none)
  (z_int : PySem.W.nsIn K mainGlobals "int" = some none)
  (z_bool : PySem.W.nsIn K mainGlobals "bool" = some none)
  (z_str : PySem.W.nsIn K mainGlobals "str" = some none)
  (z_tuple : PySem.W.nsIn K mainGlobals "tuple" = some none)
  (z_list : PySem.W.nsIn K mainGlobals "list" = some none)
  (z_reversed : PySem.W.nsIn K mainGlobals "reversed" = some none)
  (z_range : PySem.W.nsIn K mainGlobals "range" = some none)
  (z_max : PySem.W.nsIn K mainGlobals "max" = some none)
  (gL : PySem.W.nsIn K mainGlobals "LETTERS" = some (some (.ref aLETTERS)))
  (lL : K.lookup aLETTERS = some ⟨.type "tuple", odL, .seq [Value.str "t" t1, Value.str "u" t2, Value.str "r" t3].toArray nL, slL⟩)
  (gE : PySem.W.nsIn K mainGlobals "EXCHANGED" = some (some (.ref aEX)))
  (lE : K.lookup aEX = some ⟨.type "dict", none, .dict es nE, #[]⟩)
  (kE : PySem.W.KeysLit w.params es.toList)
  (x1 : PySem.W.nsIn K aEX "t" = some (some (.str "u" e1)))
  (x2 : PySem.W.nsIn K aEX "u" = some (some (.str "t" e2)))
  (x3 : PySem.W.nsIn K aEX "r" = some (some (.str "r" e3)))
  (gT : PySem.W.nsIn K mainGlobals "TELLING_FRACTIONS" = some (some (.ref aTF)))
  (lT : K.lookup aTF = some ⟨.type "tuple", odT, .seq [Value.ref atf0, Value.ref atf1, Value.ref atf2].toArray nT, slT⟩)
  (lt01 : K.lookup atf0 = some ⟨.type "tuple", odt01, .seq [Value.int 0 u1, Value.int 1 u2].toArray nt01, slt01⟩)
  (lt10 : K.lookup atf1 = some ⟨.type "tuple", odt10, .seq [Value.int 1 u3, Value.int 0 u4].toArray nt10, slt10⟩)
  (lt11 : K.lookup atf2 = some ⟨.type "tuple", odt11, .seq [Value.int 1 u5, Value.int 1 u6].toArray nt11, slt11⟩)
  (gDE : PySem.W.nsIn K mainGlobals "DEEDS" = some (some (.ref aDE)))
  (lDE : K.lookup aDE = some ⟨.type "tuple", odDE, .seq [Value.str "out" tDE0, Value.str "in" tDE1].toArray nDE, slDE⟩)
  (gPC : PySem.W.nsIn K mainGlobals "PIECES" = some (some (.ref aPC)))
  (lPC : K.lookup aPC = some ⟨.type "tuple", odPC, .seq [Value.str "tu" tPC0, Value.str "ut" tPC1, Value.str "rr" tPC2, Value.str "trtrtr" tPC3].toArray nPC, slPC⟩)
  (gLR : PySem.W.nsIn K mainGlobals "LONE_ROUNDS" = some (some (.ref aLR)))
  (lLR : K.lookup aLR = some ⟨.type "tuple", odLR, .seq [Value.str "" tLR0, Value.str "r" tLR1, Value.str "tr" tLR2, Value.str "ru" tLR3].toArray nLR, slLR⟩)
  (gRP : PySem.W.nsIn K mainGlobals "ROUND_PIECES" = some (some (.ref aRP)))
  (lRP : K.lookup aRP = some ⟨.type "tuple", odRP, .seq [Value.str "rtr" tRP0, Value.str "rru" tRP1].toArray nRP, slRP⟩)
  (gPO : PySem.W.nsIn K mainGlobals "PAIRS_OUT" = some (some (.ref aPO)))
  (lPO : K.lookup aPO = some ⟨.type "tuple", odPO, .seq [Value.str "tu" tPO0, Value.str "ut" tPO1, Value.str "rr" tPO2].toArray nPO, slPO⟩)
  (gOV : PySem.W.nsIn K mainGlobals "OVER" = some (some (.ref aOV)))
  (lOV : K.lookup aOV = some ⟨.type "dict", none, .dict esOV nOV, #[]⟩)
  (kOV : PySem.W.KeysLit w.params esOV.toList)
  (sOV : (aOV == sysModules) = false)
  (mOV : esOV.toList.map (·.key) = [Value.str "trt" ov1, Value.str "uru" ov2])
  (oxT : PySem.W.nsIn K aOV "trt" = some (some (.ref bT)))
  (lOT : K.lookup bT = some ⟨.type "tuple", odOT, .seq [Value.ref pT0, Value.ref pT1, Value.ref pT2, Value.ref pT3].toArray nOT, slOT⟩)
  (lOT0 : K.lookup pT0 = some ⟨.type "tuple", odOT0, .seq [Value.str "in" qT00, Value.int 3 qT01, Value.str "rr" qT02].toArray nOT0, slOT0⟩)
  (lOT1 : K.lookup pT1 = some ⟨.type "tuple", odOT1, .seq [Value.str "in" qT10, Value.int 4 qT11, Value.str "tu" qT12].toArray nOT1, slOT1⟩)
  (lOT2 : K.lookup pT2 = some ⟨.type "tuple", odOT2, .seq [Value.str "in" qT20, Value.int 5 qT21, Value.str "rr" qT22].toArray nOT2, slOT2⟩)
  (lOT3 : K.lookup pT3 = some ⟨.type "tuple", odOT3, .seq [Value.str "out" qT30, Value.int 0 qT31, Value.str "trtrtr" qT32].toArray nOT3, slOT3⟩)
  (oxU : PySem.W.nsIn K aOV "uru" = some (some (.ref bU)))
  (lOU : K.lookup bU = some ⟨.type "tuple", odOU, .seq [Value.ref pU0, Value.ref pU1, Value.ref pU2, Value.ref pU3].toArray nOU, slOU⟩)
  (lOU0 : K.lookup pU0 = some ⟨.type "tuple", odOU0, .seq [Value.str "in" qU00, Value.int 1 qU01, Value.str "trtrtr" qU02].toArray nOU0, slOU0⟩)
  (lOU1 : K.lookup pU1 = some ⟨.type "tuple", odOU1, .seq [Value.str "out" qU10, Value.int 0 qU11, Value.str "ut" qU12].toArray nOU1, slOU1⟩)
  (lOU2 : K.lookup pU2 = some ⟨.type "tuple", odOU2, .seq [Value.str "out" qU20, Value.int 4 qU21, Value.str "rr" qU22].toArray nOU2, slOU2⟩)
  (lOU3 : K.lookup pU3 = some ⟨.type "tuple", odOU3, .seq [Value.str "out" qU30, Value.int 3 qU31, Value.str "tu" qU32].toArray nOU3, slOU3⟩)
  (gBT : PySem.W.nsIn K mainGlobals "BEATS" = some (some (.ref aBT)))
  (lBT : K.lookup aBT = some ⟨.type "dict", none, .dict esBT nBT, #[]⟩)
  (kBT : PySem.W.KeysLit w.params esBT.toList)
  (bx1 : PySem.W.nsIn K aBT "t" = some (some (.ref bBt)))
  (bx2 : PySem.W.nsIn K aBT "u" = some (some (.ref bBu)))
  (bx3 : PySem.W.nsIn K aBT "r" = some (some (.ref bBr)))
  (lBt : K.lookup bBt = some ⟨.type "tuple", odBt, .seq [Value.str "tr" bt1, Value.str "r" bt2].toArray nBt, slBt⟩)
  (lBu : K.lookup bBu = some ⟨.type "tuple", odBu, .seq [Value.str "r" bt3, Value.str "ru" bt4].toArray nBu, slBu⟩)
  (lBr : K.lookup bBr = some ⟨.type "tuple", odBr, .seq [Value.str "r" bt5].toArray nBr, slBr⟩)
  (gTG : PySem.W.nsIn K mainGlobals "TOGETHER" = some (some (.ref aTG)))
  (lTG : K.lookup aTG = some ⟨.type "dict", none, .dict esTG nTG, #[]⟩)
  (kTG : PySem.W.KeysLit w.params esTG.toList)
  (sTG : (aTG == sysModules) = false)
  (tg0 : PySem.W.nsIn K aTG "" = some none)
  (tg1 : PySem.W.nsIn K aTG "rr" = some (some (.str "" g1)))
  (tg2 : PySem.W.nsIn K aTG "trtr" = some (some (.str "ru" g2)))
  (tg3 : PySem.W.nsIn K aTG "ruru" = some (some (.str "tr" g3)))
  (tg4 : PySem.W.nsIn K aTG "trru" = some (some (.str "" g4)))
  (tg5 : PySem.W.nsIn K aTG "rutr" = some (some (.str "" g5)))
  (tg6 : PySem.W.nsIn K aTG "rtr" = some none)
  (tg7 : PySem.W.nsIn K aTG "rru" = some none)
  (tg8 : PySem.W.nsIn K aTG "trr" = some none)
  (tg9 : PySem.W.nsIn K aTG "rur" = some none)
  (pg_Alike : PySem.W.plainGet K CAlike Str.empty = true)
  (hd_Alike : PySem.W.hasDictIn K CAlike = true)
  (po_Alike : PySem.W.plainOver K CAlike = true)
  (sa_Alike : PySem.W.findIn K (.ref CAlike) "__setattr__" = some (some (.builtin "object.__setattr__")))
  (ha_Alike : PySem.W.findIn K (.ref CAlike) "__class__" = some (some (.builtin "object.__class__")))
  (hm_Alike : PySem.W.mroIn K CAlike (.type "object") = some true)
  (nf_Alike_steps : PySem.W.findIn K (.ref CAlike) "steps" = some none)
  (mk_Alike : PySem.W.makesIn K CAlike = true)
  (mf_Alike : PySem.W.isFn K (.ref f19) = true)
  (mp_Alike : PySem.W.keepIn K (.ref CAlike) = true)
  (mn_Alike_shows : PySem.W.isFn K (.ref f20) = true)
  (pg_Unlike : PySem.W.plainGet K CUnlike Str.empty = true)
  (hd_Unlike : PySem.W.hasDictIn K CUnlike = true)
  (po_Unlike : PySem.W.plainOver K CUnlike = true)
  (sa_Unlike : PySem.W.findIn K (.ref CUnlike) "__setattr__" = some (some (.builtin "object.__setattr__")))
  (ha_Unlike : PySem.W.findIn K (.ref CUnlike) "__class__" = some (some (.builtin "object.__class__")))
  (hm_Unlike : PySem.W.mroIn K CUnlike (.type "object") = some true)
  (nf_Unlike_fraction : PySem.W.findIn K (.ref CUnlike) "fraction" = some none)
  (mk_Unlike : PySem.W.makesIn K CUnlike = true)
  (mf_Unlike : PySem.W.isFn K (.ref f21) = true)
  (mp_Unlike : PySem.W.keepIn K (.ref CUnlike) = true)
  (mn_Unlike_shows : PySem.W.isFn K (.ref f22) = true)
  (pg_Quiet : PySem.W.plainGet K CQuiet Str.empty = true)
  (hd_Quiet : PySem.W.hasDictIn K CQuiet = true)
  (po_Quiet : PySem.W.plainOver K CQuiet = true)
  (sa_Quiet : PySem.W.findIn K (.ref CQuiet) "__setattr__" = some (some (.builtin "object.__setattr__")))
  (ha_Quiet : PySem.W.findIn K (.ref CQuiet) "__class__" = some (some (.builtin "object.__class__")))
  (hm_Quiet : PySem.W.mroIn K CQuiet (.type "object") = some true)
  (nf_Quiet_many : PySem.W.findIn K (.ref CQuiet) "many" = some none)
  (mk_Quiet : PySem.W.makesIn K CQuiet = true)
  (mf_Quiet : PySem.W.isFn K (.ref f23) = true)
  (mp_Quiet : PySem.W.keepIn K (.ref CQuiet) = true)
  (mn_Quiet_shows : PySem.W.isFn K (.ref f24) = true)
  (pg_Onward : PySem.W.plainGet K COnward Str.empty = true)
  (hd_Onward : PySem.W.hasDictIn K COnward = true)
  (po_Onward : PySem.W.plainOver K COnward = true)
  (sa_Onward : PySem.W.findIn K (.ref COnward) "__setattr__" = some (some (.builtin "object.__setattr__")))
  (ha_Onward : PySem.W.findIn K (.ref COnward) "__class__" = some (some (.builtin "object.__class__")))
  (hm_Onward : PySem.W.mroIn K COnward (.type "object") = some true)
  (nf_Onward_fraction : PySem.W.findIn K (.ref COnward) "fraction" = some none)
  (mk_Onward : PySem.W.makesIn K COnward = true)
  (mf_Onward : PySem.W.isFn K (.ref f25) = true)
  (mp_Onward : PySem.W.keepIn K (.ref COnward) = true)
  (mn_Onward_shows : PySem.W.isFn K (.ref f26) = true)
  (pg_Led : PySem.W.plainGet K CLed Str.empty = true)
  (hd_Led : PySem.W.hasDictIn K CLed = true)
  (po_Led : PySem.W.plainOver K CLed = true)
  (sa_Led : PySem.W.findIn K (.ref CLed) "__setattr__" = some (some (.builtin "object.__setattr__")))
  (ha_Led : PySem.W.findIn K (.ref CLed) "__class__" = some (some (.builtin "object.__class__")))
  (hm_Led : PySem.W.mroIn K CLed (.type "object") = some true)
  (nf_Led_word : PySem.W.findIn K (.ref CLed) "word" = some none)
  (mk_Led : PySem.W.makesIn K CLed = true)
  (mf_Led : PySem.W.isFn K (.ref f27) = true)
  (mp_Led : PySem.W.keepIn K (.ref CLed) = true)
  (mn_Led_shows : PySem.W.isFn K (.ref f30) = true)
  (pg_Parts : PySem.W.plainGet K CParts Str.empty = true)
  (hd_Parts : PySem.W.hasDictIn K CParts = true)
  (po_Parts : PySem.W.plainOver K CParts = true)
  (sa_Parts : PySem.W.findIn K (.ref CParts) "__setattr__" = some (some (.builtin "object.__setattr__")))
  (ha_Parts : PySem.W.findIn K (.ref CParts) "__class__" = some (some (.builtin "object.__class__")))
  (hm_Parts : PySem.W.mroIn K CParts (.type "object") = some true)
  (nf_Parts_there : PySem.W.findIn K (.ref CParts) "there" = some none)
  (nf_Parts_back : PySem.W.findIn K (.ref CParts) "back" = some none)
  (mk_Parts : PySem.W.makesIn K CParts = true)
  (mf_Parts : PySem.W.isFn K (.ref f28) = true)
  (mp_Parts : PySem.W.keepIn K (.ref CParts) = true)
  (mn_Parts_shows : PySem.W.isFn K (.ref f31) = true)
  (pg_Elsewhere : PySem.W.plainGet K CElsewhere Str.empty = true)
  (hd_Elsewhere : PySem.W.hasDictIn K CElsewhere = true)
  (po_Elsewhere : PySem.W.plainOver K CElsewhere = true)
  (sa_Elsewhere : PySem.W.findIn K (.ref CElsewhere) "__setattr__" = some (some (.builtin "object.__setattr__")))
  (ha_Elsewhere : PySem.W.findIn K (.ref CElsewhere) "__class__" = some (some (.builtin "object.__class__")))
  (hm_Elsewhere : PySem.W.mroIn K CElsewhere (.type "object") = some true)
  (nf_Elsewhere_word : PySem.W.findIn K (.ref CElsewhere) "word" = some none)
  (mk_Elsewhere : PySem.W.makesIn K CElsewhere = true)
  (mf_Elsewhere : PySem.W.isFn K (.ref f32) = true)
  (mp_Elsewhere : PySem.W.keepIn K (.ref CElsewhere) = true)
  (mn_Elsewhere_shows : PySem.W.isFn K (.ref f33) = true)
  (pg_Rounds : PySem.W.plainGet K CRounds Str.empty = true)
  (hd_Rounds : PySem.W.hasDictIn K CRounds = true)
  (po_Rounds : PySem.W.plainOver K CRounds = true)
  (sa_Rounds : PySem.W.findIn K (.ref CRounds) "__setattr__" = some (some (.builtin "object.__setattr__")))
  (ha_Rounds : PySem.W.findIn K (.ref CRounds) "__class__" = some (some (.builtin "object.__class__")))
  (hm_Rounds : PySem.W.mroIn K CRounds (.type "object") = some true)
  (nf_Rounds_there : PySem.W.findIn K (.ref CRounds) "there" = some none)
  (nf_Rounds_first : PySem.W.findIn K (.ref CRounds) "first" = some none)
  (nf_Rounds_back : PySem.W.findIn K (.ref CRounds) "back" = some none)
  (nf_Rounds_second : PySem.W.findIn K (.ref CRounds) "second" = some none)
  (mk_Rounds : PySem.W.makesIn K CRounds = true)
  (mf_Rounds : PySem.W.isFn K (.ref f34) = true)
  (mp_Rounds : PySem.W.keepIn K (.ref CRounds) = true)
  (mn_Rounds_shows : PySem.W.isFn K (.ref f35) = true)
  (hnC : PySem.W.specialIn K (.builtin "object.__class__") "__get__" = some (some (.builtin "getset_descriptor.__get__")))
  (htkC : PySem.W.takesIn K (.builtin "object.__class__") = some true)
  (kt_Alike_Alike : PySem.W.kitOne K (.ref CAlike) (.ref CAlike) = some true)
  (kt_Unlike_Alike : PySem.W.kitOne K (.ref CUnlike) (.ref CAlike) = some false)
  (kt_Led_Led : PySem.W.kitOne K (.ref CLed) (.ref CLed) = some true)
  (kt_Parts_Led : PySem.W.kitOne K (.ref CParts) (.ref CLed) = some false)
  (kt_Elsewhere_Elsewhere : PySem.W.kitOne K (.ref CElsewhere) (.ref CElsewhere) = some true)
  (kt_Elsewhere_Rounds : PySem.W.kitOne K (.ref CElsewhere) (.ref CRounds) = some false)
  (kt_Rounds_Elsewhere : PySem.W.kitOne K (.ref CRounds) (.ref CElsewhere) = some false)
  (kt_Rounds_Rounds : PySem.W.kitOne K (.ref CRounds) (.ref CRounds) = some true) :
  ∃ fd : FuncData, (∀ (s : Shared) (v : Value), BindsTo s fd ⟨[v], []⟩ [("_law_script", v)]) ∧ ∀ base : Heap, K.In base → base.Ns mainGlobals mg → a1u l.prog w K mg base CX0 9 fa fd ["_law_script"] (spLaw K) := by
 have e := hfa.symm.trans (PySem.W.mg_of X G a73)
 cases e
 have GL : Glo mg := ⟨PySem.W.mg_none_of X G z_len, PySem.W.mg_none_of X G z_all, PySem.W.mg_none_of X G z_any, PySem.W.mg_none_of X G z_isinstance, PySem.W.mg_none_of X G z_abs, PySem.W.mg_none_of X G z_int, PySem.W.mg_none_of X G z_bool, PySem.W.mg_none_of X G z_str, PySem.W.mg_none_of X G z_tuple, PySem.W.mg_none_of X G z_list, PySem.W.mg_none_of X G z_reversed, PySem.W.mg_none_of X G z_range, PySem.W.mg_none_of X G z_max⟩
 have cLETTERS : Letters K mg := ⟨aLETTERS, PySem.W.mg_of X G gL, fun H => .inr ⟨_, _, _, lL, rfl, rfl, a1h, .cons ⟨t1, by rw [lit_t]⟩ (.cons ⟨t2, by rw [lit_u]⟩ (.cons ⟨t3, by rw [a7a]⟩ .nil))⟩⟩
 have cEXCHANGED : Exch K mg w.params := by
  refine ⟨aEX, es, nE, PySem.W.mg_of X G gE, lE, kE, fun c hc => ?_⟩
  rcases hc with rfl | rfl | rfl
  ·exact ⟨e1, by rw [← lit_t, x1, lit_u]; rfl⟩
  ·exact ⟨e2, by rw [← lit_u, x2, lit_t]; rfl⟩
  ·exact ⟨e3, by rw [← a7a, x3, a7a]; rfl⟩
 have cTELLING_FRACTIONS : Telling K mg := ⟨aTF, atf0, atf1, atf2, PySem.W.mg_of X G gT, fun H => .inr ⟨_, _, _, lT, rfl, rfl, a1h, .cons rfl (.cons rfl (.cons rfl .nil))⟩, fun H => .inr ⟨_, _, _, lt01, rfl, rfl, a0u, .cons ⟨u1, rfl⟩ (.cons ⟨u2, rfl⟩ .nil)⟩, fun H => .inr ⟨_, _, _, lt10, rfl, rfl, a0u, .cons ⟨u3, rfl⟩ (.cons ⟨u4, rfl⟩ .nil)⟩, fun H => .inr ⟨_, _, _, lt11, rfl, rfl, a0u, .cons ⟨u5, rfl⟩ (.cons ⟨u6, rfl⟩ .nil)⟩⟩
 have cDEEDS : Deeds K mg := ⟨aDE, PySem.W.mg_of X G gDE, fun H => .inr ⟨_, _, _, lDE, rfl, rfl, small (show 2 ≤ 1000 by decide), (.cons ⟨tDE0, rfl⟩ (.cons ⟨tDE1, rfl⟩ .nil))⟩⟩
 have cPIECES : Pieces K mg := ⟨aPC, PySem.W.mg_of X G gPC, fun H => .inr ⟨_, _, _, lPC, rfl, rfl, small (show 4 ≤ 1000 by decide), (.cons ⟨tPC0, rfl⟩ (.cons ⟨tPC1, rfl⟩ (.cons ⟨tPC2, rfl⟩ (.cons ⟨tPC3, rfl⟩ .nil))))⟩⟩
 have cLONE_ROUNDS : Lones K mg := ⟨aLR, PySem.W.mg_of X G gLR, fun H => .inr ⟨_, _, _, lLR, rfl, rfl, small (show 4 ≤ 1000 by decide), (.cons ⟨tLR0, by rw [lit_e]⟩ (.cons ⟨tLR1, by rw [a7a]⟩ (.cons ⟨tLR2, by rw [lit_tr]⟩ (.cons ⟨tLR3, by rw [lit_ru]⟩ .nil))))⟩⟩
 have cROUND_PIECES : RPieces K mg := ⟨aRP, PySem.W.mg_of X G gRP, fun H => .inr ⟨_, _, _, lRP, rfl, rfl, small (show 2 ≤ 1000 by decide), (.cons ⟨tRP0, by rw [lit_rtr]⟩ (.cons ⟨tRP1, by rw [lit_rru]⟩ .nil))⟩⟩
 have cPAIRS_OUT : PairsOut K mg := ⟨aPO, PySem.W.mg_of X G gPO, fun H => .inr ⟨_, _, _, lPO, rfl, rfl, small (show 3 ≤ 1000 by decide), (.cons ⟨tPO0, by rw [lit_tu]⟩ (.cons ⟨tPO1, by rw [lit_ut]⟩ (.cons ⟨tPO2, by rw [lit_rr]⟩ .nil)))⟩⟩
 have fT : Four K bT (ovT 0) := ⟨pT0, pT1, pT2, pT3, _, _, _, _, rfl, fun H => .inr ⟨_, _, _, lOT, rfl, rfl, a6h, .cons rfl (.cons rfl (.cons rfl (.cons rfl .nil)))⟩, fun H => .inr ⟨_, _, _, lOT0, rfl, rfl, a1h, .cons ⟨qT00, rfl⟩ (.cons ⟨qT01, rfl⟩ (.cons ⟨qT02, by rw [S_rr]⟩ .nil))⟩, fun H => .inr ⟨_, _, _, lOT1, rfl, rfl, a1h, .cons ⟨qT10, rfl⟩ (.cons ⟨qT11, rfl⟩ (.cons ⟨qT12, by rw [S_tu]⟩ .nil))⟩, fun H => .inr ⟨_, _, _, lOT2, rfl, rfl, a1h, .cons ⟨qT20, rfl⟩ (.cons ⟨qT21, rfl⟩ (.cons ⟨qT22, by rw [S_rr]⟩ .nil))⟩, fun H => .inr ⟨_, _, _, lOT3, rfl, rfl, a1h, .cons ⟨qT30, rfl⟩ (.cons ⟨qT31, rfl⟩ (.cons ⟨qT32, by rw [S_tr]⟩ .nil))⟩⟩
 have fU : Four K bU (ovU 0) := ⟨pU0, pU1, pU2, pU3, _, _, _, _, rfl, fun H => .inr ⟨_, _, _, lOU, rfl, rfl, a6h, .cons rfl (.cons rfl (.cons rfl (.cons rfl .nil)))⟩, fun H => .inr ⟨_, _, _, lOU0, rfl, rfl, a1h, .cons ⟨qU00, rfl⟩ (.cons ⟨qU01, rfl⟩ (.cons ⟨qU02, by rw [S_tr]⟩ .nil))⟩, fun H => .inr ⟨_, _, _, lOU1, rfl, rfl, a1h, .cons ⟨qU10, rfl⟩ (.cons ⟨qU11, rfl⟩ (.cons ⟨qU12, by rw [S_ut]⟩ .nil))⟩, fun H => .inr ⟨_, _, _, lOU2, rfl, rfl, a1h, .cons ⟨qU20, rfl⟩ (.cons ⟨qU21, rfl⟩ (.cons ⟨qU22, by rw [S_rr]⟩ .nil))⟩, fun H => .inr ⟨_, _, _, lOU3, rfl, rfl, a1h, .cons ⟨qU30, rfl⟩ (.cons ⟨qU31, rfl⟩ (.cons ⟨qU32, by rw [S_tu]⟩ .nil))⟩⟩
 have cOVER : Over K mg w.params := over_mk (PySem.W.mg_of X G gOV) lOV kOV sOV mOV oxT oxU fT fU
 have cBEATS : Beats K mg w.params := beats_mk (PySem.W.mg_of X G gBT) lBT kBT bx1 bx2 bx3 lBt lBu lBr
 have cTOGETHER : Together K mg w.params := tog_mk (PySem.W.mg_of X G gTG) lTG kTG sTG tg0 tg1 tg2 tg3 tg4 tg5 tg6 tg7 tg8 tg9
 have m_Alike := PySem.W.mg_of X G q_Alike
 have kc_Alike : KCls K CAlike := ⟨⟨pg_Alike, hd_Alike, po_Alike, sa_Alike⟩, ha_Alike, hnC, htkC, hm_Alike⟩
 have m_Unlike := PySem.W.mg_of X G q_Unlike
 have kc_Unlike : KCls K CUnlike := ⟨⟨pg_Unlike, hd_Unlike, po_Unlike, sa_Unlike⟩, ha_Unlike, hnC, htkC, hm_Unlike⟩
 have m_Quiet := PySem.W.mg_of X G q_Quiet
 have kc_Quiet : KCls K CQuiet := ⟨⟨pg_Quiet, hd_Quiet, po_Quiet, sa_Quiet⟩, ha_Quiet, hnC, htkC, hm_Quiet⟩
 have m_Onward := PySem.W.mg_of X G q_Onward
 have kc_Onward : KCls K COnward := ⟨⟨pg_Onward, hd_Onward, po_Onward, sa_Onward⟩, ha_Onward, hnC, htkC, hm_Onward⟩
 have m_Led := PySem.W.mg_of X G q_Led
 have kc_Led : KCls K CLed := ⟨⟨pg_Led, hd_Led, po_Led, sa_Led⟩, ha_Led, hnC, htkC, hm_Led⟩
 have m_Parts := PySem.W.mg_of X G q_Parts
 have kc_Parts : KCls K CParts := ⟨⟨pg_Parts, hd_Parts, po_Parts, sa_Parts⟩, ha_Parts, hnC, htkC, hm_Parts⟩
 have m_Elsewhere := PySem.W.mg_of X G q_Elsewhere
 have kc_Elsewhere : KCls K CElsewhere := ⟨⟨pg_Elsewhere, hd_Elsewhere, po_Elsewhere, sa_Elsewhere⟩, ha_Elsewhere, hnC, htkC, hm_Elsewhere⟩
 have m_Rounds := PySem.W.mg_of X G q_Rounds
 have kc_Rounds : KCls K CRounds := ⟨⟨pg_Rounds, hd_Rounds, po_Rounds, sa_Rounds⟩, ha_Rounds, hnC, htkC, hm_Rounds⟩
 have F0 := a0l (st := a5s) l0 c0 k0
 have F1 := a0l (st := a6d) l1 c1 k1
 have F2 := a0l (st := a1x) l2 c2 k2
 have F3 := a0l (st := a3l) l3 c3 k3
 have F4 := a0l (st := a2j) l4 c4 k4
 have F5 := a0l (st := a76) l5 c5 k5
 have F6 := a0l (st := a4e) l6 c6 k6
 have F7 := a0l (st := a84) l7 c7 k7
 have F8 := a0l (st := a9o) l8 c8 k8
 have F9 := a0l (st := a87) l9 c9 k9
 have F10 := a0l (st := a3g) l10 c10 k10
 have F11 := a0l (st := a5t) l11 c11 k11
 have F12 := a0l (st := abw) l12 c12 k12
 have F13 := a0l (st := a5u) l13 c13 k13
 have F14 := a0l (st := a4f) l14 c14 k14
 have F15 := a0l (st := a5v) l15 c15 k15
 have F16 := a0l (st := a4w) l16 c16 k16
 have F17 := a0l (st := a2k) l17 c17 k17
 have F18 := a0l (st := a1o) l18 c18 k18
 have F19 := a0l (st := a4i) l19 c19 k19
 have F20 := a0l (st := a3s) l20 c20 k20
 have F21 := a0l (st := a3n) l21 c21 k21
 have F22 := a0l (st := a2v) l22 c22 k22
 have F23 := a0l (st := a4g) l23 c23 k23
 have F24 := a0l (st := a3p) l24 c24 k24
 have F25 := a0l (st := a3r) l25 c25 k25
 have F26 := a0l (st := a2x) l26 c26 k26
 have F27 := a0l (st := a5y) l27 c27 k27
 have F28 := a0l (st := a4h) l28 c28 k28
 have F29 := a0l (st := a4a) l29 c29 k29
 have F30 := a0l (st := a4y) l30 c30 k30
 have F31 := a0l (st := a3q) l31 c31 k31
 have F32 := a0l (st := a1y) l32 c32 k32
 have F33 := a0l (st := a1t) l33 c33 k33
 have F34 := a0l (st := a3o) l34 c34 k34
 have F35 := a0l (st := a2w) l35 c35 k35
 have F36 := a0l (st := a4c) l36 c36 k36
 have F37 := a0l (st := a6c) l37 c37 k37
 have F38 := a0l (st := a3y) l38 c38 k38
 have F39 := a0l (st := a86) l39 c39 k39
 have F40 := a0l (st := a3j) l40 c40 k40
 have F41 := a0l (st := a3m) l41 c41 k41
 have F42 := a0l (st := a2t) l42 c42 k42
 have F43 := a0l (st := a77) l43 c43 k43
 have F44 := a0l (st := s_led) l44 c44 k44
 have F45 := a0l (st := a5x) l45 c45 k45
 have F46 := a0l (st := a5w) l46 c46 k46
 have F47 := a0l (st := a1w) l47 c47 k47
 have F48 := a0l (st := a4r) l48 c48 k48
 have F49 := a0l (st := a3x) l49 c49 k49
 have F50 := a0l (st := a85) l50 c50 k50
 have F51 := a0l (st := a4b) l51 c51 k51
 have F52 := a0l (st := a7d) l52 c52 k52
 have F53 := a0l (st := a9p) l53 c53 k53
 have F54 := a0l (st := a4x) l54 c54 k54
 have F55 := a0l (st := a3k) l55 c55 k55
 have F56 := a0l (st := a74) l56 c56 k56
 have F57 := a0l (st := a4u) l57 c57 k57
 have F58 := a0l (st := a4d) l58 c58 k58
 have F59 := a0l (st := a4s) l59 c59 k59
 have F60 := a0l (st := a2i) l60 c60 k60
 have F61 := a0l (st := a5q) l61 c61 k61
 have F62 := a0l (st := a4t) l62 c62 k62
 have F63 := a0l (st := a4v) l63 c63 k63
 have F64 := a0l (st := a2m) l64 c64 k64
 have F65 := a0l (st := a2u) l65 c65 k65
 have F66 := a0l (st := a1e) l66 c66 k66
 have F67 := a0l (st := a5p) l67 c67 k67
 have F68 := a0l (st := a5r) l68 c68 k68
 have F69 := a0l (st := a75) l69 c69 k69
 have F70 := a0l (st := a1f) l70 c70 k70
 have F71 := a0l (st := a1s) l71 c71 k71
 have F72 := a0l (st := a0w) l72 c72 k72
 have F73 := a0l (st := s_law) l73 c73 k73
 refine ⟨PySem.W.fnOf "law" "law" (a0b s_law) (a0a s_law) (a03 s_law) .none kV73 dc73 pm73 an73 cd73 ct73, fun s v => .of_eq rfl, fun base _ _ => ?_⟩
 have C0 := a09 F0 (ok_is_whole (P := l.prog) (w := w) (base := base) (mg := mg) (k := 0) GL F0) (PySem.W.mg_of X G a0) fun _ _ _ _ _ _ us hl => by obtain ⟨_, rfl⟩ := ab3 hl; rfl
 have C1 := a09 F1 (ok_is_word (P := l.prog) (w := w) (base := base) (mg := mg) (k := 0) GL cLETTERS F1) (PySem.W.mg_of X G a1) fun _ _ _ _ _ _ us hl => by obtain ⟨_, rfl⟩ := ab3 hl; rfl
 have C2 := a09 F2 (a9y (P := l.prog) (w := w) (base := base) (mg := mg) (k := 0) F2) (PySem.W.mg_of X G a2) fun _ _ _ _ _ _ us hl => by obtain ⟨_, _, rfl⟩ := a7b hl; rfl
 have C3 := a09 F3 (ok_is_fraction (P := l.prog) (w := w) (base := base) (mg := mg) (k := 1) GL F3 (C0.mono (by decide)) (C2.mono (by decide))) (PySem.W.mg_of X G a3) fun _ _ _ _ _ _ us hl => by obtain ⟨_, rfl⟩ := ab3 hl; rfl
 have C4 := a09 F4 (aas (P := l.prog) (w := w) (base := base) (mg := mg) (k := 0) GL F4) (PySem.W.mg_of X G a4) fun _ _ _ _ _ _ us hl => by obtain ⟨_, _, rfl⟩ := a7b hl; rfl
 have C5 := a09 F5 (ok_is_step (P := l.prog) (w := w) (base := base) (mg := mg) (k := 1) GL cDEEDS cPIECES F5 (C0.mono (by decide)) (C4.mono (by decide))) (PySem.W.mg_of X G a5) fun _ _ _ _ _ _ us hl => by obtain ⟨_, rfl⟩ := ab3 hl; rfl
 have C6 := a09 F6 (ok_check_word (P := l.prog) (w := w) (base := base) (mg := mg) (k := 1) F6 (C1.mono (by decide))) (PySem.W.mg_of X G a6) fun _ _ _ _ _ _ us hl => by obtain ⟨_, rfl⟩ := ab3 hl; rfl
 have C7 := a09 F7 (ok_turned (P := l.prog) (w := w) (base := base) (mg := mg) (k := 0) F7) (PySem.W.mg_of X G a7) fun _ _ _ _ _ _ us hl => by obtain ⟨_, _, rfl⟩ := a7b hl; rfl
 have C8 := a09 F8 (ok_moved (P := l.prog) (w := w) (base := base) (mg := mg) (k := 1) F8 (C7.mono (by decide))) (PySem.W.mg_of X G a8) fun _ _ _ _ _ _ us hl => by obtain ⟨_, _, _, rfl⟩ := len3 hl; rfl
 have C9 := a09 F9 (ok_follow (P := l.prog) (w := w) (base := base) (mg := mg) (k := 2) F9 (C8.mono (by decide))) (PySem.W.mg_of X G a9) fun _ _ _ _ _ _ us hl => by obtain ⟨_, _, rfl⟩ := a7b hl; rfl
 have C10 := a09 F10 (ok_lead_alike (P := l.prog) (w := w) (base := base) (mg := mg) (k := 3) GL cTELLING_FRACTIONS F10 (C9.mono (by decide))) (PySem.W.mg_of X G a10) fun _ _ _ _ _ _ us hl => by obtain ⟨_, _, rfl⟩ := a7b hl; rfl
 have C11 := a09 F11 (ok_is_quiet (P := l.prog) (w := w) (base := base) (mg := mg) (k := 4) F11 (C10.mono (by decide))) (PySem.W.mg_of X G a11) fun _ _ _ _ _ _ us hl => by obtain ⟨_, rfl⟩ := ab3 hl; rfl
 have C12 := a09 F12 (ok_back (P := l.prog) (w := w) (base := base) (mg := mg) (k := 2) GL cEXCHANGED F12 (C6.mono (by decide))) (PySem.W.mg_of X G a12) fun _ _ _ _ _ _ us hl => by obtain ⟨_, rfl⟩ := ab3 hl; rfl
 have C13 := a09 F13 (ok_can_step (P := l.prog) (w := w) (base := base) (mg := mg) (k := 2) GL F13 (C5.mono (by decide))) (PySem.W.mg_of X G a13) fun _ _ _ _ _ _ us hl => by obtain ⟨_, _, rfl⟩ := a7b hl; rfl
 have C14 := a09 F14 (ok_after_step (P := l.prog) (w := w) (base := base) (mg := mg) (k := 0) GL F14) (PySem.W.mg_of X G a14) fun _ _ _ _ _ _ us hl => by obtain ⟨_, _, rfl⟩ := a7b hl; rfl
 have C15 := a09 F15 (ok_begun_by (P := l.prog) (w := w) (base := base) (mg := mg) (k := 3) F15 (C12.mono (by decide))) (PySem.W.mg_of X G a15) fun _ _ _ _ _ _ us hl => by obtain ⟨_, _, rfl⟩ := a7b hl; rfl
 have C16 := a09 F16 (ok_is_round (P := l.prog) (w := w) (base := base) (mg := mg) (k := 0) GL cLONE_ROUNDS cROUND_PIECES F16) (PySem.W.mg_of X G a16) fun _ _ _ _ _ _ us hl => by obtain ⟨_, rfl⟩ := ab3 hl; rfl
 have C17 := a09 F17 (aat (P := l.prog) (w := w) (base := base) (mg := mg) (k := 0) GL F17) (PySem.W.mg_of X G a17) fun _ _ _ _ _ _ us hl => by obtain ⟨_, _, rfl⟩ := a7b hl; rfl
 have C18 := a09 F18 (a8p (P := l.prog) (w := w) (base := base) (mg := mg) (k := 3) cTELLING_FRACTIONS F18 (C9.mono (by decide))) (PySem.W.mg_of X G a18) fun _ _ _ _ _ _ us hl => by obtain ⟨_, _, rfl⟩ := a7b hl; rfl
 have C19 := a6m ⟨mk_Alike, mi_Alike, mf_Alike, mp_Alike⟩ F19 (ok_Alike_init (P := l.prog) (w := w) (base := base) (mg := mg) (k := 0) GL kc_Alike nf_Alike_steps F19) m_Alike fun _ _ _ _ _ _ us hl => by obtain ⟨_, _, rfl⟩ := a7b hl; rfl
 have C20 := method_of ⟨ma_Alike_shows, mn_Alike_shows, k20⟩ F20 (ok_Alike_shows (P := l.prog) (w := w) (base := base) (mg := mg) (k := 3) kc_Alike nf_Alike_steps F20 (C13.mono (by decide)) (C14.mono (by decide))) fun _ _ _ _ _ _ us hl => by obtain ⟨_, _, _, rfl⟩ := len3 hl; rfl
 have C21 := a6m ⟨mk_Unlike, mi_Unlike, mf_Unlike, mp_Unlike⟩ F21 (ok_Unlike_init (P := l.prog) (w := w) (base := base) (mg := mg) (k := 0) kc_Unlike nf_Unlike_fraction F21) m_Unlike fun _ _ _ _ _ _ us hl => by obtain ⟨_, _, rfl⟩ := a7b hl; rfl
 have C22 := method_of ⟨ma_Unlike_shows, mn_Unlike_shows, k22⟩ F22 (ac6 (P := l.prog) (w := w) (base := base) (mg := mg) (k := 3) kc_Unlike nf_Unlike_fraction F22 (C9.mono (by decide))) fun _ _ _ _ _ _ us hl => by obtain ⟨_, _, _, rfl⟩ := len3 hl; rfl
 have C23 := a6m ⟨mk_Quiet, mi_Quiet, mf_Quiet, mp_Quiet⟩ F23 (ok_Quiet_init (P := l.prog) (w := w) (base := base) (mg := mg) (k := 0) kc_Quiet nf_Quiet_many F23) m_Quiet fun _ _ _ _ _ _ us hl => by obtain ⟨_, _, rfl⟩ := a7b hl; rfl
 have C24 := method_of ⟨ma_Quiet_shows, mn_Quiet_shows, k24⟩ F24 (ok_Quiet_shows (P := l.prog) (w := w) (base := base) (mg := mg) (k := 5) GL kc_Quiet nf_Quiet_many F24 (C0.mono (by decide)) (C11.mono (by decide))) fun _ _ _ _ _ _ us hl => by obtain ⟨_, _, rfl⟩ := a7b hl; rfl
 have C25 := a6m ⟨mk_Onward, mi_Onward, mf_Onward, mp_Onward⟩ F25 (ok_Onward_init (P := l.prog) (w := w) (base := base) (mg := mg) (k := 0) kc_Onward nf_Onward_fraction F25) m_Onward fun _ _ _ _ _ _ us hl => by obtain ⟨_, _, rfl⟩ := a7b hl; rfl
 have C26 := method_of ⟨ma_Onward_shows, mn_Onward_shows, k26⟩ F26 (ac8 (P := l.prog) (w := w) (base := base) (mg := mg) (k := 3) kc_Onward nf_Onward_fraction F26 (C9.mono (by decide))) fun _ _ _ _ _ _ us hl => by obtain ⟨_, _, rfl⟩ := a7b hl; rfl
 have C27 := a6m ⟨mk_Led, mi_Led, mf_Led, mp_Led⟩ F27 (ok_Led_init (P := l.prog) (w := w) (base := base) (mg := mg) (k := 0) kc_Led nf_Led_word F27) m_Led fun _ _ _ _ _ _ us hl => by obtain ⟨_, _, rfl⟩ := a7b hl; rfl
 have C28 := a6m ⟨mk_Parts, mi_Parts, mf_Parts, mp_Parts⟩ F28 (ok_Parts_init (P := l.prog) (w := w) (base := base) (mg := mg) (k := 0) kc_Parts nf_Parts_there nf_Parts_back F28) m_Parts fun _ _ _ _ _ _ us hl => by obtain ⟨_, _, _, rfl⟩ := len3 hl; rfl
 have C29 := a09 F29 (ok_parts_pair (P := l.prog) (w := w) (base := base) (mg := mg) (k := 3) F29 (C9.mono (by decide))) (PySem.W.mg_of X G a29) fun _ _ _ _ _ _ us hl => by obtain ⟨_, _, rfl⟩ := a7b hl; rfl
 have C30 := method_of ⟨ma_Led_shows, mn_Led_shows, k30⟩ F30 (ok_Led_shows (P := l.prog) (w := w) (base := base) (mg := mg) (k := 3) kc_Led nf_Led_word F30 (C9.mono (by decide))) fun _ _ _ _ _ _ us hl => by obtain ⟨_, _, _, rfl⟩ := len3 hl; rfl
 have C31 := method_of ⟨ma_Parts_shows, mn_Parts_shows, k31⟩ F31 (ok_Parts_shows (P := l.prog) (w := w) (base := base) (mg := mg) (k := 4) kc_Parts nf_Parts_there nf_Parts_back F31 (C29.mono (by decide)) (C9.mono (by decide))) fun _ _ _ _ _ _ us hl => by obtain ⟨_, _, _, rfl⟩ := len3 hl; rfl
 have C32 := a6m ⟨mk_Elsewhere, mi_Elsewhere, mf_Elsewhere, mp_Elsewhere⟩ F32 (a9z (P := l.prog) (w := w) (base := base) (mg := mg) (k := 0) kc_Elsewhere nf_Elsewhere_word F32) m_Elsewhere fun _ _ _ _ _ _ us hl => by obtain ⟨_, _, rfl⟩ := a7b hl; rfl
 have C33 := method_of ⟨ma_Elsewhere_shows, mn_Elsewhere_shows, k33⟩ F33 (a9d (P := l.prog) (w := w) (base := base) (mg := mg) (k := 4) kc_Elsewhere nf_Elsewhere_word F33 (C10.mono (by decide)) (C15.mono (by decide))) fun _ _ _ _ _ _ us hl => by obtain ⟨_, _, _, rfl⟩ := len3 hl; rfl
 have C34 := a6m ⟨mk_Rounds, mi_Rounds, mf_Rounds, mp_Rounds⟩ F34 (ok_Rounds_init (P := l.prog) (w := w) (base := base) (mg := mg) (k := 0) kc_Rounds nf_Rounds_there nf_Rounds_first nf_Rounds_back nf_Rounds_second F34) m_Rounds fun _ _ _ _ _ _ us hl => by obtain ⟨_, _, _, _, _, rfl⟩ := len5 hl; rfl
 have C35 := method_of ⟨ma_Rounds_shows, mn_Rounds_shows, k35⟩ F35 (ac7 (P := l.prog) (w := w) (base := base) (mg := mg) (k := 4) kc_Rounds nf_Rounds_there nf_Rounds_first nf_Rounds_back nf_Rounds_second F35 (C16.mono (by decide)) (C17.mono (by decide)) (C10.mono (by decide)) (C15.mono (by decide))) fun _ _ _ _ _ _ us hl => by obtain ⟨_, _, _, rfl⟩ := len3 hl; rfl
 have C36 := a09 F36 (ok_letters_of (P := l.prog) (w := w) (base := base) (mg := mg) (k := 0) F36) (PySem.W.mg_of X G a36) fun _ _ _ _ _ _ us hl => by obtain ⟨_, rfl⟩ := ab3 hl; rfl
 have C37 := a09 F37 (ok_spelled (P := l.prog) (w := w) (base := base) (mg := mg) (k := 1) F37 (C36.mono (by decide))) (PySem.W.mg_of X G a37) fun _ _ _ _ _ _ us hl => by obtain ⟨_, rfl⟩ := ab3 hl; rfl
 have C38 := a09 F38 (ok_backwards (P := l.prog) (w := w) (base := base) (mg := mg) (k := 0) GL F38) (PySem.W.mg_of X G a38) fun _ _ _ _ _ _ us hl => by obtain ⟨_, rfl⟩ := ab3 hl; rfl
 have C39 := a09 F39 (ok_joined (P := l.prog) (w := w) (base := base) (mg := mg) (k := 0) GL F39) (PySem.W.mg_of X G a39) fun _ _ _ _ _ _ us hl => by obtain ⟨_, _, rfl⟩ := a7b hl; rfl
 have C40 := a09 F40 (ok_runs_to_end (P := l.prog) (w := w) (base := base) (mg := mg) (k := 1) GL F40 (C7.mono (by decide))) (PySem.W.mg_of X G a40) fun _ _ _ _ _ _ us hl => by obtain ⟨_, rfl⟩ := ab3 hl; rfl
 have C41 := a09 F41 (ok_follow_runs (P := l.prog) (w := w) (base := base) (mg := mg) (k := 1) F41 (C7.mono (by decide))) (PySem.W.mg_of X G a41) fun _ _ _ _ _ _ us hl => by obtain ⟨_, _, rfl⟩ := a7b hl; rfl
 have C42 := a09 F42 (ac4 (P := l.prog) (w := w) (base := base) (mg := mg) (k := 2) F42 (C40.mono (by decide)) (C41.mono (by decide)) (C39.mono (by decide))) (PySem.W.mg_of X G a42) fun _ _ _ _ _ _ us hl => by obtain ⟨_, rfl⟩ := ab3 hl; rfl
 have C43 := a09 F43 (ok_is_pair (P := l.prog) (w := w) (base := base) (mg := mg) (k := 2) GL F43 (C3.mono (by decide))) (PySem.W.mg_of X G a43) fun _ _ _ _ _ _ us hl => by obtain ⟨_, rfl⟩ := ab3 hl; rfl
 have C44 := a09 F44 (ok_led (P := l.prog) (w := w) (base := base) (mg := mg) (k := 2) F44 (C43.mono (by decide)) (C42.mono (by decide)) (C41.mono (by decide)) (C38.mono (by decide)) (C39.mono (by decide)) (C37.mono (by decide)) (C27.mono (by decide)) (C28.mono (by decide))) (PySem.W.mg_of X G a44) fun _ _ _ _ _ _ us hl => by obtain ⟨_, _, rfl⟩ := a7b hl; rfl
 have C45 := a09 F45 (ok_add_beat (P := l.prog) (w := w) (base := base) (mg := mg) (k := 0) cTOGETHER F45) (PySem.W.mg_of X G a45) fun _ _ _ _ _ _ us hl => by obtain ⟨_, _, rfl⟩ := a7b hl; rfl
 have C46 := a09 F46 (ok_beats_of (P := l.prog) (w := w) (base := base) (mg := mg) (k := 1) cBEATS F46 (C45.mono (by decide))) (PySem.W.mg_of X G a46) fun _ _ _ _ _ _ us hl => by obtain ⟨_, rfl⟩ := ab3 hl; rfl
 have C47 := a09 F47 (a9x (P := l.prog) (w := w) (base := base) (mg := mg) (k := 2) GL F47 (C46.mono (by decide)) (C45.mono (by decide))) (PySem.W.mg_of X G a47) fun _ _ _ _ _ _ us hl => by obtain ⟨_, rfl⟩ := ab3 hl; rfl
 have C48 := a09 F48 (ok_take_pair (P := l.prog) (w := w) (base := base) (mg := mg) (k := 0) GL F48) (PySem.W.mg_of X G a48) fun _ _ _ _ _ _ us hl => by obtain ⟨_, _, rfl⟩ := a7b hl; rfl
 have C49 := a09 F49 (ok_turn_over_n (P := l.prog) (w := w) (base := base) (mg := mg) (k := 0) F49) (PySem.W.mg_of X G a49) fun _ _ _ _ _ _ us hl => by obtain ⟨_, _, rfl⟩ := a7b hl; rfl
 have C50 := a09 F50 (ok_settle (R := Rr) (N := 600000) (by decide) (P := l.prog) (w := w) (base := base) (mg := mg) (k := 1) cPAIRS_OUT cOVER F50 (C48.mono (by decide)) (C49.mono (by decide))) (PySem.W.mg_of X G a50) fun _ _ _ _ _ _ us hl => by obtain ⟨_, _, rfl⟩ := a7b hl; rfl
 have C51 := a09 F49 (ok_turn_over (P := l.prog) (w := w) (base := base) (mg := mg) (k := 3) GL cOVER F49 (C50.mono (by decide)) (C12.mono (by decide))) (PySem.W.mg_of X G a49) fun _ _ _ _ _ _ us hl => by obtain ⟨_, _, rfl⟩ := a7b hl; rfl
 have C52 := a09 F50 (ok_settle (R := Rall) (N := 500000) (by decide) (P := l.prog) (w := w) (base := base) (mg := mg) (k := 4) cPAIRS_OUT cOVER F50 (C48.mono (by decide)) (C51.mono (by decide))) (PySem.W.mg_of X G a50) fun _ _ _ _ _ _ us hl => by obtain ⟨_, _, rfl⟩ := a7b hl; rfl
 have C53 := a09 F51 (ok_made_plain (P := l.prog) (w := w) (base := base) (mg := mg) (k := 5) F51 (C52.mono (by decide))) (PySem.W.mg_of X G a51) fun _ _ _ _ _ _ us hl => by obtain ⟨_, rfl⟩ := ab3 hl; rfl
 have C54 := a09 F52 (ok_undone (P := l.prog) (w := w) (base := base) (mg := mg) (k := 0) GL F52) (PySem.W.mg_of X G a52) fun _ _ _ _ _ _ us hl => by obtain ⟨_, rfl⟩ := ab3 hl; rfl
 have C55 := a09 F53 (ok_alike (P := l.prog) (w := w) (base := base) (mg := mg) (k := 5) F53 (C6.mono (by decide)) (C18.mono (by decide)) (C53.mono (by decide)) (C54.mono (by decide)) (C21.mono (by decide)) (C19.mono (by decide))) (PySem.W.mg_of X G a53) fun _ _ _ _ _ _ us hl => by obtain ⟨_, _, rfl⟩ := a7b hl; rfl
 have C56 := a09 F54 (ok_elsewhere (P := l.prog) (w := w) (base := base) (mg := mg) (k := 5) F54 (C6.mono (by decide)) (C47.mono (by decide)) (C17.mono (by decide)) (C53.mono (by decide)) (C12.mono (by decide)) (C32.mono (by decide)) (C34.mono (by decide))) (PySem.W.mg_of X G a54) fun _ _ _ _ _ _ us hl => by obtain ⟨_, _, rfl⟩ := a7b hl; rfl
 have C57 := a09 F55 (ok_law_letters (P := l.prog) (w := w) (base := base) (mg := mg) (k := 0) F55) (PySem.W.mg_of X G a55) fun _ _ _ _ _ _ us hl => by obtain ⟨_, _, rfl⟩ := a7b hl; rfl
 have C58 := a09 F56 (ok_law_two (P := l.prog) (w := w) (base := base) (mg := mg) (k := 0) GL F56) (PySem.W.mg_of X G a56) fun _ _ _ _ _ _ us hl => by obtain ⟨_, rfl⟩ := ab3 hl; rfl
 have C59 := a09 F57 (ok_law_moved (P := l.prog) (w := w) (base := base) (mg := mg) (k := 0) F57) (PySem.W.mg_of X G a57) fun _ _ _ _ _ _ us hl => by obtain ⟨_, _, rfl⟩ := a7b hl; rfl
 have C60 := a09 F58 (ok_law_walked (P := l.prog) (w := w) (base := base) (mg := mg) (k := 1) F58 (C59.mono (by decide))) (PySem.W.mg_of X G a58) fun _ _ _ _ _ _ us hl => by obtain ⟨_, _, rfl⟩ := a7b hl; rfl
 have C61 := a09 F59 (ok_law_same (P := l.prog) (w := w) (base := base) (mg := mg) (k := 2) GL F59 (C60.mono (by decide))) (PySem.W.mg_of X G a59) fun _ _ _ _ _ _ us hl => by obtain ⟨_, _, rfl⟩ := a7b hl; rfl
 have C62 := a09 F60 (aar (P := l.prog) (w := w) (base := base) (mg := mg) (k := 0) F60) (PySem.W.mg_of X G a60) fun _ _ _ _ _ _ us hl => by obtain ⟨_, rfl⟩ := ab3 hl; rfl
 have C63 := a09 F61 (ok_law_done (P := l.prog) (w := w) (base := base) (mg := mg) (k := 0) GL F61) (PySem.W.mg_of X G a61) fun _ _ _ _ _ _ us hl => by obtain ⟨_, _, rfl⟩ := a7b hl; rfl
 have C64 := a09 F62 (ok_law_pairs (P := l.prog) (w := w) (base := base) (mg := mg) (k := 2) F62 (C57.mono (by decide)) (C60.mono (by decide)) (C59.mono (by decide))) (PySem.W.mg_of X G a62) fun _ _ _ _ _ _ us hl => by obtain ⟨_, rfl⟩ := ab3 hl; rfl
 have C65 := a09 F63 (ok_law_begun (P := l.prog) (w := w) (base := base) (mg := mg) (k := 1) F63 (C62.mono (by decide))) (PySem.W.mg_of X G a63) fun _ _ _ _ _ _ us hl => by obtain ⟨_, _, rfl⟩ := a7b hl; rfl
 have C66 := a09 F64 (ok_law_pieces (P := l.prog) (w := w) (base := base) (mg := mg) (k := 0) GL F64) (PySem.W.mg_of X G a64) fun _ _ _ _ _ _ us hl => by obtain ⟨_, rfl⟩ := ab3 hl; rfl
 have C67 := a09 F65 (ac5 (P := l.prog) (w := w) (base := base) (mg := mg) (k := 1) F65 (C66.mono (by decide))) (PySem.W.mg_of X G a65) fun _ _ _ _ _ _ us hl => by obtain ⟨_, rfl⟩ := ab3 hl; rfl
 have C68 := a09 F66 (a7v (P := l.prog) (w := w) (base := base) (mg := mg) (k := 1) GL F66 (C66.mono (by decide))) (PySem.W.mg_of X G a66) fun _ _ _ _ _ _ us hl => by obtain ⟨_, _, rfl⟩ := a7b hl; rfl
 have C69 := a09 F67 (ok_law_says (P := l.prog) (w := w) (base := base) (mg := mg) (k := 0) GL F67) (PySem.W.mg_of X G a67) fun _ _ _ _ _ _ us hl => by obtain ⟨_, _, rfl⟩ := a7b hl; rfl
 have C70 := a09 F68 (ok_law_bent (P := l.prog) (w := w) (base := base) (mg := mg) (k := 0) GL F68) (PySem.W.mg_of X G a68) fun _ _ _ _ _ _ us hl => by obtain ⟨_, _, rfl⟩ := a7b hl; rfl
 have C71 := a09 F69 (ok_law_led (P := l.prog) (w := w) (base := base) (mg := mg) (k := 1) F69 (C63.mono (by decide))) (PySem.W.mg_of X G a69) fun _ _ _ _ _ _ us hl => by obtain ⟨_, _, _, rfl⟩ := len3 hl; rfl
 have C72 := a09 F70 (a8a (P := l.prog) (w := w) (base := base) (mg := mg) (k := 6) GL m_Alike kc_Alike kc_Unlike kc_Quiet kc_Onward nf_Alike_steps kt_Alike_Alike kt_Unlike_Alike F70 (C55.mono (by decide)) (C70.mono (by decide)) (C69.mono (by decide)) (C71.mono (by decide)) (C60.mono (by decide)) (C65.mono (by decide)) (C61.mono (by decide)) (C20.mono (by decide)) (C22.mono (by decide)) (C26.mono (by decide)) (C24.mono (by decide)) (C19.mono (by decide)) (C21.mono (by decide)) (C25.mono (by decide)) (C23.mono (by decide))) (PySem.W.mg_of X G a70) fun _ _ _ _ _ _ us hl => by obtain ⟨_, _, _, rfl⟩ := len3 hl; rfl
 have C73 := a09 F71 (a9c (P := l.prog) (w := w) (base := base) (mg := mg) (k := 4) GL m_Led kc_Led kc_Parts nf_Led_word nf_Parts_there nf_Parts_back kt_Led_Led kt_Parts_Led F71 (C64.mono (by decide)) (C44.mono (by decide)) (C60.mono (by decide)) (C69.mono (by decide)) (C30.mono (by decide)) (C31.mono (by decide)) (C27.mono (by decide)) (C28.mono (by decide))) (PySem.W.mg_of X G a71) fun _ _ _ _ _ _ us hl => by obtain ⟨_, _, _, rfl⟩ := len3 hl; rfl
 have C74 := a09 F72 (a7u (P := l.prog) (w := w) (base := base) (mg := mg) (k := 6) GL m_Elsewhere m_Rounds kc_Elsewhere kc_Rounds nf_Elsewhere_word nf_Rounds_there nf_Rounds_first nf_Rounds_back nf_Rounds_second kt_Elsewhere_Elsewhere kt_Elsewhere_Rounds kt_Rounds_Elsewhere kt_Rounds_Rounds F72 (C56.mono (by decide)) (C69.mono (by decide)) (C61.mono (by decide)) (C65.mono (by decide)) (C67.mono (by decide)) (C68.mono (by decide)) (C33.mono (by decide)) (C35.mono (by decide)) (C32.mono (by decide)) (C34.mono (by decide))) (PySem.W.mg_of X G a72) fun _ _ _ _ _ _ us hl => by obtain ⟨_, _, rfl⟩ := a7b hl; rfl
 exact ok_law (k := 8) F73 (C58.mono (by decide)) (C72.mono (by decide)) (C73.mono (by decide)) (C57.mono (by decide)) (C74.mono (by decide))
theorem walk {l : PySem.W.OpenLaw} {q : Program} {loose : List Str} {XP : (Str → Option Value) → Heap → Prop} {YP : World → Heap → Prop} {d : DefRec} {K : Params → PySem.W.Frag} (hn : l.most = some 63) (hdf : d.params.defaults = [])
  (hY : ∀ (w : World) (h : Heap), YP w h → (K w.params).In h)
  (F : ∀ (w : World) (mg : Str → Option Value) (fa : Addr) (h : Heap), (K w.params).In h → h.Ns mainGlobals mg → mg d.name = some (.ref fa) →
   ∃ fd : FuncData, (∀ (s : Shared) (u : Value), BindsTo s fd ⟨[u], []⟩ [("_law_script", u)]) ∧ ∀ base : Heap, (K w.params).In base → base.Ns mainGlobals mg → a1u l.prog w (K w.params) mg base CX0 9 fa fd ["_law_script"] (spLaw (K w.params))) :
  PySem.W.WalkO q loose XP YP l.row.toRowW d [] (fun f vs => PySem.call f vs) :=
 L2.walk_of (n := 63) (k := 9) (x := "_law_script") (CX := fun _ => CX0) (sp := fun w => spLaw (K w.params)) hn (by decide) hdf ⟨rfl, by decide, by decide⟩ hY F (fun _ _ a ns hl _ hS => ⟨a, ns, rfl, hS, hl, fun _ => rfl⟩) fun _ _ _ _ _ z => z
open PySem.W PySem.W.X in
theorem walkX {l : PySem.W.OpenLaw} {q : Program} {loose : List Str} {XP : (Str → Option Value) → Heap → Prop} {d : DefRec} {K : Params → PySem.W.Frag} {as : List Addr} {n t : Nat} (hn : l.most = some 63) (hdf : d.params.defaults = []) (hk : ∀ P, as = (K P).map (·.1))
  (F : ∀ (w : World) (mg : Str → Option Value) (fa : Addr) (h : Heap), (K w.params).In h → h.Ns mainGlobals mg → mg d.name = some (.ref fa) →
   ∃ fd : FuncData, (∀ (s : Shared) (u : Value), BindsTo s fd ⟨[u], []⟩ [("_law_script", u)]) ∧ ∀ base : Heap, (K w.params).In base → base.Ns mainGlobals mg → a1u l.prog w (K w.params) mg base CX0 9 fa fd ["_law_script"] (spLaw (K w.params))) :
  WalkX q loose XP (obsZ as) (valZ K n t) l.row.toRowW d [] (fun f vs => PySem.call f vs) :=
 fun w s₀ s₁ mg mb G y a o pm cd doc dV kV h2 h3 h4 h5 h6 h7 args vals as' L hpre hlay hrd hwl hlo =>
  walk (K := K) (YP := fun w h => (K w.params).In h) hn hdf (fun w h Y => Y) F w s₀ s₁ mg mb G (InK.keeps w s₀.heap s₁.heap (z_facts hk y).2.1 L.keeps) a o pm cd doc dV kV h2 h3 h4 h5 h6 h7 args vals as' hpre hlay hrd hwl hlo
end K08
def PySem.W.Fast.tw5103201011404310647 : PySem.Program := PySem.Challenge.pw_twistturn_k08_answers_by_hand
theorem PySem.W.Fast.te5103201011404310647 : PySem.Challenge.pw_twistturn_k08_answers_by_hand = PySem.W.Fast.tw5103201011404310647 := rfl
def PySem.W.Fast.tw1132993047515373380 : Nat := 0
def PySem.W.Fast.tw11871210193282315896 : Nat := 0
def PySem.W.Fast.tw14317048798804233324 : Nat := 0
def PySem.W.Fast.tw17825869399459011207 : Nat := 0
def PySem.W.Fast.tw10953015042823331586 : Nat := 0
def PySem.W.Fast.tw8320905584880444982 : Nat := 0
def PySem.W.Fast.tw18003696429776933584 : Nat := 0
def PySem.W.Fast.tw7763244520532486745 : Nat := 0
def PySem.W.Fast.tw17644536346507091316 : Nat := 0
def PySem.W.Fast.tw469522719693584352 : Nat := 0
def PySem.W.Fast.tw13956794854079303484 : Nat := 0
def PySem.W.Fast.tw13593584874910831946 : Nat := 0
def PySem.W.Fast.tw4853820411731458714 : Nat := 0
def PySem.W.Fast.tw8079991538134797186 : Nat := 0
def PySem.W.Fast.tw6210161996251219874 : Nat := 0
def PySem.W.Fast.tw5080178503037766145 : Nat := 0
def PySem.W.Fast.tw7308704418940070896 : Nat := 0
def PySem.W.Fast.tw4558867421532129069 : Nat := 0
def PySem.W.Fast.tw16756535540652919764 : Nat := 0
def PySem.W.Fast.tw6548626293661195563 : Nat := 0
def PySem.W.Fast.tw10498111249677376007 : Nat := 0
def PySem.W.Fast.tw2803621356390220388 : Nat := 0
def PySem.W.Fast.tw15410120625916054010 : Nat := 0
def PySem.W.Fast.tw1935735854794682734 : Nat := 0
def PySem.W.Fast.tw18037009640102453764 : Nat := 0
def PySem.W.Fast.tw3076496427149203380 : Nat := 0
def PySem.W.Fast.tw5769844852200354490 : Nat := 0
def PySem.W.Fast.tw1511666434425319187 : Nat := 0
def PySem.W.Fast.tw9665208714676407423 : Nat := 0
def PySem.W.Fast.tw15018848672909516748 : Nat := 0
def PySem.W.Fast.tw17283055348388970605 : Nat := 0
def PySem.W.Fast.tw5165333523956943968 : Nat := 0
def PySem.W.Fast.tw2025835315020323941 : Nat := 0
def PySem.W.Fast.tw285178051693005265 : Nat := 0
def PySem.W.Fast.tw16911549898844107700 : Nat := 0
def PySem.W.Fast.tw10825308073089415666 : Nat := 0
def PySem.W.Fast.tw7561717900051651173 : Nat := 0
def PySem.W.Fast.tw18106281620024576152 : Nat := 0
def PySem.W.Fast.tw6837751563867104268 : Nat := 0
def PySem.W.Fast.tw8979424769385982478 : Nat := 0
def PySem.W.Fast.tw15220532266448667145 : Nat := 0
def PySem.W.Fast.tw8630101045039661125 : Nat := 0
def PySem.W.Fast.tw15978206352739549192 : Nat := 0
def PySem.W.Fast.tw4252501724204041384 : Nat := 0
def PySem.W.Fast.tw8297446491487457199 : Nat := 0
def PySem.W.Fast.tw1959852522162254895 : Nat := 0
def PySem.W.Fast.tw6140541351115417631 : Nat := 0
def PySem.W.Fast.tw13606701379096607645 : Nat := 0
def PySem.W.Fast.tw4347775672633152129 : Nat := 0
def PySem.W.Fast.tw1320556137625039911 : Nat := 0
def PySem.W.Fast.tw10847344296829801207 : Nat := 0
def PySem.W.Fast.tw17920667402574190999 : Nat := 0
def PySem.W.Fast.tw7625193048012343264 : Nat := 0
def PySem.W.Fast.tw12799127643811148181 : Nat := 0
def PySem.W.Fast.tw10068876646027344970 : Nat := 0
def PySem.W.Fast.tw9014945763224338456 : Nat := 0
def PySem.W.Fast.tw7396236991143766401 : Nat := 0
def PySem.W.Fast.tw14072253919165415827 : Nat := 0
def PySem.W.Fast.tw545057697425009984 : Nat := 0
def PySem.W.Fast.tw14699262826075994163 : Nat := 0
def PySem.W.Fast.tw17360997491690678435 : Nat := 0
open PySem PySem.W PyProof.Rows
set_option maxRecDepth 100000 in
set_option maxHeartbeats 0 in
theorem PySem.Challenge.cw_twistturn_k08_answers_by_hand_holds : PySem.Challenge.rw_twistturn_k08_answers_by_hand.Holds := by
 w_on; o_law; z_head; (case hw => w_witness2)
 refine K08.walkX (l := PySem.Challenge.rw_twistturn_k08_answers_by_hand) rfl rfl (fun P => rfl) ?F
 case F =>
  intro w mg fa h KX G hmg
  refine' K08.all_mk KX G hmg ?q_Alike ?mi_Alike ?ma_Alike_shows ?q_Unlike ?mi_Unlike ?ma_Unlike_shows ?q_Quiet ?mi_Quiet ?ma_Quiet_shows ?q_Onward ?mi_Onward ?ma_Onward_shows ?q_Led ?mi_Led ?ma_Led_shows ?q_Parts ?mi_Parts ?ma_Parts_shows ?q_Elsewhere ?mi_Elsewhere ?ma_Elsewhere_shows ?q_Rounds ?mi_Rounds ?ma_Rounds_shows ?a0 ?l0 ?c0 ?k0 ?a1 ?l1 ?c1 ?k1 ?a2 ?l2 ?c2 ?k2 ?a3 ?l3 ?c3 ?k3 ?a4 ?l4 ?c4 ?k4 ?a5 ?l5 ?c5 ?k5 ?a6 ?l6 ?c6 ?k6 ?a7 ?l7 ?c7 ?k7 ?a8 ?l8 ?c8 ?k8 ?a9 ?l9 ?c9 ?k9 ?a10 ?l10 ?c10 ?k10 ?a11 ?l11 ?c11 ?k11 ?a12 ?l12 ?c12 ?k12 ?a13 ?l13 ?c13 ?k13 ?a14 ?l14 ?c14 ?k14 ?a15 ?l15 ?c15 ?k15 ?a16 ?l16 ?c16 ?k16 ?a17 ?l17 ?c17 ?k17 ?a18 ?l18 ?c18 ?k18 ?l19 ?c19 ?k19 ?l20 ?c20 ?k20 ?l21 ?c21 ?k21 ?l22 ?c22 ?k22 ?l23 ?c23 ?k23 ?l24 ?c24 ?k24 ?l25 ?c25 ?k25 ?l26 ?c26 ?k26 ?l27 ?c27 ?k27 ?l28 ?c28 ?k28 ?a29 ?l29 ?c29 ?k29 ?l30 ?c30 ?k30 ?l31 ?c31 ?k31 ?l32 ?c32 ?k32 ?l33 ?c33 ?k33 ?l34 ?c34 ?k34 ?l35 ?c35 ?k35 ?a36 ?l36 ?c36 ?k36 ?a37 ?l37 ?c37 ?k37 ?a38 ?l38 ?c38 ?k38 ?a39 ?l39 ?c39 ?k39 ?a40 ?l40 ?c40 ?k40 ?a41 ?l41 ?c41 ?k41 ?a42 ?l42 ?c42 ?k42 ?a43 ?l43 ?c43 ?k43 ?a44 ?l44 ?c44 ?k44 ?a45 ?l45 ?c45 ?k45 ?a46 ?l46 ?c46 ?k46 ?a47 ?l47 ?c47 ?k47 ?a48 ?l48 ?c48 ?k48 ?a49 ?l49 ?c49 ?k49 ?a50 ?l50 ?c50 ?k50 ?a51 ?l51 ?c51 ?k51 ?a52 ?l52 ?c52 ?k52 ?a53 ?l53 ?c53 ?k53 ?a54 ?l54 ?c54 ?k54 ?a55 ?l55 ?c55 ?k55 ?a56 ?l56 ?c56 ?k56 ?a57 ?l57 ?c57 ?k57 ?a58 ?l58 ?c58 ?k58 ?a59 ?l59 ?c59 ?k59 ?a60 ?l60 ?c60 ?k60 ?a61 ?l61 ?c61 ?k61 ?a62 ?l62 ?c62 ?k62 ?a63 ?l63 ?c63 ?k63 ?a64 ?l64 ?c64 ?k64 ?a65 ?l65 ?c65 ?k65 ?a66 ?l66 ?c66 ?k66 ?a67 ?l67 ?c67 ?k67 ?a68 ?l68 ?c68 ?k68 ?a69 ?l69 ?c69 ?k69 ?a70 ?l70 ?c70 ?k70 ?a71 ?l71 ?c71 ?k71 ?a72 ?l72 ?c72 ?k72 ?a73 ?l73 ?c73 ?k73 ?z_len ?z_all ?z_any ?z_isinstance ?z_abs ?z_int ?z_bool ?z_str ?z_tuple ?z_list ?z_reversed ?z_range ?z_max ?gL ?lL ?gE ?lE ?kE ?x1 ?x2 ?x3 ?gT ?lT ?lt01 ?lt10 ?lt11 ?gDE ?lDE ?gPC ?lPC ?gLR ?lLR ?gRP ?lRP ?gPO ?lPO ?gOV ?lOV ?kOV ?sOV ?mOV ?oxT ?lOT ?lOT0 ?lOT1 ?lOT2 ?lOT3 ?oxU ?lOU ?lOU0 ?lOU1 ?lOU2 ?lOU3 ?gBT ?lBT ?kBT ?bx1 ?bx2 ?bx3 ?lBt ?lBu ?lBr ?gTG ?lTG ?kTG ?sTG ?tg0 ?tg1 ?tg2 ?tg3 ?tg4 ?tg5 ?tg6 ?tg7 ?tg8 ?tg9 ?pg_Alike ?hd_Alike ?po_Alike ?sa_Alike ?ha_Alike ?hm_Alike ?nf_Alike_steps ?mk_Alike ?mf_Alike ?mp_Alike ?mn_Alike_shows ?pg_Unlike ?hd_Unlike ?po_Unlike ?sa_Unlike ?ha_Unlike ?hm_Unlike ?nf_Unlike_fraction ?mk_Unlike ?mf_Unlike ?mp_Unlike ?mn_Unlike_shows ?pg_Quiet ?hd_Quiet ?po_Quiet ?sa_Quiet ?ha_Quiet ?hm_Quiet ?nf_Quiet_many ?mk_Quiet ?mf_Quiet ?mp_Quiet ?mn_Quiet_shows ?pg_Onward ?hd_Onward ?po_Onward ?sa_Onward ?ha_Onward ?hm_Onward ?nf_Onward_fraction ?mk_Onward ?mf_Onward ?mp_Onward ?mn_Onward_shows ?pg_Led ?hd_Led ?po_Led ?sa_Led ?ha_Led ?hm_Led ?nf_Led_word ?mk_Led ?mf_Led ?mp_Led ?mn_Led_shows ?pg_Parts ?hd_Parts ?po_Parts ?sa_Parts ?ha_Parts ?hm_Parts ?nf_Parts_there ?nf_Parts_back ?mk_Parts ?mf_Parts ?mp_Parts ?mn_Parts_shows ?pg_Elsewhere ?hd_Elsewhere ?po_Elsewhere ?sa_Elsewhere ?ha_Elsewhere ?hm_Elsewhere ?nf_Elsewhere_word ?mk_Elsewhere ?mf_Elsewhere ?mp_Elsewhere ?mn_Elsewhere_shows ?pg_Rounds ?hd_Rounds ?po_Rounds ?sa_Rounds ?ha_Rounds ?hm_Rounds ?nf_Rounds_there ?nf_Rounds_first ?nf_Rounds_back ?nf_Rounds_second ?mk_Rounds ?mf_Rounds ?mp_Rounds ?mn_Rounds_shows ?hnC ?htkC ?kt_Alike_Alike ?kt_Unlike_Alike ?kt_Led_Led ?kt_Parts_Led ?kt_Elsewhere_Elsewhere ?kt_Elsewhere_Rounds ?kt_Rounds_Elsewhere ?kt_Rounds_Rounds
  (case q_Alike => k_is)
  (case mi_Alike => k_is)
  (case ma_Alike_shows => k_is)
  (case q_Unlike => k_is)
  (case mi_Unlike => k_is)
  (case ma_Unlike_shows => k_is)
  (case q_Quiet => k_is)
  (case mi_Quiet => k_is)
  (case ma_Quiet_shows => k_is)
  (case q_Onward => k_is)
  (case mi_Onward => k_is)
  (case ma_Onward_shows => k_is)
  (case q_Led => k_is)
  (case mi_Led => k_is)
  (case ma_Led_shows => k_is)
  (case q_Parts => k_is)
  (case mi_Parts => k_is)
  (case ma_Parts_shows => k_is)
  (case q_Elsewhere => k_is)
  (case mi_Elsewhere => k_is)
  (case ma_Elsewhere_shows => k_is)
  (case q_Rounds => k_is)
  (case mi_Rounds => k_is)
  (case ma_Rounds_shows => k_is)
  (case a0 => k_is)
  (case l0 => k_is)
  (case c0 => k_is)
  (case k0 => k_is)
  (case a1 => k_is)
  (case l1 => k_is)
  (case c1 => k_is)
  (case k1 => k_is)
  (case a2 => k_is)
  (case l2 => k_is)
  (case c2 => k_is)
  (case k2 => k_is)
  (case a3 => k_is)
  (case l3 => k_is)
  (case c3 => k_is)
  (case k3 => k_is)
  (case a4 => k_is)
  (case l4 => k_is)
  (case c4 => k_is)
  (case k4 => k_is)
  (case a5 => k_is)
  (case l5 => k_is)
  (case c5 => k_is)
  (case k5 => k_is)
  (case a6 => k_is)
  (case l6 => k_is)
  (case c6 => k_is)
  (case k6 => k_is)
  (case a7 => k_is)
  (case l7 => k_is)
  (case c7 => k_is)
  (case k7 => k_is)
  (case a8 => k_is)
  (case l8 => k_is)
  (case c8 => k_is)
  (case k8 => k_is)
  (case a9 => k_is)
  (case l9 => k_is)
  (case c9 => k_is)
  (case k9 => k_is)
  (case a10 => k_is)
  (case l10 => k_is)
  (case c10 => k_is)
  (case k10 => k_is)
  (case a11 => k_is)
  (case l11 => k_is)
  (case c11 => k_is)
  (case k11 => k_is)
  (case a12 => k_is)
  (case l12 => k_is)
  (case c12 => k_is)
  (case k12 => k_is)
  (case a13 => k_is)
  (case l13 => k_is)
  (case c13 => k_is)
  (case k13 => k_is)
  (case a14 => k_is)
  (case l14 => k_is)
  (case c14 => k_is)
  (case k14 => k_is)
  (case a15 => k_is)
  (case l15 => k_is)
  (case c15 => k_is)
  (case k15 => k_is)
  (case a16 => k_is)
  (case l16 => k_is)
  (case c16 => k_is)
  (case k16 => k_is)
  (case a17 => k_is)
  (case l17 => k_is)
  (case c17 => k_is)
  (case k17 => k_is)
  (case a18 => k_is)
  (case l18 => k_is)
  (case c18 => k_is)
  (case k18 => k_is)
  (case l19 => k_is)
  (case c19 => k_is)
  (case k19 => k_is)
  (case l20 => k_is)
  (case c20 => k_is)
  (case k20 => k_is)
  (case l21 => k_is)
  (case c21 => k_is)
  (case k21 => k_is)
  (case l22 => k_is)
  (case c22 => k_is)
  (case k22 => k_is)
  (case l23 => k_is)
  (case c23 => k_is)
  (case k23 => k_is)
  (case l24 => k_is)
  (case c24 => k_is)
  (case k24 => k_is)
  (case l25 => k_is)
  (case c25 => k_is)
  (case k25 => k_is)
  (case l26 => k_is)
  (case c26 => k_is)
  (case k26 => k_is)
  (case l27 => k_is)
  (case c27 => k_is)
  (case k27 => k_is)
  (case l28 => k_is)
  (case c28 => k_is)
  (case k28 => k_is)
  (case a29 => k_is)
  (case l29 => k_is)
  (case c29 => k_is)
  (case k29 => k_is)
  (case l30 => k_is)
  (case c30 => k_is)
  (case k30 => k_is)
  (case l31 => k_is)
  (case c31 => k_is)
  (case k31 => k_is)
  (case l32 => k_is)
  (case c32 => k_is)
  (case k32 => k_is)
  (case l33 => k_is)
  (case c33 => k_is)
  (case k33 => k_is)
  (case l34 => k_is)
  (case c34 => k_is)
  (case k34 => k_is)
  (case l35 => k_is)
  (case c35 => k_is)
  (case k35 => k_is)
  (case a36 => k_is)
  (case l36 => k_is)
  (case c36 => k_is)
  (case k36 => k_is)
  (case a37 => k_is)
  (case l37 => k_is)
  (case c37 => k_is)
  (case k37 => k_is)
  (case a38 => k_is)
  (case l38 => k_is)
  (case c38 => k_is)
  (case k38 => k_is)
  (case a39 => k_is)
  (case l39 => k_is)
  (case c39 => k_is)
  (case k39 => k_is)
  (case a40 => k_is)
  (case l40 => k_is)
  (case c40 => k_is)
  (case k40 => k_is)
  (case a41 => k_is)
  (case l41 => k_is)
  (case c41 => k_is)
  (case k41 => k_is)
  (case a42 => k_is)
  (case l42 => k_is)
  (case c42 => k_is)
  (case k42 => k_is)
  (case a43 => k_is)
  (case l43 => k_is)
  (case c43 => k_is)
  (case k43 => k_is)
  (case a44 => k_is)
  (case l44 => k_is)
  (case c44 => k_is)
  (case k44 => k_is)
  (case a45 => k_is)
  (case l45 => k_is)
  (case c45 => k_is)
  (case k45 => k_is)
  (case a46 => k_is)
  (case l46 => k_is)
  (case c46 => k_is)
  (case k46 => k_is)
  (case a47 => k_is)
  (case l47 => k_is)
  (case c47 => k_is)
  (case k47 => k_is)
  (case a48 => k_is)
  (case l48 => k_is)
  (case c48 => k_is)
  (case k48 => k_is)
  (case a49 => k_is)
  (case l49 => k_is)
  (case c49 => k_is)
  (case k49 => k_is)
  (case a50 => k_is)
  (case l50 => k_is)
  (case c50 => k_is)
  (case k50 => k_is)
  (case a51 => k_is)
  (case l51 => k_is)
  (case c51 => k_is)
  (case k51 => k_is)
  (case a52 => k_is)
  (case l52 => k_is)
  (case c52 => k_is)
  (case k52 => k_is)
  (case a53 => k_is)
  (case l53 => k_is)
  (case c53 => k_is)
  (case k53 => k_is)
  (case a54 => k_is)
  (case l54 => k_is)
  (case c54 => k_is)
  (case k54 => k_is)
  (case a55 => k_is)
  (case l55 => k_is)
  (case c55 => k_is)
  (case k55 => k_is)
  (case a56 => k_is)
  (case l56 => k_is)
  (case c56 => k_is)
  (case k56 => k_is)
  (case a57 => k_is)
  (case l57 => k_is)
  (case c57 => k_is)
  (case k57 => k_is)
  (case a58 => k_is)
  (case l58 => k_is)
  (case c58 => k_is)
  (case k58 => k_is)
  (case a59 => k_is)
  (case l59 => k_is)
  (case c59 => k_is)
  (case k59 => k_is)
  (case a60 => k_is)
  (case l60 => k_is)
  (case c60 => k_is)
  (case k60 => k_is)
  (case a61 => k_is)
  (case l61 => k_is)
  (case c61 => k_is)
  (case k61 => k_is)
  (case a62 => k_is)
  (case l62 => k_is)
  (case c62 => k_is)
  (case k62 => k_is)
  (case a63 => k_is)
  (case l63 => k_is)
  (case c63 => k_is)
  (case k63 => k_is)
  (case a64 => k_is)
  (case l64 => k_is)
  (case c64 => k_is)
  (case k64 => k_is)
  (case a65 => k_is)
  (case l65 => k_is)
  (case c65 => k_is)
  (case k65 => k_is)
  (case a66 => k_is)
  (case l66 => k_is)
  (case c66 => k_is)
  (case k66 => k_is)
  (case a67 => k_is)
  (case l67 => k_is)
  (case c67 => k_is)
  (case k67 => k_is)
  (case a68 => k_is)
  (case l68 => k_is)
  (case c68 => k_is)
  (case k68 => k_is)
  (case a69 => k_is)
  (case l69 => k_is)
  (case c69 => k_is)
  (case k69 => k_is)
  (case a70 => k_is)
  (case l70 => k_is)
  (case c70 => k_is)
  (case k70 => k_is)
  (case a71 => k_is)
  (case l71 => k_is)
  (case c71 => k_is)
  (case k71 => k_is)
  (case a72 => k_is)
  (case l72 => k_is)
  (case c72 => k_is)
  (case k72 => k_is)
  (case a73 => k_is)
  (case l73 => k_is)
  (case c73 => k_is)
  (case k73 => k_is)
  (case z_len => k_is)
  (case z_all => k_is)
  (case z_any => k_is)
  (case z_isinstance => k_is)
  (case z_abs => k_is)
  (case z_int => k_is)
  (case z_bool => k_is)
  (case z_str => k_is)
  (case z_tuple => k_is)
  (case z_list => k_is)
  (case z_reversed => k_is)
  (case z_range => k_is)
  (case z_max => k_is)
  (case gL => k_is)
  (case lL => k_is)
  (case gE => k_is)
  (case lE => k_is)
  (case kE => k_keys)
  (case x1 => k_is)
  (case x2 => k_is)
  (case x3 => k_is)
  (case gT => k_is)
  (case lT => k_is)
  (case lt01 => k_is)
  (case lt10 => k_is)
  (case lt11 => k_is)
  (case gDE => k_is)
  (case lDE => k_is)
  (case gPC => k_is)
  (case lPC => k_is)
  (case gLR => k_is)
  (case lLR => k_is)
  (case gRP => k_is)
  (case lRP => k_is)
  (case gPO => k_is)
  (case lPO => k_is)
  (case gOV => k_is)
  (case lOV => k_is)
  (case kOV => k_keys)
  (case sOV => rfl)
  (case mOV => rfl)
  (case oxT => k_is)
  (case lOT => k_is)
  (case lOT0 => k_is)
  (case lOT1 => k_is)
  (case lOT2 => k_is)
  (case lOT3 => k_is)
  (case oxU => k_is)
  (case lOU => k_is)
  (case lOU0 => k_is)
  (case lOU1 => k_is)
  (case lOU2 => k_is)
  (case lOU3 => k_is)
  (case gBT => k_is)
  (case lBT => k_is)
  (case kBT => k_keys)
  (case bx1 => k_is)
  (case bx2 => k_is)
  (case bx3 => k_is)
  (case lBt => k_is)
  (case lBu => k_is)
  (case lBr => k_is)
  (case gTG => k_is)
  (case lTG => k_is)
  (case kTG => k_keys)
  (case sTG => rfl)
  (case tg0 => k_is)
  (case tg1 => k_is)
  (case tg2 => k_is)
  (case tg3 => k_is)
  (case tg4 => k_is)
  (case tg5 => k_is)
  (case tg6 => k_is)
  (case tg7 => k_is)
  (case tg8 => k_is)
  (case tg9 => k_is)
  (case pg_Alike => k_is)
  (case hd_Alike => k_is)
  (case po_Alike => k_is)
  (case sa_Alike => k_is)
  (case ha_Alike => k_is)
  (case hm_Alike => k_is)
  (case nf_Alike_steps => k_is)
  (case mk_Alike => k_is)
  (case mf_Alike => k_is)
  (case mp_Alike => k_is)
  (case mn_Alike_shows => k_is)
  (case pg_Unlike => k_is)
  (case hd_Unlike => k_is)
  (case po_Unlike => k_is)
  (case sa_Unlike => k_is)
  (case ha_Unlike => k_is)
  (case hm_Unlike => k_is)
  (case nf_Unlike_fraction => k_is)
  (case mk_Unlike => k_is)
  (case mf_Unlike => k_is)
  (case mp_Unlike => k_is)
  (case mn_Unlike_shows => k_is)
  (case pg_Quiet => k_is)
  (case hd_Quiet => k_is)
  (case po_Quiet => k_is)
  (case sa_Quiet => k_is)
  (case ha_Quiet => k_is)
  (case hm_Quiet => k_is)
  (case nf_Quiet_many => k_is)
  (case mk_Quiet => k_is)
  (case mf_Quiet => k_is)
  (case mp_Quiet => k_is)
  (case mn_Quiet_shows => k_is)
  (case pg_Onward => k_is)
  (case hd_Onward => k_is)
  (case po_Onward => k_is)
  (case sa_Onward => k_is)
  (case ha_Onward => k_is)
  (case hm_Onward => k_is)
  (case nf_Onward_fraction => k_is)
  (case mk_Onward => k_is)
  (case mf_Onward => k_is)
  (case mp_Onward => k_is)
  (case mn_Onward_shows => k_is)
  (case pg_Led => k_is)
  (case hd_Led => k_is)
  (case po_Led => k_is)
  (case sa_Led => k_is)
  (case ha_Led => k_is)
  (case hm_Led => k_is)
  (case nf_Led_word => k_is)
  (case mk_Led => k_is)
  (case mf_Led => k_is)
  (case mp_Led => k_is)
  (case mn_Led_shows => k_is)
  (case pg_Parts => k_is)
  (case hd_Parts => k_is)
  (case po_Parts => k_is)
  (case sa_Parts => k_is)
  (case ha_Parts => k_is)
  (case hm_Parts => k_is)
  (case nf_Parts_there => k_is)
  (case nf_Parts_back => k_is)
  (case mk_Parts => k_is)
  (case mf_Parts => k_is)
  (case mp_Parts => k_is)
  (case mn_Parts_shows => k_is)
  (case pg_Elsewhere => k_is)
  (case hd_Elsewhere => k_is)
  (case po_Elsewhere => k_is)
  (case sa_Elsewhere => k_is)
  (case ha_Elsewhere => k_is)
  (case hm_Elsewhere => k_is)
  (case nf_Elsewhere_word => k_is)
  (case mk_Elsewhere => k_is)
  (case mf_Elsewhere => k_is)
  (case mp_Elsewhere => k_is)
  (case mn_Elsewhere_shows => k_is)
  (case pg_Rounds => k_is)
  (case hd_Rounds => k_is)
  (case po_Rounds => k_is)
  (case sa_Rounds => k_is)
  (case ha_Rounds => k_is)
  (case hm_Rounds => k_is)
  (case nf_Rounds_there => k_is)
  (case nf_Rounds_first => k_is)
  (case nf_Rounds_back => k_is)
  (case nf_Rounds_second => k_is)
  (case mk_Rounds => k_is)
  (case mf_Rounds => k_is)
  (case mp_Rounds => k_is)
  (case mn_Rounds_shows => k_is)
  (case hnC => k_is)
  (case htkC => k_is)
  (case kt_Alike_Alike => kit_is)
  (case kt_Unlike_Alike => kit_is)
  (case kt_Led_Led => kit_is)
  (case kt_Parts_Led => kit_is)
  (case kt_Elsewhere_Elsewhere => kit_is)
  (case kt_Elsewhere_Rounds => kit_is)
  (case kt_Rounds_Elsewhere => kit_is)
  (case kt_Rounds_Rounds => kit_is)
