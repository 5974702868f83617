import PyProof.Rows.All
import Wide.All
import OpenK.AllK
import Wide.FinOn
import Lean
import PyProof.EqAt
import PyProof.EqKinds
import PyProof.TupleCall
import PyProof.StrWalks
import PyProof.StrOps
import PyProof.CallType
import PyProof.ReprLoop
import PyProof.WalksMore
import PyProof.FactsAll.str
import PyProof.FactsAll.object
import PyProof.StrCalls6
import PyProof.ToksMono
import PyProof.StrLawsIn
import PySem.Challenge.RW_twistturn_k04_whole_alike
-- CHANGE: your row's module here, as the last of these rows
set_option Elab.async false
set_option linter.all false
set_option maxRecDepth 100000
/-! the hand layer, lists and dicts together -/
namespace L2
open PySem PySem.Spec PyProof.Rows
/-- a key: an int or a str -/
abbrev Key := Sum Int Str
def keyIs : Key → Value → Bool
  | .inl k, v => Value.isInt k v
  | .inr x, v => Value.isStrOf x v
def keyH (w : World) : Key → Int
  | .inl k => hashInt k
  | .inr x => hashStr w x
theorem keyIs_shape : ∀ {k : Key} {v : Value}, keyIs k v = true → (∃ i t, k = Sum.inl i ∧ v = Value.int i t) ∨ (∃ x t, k = Sum.inr x ∧ v = Value.str x t)
  | .inl i, v, h => by
    obtain ⟨t, e⟩ := Value.isInt_shape (k := i) (v := v) h
    exact .inl ⟨i, t, rfl, e⟩
  | .inr x, v, h => by
    obtain ⟨t, e⟩ := Value.isStrOf_shape (x := x) (v := v) h
    exact .inr ⟨x, t, rfl, e⟩
theorem key_ll (a b : Int) : decide ((Sum.inl a : Key) = Sum.inl b) = (a == b) := by
  by_cases e : a = b
  · subst e; simp
  · have h : ¬ (Sum.inl a : Key) = Sum.inl b := fun q => e (Sum.inl.inj q)
    rw [decide_eq_false h]
    exact (beq_eq_false_iff_ne.mpr e).symm
theorem key_rr (a b : Str) : decide ((Sum.inr a : Key) = Sum.inr b) = decide (a = b) := by
  by_cases e : a = b
  · subst e; simp
  · have h : ¬ (Sum.inr a : Key) = Sum.inr b := fun q => e (Sum.inr.inj q)
    rw [decide_eq_false h, decide_eq_false e]
theorem key_lr (a : Int) (b : Str) : decide ((Sum.inl a : Key) = Sum.inr b) = false := decide_eq_false (fun q => nomatch q)
theorem key_rl (a : Str) (b : Int) : decide ((Sum.inr a : Key) = Sum.inl b) = false := decide_eq_false (fun q => nomatch q)
def mixKind (prog : Program) (w : World) : PySem.KeyKind prog w Key where
  is := keyIs
  hash := keyH w
  inj := fun v a b ha hb => by
    rcases keyIs_shape ha with ⟨i, t, rfl, rfl⟩ | ⟨x, t, rfl, rfl⟩
    · rcases keyIs_shape hb with ⟨j, u, rfl, e⟩ | ⟨y, u, rfl, e⟩
      · injection e with e1 _; rw [e1]
      · exact nomatch e
    · rcases keyIs_shape hb with ⟨j, u, rfl, e⟩ | ⟨y, u, rfl, e⟩
      · exact nomatch e
      · injection e with e1 _; rw [e1]
  byValue := fun k v h => by
    rcases keyIs_shape h with ⟨i, t, rfl, rfl⟩ | ⟨x, t, rfl, rfl⟩ <;> rfl
  pyHash := fun hv h => by
    rcases keyIs_shape hv with ⟨i, t, rfl, rfl⟩ | ⟨x, t, rfl, rfl⟩
    · exact wpAny_pyHash_int h
    · exact wpAny_pyHash_str h
  eqBool := fun hu hv h => by
    rcases keyIs_shape hu with ⟨i, t, rfl, rfl⟩ | ⟨x, t, rfl, rfl⟩
    · rcases keyIs_shape hv with ⟨j, u, rfl, rfl⟩ | ⟨y, u, rfl, rfl⟩
      · rw [key_ll] at h; exact wpAny_eqBool_int h
      · rw [key_lr] at h; exact SeqAt.EqAt.int_str i t y u _ _ _ _ h
    · rcases keyIs_shape hv with ⟨j, u, rfl, rfl⟩ | ⟨y, u, rfl, rfl⟩
      · rw [key_rl] at h; exact SeqAt.EqAt.str_int x t j u _ _ _ _ h
      · rw [key_rr] at h; exact wpAny_eqBool_str h
  «strs» := fun k x t v h => by
    rcases keyIs_shape h with ⟨i, u, rfl, e⟩ | ⟨y, u, rfl, e⟩
    · exact nomatch e
    · injection e with e1 _
      subst e1
      cases v <;> rfl
end L2
namespace L2
open PySem PySem.Spec PyProof.Rows
/-- a value, without the heap -/
inductive V where
  | non | bl (b : Bool) | int (i : Int) | str (x : Str) | byt (b : Array UInt8) | flt (b : UInt64) | ref (a : Addr) | ty (n : String) | stk (x : Str) (t : Tok)
  deriving DecidableEq
def RelV : V → Value → Prop
  | .non, u => u = Value.none
  | .bl b, u => u = Value.bool b
  | .int i, u => ∃ t, u = Value.int i t
  | .str x, u => ∃ t, u = Value.str x t
  | .byt b, u => ∃ t, u = Value.bytes b t
  | .flt b, u => ∃ t, u = Value.float b t
  | .ref a, u => u = Value.ref a
  | .ty n, u => u = Value.type n
  | .stk x t, u => u = Value.str x t ∧ t ≠ 0
/-- without tokens -/
def RelV0 (x : V) (u : Value) : Prop := match x with
  | .stk _ _ => False
  | x => RelV x u
theorem RelV0.rel {x : V} {u : Value} (h : RelV0 x u) : RelV x u := by
  cases x <;> first | exact h | exact h.elim
abbrev Vals0 : List V → List Value → Prop := Paired RelV0
abbrev Vals : List V → List Value → Prop := Paired RelV
theorem Vals.length {xs : List V} {us : List Value} (r : Vals xs us) : xs.length = us.length := Paired.length r
theorem Vals.get : ∀ {xs : List V} {us : List Value} {i : Nat} {x : V}, Vals xs us → xs[i]? = some x → ∃ u, us[i]? = some u ∧ RelV x u
  | _, _, _, _, .nil, e => by simp at e
  | _, _, 0, _, .cons r _, e => by simp at e; subst e; exact ⟨_, rfl, r⟩
  | _, _, i + 1, x, .cons _ t, e => by
    obtain ⟨u, h1, h2⟩ := Vals.get (i := i) (x := x) t (by simpa using e)
    exact ⟨u, by simpa using h1, h2⟩
theorem Vals.append : ∀ {xs ys : List V} {us ws : List Value}, Vals xs us → Vals ys ws → Vals (xs ++ ys) (us ++ ws)
  | _, _, _, _, .nil, s => s
  | _, _, _, _, .cons r t, s => .cons r (Vals.append t s)
theorem Vals.take : ∀ {xs : List V} {us : List Value} (n : Nat), Vals xs us → Vals (xs.take n) (us.take n)
  | _, _, 0, _ => .nil
  | _, _, _ + 1, .nil => .nil
  | _, _, n + 1, .cons r t => .cons r (Vals.take n t)
theorem Vals.drop : ∀ {xs : List V} {us : List Value} (n : Nat), Vals xs us → Vals (xs.drop n) (us.drop n)
  | _, _, 0, r => r
  | _, _, _ + 1, .nil => .nil
  | _, _, n + 1, .cons _ t => Vals.drop n t
def RelO : Option V → Option Value → Prop
  | some v, some u => RelV v u
  | none, none => True
  | _, _ => False
def KV {κ : Type} : List (κ × V) → List (κ × Value) → Prop := Paired fun (p : κ × V) (q : κ × Value) => p.1 = q.1 ∧ RelV p.2 q.2
/-- a key of a dict (00_mix): an int or a text -/
def kV : Key → V
  | .inl i => .int i
  | .inr x => .str x
/-- what stands at a tracked address -/
inductive HO where
  /-- a list -/
  | lst (xs : List V)
  /-- a tuple (never changes) -/
  | tup (xs : List V)
  /-- a dict whose keys are ints and texts; one whose keys are tuples of ints and texts (the empty one is both) -/
  | dK (kvs : List (Key × V)) | dT (kvs : List (List Key × V))
  /-- a set of ints: its members, its size -/
  | set (S : Int → Bool) (n : Nat)
  /-- an instance of the class at C, its dict at dx, its attributes -/
  | ins (C dx : Addr) (fs : List (Str × V))
  /-- the dict of the instance at x -/
  | own (x : Addr)
  /-- the dict of an exception -/
  | xd (fs : List (Str × V))
  /-- a bound method, f of x -/
  | met (f x : Addr)
  /-- a range object lo, lo + 1, .. below hi -/
  | rng (lo hi : Int)
  /-- a thing that is known to the object (the script; a dict while a loop walks it): read, never written while it is so -/
  | frz (o : Obj) (u : HO)
  /-- a code object's table -/
  | tbl (ps : Array Value)
  /-- any other thing, by what is true of its one object (a def of one's own: SetO a S n := HO.ext fun h => ..) -/
  | ext (φ : Heap → Prop)
abbrev Hp := Addr → Option HO
def upd (H : Hp) (a : Addr) (o : HO) : Hp := fun b => if b = a then some o else H b
theorem upd_same {H : Hp} {a : Addr} {o : HO} : upd H a o a = some o := by unfold upd; rw [if_pos rfl]
theorem upd_ne {H : Hp} {a b : Addr} {o : HO} (h : b ≠ a) : upd H a o b = H b := by unfold upd; rw [if_neg h]
theorem upd_upd {H : Hp} {a : Addr} {o u : HO} : upd (upd H a o) a u = upd H a u := by
  funext b; unfold upd; split <;> rfl
theorem ne_of_none {H : Hp} {a b : Addr} {o : HO} (h : H a = some o) (h' : H b = none) : a ≠ b := by
  intro e; subst e; rw [h] at h'; cases h'
section
variable (P : Program) (w : World)
def ObjOk (H : Hp) (h : Heap) (a : Addr) : HO → Prop
  | .lst xs => xs.length ≤ sizeLine ∧ ∃ (its : List Value) (n : Nat), Vals xs its ∧ h.get? a = some { cls := .type "list", data := .seq its.toArray n }
  | .tup xs => xs.length ≤ sizeLine ∧ ∃ its : List Value, Vals xs its ∧ IsTup h a its.toArray
  | .dK kvs => kvs.length ≤ sizeLine ∧ (a == sysModules) = false ∧ ∃ vs, KV kvs vs ∧ h.DictOf (mixKind P w) a vs
  | .dT kvs => kvs.length ≤ sizeLine ∧ (a == sysModules) = false ∧ ∃ xs : List (List Key × Addr × Value),
      Paired (fun (p : List Key × V) (q : List Key × Addr × Value) => p.1 = q.1 ∧ H q.2.1 = some (.tup (p.1.map kV)) ∧ RelV p.2 q.2.2) kvs xs ∧
      ∃ o es ep, h.get? a = some o ∧ o.ExactDict ∧ o.data = .dict es ep ∧ es.toList = xs.map (entryOfKey (tupleKind (mixKind P w))) ∧ (xs.map (·.1)).Nodup
  | .set S n => h.SetOf (intKind P w) a S n
  | .ins C dx fs => H dx = some (.own a) ∧ fs.length ≤ 1000 ∧ dx ≠ a ∧ h.get? a = some (PySem.W.instObj C dx) ∧
      ∃ mA, h.Ns1 dx mA ∧ (∀ f, RelO (fs.lookup f) (mA f)) ∧ PySem.Within mA (fs.map (·.1))
  | .own _ => ∃ o, h.get? a = some o
  | .xd fs => ∃ mA, h.Ns1 a mA ∧ ∀ f, RelO (fs.lookup f) (mA f)
  | .rng lo hi => ∃ t u v, h.get? a = some { cls := .type "range", data := .fields #[.int lo t, .int hi u, .int 1 v] }
  | .frz o u => h.get? a = some o ∧ ObjOk H h a u
  | .tbl ps => h.get? a = some { cls := .none, data := .fields ps }
  | .met f x => h.get? a = some (PySem.W.methodObj (.ref f) (.ref x))
  | .ext φ => φ h ∧ (∃ o, h.get? a = some o) ∧ ∀ h1 h2 : Heap, φ h1 → (∀ o, h1.get? a = some o → h2.get? a = some o) → φ h2
/-- the abstract heap is held -/
def HOk (H : Hp) (h : Heap) : Prop := ∀ a o, H a = some o → ObjOk P w H h a o
end
section
variable {P : Program} {w : World} {H H' : Hp} {h h' : Heap} {a : Addr} {o : HO}
theorem ObjOk.lt (x : ObjOk P w H h a o) : a < h.objs.size := by
  cases o with
  | lst xs => obtain ⟨_, _, _, _, e⟩ := x; exact Heap.lt_size e
  | tup xs => obtain ⟨_, _, _, p⟩ := x; exact p.lt
  | dK kvs => obtain ⟨_, _, _, _, o, _, _, e, _⟩ := x; exact Heap.lt_size e
  | dT kvs => obtain ⟨_, _, _, _, o, _, _, e, _⟩ := x; exact Heap.lt_size e
  | set S n => obtain ⟨o, _, _, _, e, _⟩ := x; exact Heap.lt_size e
  | ins C dx fs => obtain ⟨_, _, _, e, _⟩ := x; exact Heap.lt_size e
  | own y => obtain ⟨_, e⟩ := x; exact Heap.lt_size e
  | xd fs => obtain ⟨_, ⟨_, _, _, e, _⟩, _⟩ := x; exact Heap.lt_size e
  | rng lo hi => obtain ⟨_, _, _, e⟩ := x; exact Heap.lt_size e
  | frz ob u => obtain ⟨e, _⟩ := x; exact Heap.lt_size e
  | tbl ps => exact Heap.lt_size (show h.get? a = some _ from x)
  | met f y => exact Heap.lt_size (show h.get? a = some _ from x)
  | ext φ => obtain ⟨_, ⟨_, e⟩, _⟩ := x; exact Heap.lt_size e
theorem Paired.mapP {α β : Type} {F G : α → β → Prop} : ∀ {l₁ : List α} {l₂ : List β}, Paired F l₁ l₂ → (∀ a b, F a b → G a b) → Paired G l₁ l₂
  | _, _, .nil, _ => .nil
  | _, _, .cons r t, f => .cons (f _ _ r) (Paired.mapP t f)
/-- what an object's description leans on: its own object, its own dict, the tuples -/
theorem ObjOk.stay (x : ObjOk P w H h a o) (k : ∀ b u, (b = a ∨ H b = some (.own a)) → h.get? b = some u → h'.get? b = some u)
    (ho : ∀ b, H b = some (.own a) → H' b = some (.own a)) (ht : ∀ b xs, H b = some (.tup xs) → H' b = some (.tup xs)) : ObjOk P w H' h' a o := by
  induction o with
  | lst xs => obtain ⟨z, its, n, r, e⟩ := x; exact ⟨z, its, n, r, k _ _ (.inl rfl) e⟩
  | tup xs => obtain ⟨z, its, r, ob, e, c⟩ := x; exact ⟨z, its, r, ob, k _ _ (.inl rfl) e, c⟩
  | dK kvs => obtain ⟨z, y, vs, r, ob, es, ep, e, c⟩ := x; exact ⟨z, y, vs, r, ob, es, ep, k _ _ (.inl rfl) e, c⟩
  | dT kvs =>
    obtain ⟨z, y, xs, r, ob, es, ep, e, c⟩ := x
    exact ⟨z, y, xs, Paired.mapP r fun p q z => ⟨z.1, ht _ _ z.2.1, z.2.2⟩, ob, es, ep, k _ _ (.inl rfl) e, c⟩
  | set S n => obtain ⟨ob, es, ep, t, e, c⟩ := x; exact ⟨ob, es, ep, t, k _ _ (.inl rfl) e, c⟩
  | ins C dx fs =>
    obtain ⟨d, z, ne, e, mA, ⟨od, es, ep, e2, c⟩, r⟩ := x
    exact ⟨ho _ d, z, ne, k _ _ (.inl rfl) e, mA, ⟨od, es, ep, k _ _ (.inr d) e2, c⟩, r⟩
  | own y => obtain ⟨ob, e⟩ := x; exact ⟨ob, k _ _ (.inl rfl) e⟩
  | xd fs => obtain ⟨mA, ⟨od, es, ep, e, c⟩, r⟩ := x; exact ⟨mA, ⟨od, es, ep, k _ _ (.inl rfl) e, c⟩, r⟩
  | rng lo hi => obtain ⟨t, u, v, e⟩ := x; exact ⟨t, u, v, k _ _ (.inl rfl) e⟩
  | frz ob u ih => obtain ⟨e, q⟩ := x; exact ⟨k _ _ (.inl rfl) e, ih q⟩
  | tbl ps =>
    have e : h.get? a = some { cls := .none, data := .fields ps } := x
    show h'.get? a = some { cls := .none, data := .fields ps }
    exact k a _ (.inl rfl) e
  | met f y =>
    have e : h.get? a = some (PySem.W.methodObj (.ref f) (.ref y)) := x
    show h'.get? a = some (PySem.W.methodObj (.ref f) (.ref y))
    exact k a _ (.inl rfl) e
  | ext φ => obtain ⟨p, ⟨o, e⟩, st⟩ := x; exact ⟨st _ _ p fun o q => k _ _ (.inl rfl) q, ⟨o, k _ _ (.inl rfl) e⟩, st⟩
theorem HOk.lt (x : HOk P w H h) (e : H a = some o) : a < h.objs.size := (x a o e).lt
theorem HOk.fresh (x : HOk P w H h) (e : h.objs.size ≤ a) : H a = none := by
  cases q : H a with
  | none => rfl
  | some u => exact absurd (Nat.lt_of_lt_of_le (x.lt q) e) (Nat.lt_irrefl _)
/-- every object of the heap is kept -/
theorem HOk.kept (x : HOk P w H h) (k : ∀ b u, h.get? b = some u → h'.get? b = some u) : HOk P w H h' := fun a o e =>
  (x a o e).stay (fun b u _ q => k b u q) (fun _ q => q) fun _ _ q => q
/-- a new object is laid and tracked -/
theorem HOk.laid (x : HOk P w H h) (k : ∀ b u, h.get? b = some u → h'.get? b = some u) (hp : h.objs.size ≤ a) (new : ObjOk P w (upd H a o) h' a o) : HOk P w (upd H a o) h' := fun b u e => by
  have hn := x.fresh hp
  by_cases hb : b = a
  · subst hb; rw [upd_same] at e; cases e; exact new
  · rw [upd_ne hb] at e
    exact (x b u e).stay (fun c v _ q => k c v q) (fun c q => by rw [upd_ne (ne_of_none q hn)]; exact q) fun c xs q => by rw [upd_ne (ne_of_none q hn)]; exact q
end
/-- what may be read as u: it is u, or a known u -/
def Rd (H : Hp) (a : Addr) (u : HO) : Prop := H a = some u ∨ ∃ o, H a = some (.frz o u)
theorem Rd.ok {P : Program} {w : World} {H : Hp} {h : Heap} {a : Addr} {u : HO} (r : Rd H a u) (x : HOk P w H h) : ObjOk P w H h a u := by
  rcases r with r | ⟨o, r⟩
  · exact x a u r
  · obtain ⟨_, q⟩ := x a _ r
    exact q
/-- what may be written -/
def Mut : Option HO → Prop
  | some (.lst _) => True
  | some (.dK _) => True
  | some (.dT _) => True
  | some (.set _ _) => True
  | some (.ins _ _ _) => True
  | some (.ext _) => True
  | _ => False
section
variable {P : Program} {w : World} {H : Hp} {h h' : Heap} {x e : Addr} {o' : HO}
/-- the object at e is changed: x itself, or the dict of the instance x -/
theorem HOk.write (ok : HOk P w H h) (mu : Mut (H x)) (he : e = x ∨ H e = some (.own x)) (k : ∀ b u, b ≠ e → h.get? b = some u → h'.get? b = some u) (heo : ∃ u, h'.get? e = some u)
    (new : ObjOk P w (upd H x o') h' x o') : HOk P w (upd H x o') h' := fun b u q => by
  have nown : ∀ c y, H c = some (.own y) → c ≠ x := fun c y r z => by subst z; rw [r] at mu; exact mu
  have ntup : ∀ c xs, H c = some (.tup xs) → c ≠ x := fun c xs r z => by subst z; rw [r] at mu; exact mu
  by_cases hb : b = x
  · subst hb; rw [upd_same] at q; cases q; exact new
  · rw [upd_ne hb] at q
    by_cases hbe : b = e
    · have q' : H b = some (.own x) := by
        rcases he with z | z
        · exact absurd (hbe.trans z) hb
        · rw [hbe]; exact z
      rw [q] at q'; cases q'
      obtain ⟨v, hv⟩ := heo
      exact ⟨v, by rw [hbe]; exact hv⟩
    · refine (ok b u q).stay (fun c v hc r => k c v ?_ r) (fun c r => by rw [upd_ne (nown c b r)]; exact r) fun c xs r => by rw [upd_ne (ntup c xs r)]; exact r
      rcases hc with rfl | hc
      · exact hbe
      · rintro rfl
        rcases he with z | z
        · exact nown c b hc z
        · rw [hc] at z; cases z; exact hb rfl
end
/-! ### kept unless tracked; of the frames at fs (the callers') the slots may change (an exception that passes writes there); of the records at ex (iterators) nothing is said -/
structure Un (fs ex : List Addr) (H H' : Hp) (h h' : Heap) : Prop where
  keep : ∀ b o, h.get? b = some o → H b = none → b ∉ fs → b ∉ ex → h'.get? b = some o
  slot : ∀ b o, h.get? b = some o → H b = none → b ∈ fs → b ∉ ex → ∃ sl, h'.get? b = some { o with slots := sl }
  free : ∀ b o, h.get? b = some o → H b = none → b ∉ ex → H' b = none
  there : ∀ b o, h.get? b = some o → b ∉ ex → ∃ o', h'.get? b = some o'
  tups : ∀ b xs, H b = some (.tup xs) → H' b = some (.tup xs)
  frzs : ∀ b o u, H b = some (.frz o u) → H' b = some (.frz o u)
  tbls : ∀ b ps, H b = some (.tbl ps) → ∃ more, H' b = some (.tbl (ps ++ more))
section
variable {fs fs' ex ex' : List Addr} {H H1 H2 : Hp} {h h1 h2 h' : Heap} {a x e : Addr} {o : HO}
theorem Un.any (u : Un fs ex H H1 h h1) {b : Addr} {ob : Obj} (q : h.get? b = some ob) (n : H b = none) (hx : b ∉ ex) : ∃ sl, h1.get? b = some { ob with slots := sl } := by
  by_cases hb : b ∈ fs
  · exact u.slot b ob q n hb hx
  · exact ⟨ob.slots, u.keep b ob q n hb hx⟩
theorem Un.kept (k : ∀ b u, h.get? b = some u → h'.get? b = some u) : Un fs ex H H h h' :=
  ⟨fun b ob q _ _ _ => k b ob q, fun b ob q _ _ _ => ⟨ob.slots, k b ob q⟩, fun _ _ _ n _ => n, fun b ob q _ => ⟨ob, k b ob q⟩, fun _ _ q => q, fun _ _ _ q => q, fun _ ps q => ⟨#[], by rw [q]; simp⟩⟩
theorem Un.refl : Un fs ex H H h h := Un.kept fun _ _ q => q
theorem Un.laid (k : ∀ b u, h.get? b = some u → h'.get? b = some u) (hp : h.objs.size ≤ a) (hn : H a = none) : Un fs ex H (upd H a o) h h' where
  keep := fun b u q _ _ _ => k b u q
  slot := fun b u q _ _ _ => ⟨u.slots, k b u q⟩
  free := fun b u q n _ => by rw [upd_ne (Nat.ne_of_lt (Nat.lt_of_lt_of_le (Heap.lt_size q) hp))]; exact n
  there := fun b u q _ => ⟨u, k b u q⟩
  tups := fun b xs q => by rw [upd_ne (ne_of_none q hn)]; exact q
  frzs := fun b u xs q => by rw [upd_ne (ne_of_none q hn)]; exact q
  tbls := fun b ps q => ⟨#[], by rw [upd_ne (ne_of_none q hn), q]; simp⟩
theorem Un.write (mu : Mut (H x)) (he : e = x ∨ H e = some (.own x)) (k : ∀ b u, b ≠ e → h.get? b = some u → h'.get? b = some u) (heo : ∃ u, h'.get? e = some u) : Un fs ex H (upd H x o) h h' := by
  have hx : ∀ b, H b = none → b ≠ x := fun b n z => by subst z; rw [n] at mu; exact mu
  have hb : ∀ b, H b = none → b ≠ e := fun b n z => by
    subst z
    rcases he with r | r
    · exact hx b n r
    · rw [n] at r; cases r
  have hm : ∀ b u, H b = some u → ¬ Mut (some u) → b ≠ x := fun b u q nm z => by subst z; rw [q] at mu; exact nm mu
  refine ⟨fun b u q n _ _ => k b u (hb b n) q, fun b u q n _ _ => ⟨u.slots, k b u (hb b n) q⟩, fun b u q n _ => by rw [upd_ne (hx b n)]; exact n, fun b u q _ => ?_,
    fun b xs q => by rw [upd_ne (hm b _ q fun z => z)]; exact q, fun b u xs q => by rw [upd_ne (hm b _ q fun z => z)]; exact q, fun b ps q => ⟨#[], by rw [upd_ne (hm b _ q fun z => z), q]; simp⟩⟩
  by_cases hbe : b = e
  · subst hbe; exact heo
  · exact ⟨u, k b u hbe q⟩
end
/-! ### the heap without what is tracked -/
def trk (h : Heap) (H : Hp) : List Addr := (List.range h.objs.size).filter fun a => (H a).isSome
def hidT (h : Heap) (H : Hp) : Heap := PySem.W.hideAll h (trk h H)
theorem hidT_size (h : Heap) (H : Hp) : (hidT h H).objs.size = h.objs.size := PySem.W.hideAll_size _ _
theorem hidT_get {h : Heap} {H : Hp} {b : Addr} {o : Obj} (e : h.get? b = some o) (n : H b = none) : (hidT h H).get? b = some o :=
  PySem.W.hideAll_get _ e fun hm => by
    have q : (H b).isSome = true := (List.mem_filter.mp hm).2
    rw [n] at q; simp at q
theorem of_hidT {h : Heap} {H : Hp} {b : Addr} {o : Obj} (e : (hidT h H).get? b = some o) : h.get? b = some o ∧ H b = none := by
  have e' : h.get? b = some o := PySem.W.of_hideAll (trk h H) e
  refine ⟨e', ?_⟩
  cases q : H b with
  | none => rfl
  | some x =>
    have hm : b ∈ trk h H := List.mem_filter.mpr ⟨List.mem_range.mpr (Heap.lt_size e'), by simp [q]⟩
    have z : (hidT h H).get? b = none := PySem.W.hideAll_none (trk h H) hm
    rw [z] at e; cases e
/-! ### OpenK's ledger, filled with every new object but one -/
end L2
namespace L2
open PySem PySem.Spec PyProof.Rows
/-- the module's facts, over the base: the heap at the law's entry without what is tracked there -/
structure Mod (K : PySem.W.Frag) (mg : Str → Option Value) (base : Heap) : Prop where
  kin : K.In base
  glob : base.Ns mainGlobals mg
  blt : ∃ mb, base.Ns builtinsNs mb ∧ ∀ x : Str, x ≠ "__name__" → mb x = bootBuiltins x
  nolimit : base.NoLimit
/-- the context: a def's body (or a comprehension's block) running. base: fixed through the whole law; s₀, H₀: the entry; outer: the frames whose slots others may change (a def's callers); stack: all frames that run;
   ex: iterators that were made ahead of the entry and are walked here (a comprehension's); fn: the names whose cells were made at the entry (a def: all; a comprehension's block: its own); calm: not within an except suite; pn: pins that every state bears; xe: what is wanted of an exception that leaves the code -/
structure Cx where
  prog : Program
  w : World
  K : PySem.W.Frag
  mg : Str → Option Value
  base : Heap
  A : Around
  N : List Str
  s₀ : Shared
  H₀ : Hp
  env : Env
  outer : List Env
  stack : List Env
  ex : List Addr
  fn : Str → Bool
  calm : Bool
  pn : List (Addr × Obj)
  xe : Value → Shared → Prop
/-- the callers' frames -/
def frs (l : List Env) : List Addr := l.filterMap (·.frame)
abbrev Cx.fs (X : Cx) : List Addr := frs X.outer
def Vis (sc : Scope) (x : Str) : Prop := sc.names.lookup x = some .local ∨ sc.names.lookup x = some .cell ∨ sc.names.lookup x = some .free
def Loc (sc : Scope) (x : Str) : Prop := sc.names.lookup x = some .local ∨ sc.names.lookup x = some .cell
def Look (env : Env) (h : Heap) (m : Str → Option Value) (x : Str) (u : Value) : Prop :=
  (env.kindOf x = some .local ∧ m x = some u) ∨ ((env.kindOf x = some .cell ∨ env.kindOf x = some .free) ∧ ∃ c, env.cells.lookup x = some c ∧ h.IsCell c (some u))
structure Cx.Ok (X : Cx) : Prop where
  mod : Mod X.K X.mg X.base
  kind : X.env.scope.kind = .function
  glob : X.env.globals = mainGlobals
  blt : X.env.builtins = builtinsNs
  above : X.s₀.heap.objs.size ≤ X.env.locals
  inj : ∀ x y c, X.env.cells.lookup x = some c → X.env.cells.lookup y = some c → x = y
  has : ∀ x, (X.env.kindOf x = some .cell ∨ X.env.kindOf x = some .free) → ∃ c, X.env.cells.lookup x = some c
  cab : ∀ x c, X.fn x = true → X.env.cells.lookup x = some c → X.s₀.heap.objs.size ≤ c
  hd : X.calm = true → X.A.handled = none
  frames : X.A.frames = some X.stack
  stk : X.stack = X.outer ∨ (X.stack = X.env :: X.outer ∧ X.env.frame = some X.env.locals)
  exf : ∀ b ∈ X.ex, b ≠ X.env.locals ∧ ∀ x c, X.env.cells.lookup x = some c → c ≠ b
  bs : ∀ b o, X.base.get? b = some o → X.s₀.heap.get? b = some o ∧ X.H₀ b = none
  bsz : X.base.objs.size ≤ X.s₀.heap.objs.size
  noex : ∀ b o, X.base.get? b = some o → b ∉ X.ex
  exfs : ∀ b ∈ X.ex, b ∉ X.fs
  funs : X.s₀.heap.FunFrames X.base X.outer
  frf : ∀ b ∈ X.fs, X.H₀ b = none
structure Inv (X : Cx) (pins : List (Addr × Obj)) (σ : List (Option V)) (H : Hp) (s : Shared) : Prop where
  ok : X.Ok
  os : s.os = X.s₀.os
  bare : AllBare s.gens
  base : Un X.fs X.ex X.H₀ H X.s₀.heap s.heap
  loc : ∃ m, s.heap.Ns X.env.locals m ∧ ∀ (i : Nat) (x : Str) (v : V), X.N[i]? = some x → σ[i]? = some (some v) → Vis X.env.scope x → ∃ u, RelV v u ∧ Look X.env s.heap m x u
  cell : ∀ x c, X.env.cells.lookup x = some c → ∃ v, s.heap.IsCell c v
  free : H X.env.locals = none
  freeC : ∀ x c, X.env.cells.lookup x = some c → H c = none
  pin : ∀ p ∈ X.pn ++ pins, s.heap.get? p.1 = some p.2 ∧ H p.1 = none ∧ p.1 ≠ X.env.locals ∧ p.1 ∉ X.fs ∧ ∀ v, p.2.data ≠ .cell v
  hok : HOk X.prog X.w H s.heap
  len : σ.length = X.N.length
section
variable {X : Cx} {pins : List (Addr × Obj)} {σ : List (Option V)} {H H' : Hp} {s : Shared} {h' : Heap}
theorem Cx.Ok.nofr (ok : X.Ok) {b : Addr} {o : Obj} (e : X.base.get? b = some o) : b ∉ X.fs := fun hb => by
  have := (ok.funs.mem hb).1
  rw [e] at this; cases this
theorem Inv.bs (I : Inv X pins σ H s) : ∀ b o, X.base.get? b = some o → s.heap.get? b = some o ∧ H b = none := fun b o e =>
  ⟨I.base.keep b o (I.ok.bs b o e).1 (I.ok.bs b o e).2 (I.ok.nofr e) (I.ok.noex b o e), I.base.free b o (I.ok.bs b o e).1 (I.ok.bs b o e).2 (I.ok.noex b o e)⟩
theorem Inv.bk (I : Inv X pins σ H s) : ∀ b o, X.base.get? b = some o → s.heap.get? b = some o := fun b o e => (I.bs b o e).1
theorem Inv.mod (I : Inv X pins σ H s) : Mod X.K X.mg X.base := I.ok.mod
theorem Inv.kIn (I : Inv X pins σ H s) : X.K.In s.heap := I.ok.mod.kin.keeps I.bk
/-- the frame over the base: for OpenK's rules (K.In X.base is I.mod.kin) -/
theorem Inv.fr (I : Inv X pins σ H s) : ∃ m, Fr X.base X.env.locals s.heap m :=
  let ⟨m, hn, _⟩ := I.loc
  ⟨m, hn, I.bk, Nat.le_trans I.ok.bsz I.ok.above⟩
theorem Inv.lt (I : Inv X pins σ H s) : X.env.locals < s.heap.objs.size := let ⟨_, hn, _⟩ := I.loc; hn.lt
theorem Inv.sz (I : Inv X pins σ H s) : X.s₀.heap.objs.size ≤ s.heap.objs.size := Nat.le_trans I.ok.above (Nat.le_of_lt I.lt)
theorem Inv.nofs (I : Inv X pins σ H s) {a : Addr} (h : s.heap.objs.size ≤ a) : a ∉ X.fs := fun hb => by
  obtain ⟨_, o, ho, _⟩ := I.ok.funs.mem hb
  exact absurd (Nat.lt_of_lt_of_le (Heap.lt_size ho) (Nat.le_trans I.sz h)) (Nat.lt_irrefl _)
theorem Inv.cne (I : Inv X pins σ H s) : ∀ x c, X.env.cells.lookup x = some c → c ≠ X.env.locals := fun x c e z => by
  obtain ⟨v, o, ho, hd⟩ := I.cell x c e
  obtain ⟨m, ⟨o', es, ep, ho', hd', _⟩, _⟩ := I.loc
  rw [z, ho'] at ho; cases ho; rw [hd'] at hd; cases hd
theorem Inv.funs (I : Inv X pins σ H s) : s.heap.FunFrames X.base X.outer := by
  have all : ∀ (l : List Env), (∀ b ∈ frs l, b ∈ X.fs) → X.s₀.heap.FunFrames X.base l → s.heap.FunFrames X.base l := by
    intro l
    induction l with
    | nil => intro _ _; trivial
    | cons env r ih =>
      intro hs hl
      obtain ⟨hk, ⟨L, o, hf, hn, ho, hd⟩, hr⟩ := hl
      have hL : L ∈ X.fs := hs L (by unfold frs; rw [List.filterMap_cons, hf]; exact List.mem_cons_self)
      obtain ⟨sl, e⟩ := I.base.slot L o ho (I.ok.frf L hL) hL fun z => I.ok.exfs L z hL
      exact ⟨hk, ⟨L, _, hf, hn, e, hd⟩, ih (fun b hb => hs b (by unfold frs; rw [List.filterMap_cons, hf]; exact List.mem_cons_of_mem _ hb)) hr⟩
  exact all X.outer (fun _ hb => hb) I.ok.funs
/-- the frames that run, for a call -/
theorem Inv.stack (I : Inv X pins σ H s) : s.heap.FunFrames X.base X.stack := by
  rcases I.ok.stk with e | ⟨e, hf⟩
  · rw [e]; exact I.funs
  · rw [e]
    obtain ⟨m, hn, _⟩ := I.loc
    refine .cons (by rw [I.ok.kind]; decide) hf hn ?_ I.funs
    exact Heap.get?_none_of_le (Nat.le_trans I.ok.bsz I.ok.above)
theorem Inv.stkSub (I : Inv X pins σ H s) : ∀ b ∈ frs X.stack, b ∈ X.env.locals :: X.fs := fun b hb => by
  rcases I.ok.stk with e | ⟨e, hf⟩
  · rw [e] at hb; exact List.mem_cons_of_mem _ hb
  · rw [e] at hb
    unfold frs at hb
    rw [List.filterMap_cons, hf] at hb
    exact hb
theorem Inv.stkFree (I : Inv X pins σ H s) : ∀ b ∈ frs X.stack, H b = none := fun b hb => by
  rcases List.mem_cons.mp (I.stkSub b hb) with e | hb
  · rw [e]; exact I.free
  · obtain ⟨_, o, ho, _⟩ := I.ok.funs.mem hb
    exact I.base.free b o ho (I.ok.frf b hb) fun z => I.ok.exfs b z hb
/-- THE STEP: the untracked objects but the frame and the records at ch are kept (the callers' frames up to slots), the frame's map is kept, the new abstract heap is held -/
theorem Inv.step {g' : Array GenState} {t' : Nat} {d' : Drawn} {ch : List Addr} (I : Inv X pins σ H s)
    (hch : ∀ b ∈ ch, (b ∈ X.ex ∨ X.s₀.heap.objs.size ≤ b) ∧ b ≠ X.env.locals ∧ (∀ x c, X.env.cells.lookup x = some c → c ≠ b) ∧ ∀ p ∈ X.pn ++ pins, p.1 ≠ b)
    (keep : ∀ b o, b ≠ X.env.locals → b ∉ X.fs → b ∉ ch → s.heap.get? b = some o → H b = none → h'.get? b = some o)
    (slot : ∀ b o, b ≠ X.env.locals → b ∈ X.fs → b ∉ ch → s.heap.get? b = some o → H b = none → ∃ sl, h'.get? b = some { o with slots := sl }) (free : ∀ b o, b ∉ ch → s.heap.get? b = some o → H b = none → H' b = none)
    (there : ∀ b o, b ∉ ch → s.heap.get? b = some o → ∃ o', h'.get? b = some o')
    (tups : ∀ b xs, H b = some (.tup xs) → H' b = some (.tup xs)) (frzs : ∀ b o u, H b = some (.frz o u) → H' b = some (.frz o u)) (tbls : ∀ b ps, H b = some (.tbl ps) → ∃ more, H' b = some (.tbl (ps ++ more)))
    (ns : ∀ m, s.heap.Ns X.env.locals m → h'.Ns X.env.locals m) (hok : HOk X.prog X.w H' h') (hg : AllBare g') :
    Inv X pins σ H' { s with heap := h', gens := g', drawn := d', toks := t' } := by
  have neL : ∀ b o, X.s₀.heap.get? b = some o → b ≠ X.env.locals := fun b o e => Nat.ne_of_lt (Nat.lt_of_lt_of_le (Heap.lt_size e) I.ok.above)
  have neC : ∀ b o, X.s₀.heap.get? b = some o → b ∉ X.ex → b ∉ ch := fun b o e hx hb => by
    rcases (hch b hb).1 with z | z
    · exact hx z
    · exact absurd (Nat.lt_of_lt_of_le (Heap.lt_size e) z) (Nat.lt_irrefl _)
  have cellK : ∀ x c, X.env.cells.lookup x = some c → ∀ v, s.heap.IsCell c v → h'.IsCell c v := fun x c e v ⟨o, ho, hd⟩ => by
    have nch : c ∉ ch := fun z => (hch c z).2.2.1 x c e rfl
    by_cases hc : c ∈ X.fs
    · obtain ⟨sl, q⟩ := slot c o (I.cne x c e) hc nch ho (I.freeC x c e)
      exact ⟨_, q, hd⟩
    · exact ⟨o, keep c o (I.cne x c e) hc nch ho (I.freeC x c e), hd⟩
  refine ⟨I.ok, I.os, hg, ⟨fun b o e n hb hx => ?_, fun b o e n hb hx => ?_, fun b o e n hx => ?_, fun b o e hx => ?_, fun b xs e => tups b xs (I.base.tups b xs e), fun b o xs e => frzs b o xs (I.base.frzs b o xs e), fun b ps e => ?_⟩, ?_, fun x c e => ?_, ?_, fun x c e => ?_, fun p hp => ?_, hok, I.len⟩
  · exact keep b o (neL b o e) hb (neC b o e hx) (I.base.keep b o e n hb hx) (I.base.free b o e n hx)
  · obtain ⟨sl, e1⟩ := I.base.slot b o e n hb hx
    obtain ⟨sl', e2⟩ := slot b _ (neL b o e) hb (neC b o e hx) e1 (I.base.free b o e n hx)
    exact ⟨sl', e2⟩
  · obtain ⟨o', e1⟩ := I.base.there b o e hx
    exact free b o' (neC b o e hx) e1 (I.base.free b o e n hx)
  · obtain ⟨o', e1⟩ := I.base.there b o e hx
    exact there b o' (neC b o e hx) e1
  · obtain ⟨m1, e1⟩ := I.base.tbls b ps e
    obtain ⟨m2, e2⟩ := tbls b _ e1
    exact ⟨m1 ++ m2, by rw [e2, Array.append_assoc]⟩
  · obtain ⟨m, hn, hl⟩ := I.loc
    refine ⟨m, ns m hn, fun i x v e1 e2 e3 => ?_⟩
    obtain ⟨u, r, l⟩ := hl i x v e1 e2 e3
    refine ⟨u, r, ?_⟩
    rcases l with l | ⟨k, c, e, z⟩
    · exact .inl l
    · exact .inr ⟨k, c, e, cellK x c e _ z⟩
  · obtain ⟨v, z⟩ := I.cell x c e
    exact ⟨v, cellK x c e v z⟩
  · obtain ⟨m, ⟨o, _, _, ho, _⟩, _⟩ := I.loc
    exact free _ o (fun z => (hch _ z).2.1 rfl) ho I.free
  · obtain ⟨v, o, ho, hd⟩ := I.cell x c e
    exact free c o (fun z => (hch c z).2.2.1 x c e rfl) ho (I.freeC x c e)
  · obtain ⟨e, n, ne, nf, d⟩ := I.pin p hp
    have nch : p.1 ∉ ch := fun z => (hch p.1 z).2.2.2 p hp rfl
    exact ⟨keep p.1 p.2 ne nf nch e n, free p.1 p.2 nch e n, ne, nf, d⟩
/-- .. where the frame's own object is kept too -/
theorem Inv.un {t' : Nat} (I : Inv X pins σ H s) (u : Un X.fs [] H H' s.heap h') (hok : HOk X.prog X.w H' h') : Inv X pins σ H' { s with heap := h', toks := t' } := by
  obtain ⟨m, ⟨o, es, ep, ho, r⟩, _⟩ := id I.loc
  obtain ⟨sl, hL⟩ := u.any ho I.free (by simp)
  exact I.step (g' := s.gens) (d' := s.drawn) (ch := []) (fun _ z => nomatch z) (fun b o _ hb _ e n => u.keep b o e n hb (by simp)) (fun b o _ hb _ e n => u.slot b o e n hb (by simp)) (fun b o _ e n => u.free b o e n (by simp)) (fun b o _ e => u.there b o e (by simp)) u.tups u.frzs u.tbls (fun m' hm => by
    obtain ⟨o', es', ep', ho', r'⟩ := hm
    rw [ho] at ho'; cases ho'
    exact ⟨_, es', ep', hL, r'⟩) hok I.bare
/-- behind a call (or a comprehension's block): the slots of this frame may have changed too, the records at ch may have turned -/
theorem Inv.call {g' : Array GenState} {t' : Nat} {d' : Drawn} {ch : List Addr} (I : Inv X pins σ H s) (u : Un (frs X.stack) ch H H' s.heap h') (hok : HOk X.prog X.w H' h') (hg : AllBare g')
    (hch : ∀ b ∈ ch, (b ∈ X.ex ∨ X.s₀.heap.objs.size ≤ b) ∧ b ≠ X.env.locals ∧ (∀ x c, X.env.cells.lookup x = some c → c ≠ b) ∧ ∀ p ∈ X.pn ++ pins, p.1 ≠ b) :
    Inv X pins σ H' { s with heap := h', gens := g', drawn := d', toks := t' } := by
  obtain ⟨m, ⟨o, es, ep, ho, r⟩, _⟩ := id I.loc
  obtain ⟨sl, hL⟩ := u.any ho I.free fun z => (hch _ z).2.1 rfl
  exact I.step (ch := ch) hch (fun b o hL hb hc e n => u.keep b o e n (fun z => (List.mem_cons.mp (I.stkSub b z)).elim hL hb) hc) (fun b o _ _ hc e n => u.any e n hc) (fun b o hc e n => u.free b o e n hc) (fun b o hc e => u.there b o e hc) u.tups u.frzs u.tbls (fun m' hm => by
    obtain ⟨o', es', ep', ho', r'⟩ := hm
    rw [ho] at ho'; cases ho'
    exact ⟨_, es', ep', hL, r'⟩) hok hg
/-- an untracked record of ours (an iterator) has turned -/
theorem Inv.turned {t' : Nat} {it : Addr} (I : Inv X pins σ H s) (k : ∀ b o, b ≠ it → s.heap.get? b = some o → h'.get? b = some o) (hn : H it = none) (hL : it ≠ X.env.locals)
    (h1 : it ∈ X.ex ∨ X.s₀.heap.objs.size ≤ it) (h2 : ∀ x c, X.env.cells.lookup x = some c → c ≠ it) (h3 : ∀ p ∈ X.pn ++ pins, p.1 ≠ it) : Inv X pins σ H { s with heap := h', toks := t' } := by
  have nit : ∀ b u, H b = some u → b ≠ it := fun b u e z => by rw [z, hn] at e; cases e
  refine I.step (g' := s.gens) (d' := s.drawn) (ch := [it]) (fun b hb => ?_) (fun b o _ _ hc e _ => k b o (fun z => hc (by simp [z])) e) (fun b o _ _ hc e _ => ⟨o.slots, k b o (fun z => hc (by simp [z])) e⟩) (fun _ _ _ _ n => n)
    (fun b o hc e => ⟨o, k b o (fun z => hc (by simp [z])) e⟩) (fun _ _ e => e) (fun _ _ _ e => e) (fun b ps e => ⟨#[], by rw [e]; simp⟩) (fun m hm => ?_) (fun b u e => ?_) I.bare
  · have e : b = it := by simpa using hb
    subst e
    exact ⟨h1, hL, h2, h3⟩
  · obtain ⟨o, es, ep, ho, r⟩ := hm
    exact ⟨o, es, ep, k _ o (Ne.symm hL) ho, r⟩
  · refine (I.hok b u e).stay (fun c v hc q => k c v ?_ q) (fun _ q => q) fun _ _ q => q
    rcases hc with z | z
    · rw [z]; exact nit b u e
    · exact nit c _ z
theorem Inv.tok (I : Inv X pins σ H s) (t : Nat) : Inv X pins σ H { s with toks := t } := I.un (h' := s.heap) (t' := t) Un.refl I.hok
/-- all objects kept -/
theorem Inv.kept {t' : Nat} (I : Inv X pins σ H s) (k : ∀ b u, s.heap.get? b = some u → h'.get? b = some u) : Inv X pins σ H { s with heap := h', toks := t' } := I.un (Un.kept k) (I.hok.kept k)
/-- a new object laid and tracked -/
theorem Inv.laid {a : Addr} {o : HO} {t' : Nat} (I : Inv X pins σ H s) (k : ∀ b u, s.heap.get? b = some u → h'.get? b = some u) (hp : s.heap.objs.size ≤ a) (new : ObjOk X.prog X.w (upd H a o) h' a o) :
    Inv X pins σ (upd H a o) { s with heap := h', toks := t' } := I.un (Un.laid k hp (I.hok.fresh hp)) (I.hok.laid k hp new)
/-- an object written -/
theorem Inv.write {x e : Addr} {o : HO} {t' : Nat} (I : Inv X pins σ H s) (mu : Mut (H x)) (he : e = x ∨ H e = some (.own x)) (k : ∀ b u, b ≠ e → s.heap.get? b = some u → h'.get? b = some u) (heo : ∃ u, h'.get? e = some u)
    (new : ObjOk X.prog X.w (upd H x o) h' x o) : Inv X pins σ (upd H x o) { s with heap := h', toks := t' } := I.un (Un.write mu he k heo) (I.hok.write mu he k heo new)
/-- forgetting slots, pins -/
theorem Inv.weak {σ' : List (Option V)} (I : Inv X pins σ H s) (hl : σ'.length = σ.length) (w : ∀ (i : Nat) v, σ'[i]? = some (some v) → σ[i]? = some (some v)) : Inv X pins σ' H s :=
  ⟨I.ok, I.os, I.bare, I.base, let ⟨m, hn, hl'⟩ := I.loc; ⟨m, hn, fun i x v e1 e2 e3 => hl' i x v e1 (w i v e2) e3⟩, I.cell, I.free, I.freeC, I.pin, I.hok, hl.trans I.len⟩
theorem Inv.pins_of {pins' : List (Addr × Obj)} (I : Inv X pins σ H s) (h : ∀ p ∈ pins', s.heap.get? p.1 = some p.2 ∧ H p.1 = none ∧ p.1 ≠ X.env.locals ∧ p.1 ∉ X.fs ∧ ∀ v, p.2.data ≠ .cell v) : Inv X pins' σ H s :=
  ⟨I.ok, I.os, I.bare, I.base, I.loc, I.cell, I.free, I.freeC, fun p hp => (List.mem_append.mp hp).elim (fun z => I.pin p (List.mem_append_left _ z)) (h p), I.hok, I.len⟩
theorem nodup_ix {N : List Str} (hN : N.Nodup) {i j : Nat} {x : Str} (a : N[i]? = some x) (b : N[j]? = some x) : i = j := by
  obtain ⟨h1, e1⟩ := List.getElem?_eq_some_iff.mp a
  obtain ⟨h2, e2⟩ := List.getElem?_eq_some_iff.mp b
  exact (List.getElem_inj hN).mp (e1.trans e2.symm)
/-- a name is stored; what changed -/
theorem store_ok2 {M : Model} {A : Around} {E : Value → Shared → Prop} {i : Nat} {x : Str} {v : V} {u : Value} {Q : Unit → Shared → Prop} (I : Inv X pins σ H s) (hN : X.N.Nodup) (hi : X.N[i]? = some x) (hx : Loc X.env.scope x) (r : RelV v u)
    (h : ∀ s', Inv X pins (σ.set i (some v)) H s' → (∃ a, Heap.SameBut a s.heap s'.heap ∧ (a = X.env.locals ∨ X.env.cells.lookup x = some a)) → Q () s') (hf : X.fn x = true ∨ X.env.scope.names.lookup x = some .local := by first | exact .inl rfl | exact .inr rfl | assumption) : wpAny M A (storeName X.env x u) Q E s := by
  obtain ⟨m, hn, hl⟩ := id I.loc
  have hcls : (X.env.scope.kind == .class || (X.env.scope.kind == .module && X.env.locals != X.env.globals)) = false := by rw [I.ok.kind]; rfl
  have hiσ : i < σ.length := by rw [I.len]; exact (List.getElem?_eq_some_iff.mp hi).1
  have cne := I.cne
  have tracked : ∀ {a : Addr} {h' : Heap}, (∃ o, s.heap.get? a = some o ∧ H a = none) → Heap.SameBut a s.heap h' → HOk X.prog X.w H h' := fun {a h'} ha hs b ob e => by
    obtain ⟨_, _, hfree⟩ := ha
    refine (I.hok b ob e).stay (fun c w' hc q => (hs.2 c ?_).trans q) (fun _ q => q) fun _ _ q => q
    rintro rfl
    rcases hc with rfl | hc
    · rw [hfree] at e; cases e
    · rw [hfree] at hc; cases hc
  rcases hx with hk | hk
  · refine wpAny_storeName_local hk hn (fun h' hn' hs => ?_) hcls
    obtain ⟨oL, _, _, hoL, _⟩ := id hn
    refine h _ ⟨I.ok, I.os, I.bare, ⟨fun b o e n hb hx => ?_, fun b o e n hb hx => ?_, I.base.free, fun b o e hx => ?_, I.base.tups, I.base.frzs, I.base.tbls⟩, ⟨_, hn', fun j y v' e1 e2 e3 => ?_⟩, fun y c e => ?_, I.free, I.freeC, fun p hp => ?_, tracked ⟨oL, hoL, I.free⟩ hs, by simpa using I.len⟩ ⟨_, hs, .inl rfl⟩
    · exact (hs.2 b (Nat.ne_of_lt (Nat.lt_of_lt_of_le (Heap.lt_size e) I.ok.above))).trans (I.base.keep b o e n hb hx)
    · obtain ⟨sl, e1⟩ := I.base.slot b o e n hb hx
      exact ⟨sl, (hs.2 b (Nat.ne_of_lt (Nat.lt_of_lt_of_le (Heap.lt_size e) I.ok.above))).trans e1⟩
    · obtain ⟨o', e1⟩ := I.base.there b o e hx
      exact ⟨o', (hs.2 b (Nat.ne_of_lt (Nat.lt_of_lt_of_le (Heap.lt_size e) I.ok.above))).trans e1⟩
    · by_cases hj : j = i
      · subst hj
        rw [hi] at e1; cases e1
        rw [List.getElem?_set_self hiσ] at e2
        cases e2
        exact ⟨u, r, .inl ⟨hk, by simp⟩⟩
      · rw [List.getElem?_set_ne (Ne.symm hj)] at e2
        obtain ⟨u', r', q⟩ := hl j y v' e1 e2 e3
        refine ⟨u', r', ?_⟩
        rcases q with ⟨k, e⟩ | ⟨k, c, e, z⟩
        · refine .inl ⟨k, ?_⟩
          have : y ≠ x := fun e => hj (nodup_ix hN e1 (e ▸ hi))
          simp [this, e]
        · exact .inr ⟨k, c, e, z.sameBut hs (cne y c e)⟩
    · obtain ⟨w', z⟩ := I.cell y c e
      exact ⟨w', z.sameBut hs (cne y c e)⟩
    · obtain ⟨e, n, ne, nf, d⟩ := I.pin p hp
      exact ⟨(hs.2 p.1 ne).trans e, n, ne, nf, d⟩
  · have hfn : X.fn x = true := by
      rcases hf with z | z
      · exact z
      · rw [z] at hk; cases hk
    obtain ⟨c, hc⟩ := I.ok.has x (.inl hk)
    obtain ⟨w', z⟩ := I.cell x c hc
    refine wpAny_storeName_cell I.ok.kind hk hc z (fun h' hc' hs => ?_)
    obtain ⟨oc, hoc, hocd⟩ := id z
    refine h { s with heap := h' } ⟨I.ok, I.os, I.bare, ⟨fun b o e n hb hx => ?_, fun b o e n hb hx => ?_, I.base.free, fun b o e hx => ?_, I.base.tups, I.base.frzs, I.base.tbls⟩, ⟨m, hn.sameBut hs (Ne.symm (cne x c hc)), fun j y v' e1 e2 e3 => ?_⟩, fun y c' e => ?_, I.free, I.freeC, fun p hp => ?_, tracked ⟨oc, hoc, I.freeC x c hc⟩ hs, by simpa using I.len⟩ ⟨c, hs, .inr hc⟩
    · exact (hs.2 b (Nat.ne_of_lt (Nat.lt_of_lt_of_le (Heap.lt_size e) (I.ok.cab x c hfn hc)))).trans (I.base.keep b o e n hb hx)
    · obtain ⟨sl, e1⟩ := I.base.slot b o e n hb hx
      exact ⟨sl, (hs.2 b (Nat.ne_of_lt (Nat.lt_of_lt_of_le (Heap.lt_size e) (I.ok.cab x c hfn hc)))).trans e1⟩
    · obtain ⟨o', e1⟩ := I.base.there b o e hx
      exact ⟨o', (hs.2 b (Nat.ne_of_lt (Nat.lt_of_lt_of_le (Heap.lt_size e) (I.ok.cab x c hfn hc)))).trans e1⟩
    · by_cases hj : j = i
      · subst hj
        rw [hi] at e1; cases e1
        rw [List.getElem?_set_self hiσ] at e2
        cases e2
        exact ⟨u, r, .inr ⟨.inl hk, c, hc, hc'⟩⟩
      · rw [List.getElem?_set_ne (Ne.symm hj)] at e2
        obtain ⟨u', r', q⟩ := hl j y v' e1 e2 e3
        refine ⟨u', r', ?_⟩
        rcases q with q | ⟨k, c', e, z'⟩
        · exact .inl q
        · refine .inr ⟨k, c', e, z'.sameBut hs ?_⟩
          rintro rfl
          exact hj (nodup_ix hN e1 (I.ok.inj _ _ _ e hc ▸ hi))
    · by_cases hcc : c' = c
      · subst hcc; exact ⟨_, hc'⟩
      · obtain ⟨w2, z2⟩ := I.cell y c' e
        exact ⟨w2, z2.sameBut hs hcc⟩
    · obtain ⟨e, n, ne, nf, d⟩ := I.pin p hp
      refine ⟨(hs.2 p.1 ?_).trans e, n, ne, nf, d⟩
      intro q
      rw [q, hoc] at e
      have q' : oc = p.2 := Option.some.inj e
      exact d w' (by rw [← q']; exact hocd)
theorem store_ok {M : Model} {A : Around} {E : Value → Shared → Prop} {i : Nat} {x : Str} {v : V} {u : Value} {Q : Unit → Shared → Prop} (I : Inv X pins σ H s) (hN : X.N.Nodup) (hi : X.N[i]? = some x) (hx : Loc X.env.scope x) (r : RelV v u)
    (h : ∀ s', Inv X pins (σ.set i (some v)) H s' → Q () s') (hf : X.fn x = true ∨ X.env.scope.names.lookup x = some .local := by first | exact .inl rfl | exact .inr rfl | assumption) : wpAny M A (storeName X.env x u) Q E s :=
  store_ok2 I hN hi hx r (fun s' I' _ => h s' I') hf
/-- behind a call or a block, the state as it is -/
theorem Inv.call' {s' : Shared} {ch : List Addr} (I : Inv X pins σ H s) (ho : s'.os = s.os) (u : Un (frs X.stack) ch H H' s.heap s'.heap) (hok : HOk X.prog X.w H' s'.heap) (hg : AllBare s'.gens)
    (hch : ∀ b ∈ ch, (b ∈ X.ex ∨ X.s₀.heap.objs.size ≤ b) ∧ b ≠ X.env.locals ∧ (∀ x c, X.env.cells.lookup x = some c → c ≠ b) ∧ ∀ p ∈ X.pn ++ pins, p.1 ≠ b) : Inv X pins σ H' s' := by
  obtain ⟨h', g', d', t', o'⟩ := s'
  have e : o' = s.os := ho
  subst e
  exact I.call (g' := g') (t' := t') (d' := d') u hok hg hch
end
/-! ### the judgements -/
/-- an exception: its class, its own dict's address (where it has one), the abstract heap behind it -/
abbrev XK := Value → Option Addr → Hp → Prop
abbrev St := List (Option V)
abbrev VK := V → Hp → Prop
/-- an expression's reading; a test's; an argument list's -/
abbrev TE := St → Hp → VK → Prop
abbrev TT := St → Hp → (Bool → Hp → Prop) → Prop
abbrev TA := St → Hp → (List V → Hp → Prop) → Prop
/-- what is wanted behind a statement -/
structure Ends where
  nx : St → Hp → Prop
  rt : VK
  bk : St → Hp → Prop := fun _ _ => False
  ct : St → Hp → Prop := fun _ _ => False
abbrev TS := Ends → St → Hp → Prop
def EP (X : Cx) (pins : List (Addr × Obj)) (σ : St) (Q : VK) (u : Value) (s' : Shared) : Prop := ∃ v H', Inv X pins σ H' s' ∧ RelV v u ∧ Q v H'
def TP (X : Cx) (pins : List (Addr × Obj)) (σ : St) (Q : Bool → Hp → Prop) (b : Bool) (s' : Shared) : Prop := ∃ H', Inv X pins σ H' s' ∧ Q b H'
def AP (X : Cx) (pins : List (Addr × Obj)) (σ : St) (Q : List V → Hp → Prop) (us : List Value) (s' : Shared) : Prop := ∃ vs H', Inv X pins σ H' s' ∧ Vals vs us ∧ Q vs H'
def SP (X : Cx) (pins : List (Addr × Obj)) (D : Ends) (f : Flow) (s' : Shared) : Prop :=
  match f with
  | .next => ∃ σ' H', Inv X pins σ' H' s' ∧ D.nx σ' H'
  | .brk => ∃ σ' H', Inv X pins σ' H' s' ∧ D.bk σ' H'
  | .cont => ∃ σ' H', Inv X pins σ' H' s' ∧ D.ct σ' H'
  | .ret u => ∃ v σ' H', Inv X pins σ' H' s' ∧ RelV v u ∧ D.rt v H'
def PE (X : Cx) (e : Expr) (t : TE) : Prop :=
  ∀ (pins : List (Addr × Obj)) (s : Shared) (σ : St) (H : Hp) (Q : VK), Inv X pins σ H s → t σ H Q → wpAny (model X.prog X.w) X.A (eval e X.env) (EP X pins σ Q) X.xe s
def PT (X : Cx) (e : Expr) (t : TT) : Prop :=
  ∀ (pins : List (Addr × Obj)) (s : Shared) (σ : St) (H : Hp) (Q : Bool → Hp → Prop), Inv X pins σ H s → t σ H Q → wpAny (model X.prog X.w) X.A (isTrue e X.env (eval e X.env)) (TP X pins σ Q) X.xe s
/-- a test whatever its 'whole' is (and, or) -/
def PW (X : Cx) (e : Expr) (t : TT) : Prop :=
  ∀ (whole : Sem Value) (pins : List (Addr × Obj)) (s : Shared) (σ : St) (H : Hp) (Q : Bool → Hp → Prop), Inv X pins σ H s → t σ H Q → wpAny (model X.prog X.w) X.A (isTrue e X.env whole) (TP X pins σ Q) X.xe s
theorem PW.pt {X : Cx} {e : Expr} {t : TT} (h : PW X e t) : PT X e t := h _
/-- an argument list (no star), from the left -/
def PA (X : Cx) (es : List Expr) (t : TA) : Prop :=
  ∀ (pos : Pos) (pins : List (Addr × Obj)) (s : Shared) (σ : St) (H : Hp) (Q : List V → Hp → Prop), Inv X pins σ H s → t σ H Q → wpAny (model X.prog X.w) X.A (spliced (backTo pos (starEach es X.env))) (AP X pins σ Q) X.xe s
def PS (X : Cx) (st : Stmt) (t : TS) : Prop :=
  ∀ (pins : List (Addr × Obj)) (s : Shared) (σ : St) (H : Hp) (D : Ends), Inv X pins σ H s → t D σ H → wpAny (model X.prog X.w) X.A (exec st X.env) (SP X pins D) X.xe s
def PSs (X : Cx) (st : List Stmt) (t : TS) : Prop :=
  ∀ (pins : List (Addr × Obj)) (s : Shared) (σ : St) (H : Hp) (D : Ends), Inv X pins σ H s → t D σ H → wpAny (model X.prog X.w) X.A (execs st X.env) (SP X pins D) X.xe s
/-- weaken the end -/
theorem thn {α : Type} {t : Sem α} {Q Q' : α → Shared → Prop} {M : Model} {A : Around} {E : Value → Shared → Prop} {s : Shared} (h : wpAny M A t Q E s) (hQ : ∀ a s, Q a s → Q' a s) : wpAny M A t Q' E s := wpAny_mono h hQ fun _ _ x => x
end L2
namespace L2
open PySem PySem.Spec PyProof.Rows
section
variable {X : Cx}
/-- two expressions in a row -/
theorem bin {a b : Expr} {ta tb : TE} (ha : PE X a ta) (hb : PE X b tb) {pins : List (Addr × Obj)} {s : Shared} {σ : St} {H : Hp} {R : V → V → Hp → Prop} (I : Inv X pins σ H s) (h : ta σ H fun x H1 => tb σ H1 fun y H2 => R x y H2)
    {α : Type} {Q : α → Shared → Prop} {f : Value → Value → Sem α}
    (hf : ∀ v u s2 x y H2, Inv X pins σ H2 s2 → RelV x v → RelV y u → R x y H2 → wpAny (model X.prog X.w) X.A (f v u) Q X.xe s2) :
    wpAny (model X.prog X.w) X.A (eval a X.env) (fun v s₁ => wpAny (model X.prog X.w) X.A (eval b X.env) (fun u s₂ => wpAny (model X.prog X.w) X.A (f v u) Q X.xe s₂) X.xe s₁) X.xe s := by
  refine thn (ha pins s σ H _ I h) fun v s1 ⟨x, H1, I1, r1, q1⟩ => ?_
  refine thn (hb pins s1 σ H1 _ I1 q1) fun u s2 ⟨y, H2, I2, r2, q2⟩ => ?_
  exact hf v u s2 x y H2 I2 r1 r2 q2
/-! ### names and constants -/
def tVar (i : Nat) : TE := fun σ H Q => ∃ v, σ[i]? = some (some v) ∧ Q v H
def tC (v : V) : TE := fun _ H Q => Q v H
theorem pe_var {i : Nat} {x : Str} {pos : Pos} (hN : X.N[i]? = some x) (hv : Vis X.env.scope x) (hd : (x == ("__debug__" : Str)) = false := by decide) (hcd : (x == ("__classdict__" : Str)) = false := by decide) : PE X (.Name x pos) (tVar i) := by
  intro pins s σ H Q I h
  obtain ⟨v, e, h⟩ := h
  obtain ⟨m, hn, hl⟩ := I.loc
  obtain ⟨u, r, l⟩ := hl i x v hN e hv
  have fin : EP X pins σ Q u s := ⟨v, H, I, r, h⟩
  rcases l with ⟨hk, hm⟩ | ⟨hk, c, hc, hcell⟩
  · exact wpAny_Name (wpAny_loadName_local I.ok.kind hk hn hm fin) hd
  · rcases hk with hk | hk
    · exact wpAny_Name (wpAny_loadName_cell I.ok.kind hk hc hcell fin) hd
    · exact wpAny_Name (wpAny_loadName_free I.ok.kind hk hc hcell fin hcd) hd
theorem pe_int {i j pos} : PE X (.Constant (.int i) j pos) (tC (.int i)) := fun _ _ _ H _ I h => wpAny_Constant_int ⟨.int i, H, I.tok _, ⟨_, rfl⟩, h⟩
theorem pe_bl {b j pos} : PE X (.Constant (.bool b) j pos) (tC (.bl b)) := fun _ _ _ H _ I h => Constant_bool ⟨.bl b, H, I, rfl, h⟩
theorem pe_non {j pos} : PE X (.Constant .none j pos) (tC .non) := fun _ _ _ H _ I h => Constant_none ⟨.non, H, I, rfl, h⟩
theorem pe_str {x j pos} : PE X (.Constant (.str x) j pos) (tC (.str x)) := fun _ _ _ H _ I h => Calls.Constant_str ⟨.str x, H, I.tok _, ⟨_, rfl⟩, h⟩
/-- a global name of the def -/
def Gl (X : Cx) (x : Str) : Prop := X.env.kindOf x = some .globalImplicit
theorem ld_glob {E : Value → Shared → Prop} {pins : List (Addr × Obj)} {s : Shared} {σ : St} {H : Hp} {x : Str} {u : Value} {pos : Pos} {Q : Value → Shared → Prop} (I : Inv X pins σ H s) (hg : Gl X x) (hm : X.mg x = some u) (h : Q u s)
    (hd : (x == ("__debug__" : Str)) = false := by decide) : wpAny (model X.prog X.w) X.A (eval (.Name x pos) X.env) Q E s :=
  Calls.Name_function_global I.ok.kind hg (Calls.loadGlobal_global (by rw [I.ok.glob]; exact I.mod.glob.keeps I.bk) hm h) hd
theorem ld_blt {E : Value → Shared → Prop} {pins : List (Addr × Obj)} {s : Shared} {σ : St} {H : Hp} {x : Str} {u : Value} {pos : Pos} {Q : Value → Shared → Prop} (I : Inv X pins σ H s) (hg : Gl X x) (hm : X.mg x = none) (hv : bootBuiltins x = some u) (h : Q u s)
    (hn : x ≠ "__name__" := by decide) (hd : (x == ("__debug__" : Str)) = false := by decide) : wpAny (model X.prog X.w) X.A (eval (.Name x pos) X.env) Q E s := by
  obtain ⟨mb, h1, h2⟩ := I.mod.blt
  exact Calls.Name_function_global I.ok.kind hg (Calls.loadGlobal_builtin (by rw [I.ok.glob]; exact I.mod.glob.keeps I.bk) hm (by rw [I.ok.blt]; exact h1.keeps I.bk) ((h2 x hn).trans hv) h) hd
/-- a module's constant, a class, a function, as a value -/
theorem pe_glob {x : Str} {v : V} {u : Value} {pos : Pos} (hg : Gl X x) (hm : X.mg x = some u) (r : RelV v u) (hd : (x == ("__debug__" : Str)) = false := by decide) : PE X (.Name x pos) (tC v) :=
  fun _ _ _ H _ I h => ld_glob I hg hm ⟨v, H, I, r, h⟩ hd
theorem pe_bltn {x : Str} {v : V} {u : Value} {pos : Pos} (hg : Gl X x) (hm : X.mg x = none) (hv : bootBuiltins x = some u) (r : RelV v u) (hn : x ≠ "__name__" := by decide) (hd : (x == ("__debug__" : Str)) = false := by decide) : PE X (.Name x pos) (tC v) :=
  fun _ _ _ H _ I h => ld_blt I hg hm hv ⟨v, H, I, r, h⟩ hn hd
/-! ### arithmetic -/
variable {a b : Expr} {ta tb : TE} {pos : Pos}
/-! ### comparisons -/
def PC (X : Cx) (op : CmpOp) (a b : Expr) (t : TE) : Prop :=
  ∀ (pins : List (Addr × Obj)) (s : Shared) (σ : St) (H : Hp) (Q : VK), Inv X pins σ H s → t σ H Q →
    wpAny (model X.prog X.w) X.A (eval a X.env) (fun v s₁ => wpAny (model X.prog X.w) X.A (eval b X.env) (fun u s₂ => wpAny (model X.prog X.w) X.A (compareOp op v u) (EP X pins σ Q) X.xe s₂) X.xe s₁) X.xe s
/-- a comparison as a value, as a test -/
def tB (t : TE) : TT := fun σ H Q => t σ H fun x H1 => ∃ c, x = .bl c ∧ Q c H1
theorem pt_cmp {op : CmpOp} {t : TE} (h : PC X op a b t) (h1 : behindInMarks op b = false := by first | exact nobehind _ (by decide) (by decide) | rfl) : PT X (.Compare a [op] [b] pos) (tB t) := by
  intro pins s σ H Q I hw
  refine wpAny_isTrue_Compare1 (thn (h pins s σ H _ I hw) fun v s1 h1 => thn h1 fun u s2 h2 => thn h2 fun c s3 ⟨x, H1, I1, r1, q1⟩ => ?_) h1
  obtain ⟨d, rfl, q⟩ := q1
  cases r1
  exact wpAny_truthy_bool ⟨H1, I1, q⟩
/-- an expression whose value is a bool, as a test -/
theorem pt_val {e : Expr} {t : TE} (h : PE X e t) (he : ∀ whole, isTrue e X.env whole = (do let v ← whole; standAt e.pos; holding [v] (truthy v)) := by intro _; rfl) : PT X e (tB t) := by
  intro pins s σ H Q I hw
  refine isTrue_plain (thn (h pins s σ H _ I hw) fun v s1 ⟨x, H1, I1, r1, q1⟩ => ?_) (he _)
  obtain ⟨d, rfl, q⟩ := q1
  cases r1
  exact wpAny_truthy_bool ⟨H1, I1, q⟩
/-! ### and, or, not -/
variable {tA tB' : TT} {rest : List Expr}
def tAnd (t u : TT) : TT := fun σ H Q => t σ H fun c H1 => if c = true then u σ H1 Q else Q false H1
def tOr (t u : TT) : TT := fun σ H Q => t σ H fun c H1 => if c = true then Q true H1 else u σ H1 Q
def tNot (t : TT) : TT := fun σ H Q => t σ H fun c H1 => Q (!c) H1
theorem pw_and1 (ha : PT X a tA) : PW X (.BoolOp .And [a] pos) tA := by
  intro wh pins s σ H Q I h
  refine isTrue_and (thn (ha pins s σ H Q I h) fun c s1 e => ?_)
  cases c with
  | true => exact isTrue_and_nil e
  | false => exact e
theorem pw_or1 (ha : PT X a tA) : PW X (.BoolOp .Or [a] pos) tA := by
  intro wh pins s σ H Q I h
  refine isTrue_or (thn (ha pins s σ H Q I h) fun c s1 e => ?_)
  cases c with
  | false => exact isTrue_or_nil e
  | true => exact e
theorem pw_or (ha : PT X a tA) (hb : PW X (.BoolOp .Or (b :: rest) pos) tB') : PW X (.BoolOp .Or (a :: b :: rest) pos) (tOr tA tB') := by
  intro wh pins s σ H Q I h
  refine isTrue_or (thn (ha pins s σ H _ I h) fun c s1 ⟨H1, I1, q1⟩ => ?_)
  cases c with
  | true => exact ⟨H1, I1, q1⟩
  | false => exact hb wh pins s1 σ H1 Q I1 q1
theorem pt_not (ha : PT X a tA) : PT X (.UnaryOp .Not a pos) (tNot tA) := by
  intro pins s σ H Q I h
  exact isTrue_not (ha pins s σ H (fun c H1 => Q (!c) H1) I h)
/-- .. as values (bools) -/
def tAndV (ta tb : TE) : TE := fun σ H Q => ta σ H fun x H1 => ∃ c, x = .bl c ∧ if c = true then tb σ H1 Q else Q (.bl false) H1
def tOrV (ta tb : TE) : TE := fun σ H Q => ta σ H fun x H1 => ∃ c, x = .bl c ∧ if c = true then Q (.bl true) H1 else tb σ H1 Q
def tNotV (ta : TE) : TE := fun σ H Q => ta σ H fun x H1 => ∃ c, x = .bl c ∧ Q (.bl (!c)) H1
theorem pe_one {op} {t : TE} (h : PE X a t) : PE X (.BoolOp op [a] pos) t := fun pins s σ H Q I hw => BoolOp_one (h pins s σ H Q I hw)
theorem pe_and (ha : PE X a ta) (hb : PE X (.BoolOp .And (b :: rest) pos) tb) : PE X (.BoolOp .And (a :: b :: rest) pos) (tAndV ta tb) := by
  intro pins s σ H Q I h
  refine BoolOp_and (thn (ha pins s σ H _ I h) fun v s1 ⟨x, H1, I1, r1, q1⟩ => ?_)
  obtain ⟨c, rfl, q1⟩ := q1
  cases r1
  refine wpAny_truthy_bool ?_
  cases c with
  | true => exact hb pins s1 σ H1 Q I1 q1
  | false => exact ⟨.bl false, H1, I1, rfl, q1⟩
theorem pe_or (ha : PE X a ta) (hb : PE X (.BoolOp .Or (b :: rest) pos) tb) : PE X (.BoolOp .Or (a :: b :: rest) pos) (tOrV ta tb) := by
  intro pins s σ H Q I h
  refine BoolOp_or (thn (ha pins s σ H _ I h) fun v s1 ⟨x, H1, I1, r1, q1⟩ => ?_)
  obtain ⟨c, rfl, q1⟩ := q1
  cases r1
  refine wpAny_truthy_bool ?_
  cases c with
  | false => exact hb pins s1 σ H1 Q I1 q1
  | true => exact ⟨.bl true, H1, I1, rfl, q1⟩
theorem pe_not (ha : PE X a ta) : PE X (.UnaryOp .Not a pos) (tNotV ta) := by
  intro pins s σ H Q I h
  refine UnaryOp_ (thn (ha pins s σ H _ I h) fun v s1 ⟨x, H1, I1, r1, q1⟩ => ?_)
  obtain ⟨c, rfl, q1⟩ := q1
  cases r1
  exact not_of (wpAny_truthy_bool ⟨.bl (!c), H1, I1, rfl, q1⟩)
/-- a if t else b -/
def tIf (t : TT) (ta tb : TE) : TE := fun σ H Q => t σ H fun c H1 => if c = true then ta σ H1 Q else tb σ H1 Q
theorem pe_ifExp {c : Expr} (hc : PT X c tA) (ha : PE X a ta) (hb : PE X b tb) : PE X (.IfExp c a b pos) (tIf tA ta tb) := by
  intro pins s σ H Q I h
  refine wpAny_IfExp (thn (hc pins s σ H _ I h) fun d s1 ⟨H1, I1, q1⟩ => ?_)
  cases d with
  | true => exact ha pins s1 σ H1 Q I1 q1
  | false => exact hb pins s1 σ H1 Q I1 q1
end
end L2
namespace L2
open PySem PySem.Spec PyProof.Rows
/-! ### a list, a tuple that is read: tracked, frozen, or an object of the module -/
def SqL (K : PySem.W.Frag) (H : Hp) (a : Addr) (xs : List V) : Prop :=
  Rd H a (.lst xs) ∨
    ∃ (o : Obj) (its : Array Value) (n : Nat), K.lookup a = some o ∧ o.cls = .type "list" ∧ o.dict = none ∧ o.data = .seq its n ∧ its.size ≤ sizeLine ∧ Vals0 xs its.toList
def SqT (K : PySem.W.Frag) (H : Hp) (a : Addr) (xs : List V) : Prop :=
  Rd H a (.tup xs) ∨
    ∃ (o : Obj) (its : Array Value) (n : Nat), K.lookup a = some o ∧ o.cls = .type "tuple" ∧ o.data = .seq its n ∧ its.size ≤ sizeLine ∧ Vals0 xs its.toList
def absV : Value → Option V
  | .none => some .non
  | .bool b => some (.bl b)
  | .int i _ => some (.int i)
  | .str x _ => some (.str x)
  | .bytes b _ => some (.byt b)
  | .float b _ => some (.flt b)
  | .ref a => some (.ref a)
  | .type n => some (.ty n)
  | _ => none
theorem RelV0.abs {x : V} {u : Value} (r : RelV0 x u) : absV u = some x := by
  cases x with
  | non => cases r; rfl
  | bl _ => cases r; rfl
  | int _ => obtain ⟨t, rfl⟩ := r; rfl
  | str _ => obtain ⟨t, rfl⟩ := r; rfl
  | byt _ => obtain ⟨t, rfl⟩ := r; rfl
  | flt _ => obtain ⟨t, rfl⟩ := r; rfl
  | ref _ => cases r; rfl
  | ty _ => cases r; rfl
  | stk _ _ => exact r.elim
theorem Vals0.inj : ∀ {xs ys : List V} {us : List Value}, Vals0 xs us → Vals0 ys us → xs = ys
  | _, _, _, .nil, .nil => rfl
  | _, _, _, .cons r t, .cons r' t' => by rw [Option.some.inj (r.abs.symm.trans r'.abs), Vals0.inj t t']
theorem vals0_ints : ∀ {ns : List Int} {us : List Value}, Vals (ns.map V.int) us → Vals0 (ns.map V.int) us
  | [], _, .nil => .nil
  | _ :: _, _, .cons r t => .cons r (vals0_ints t)
theorem Rd.inj {H : Hp} {a : Addr} {u v : HO} (h : Rd H a u) (h' : Rd H a v) (hu : ∀ o x, u ≠ .frz o x) (hv : ∀ o x, v ≠ .frz o x) : u = v := by
  rcases h with h | ⟨o, h⟩ <;> rcases h' with h' | ⟨o', h'⟩
  · exact Option.some.inj (h.symm.trans h')
  · exact absurd (Option.some.inj (h.symm.trans h')) (hu _ _)
  · exact absurd (Option.some.inj (h'.symm.trans h)) (hv _ _)
  · have := Option.some.inj (h.symm.trans h')
    injection this
theorem Rd.some {H : Hp} {a : Addr} {u : HO} (h : Rd H a u) (n : H a = none) : False := by
  rcases h with h | ⟨o, h⟩ <;> (rw [n] at h; cases h)
section
variable {X : Cx} {pins : List (Addr × Obj)} {σ : St} {H : Hp} {s : Shared} {a : Addr} {xs ys : List V}
theorem SqL.of {K : PySem.W.Frag} (h : H a = some (.lst xs)) : SqL K H a xs := .inl (.inl h)
theorem SqT.of {K : PySem.W.Frag} (h : H a = some (.tup xs)) : SqT K H a xs := .inl (.inl h)
theorem Inv.list (I : Inv X pins σ H s) (h : SqL X.K H a xs) : ∃ its : List Value, Vals xs its ∧ PlainL s.heap a its.toArray ∧ xs.length ≤ sizeLine := by
  rcases h with h | ⟨o, its, n, hk, hc, hd, hs, hz, r⟩
  · obtain ⟨z, its, n, r, e⟩ := h.ok I.hok
    exact ⟨its, r, ⟨_, n, e, rfl, rfl, rfl⟩, z⟩
  · refine ⟨its.toList, Paired.mapP r (fun _ _ z => z.rel), ⟨o, n, I.kIn a o hk, hc, hd, by simpa using hs⟩, ?_⟩
    have e := Paired.length r
    simp only [Array.length_toList] at e
    omega
theorem Inv.tuple (I : Inv X pins σ H s) (h : SqT X.K H a xs) : ∃ its : List Value, Vals xs its ∧ IsTup s.heap a its.toArray ∧ xs.length ≤ sizeLine := by
  rcases h with h | ⟨o, its, n, hk, hc, hs, hz, r⟩
  · obtain ⟨z, its, r, p⟩ := h.ok I.hok
    exact ⟨its, r, p, z⟩
  · refine ⟨its.toList, Paired.mapP r (fun _ _ z => z.rel), ⟨o, I.kIn a o hk, hc, n, by simpa using hs⟩, ?_⟩
    have e := Paired.length r
    simp only [Array.length_toList] at e
    omega
theorem Inv.list_inj (I : Inv X pins σ H s) (h : SqL X.K H a xs) (h' : SqL X.K H a ys) : xs = ys := by
  have hn : ∀ o, X.K.lookup a = some o → H a = none := fun o e => (I.bs a o (I.ok.mod.kin a o e)).2
  rcases h with h | ⟨o, its, n, hk, hc, hd, hs, hz, r⟩ <;> rcases h' with h' | ⟨o', its', n', hk', hc', hd', hs', hz', r'⟩
  · have := h.inj h' (fun _ _ e => by cases e) (fun _ _ e => by cases e)
    injection this
  · exact (h.some (hn _ hk')).elim
  · exact (h'.some (hn _ hk)).elim
  · rw [hk] at hk'
    cases hk'
    rw [hs] at hs'
    injection hs' with d1 _
    subst d1
    exact Vals0.inj r r'
theorem Inv.tuple_inj (I : Inv X pins σ H s) (h : SqT X.K H a xs) (h' : SqT X.K H a ys) : xs = ys := by
  have hn : ∀ o, X.K.lookup a = some o → H a = none := fun o e => (I.bs a o (I.ok.mod.kin a o e)).2
  rcases h with h | ⟨o, its, n, hk, hc, hs, hz, r⟩ <;> rcases h' with h' | ⟨o', its', n', hk', hc', hs', hz', r'⟩
  · have := h.inj h' (fun _ _ e => by cases e) (fun _ _ e => by cases e)
    injection this
  · exact (h.some (hn _ hk')).elim
  · exact (h'.some (hn _ hk)).elim
  · rw [hk] at hk'
    cases hk'
    rw [hs] at hs'
    injection hs' with d1 _
    subst d1
    exact Vals0.inj r r'
end
/-! ### another wish about exceptions -/
abbrev Cx.wish (X : Cx) (E : Value → Shared → Prop) : Cx := { X with xe := E }
/-- no exception leaves -/
abbrev Cx.nox (X : Cx) : Cx := X.wish fun _ _ => False
theorem Cx.Ok.wish {X : Cx} (ok : X.Ok) (E : Value → Shared → Prop) : (X.wish E).Ok :=
  ⟨ok.mod, ok.kind, ok.glob, ok.blt, ok.above, ok.inj, ok.has, ok.cab, ok.hd, ok.frames, ok.stk, ok.exf, ok.bs, ok.bsz, ok.noex, ok.exfs, ok.funs, ok.frf⟩
theorem Cx.Ok.unwish {X : Cx} {E : Value → Shared → Prop} (ok : (X.wish E).Ok) : X.Ok :=
  ⟨ok.mod, ok.kind, ok.glob, ok.blt, ok.above, ok.inj, ok.has, ok.cab, ok.hd, ok.frames, ok.stk, ok.exf, ok.bs, ok.bsz, ok.noex, ok.exfs, ok.funs, ok.frf⟩
section
variable {X : Cx} {pins : List (Addr × Obj)} {σ : St} {H : Hp} {s : Shared} {E : Value → Shared → Prop}
theorem Inv.wish (I : Inv X pins σ H s) (E : Value → Shared → Prop) : Inv (X.wish E) pins σ H s := ⟨I.ok.wish E, I.os, I.bare, I.base, I.loc, I.cell, I.free, I.freeC, I.pin, I.hok, I.len⟩
theorem Inv.unwish (I : Inv (X.wish E) pins σ H s) : Inv X pins σ H s := ⟨I.ok.unwish, I.os, I.bare, I.base, I.loc, I.cell, I.free, I.freeC, I.pin, I.hok, I.len⟩
theorem SP.unwish {D : Ends} {f : Flow} {s' : Shared} (h : SP (X.wish E) pins D f s') : SP X pins D f s' := by
  cases f with
  | next => obtain ⟨σ', H', I, q⟩ := h; exact ⟨σ', H', I.unwish, q⟩
  | brk => obtain ⟨σ', H', I, q⟩ := h; exact ⟨σ', H', I.unwish, q⟩
  | cont => obtain ⟨σ', H', I, q⟩ := h; exact ⟨σ', H', I.unwish, q⟩
  | ret u => obtain ⟨v, σ', H', I, r, q⟩ := h; exact ⟨v, σ', H', I.unwish, r, q⟩
theorem PSs.nox {st : List Stmt} {t : TS} (h : PSs X.nox st t) : PSs X st t := fun pins s σ H D I hw =>
  wpAny_mono (h pins s σ H D (I.wish _) hw) (fun _ _ q => q.unwish) fun _ _ z => False.elim z
end
/-! ### blocks and small statements -/
section
variable {X : Cx} {st : Stmt} {rest : List Stmt} {t u : TS} {e : Expr} {te : TE} {pos : Pos}
def tNext : TS := fun D σ H => D.nx σ H
def tSeq (t u : TS) : TS := fun D σ H => t { D with nx := u D } σ H
theorem pss_nil : PSs X [] tNext := fun _ _ σ H _ I h => wpAny_execs_nil ⟨σ, H, I, h⟩
theorem pss_cons (h1 : PS X st t) (h2 : PSs X rest u) : PSs X (st :: rest) (tSeq t u) := by
  intro pins s σ H D I h
  refine wpAny_execs_cons (thn (h1 pins s σ H { D with nx := u D } I h) fun f s1 q => ?_)
  cases f with
  | next =>
    obtain ⟨σ', H', I', q⟩ := q
    exact h2 pins s1 σ' H' D I' q
  | ret v => exact q
  | brk => exact q
  | cont => exact q
theorem pss_one (h1 : PS X st t) : PSs X [st] t := by
  intro pins s σ H D I h
  refine wpAny_execs_cons (thn (h1 pins s σ H D I h) fun f s1 q => ?_)
  cases f with
  | next => exact wpAny_execs_nil q
  | ret v => exact q
  | brk => exact q
  | cont => exact q
/-- in a def's body nothing is shown -/
theorem Inv.quiet {pins : List (Addr × Obj)} {σ : St} {H : Hp} {s : Shared} (I : Inv X pins σ H s) : interactive X.env = false := by simp [interactive, I.ok.kind]
/-- an expression whose value is dropped -/
def tDrop (te : TE) : TS := fun D σ H => te σ H fun _ H1 => D.nx σ H1
theorem ps_expr (he : PE X e te) (hs : swapsWith e none pos.line X.env = pure false := by rfl) : PS X (.Expr e pos) (tDrop te) := by
  intro pins s σ H D I h
  exact wpAny_Expr_any (thn (he pins s σ H _ I h) fun v s1 ⟨x, H1, I1, r1, q1⟩ => ⟨σ, H1, I1, q1⟩) I.quiet hs
def tRet (te : TE) : TS := fun D σ H => te σ H D.rt
theorem ps_ret (he : PE X e te) : PS X (.Return (some e) pos) (tRet te) := by
  intro pins s σ H D I h
  exact wpAny_Return_some (thn (he pins s σ H _ I h) fun v s1 ⟨x, H1, I1, r1, q1⟩ => ⟨x, σ, H1, I1, r1, q1⟩)
def tIfS (c : TT) (t u : TS) : TS := fun D σ H => c σ H fun b H1 => if b = true then t D σ H1 else u D σ H1
theorem ps_if {c : Expr} {a b : List Stmt} {tc : TT} (hc : PT X c tc) (ha : PSs X a t) (hb : PSs X b u) : PS X (.If c a b pos) (tIfS tc t u) := by
  intro pins s σ H D I h
  refine wpAny_If (thn (hc pins s σ H _ I h) fun d s1 ⟨H1, I1, q1⟩ => ?_)
  cases d with
  | true => exact ha pins s1 σ H1 D I1 q1
  | false => exact hb pins s1 σ H1 D I1 q1
/-- code that the proof never comes to -/
def tNever : TS := fun _ _ _ => False
theorem ps_never : PS X st tNever := fun _ _ _ _ _ _ h => h.elim
end
/-! ### targets -/
abbrev TG := V → St → Hp → (St → Hp → Prop) → Prop
abbrev TGs := List V → St → Hp → (St → Hp → Prop) → Prop
def PG (X : Cx) (target : Expr) (t : TG) : Prop :=
  ∀ (pins : List (Addr × Obj)) (s : Shared) (σ : St) (H : Hp) (v : V) (u : Value) (Q : St → Hp → Prop), Inv X pins σ H s → RelV v u → t v σ H Q →
    wpAny (model X.prog X.w) X.A (assign target X.env u) (fun _ s' => ∃ σ' H', Inv X pins σ' H' s' ∧ Q σ' H') X.xe s
/-- several targets, one after another -/
def PGs (X : Cx) (ts : List Expr) (t : TGs) : Prop :=
  ∀ (pins : List (Addr × Obj)) (s : Shared) (σ : St) (H : Hp) (vs : List V) (us : List Value) (Q : St → Hp → Prop), Inv X pins σ H s → Vals vs us → t vs σ H Q →
    wpAny (model X.prog X.w) X.A (assignInOrder ((assignEach ts X.env).map (·.2)) us) (fun _ s' => ∃ σ' H', Inv X pins σ' H' s' ∧ Q σ' H') X.xe s
section
variable {X : Cx} {pos : Pos}
def gName (i : Nat) : TG := fun v σ H Q => Q (σ.set i (some v)) H
theorem pg_name {i : Nat} {x : Str} (hN : X.N.Nodup) (hi : X.N[i]? = some x) (hx : Loc X.env.scope x) (hf : X.fn x = true ∨ X.env.scope.names.lookup x = some .local := by first | exact .inl rfl | exact .inr rfl | assumption) : PG X (.Name x pos) (gName i) := by
  intro pins s σ H v u Q I r h
  exact wpAny_assign_Name (store_ok I hN hi hx r (fun s' I' => ⟨_, H, I', h⟩) hf)
def gNil : TGs := fun vs σ H Q => vs = [] ∧ Q σ H
def gCons (t : TG) (u : TGs) : TGs := fun vs σ H Q => ∃ v r, vs = v :: r ∧ t v σ H fun σ' H' => u r σ' H' Q
theorem pgs_nil : PGs X [] gNil := by
  intro pins s σ H vs us Q I r h
  obtain ⟨e, h⟩ := h
  subst e
  cases r
  exact assignInOrder_nil ⟨σ, H, I, h⟩
theorem pgs_cons {e : Expr} {es : List Expr} {t : TG} {u : TGs} (h1 : PG X e t) (h2 : PGs X es u)
    (hs : (assignEach (e :: es) X.env).map (·.2) = assign e X.env :: (assignEach es X.env).map (·.2) := by rfl) : PGs X (e :: es) (gCons t u) := by
  intro pins s σ H vs us Q I r h
  obtain ⟨v, vr, e1, h⟩ := h
  subst e1
  cases r with
  | cons r rr =>
    rw [hs]
    refine assignInOrder_cons (thn (h1 pins s σ H _ _ _ I r h) fun _ s1 ⟨σ1, H1, I1, q1⟩ => ?_)
    exact h2 pins s1 σ1 H1 _ _ Q I1 rr q1
/-- (a, b, ..) = a tuple of that length -/
def gTup (K : PySem.W.Frag) (n : Nat) (t : TGs) : TG := fun v σ H Q => ∃ a xs, v = .ref a ∧ SqT K H a xs ∧ xs.length = n ∧ t xs σ H Q
theorem pg_tup {es : List Expr} {k : Nat} {t : TGs} {n : Nat} (hc : X.calm = true) (h : PGs X es t)
    (hn : (assignEach es X.env).length = n := by rfl) (hst : (assignEach es X.env).findIdx? (·.1) = none := by rfl) : PG X (.Tuple es k pos) (gTup X.K n t) := by
  intro pins s σ H v u Q I r hw
  obtain ⟨a, xs, e1, hq, hl, hw⟩ := hw
  subst e1
  cases r
  obtain ⟨its, rv, ht, hz⟩ := I.tuple hq
  refine assign_Tuple_tuple (I.ok.hd hc) ht (by simp [hn, ← hl, rv.length]) hst fun h' hx => ?_
  have I1 : Inv X pins σ H { s with heap := h' } := I.kept (t' := s.toks) fun b o e => hx b o (Nat.ne_of_lt (Heap.lt_size e)) e
  exact h pins _ σ H xs _ Q I1 (by simpa using rv) hw
/-- target = value -/
def tAsg (te : TE) (g : TG) : TS := fun D σ H => te σ H fun x H1 => g x σ H1 D.nx
theorem ps_asg {tg e : Expr} {te : TE} {g : TG} (he : PE X e te) (hg : PG X tg g) (hs : swapsWithSole [tg] e pos.line X.env = pure false := by rfl) (hw : swappedStores [tg] e X.env = pure none := by rfl)
    (h1 : (assignEach [tg] X.env).map (·.2) = [assign tg X.env] := by rfl) : PS X (.Assign [tg] e pos) (tAsg te g) := by
  intro pins s σ H D I h
  refine wpAny_Assign_stores (thn (he pins s σ H _ I h) fun v s1 ⟨x, H1, I1, r1, q1⟩ => ?_) hs hw
  rw [h1]
  exact thn (hg pins s1 σ H1 x v _ I1 r1 q1) fun _ s2 q => q
/-- name = value -/
theorem ps_set {i : Nat} {x : Str} {e : Expr} {te : TE} {pos' : Pos} (hN : X.N.Nodup) (hi : X.N[i]? = some x) (hx : Loc X.env.scope x) (he : PE X e te) (hs : swapsWith e (some (.Name x pos')) pos.line X.env = pure false := by rfl) (hf : X.fn x = true ∨ X.env.scope.names.lookup x = some .local := by first | exact .inl rfl | exact .inr rfl | assumption) :
    PS X (.Assign [.Name x pos'] e pos) (tAsg te (gName i)) := by
  intro pins s σ H D I h
  refine wpAny_Assign_Name (thn (he pins s σ H _ I h) fun v s1 ⟨y, H1, I1, r1, q1⟩ => ?_) hs
  exact store_ok I1 hN hi hx r1 (fun s2 I2 => ⟨_, H1, I2, q1⟩) hf
/-- a, b = x, y with plain local names: stored from the right; the pair itself is not tracked (the opening rows as in PyProof/Rows/TupAssign.lean:23) -/
def tPar (i j : Nat) (ta : TA) : TS := fun D σ H => ta σ H fun vs H1 => ∃ v w, vs = [v, w] ∧ D.nx ((σ.set i (some v)).set j (some w)) H1
theorem ps_par {i j : Nat} {x y : Str} {a b : Expr} {ta : TA} {px py pt : Pos} {kt k2 pt2} (hc : X.calm = true) (hN : X.N.Nodup) (hi : X.N[i]? = some x) (hj : X.N[j]? = some y) (hij : i ≠ j)
    (hx : X.env.scope.names.lookup x = some .local) (hy : X.env.scope.names.lookup y = some .local) (ha : PA X [a, b] ta)
    (hw : swappedStores [.Tuple [.Name x px, .Name y py] kt pt] (.Tuple [a, b] k2 pt2) X.env = pure (some [x, y]))
    (hs : swapsWithSole [.Tuple [.Name x px, .Name y py] kt pt] (.Tuple [a, b] k2 pt2) pos.line X.env = pure false := by rfl) :
    PS X (.Assign [.Tuple [.Name x px, .Name y py] kt pt] (.Tuple [a, b] k2 pt2) pos) (tPar i j ta) := by
  intro pins s σ H D I h
  rw [exec_Assign_arm]
  refine wpAny_bind (wpAny_standAt ?_)
  rw [hs]
  refine wpAny_bind (wpAny_pure ?_)
  rw [if_neg (by decide)]
  refine wpAny_bind (Tuple_ (thn (ha _ pins s σ H _ I h) fun us s1 ⟨vs, H1, I1, r1, q1⟩ => ?_))
  obtain ⟨v, w, e1, q1⟩ := q1
  subst e1
  obtain ⟨u1, u2, rfl, rv, rw'⟩ : ∃ u1 u2, us = [u1, u2] ∧ RelV v u1 ∧ RelV w u2 := by
    cases r1 with
    | cons p q =>
      cases q with
      | cons p' q' =>
        cases q'
        exact ⟨_, _, rfl, p, p'⟩
  refine wpAny_newObj_type ?_ (by show 2 ≤ sizeLine; decide)
  have I2 : Inv X pins σ H1 { s1 with heap := s1.heap.push { cls := .type "tuple", data := .seq [u1, u2].toArray } } := I1.kept (t' := s1.toks) fun b o e => Heap.get?_push_of_some _ e
  rw [hw]
  refine wpAny_bind (wpAny_pure ?_)
  show wpAny (model X.prog X.w) X.A (do rule "assign.swapped-stores"; let items ← unpackItems (.ref s1.heap.objs.size) 2 none; assignInOrder [fun v => bindName X.env y v, fun v => bindName X.env x v] items.reverse; pure Flow.next) _ _ _
  refine wpAny_bind (wpAny_rule (wpAny_bind (unpackItems_tuple (items := #[u1, u2]) (I.ok.hd hc) (IsTup.new s1.heap _) fun h' hx' => ?_)))
  have I3 := I2.kept (h' := h') (t' := s1.toks) fun b o e => hx' b o (Nat.ne_of_lt (Heap.lt_size e)) e
  show wpAny _ _ (assignInOrder [fun v => bindName X.env y v, fun v => bindName X.env x v] [u2, u1] >>= fun _ => pure Flow.next) _ _ _
  refine wpAny_bind (assignInOrder_cons (wpAny_bindName (store_ok I3 hN hj (.inl hy) rw' (fun s2 I4 => ?_) (.inr hy))))
  refine assignInOrder_cons (wpAny_bindName (store_ok I4 hN hi (.inl hx) rv (fun s3 I5 => assignInOrder_nil (wpAny_pure ?_)) (.inr hx)))
  rw [List.set_comm _ _ (Ne.symm hij)] at I5
  exact ⟨_, H1, I5, q1⟩
end
/-! ### while -/
section
variable {X : Cx} {pos : Pos}
/-- the invariant W with its measure -/
def tWhile (c : TT) (tb : TS) : TS := fun D σ H => ∃ W : Nat → St → Hp → Prop, (∃ m, W m σ H) ∧ ∀ m σ H, W m σ H →
  c σ H fun b H1 => if b = true then ∃ N : St → Hp → Prop, (∀ σ' H', N σ' H' → ∃ m', m' < m ∧ W m' σ' H') ∧ tb { D with nx := N, ct := N, bk := D.nx } σ H1 else D.nx σ H1
theorem ps_while {c : Expr} {body : List Stmt} {tc : TT} {tb : TS} (hp : PassesOwn (model X.prog X.w) X.A X.env X.xe) (hc : PT X c tc) (hb : PSs X body tb) : PS X (.While c body [] pos) (tWhile tc tb) := by
  intro pins s σ H D I h
  obtain ⟨W, ⟨m0, w0⟩, turn⟩ := h
  refine wpAny_While (codeAny_whileLoop (fun n s' => ∃ σ' H', Inv X pins σ' H' s' ∧ W n σ' H') ?_ m0 ⟨σ, H, I, w0⟩)
  rintro n s1 ⟨σ1, H1, I1, w1⟩
  refine wpAny_passesOwn hp (thn (hc pins s1 σ1 H1 _ I1 (turn n σ1 H1 w1)) fun b s2 ⟨H2, I2, q2⟩ => ?_)
  cases b with
  | true =>
    obtain ⟨N, hN, q2⟩ := q2
    rw [if_pos rfl]
    refine wpAny_passesOwn hp (thn (hb pins s2 σ1 H2 _ I2 q2) fun f s3 q3 => ?_)
    cases f with
    | next =>
      obtain ⟨σ3, H3, I3, n3⟩ := q3
      obtain ⟨m', hm, w3⟩ := hN σ3 H3 n3
      exact ⟨m', hm, σ3, H3, I3, w3⟩
    | cont =>
      obtain ⟨σ3, H3, I3, n3⟩ := q3
      obtain ⟨m', hm, w3⟩ := hN σ3 H3 n3
      exact ⟨m', hm, σ3, H3, I3, w3⟩
    | brk => exact q3
    | ret v => exact q3
  | false =>
    rw [if_neg Bool.false_ne_true]
    exact wpAny_execs_nil ⟨σ1, H2, I2, q2⟩
end
/-! ### what a loop or a comprehension walks -/
/-- at turn i: it yields x (the heap may grow), or it stops -/
structure It where
  go : Nat → Hp → Prop
  yld : Nat → Hp → V → Hp → Prop
  stop : Nat → Hp → Prop
/-- the iterator's own objects may turn: they are not the frame's, not pinned, younger than the entry (or a comprehension's own) -/
def FpOk (X : Cx) (pins : List (Addr × Obj)) (H : Hp) (b : Addr) : Prop :=
  H b = none ∧ b ≠ X.env.locals ∧ b ∉ X.fs ∧ (b ∈ X.ex ∨ X.s₀.heap.objs.size ≤ b) ∧ (∀ x c, X.env.cells.lookup x = some c → c ≠ b) ∧ ∀ p ∈ X.pn ++ pins, p.1 ≠ b
theorem Inv.fpOk {X : Cx} {pins : List (Addr × Obj)} {σ : St} {H H' : Hp} {s : Shared} {b : Addr} (I : Inv X pins σ H s) (hb : s.heap.objs.size ≤ b) (hn : H' b = none) : FpOk X pins H' b := by
  refine ⟨hn, Nat.ne_of_gt (Nat.lt_of_lt_of_le I.lt hb), I.nofs hb, .inr (Nat.le_trans I.sz hb), fun x c e z => ?_, fun p hp z => ?_⟩
  · obtain ⟨v, q⟩ := I.cell x c e
    exact absurd (Nat.lt_of_lt_of_le q.lt (by rw [z]; exact hb)) (Nat.lt_irrefl _)
  · exact absurd (Nat.lt_of_lt_of_le (Heap.lt_size (I.pin p hp).1) (by rw [z]; exact hb)) (Nat.lt_irrefl _)
structure Turn (P : Program) (w : World) (K : PySem.W.Frag) (tg : Expr) (J : It) (fp : List Addr) (it : Addr) (tn : Nat → Heap → Prop) : Prop where
  mem : it ∈ fp
  obj : ∀ i h, tn i h → ∀ b ∈ fp, ∃ o, h.get? b = some o ∧ ∀ v, o.data ≠ .cell v
  keep : ∀ i h h', tn i h → (∀ b ∈ fp, ∀ o, h.get? b = some o → h'.get? b = some o) → tn i h'
  item : ∀ (X : Cx), X.prog = P → X.w = w → X.K = K → X.calm = true → ∀ (i : Nat) (pins : List (Addr × Obj)) (s : Shared) (σ : St) (H : Hp) (E : Value → Shared → Prop), Inv X pins σ H s → (∀ b ∈ fp, FpOk X pins H b) → tn i s.heap → J.go i H →
    wpAny (model P w) X.A (pyNext (.ref it)) (fun r s1 => ∃ u, r = some u ∧
      wpAny (model P w) X.A (letOwnedTupleGo tg (.ref it) u) (fun _ s2 => ∃ x H', Inv X pins σ H' s2 ∧ RelV x u ∧ J.yld i H x H' ∧ tn (i + 1) s2.heap ∧ ∀ b ∈ fp, H' b = none) E s1) E s
  done : ∀ (X : Cx), X.prog = P → X.w = w → X.K = K → X.calm = true → ∀ (i : Nat) (pins : List (Addr × Obj)) (s : Shared) (σ : St) (H : Hp) (E : Value → Shared → Prop), Inv X pins σ H s → (∀ b ∈ fp, FpOk X pins H b) → tn i s.heap → J.stop i H →
    wpAny (model P w) X.A (pyNext (.ref it)) (fun r s1 => r = none ∧ Inv X pins σ H s1) E s
  self : ∀ (A : Around) (i : Nat) (s : Shared) (Q : Value → Shared → Prop) (E : Value → Shared → Prop), tn i s.heap → Q (.ref it) s → wpAny (model P w) A (pyIter (.ref it)) Q E s
abbrev TI := St → Hp → (It → Hp → Prop) → Prop
/-- an iterator has come -/
def PIE (X : Cx) (pins : List (Addr × Obj)) (σ : St) (tg : Expr) (R : It → Hp → Prop) (itv : Value) (s2 : Shared) : Prop :=
  ∃ (it : Addr) (fp : List Addr) (tn : Nat → Heap → Prop) (J : It) (H' : Hp), itv = .ref it ∧ Inv X pins σ H' s2 ∧ Turn X.prog X.w X.K tg J fp it tn ∧ tn 0 s2.heap ∧ (∀ b ∈ fp, FpOk X pins H' b) ∧ R J H'
def PI (X : Cx) (tg iter : Expr) (wi : TI) : Prop :=
  ∀ (pins : List (Addr × Obj)) (s : Shared) (σ : St) (H : Hp) (R : It → Hp → Prop), Inv X pins σ H s → wi σ H R →
    wpAny (model X.prog X.w) X.A (eval iter X.env) (fun v s1 => wpAny (model X.prog X.w) X.A (pyIter v) (PIE X pins σ tg R) X.xe s1) X.xe s
/-- the step ahead of the store is nothing for an iterator that keeps no tuple -/
theorem go_of {M : Model} {A : Around} {E : Value → Shared → Prop} {s : Shared} {tg : Expr} {it : Addr} {u : Value} {o : Obj} {n : String} {vs : Array Value} {Q : Unit → Shared → Prop} (ho : s.heap.get? it = some o) (hc : o.cls = .type n) (hd : o.data = .fields vs)
    (hn : ["enumerate", "zip", "dict_itemiterator", "dict_reverseitemiterator", "odict_iterator", "itertools.zip_longest", "itertools.pairwise"].contains n = false) (hQ : Q () s) : wpAny M A (letOwnedTupleGo tg (.ref it) u) Q E s := by
  unfold letOwnedTupleGo
  cases tg <;> first
    | exact wpAny_pure hQ
    | (cases u <;> first
        | exact wpAny_pure hQ
        | (refine wpAny_bind (wpAny_load ho ?_)
           rw [hc, hd]
           show wpAny M A (if (["enumerate", "zip", "dict_itemiterator", "dict_reverseitemiterator", "odict_iterator", "itertools.zip_longest", "itertools.pairwise"].contains n && vs[0]? == some (rawInt _)) = true then _ else _) Q E s
           rw [if_neg (by intro h; rw [hn, Bool.false_and] at h; cases h)]
           exact wpAny_pure hQ))
/-- the list at a, as it stands at each turn (a loop may append to it) -/
def Itl (K : PySem.W.Frag) (a : Addr) : It :=
  ⟨fun i H => ∃ xs x, SqL K H a xs ∧ xs[i]? = some x, fun i H x H' => H' = H ∧ ∀ xs, SqL K H a xs → xs[i]? = some x, fun i H => ∃ xs, SqL K H a xs ∧ xs.length ≤ i⟩
def Itt (K : PySem.W.Frag) (a : Addr) : It :=
  ⟨fun i H => ∃ xs x, SqT K H a xs ∧ xs[i]? = some x, fun i H x H' => H' = H ∧ ∀ xs, SqT K H a xs → xs[i]? = some x, fun i H => ∃ xs, SqT K H a xs ∧ xs.length ≤ i⟩
theorem turn_list {P : Program} {w : World} {K : PySem.W.Frag} {tg : Expr} (a it : Addr) : Turn P w K tg (Itl K a) [it] it (fun i h => h.IsListIter it a i) where
  mem := by simp
  obj := fun i h st b hb => by
    have e : b = it := by simpa using hb
    subst e
    obtain ⟨o, e, c, d⟩ := st
    exact ⟨o, e, fun v z => by rw [d] at z; cases z⟩
  keep := fun i h h' st k => st.at fun o e => k it (by simp) o e
  item := by
    intro X hP hw hK hc i pins s σ H E I hf st hg
    subst hP hw hK
    obtain ⟨xs, x, hq, hx⟩ := hg
    obtain ⟨its, rv, p, hz⟩ := I.list hq
    obtain ⟨u, hu, ru⟩ := rv.get hx
    obtain ⟨f0, f1, f2, f3, f4, f5⟩ := hf it (by simp)
    refine wpAny_pyNext_list_item st p.isList (x := u) (by simpa using hu) fun h' st' sb => ?_
    have I1 : Inv X pins σ H { s with heap := h' } := I.turned (t' := s.toks) (fun b o hb e => (sb.2 b hb).trans e) f0 f1 f3 f4 f5
    obtain ⟨o, e, c, d⟩ := id st'
    exact ⟨u, rfl, go_of (s := { s with heap := h' }) e c d (by decide) ⟨x, H, I1, ru, ⟨rfl, fun ys hy => by rw [I.list_inj hy hq]; exact hx⟩, st', fun b hb => (hf b hb).1⟩⟩
  done := by
    intro X hP hw hK hc i pins s σ H E I hf st hg
    subst hP hw hK
    obtain ⟨xs, hq, hx⟩ := hg
    obtain ⟨its, rv, p, hz⟩ := I.list hq
    obtain ⟨f0, f1, f2, f3, f4, f5⟩ := hf it (by simp)
    have hl := rv.length
    exact wpAny_pyNext_list_end (I.ok.hd hc) st p.isList (by simp; omega) fun h' eb => ⟨rfl, I.turned (t' := s.toks) (fun b o hb e => eb b o hb e) f0 f1 f3 f4 f5⟩
  self := fun _ _ _ _ _ st h => wpAny_pyIter_listiter st h
theorem turn_tuple {P : Program} {w : World} {K : PySem.W.Frag} {tg : Expr} (a it : Addr) : Turn P w K tg (Itt K a) [it] it (fun i h => h.IsTupleIter it a i) where
  mem := by simp
  obj := fun i h st b hb => by
    have e : b = it := by simpa using hb
    subst e
    obtain ⟨o, e, c, d⟩ := st
    exact ⟨o, e, fun v z => by rw [d] at z; cases z⟩
  keep := fun i h h' st k => st.at fun o e => k it (by simp) o e
  item := by
    intro X hP hw hK hc i pins s σ H E I hf st hg
    subst hP hw hK
    obtain ⟨xs, x, hq, hx⟩ := hg
    obtain ⟨its, rv, p, hz⟩ := I.tuple hq
    obtain ⟨u, hu, ru⟩ := rv.get hx
    obtain ⟨f0, f1, f2, f3, f4, f5⟩ := hf it (by simp)
    refine wpAny_pyNext_tuple_item st (show s.heap.IsTuple a its.toArray from p) (x := u) (by simpa using hu) fun h' st' sb => ?_
    have I1 : Inv X pins σ H { s with heap := h' } := I.turned (t' := s.toks) (fun b o hb e => (sb.2 b hb).trans e) f0 f1 f3 f4 f5
    obtain ⟨o, e, c, d⟩ := id st'
    exact ⟨u, rfl, go_of (s := { s with heap := h' }) e c d (by decide) ⟨x, H, I1, ru, ⟨rfl, fun ys hy => by rw [I.tuple_inj hy hq]; exact hx⟩, st', fun b hb => (hf b hb).1⟩⟩
  done := by
    intro X hP hw hK hc i pins s σ H E I hf st hg
    subst hP hw hK
    obtain ⟨xs, hq, hx⟩ := hg
    obtain ⟨its, rv, p, hz⟩ := I.tuple hq
    obtain ⟨f0, f1, f2, f3, f4, f5⟩ := hf it (by simp)
    have hl := rv.length
    exact wpAny_pyNext_tuple_end (I.ok.hd hc) st (show s.heap.IsTuple a its.toArray from p) (by simp; omega) fun h' eb => ⟨rfl, I.turned (t' := s.toks) (fun b o hb e => eb b o hb e) f0 f1 f3 f4 f5⟩
  self := fun _ _ _ _ _ st h => wpAny_pyIter_tupleiter st h
end L2
namespace L2
open PySem PySem.Spec PyProof.Rows
section
variable {X : Cx} {tg : Expr}
def iList (K : PySem.W.Frag) (tl : TE) : TI := fun σ H R => tl σ H fun x H1 => ∃ a, x = .ref a ∧ (∃ xs, SqL K H1 a xs) ∧ R (Itl K a) H1
def iTup (K : PySem.W.Frag) (tl : TE) : TI := fun σ H R => tl σ H fun x H1 => ∃ a, x = .ref a ∧ (∃ xs, SqT K H1 a xs) ∧ R (Itt K a) H1
theorem pi_list {l : Expr} {tl : TE} (hl : PE X l tl) : PI X tg l (iList X.K tl) := by
  intro pins s σ H R I h
  refine thn (hl pins s σ H _ I h) fun v s1 ⟨x, H1, I1, r1, q1⟩ => ?_
  obtain ⟨a, e, ⟨xs, hq⟩, q⟩ := q1
  subst e
  cases r1
  obtain ⟨its, rv, p, hz⟩ := I1.list hq
  refine wpAny_pyIter_list p.isList ?_
  refine ⟨s1.heap.objs.size, [s1.heap.objs.size], _, _, H1, rfl, I1.kept (t' := s1.toks) fun b o e => Heap.get?_push_of_some _ e, turn_list a _, ⟨_, Heap.get?_push_size _ rfl, rfl, rfl⟩, fun b hb => ?_, q⟩
  have e : b = s1.heap.objs.size := by simpa using hb
  subst e
  exact I1.fpOk (Nat.le_refl _) (I1.hok.fresh (Nat.le_refl _))
theorem pi_tup {l : Expr} {tl : TE} (hl : PE X l tl) : PI X tg l (iTup X.K tl) := by
  intro pins s σ H R I h
  refine thn (hl pins s σ H _ I h) fun v s1 ⟨x, H1, I1, r1, q1⟩ => ?_
  obtain ⟨a, e, ⟨xs, hq⟩, q⟩ := q1
  subst e
  cases r1
  obtain ⟨its, rv, p, hz⟩ := I1.tuple hq
  refine wpAny_pyIter_tuple (show s1.heap.IsTuple a its.toArray from p) ?_
  refine ⟨s1.heap.objs.size, [s1.heap.objs.size], _, _, H1, rfl, I1.kept (t' := s1.toks) fun b o e => Heap.get?_push_of_some _ e, turn_tuple a _, ⟨_, Heap.get?_push_size _ rfl, rfl, rfl⟩, fun b hb => ?_, q⟩
  have e : b = s1.heap.objs.size := by simpa using hb
  subst e
  exact I1.fpOk (Nat.le_refl _) (I1.hok.fresh (Nat.le_refl _))
/-! ### for -/
/-- W: the invariant by the turn and a measure; N: what the body is to reach -/
def tFor (wi : TI) (g : TG) (tb : TS) : TS := fun D σ H => wi σ H fun J H1 => ∃ W : Nat → Nat → St → Hp → Prop, (∃ m, W 0 m σ H1) ∧ ∀ i m σ H, W i m σ H →
  (J.stop i H ∧ D.nx σ H) ∨ (J.go i H ∧ ∃ N : St → Hp → Prop, (∀ σ' H', N σ' H' → ∃ m', m' < m ∧ W (i + 1) m' σ' H') ∧ ∀ x H', J.yld i H x H' → g x σ H' fun σ2 H2 => tb { D with nx := N, ct := N, bk := D.nx } σ2 H2)
/-- the records at fp as they stand -/
def pinsAt (fp : List Addr) (h : Heap) : List (Addr × Obj) := fp.filterMap fun b => (h.get? b).map fun o => (b, o)
theorem mem_pinsAt {fp : List Addr} {h : Heap} {b : Addr} {o : Obj} (hb : b ∈ fp) (e : h.get? b = some o) : (b, o) ∈ pinsAt fp h := List.mem_filterMap.mpr ⟨b, hb, by rw [e]; rfl⟩
theorem of_pinsAt {fp : List Addr} {h : Heap} {p : Addr × Obj} (hp : p ∈ pinsAt fp h) : p.1 ∈ fp ∧ h.get? p.1 = some p.2 := by
  obtain ⟨b, hb, e⟩ := List.mem_filterMap.mp hp
  cases q : h.get? b with
  | none => rw [q] at e; cases e
  | some o =>
    rw [q] at e
    have e' : (b, o) = p := Option.some.inj e
    subst e'
    exact ⟨hb, q⟩
theorem Inv.pinned {pins : List (Addr × Obj)} {σ : St} {H : Hp} {s : Shared} {fp : List Addr} (I : Inv X pins σ H s) (hf : ∀ b ∈ fp, FpOk X pins H b) (ho : ∀ b ∈ fp, ∃ o, s.heap.get? b = some o ∧ ∀ v, o.data ≠ .cell v) : Inv X (pins ++ pinsAt fp s.heap) σ H s :=
  I.pins_of fun p hp => (List.mem_append.mp hp).elim (fun z => I.pin p (List.mem_append_right _ z)) fun z => by
    obtain ⟨hb, e⟩ := of_pinsAt z
    obtain ⟨f0, f1, f2, _⟩ := hf p.1 hb
    obtain ⟨o, e', d⟩ := ho p.1 hb
    rw [e] at e'; cases e'
    exact ⟨e, f0, f1, f2, d⟩
theorem Inv.unpinned {pins pl : List (Addr × Obj)} {σ : St} {H : Hp} {s : Shared} (I : Inv X (pins ++ pl) σ H s) : Inv X pins σ H s := I.pins_of fun p hp => I.pin p (List.mem_append_right _ (List.mem_append_left _ hp))
theorem ps_for {iter : Expr} {body : List Stmt} {wi : TI} {g : TG} {tb : TS} {pos : Pos} (hp : PassesOwn (model X.prog X.w) X.A X.env X.xe) (hc : X.calm = true) (hi : PI X tg iter wi) (hg : PG X tg g) (hb : PSs X body tb)
    (hs : ∀ x, foldedSetIterable iter X.env x = pure x := by intro _; rfl) : PS X (.For tg iter body [] pos) (tFor wi g tb) := by
  intro pins s σ H D I h
  refine wpAny_For (thn (hi pins s σ H _ I h) fun v s1 h1 => thn h1 fun itv s2 h2 => ?_) hs
  obtain ⟨it, fp, tn, J, H2, e, I2, T, st2, f2, W, ⟨m0, w0⟩, turn⟩ := h2
  subst e
  -- what stays true of the iterator's objects through the loop
  have stat : ∀ {H' : Hp}, (∀ b ∈ fp, H' b = none) → ∀ b ∈ fp, FpOk X pins H' b := fun hn b hb => ⟨hn b hb, (f2 b hb).2⟩
  refine codeAny_forLoop_any (fun n s' => ∃ i σ' H', Inv X pins σ' H' s' ∧ tn i s'.heap ∧ (∀ b ∈ fp, H' b = none) ∧ W i n σ' H') ?_ m0 ⟨0, σ, H2, I2, st2, fun b hb => (f2 b hb).1, w0⟩
  rintro n s3 ⟨i, σ3, H3, I3, st3, fr3, w3⟩
  rcases turn i n σ3 H3 w3 with ⟨stop, qn⟩ | ⟨go, N, hN, step⟩
  · refine wpAny_passesOwn hp (thn (T.done X rfl rfl rfl hc i pins s3 σ3 H3 X.xe I3 (stat fr3) st3 stop) fun r s4 ⟨hr, I4⟩ => ?_)
    subst hr
    exact wpAny_execs_nil ⟨σ3, H3, I4, qn⟩
  · refine wpAny_passesOwn hp (thn (T.item X rfl rfl rfl hc i pins s3 σ3 H3 X.xe I3 (stat fr3) st3 go) fun r s4 ⟨u, hr, h4⟩ => ?_)
    subst hr
    refine wpAny_passesOwn hp (thn h4 fun _ s5 ⟨x, H5, I5, r5, y5, st5, fr5⟩ => ?_)
    have I5' := I5.pinned (stat fr5) (T.obj _ _ st5)
    refine wpAny_passesOwn hp (thn (hg _ s5 σ3 H5 x u _ I5' r5 (step x H5 y5)) fun _ s6 ⟨σ6, H6, I6, q6⟩ => ?_)
    refine wpAny_passesOwn hp (thn (hb _ s6 σ6 H6 _ I6 q6) fun f s7 q7 => ?_)
    have again : ∀ {σ7 : St} {H7 : Hp}, Inv X (pins ++ pinsAt fp s5.heap) σ7 H7 s7 → N σ7 H7 → ∃ m, m < n ∧ ∃ i σ' H', Inv X pins σ' H' s7 ∧ tn i s7.heap ∧ (∀ b ∈ fp, H' b = none) ∧ W i m σ' H' := fun {σ7 H7} I7 n7 => by
      obtain ⟨m', hm, w7⟩ := hN σ7 H7 n7
      refine ⟨m', hm, i + 1, σ7, H7, I7.unpinned, T.keep _ _ _ st5 fun b hb o e => (I7.pin (b, o) (List.mem_append_right _ (List.mem_append_right _ (mem_pinsAt hb e)))).1, fun b hb => ?_, w7⟩
      obtain ⟨o, e, d⟩ := T.obj _ _ st5 b hb
      exact (I7.pin (b, o) (List.mem_append_right _ (List.mem_append_right _ (mem_pinsAt hb e)))).2.1
    cases f with
    | next => obtain ⟨σ7, H7, I7, n7⟩ := q7; exact again I7 n7
    | cont => obtain ⟨σ7, H7, I7, n7⟩ := q7; exact again I7 n7
    | brk => obtain ⟨σ7, H7, I7, q7⟩ := q7; exact ⟨σ7, H7, I7.unpinned, q7⟩
    | ret v => obtain ⟨x7, σ7, H7, I7, r7, q7⟩ := q7; exact ⟨x7, σ7, H7, I7.unpinned, r7, q7⟩
end
/-! ### the forms one uses -/
/-- while, by a word and a measure of the state -/
theorem while_by {c : TT} {tb : TS} {D : Ends} {σ : St} {H : Hp} (Pv : St → Hp → Prop) (μ : St → Hp → Nat) (h0 : Pv σ H)
    (hs : ∀ σ H, Pv σ H → c σ H fun b H1 => if b = true then tb { D with nx := fun σ' H' => Pv σ' H' ∧ μ σ' H' < μ σ H, ct := fun σ' H' => Pv σ' H' ∧ μ σ' H' < μ σ H, bk := D.nx } σ H1 else D.nx σ H1)
    (mono : ∀ σ H Q Q', (∀ b H1, Q b H1 → Q' b H1) → c σ H Q → c σ H Q') : tWhile c tb D σ H := by
  refine ⟨fun m σ H => m = μ σ H ∧ Pv σ H, ⟨_, rfl, h0⟩, ?_⟩
  rintro m σ H ⟨rfl, p⟩
  refine mono σ H _ _ (fun b H1 q => ?_) (hs σ H p)
  cases b with
  | true => exact ⟨_, fun σ' H' ⟨p', l⟩ => ⟨_, l, rfl, p'⟩, q⟩
  | false => exact q
end L2
namespace L2
open PySem PySem.Spec PyProof.Rows
abbrev R2 := V → V → Hp → VK → Prop
/-- a two-place operation on values: f is binaryOp op, inplaceOp op or compareOp op -/
def OpR (X : Cx) (f : Value → Value → Sem Value) (r : R2) : Prop :=
  ∀ (pins : List (Addr × Obj)) (s : Shared) (σ : St) (H : Hp) (x y : V) (v u : Value) (Q : VK), Inv X pins σ H s → RelV x v → RelV y u → r x y H Q →
    wpAny (model X.prog X.w) X.A (f v u) (EP X pins σ Q) X.xe s
/-- a one-place operation -/
def UnR (X : Cx) (f : Value → Sem Value) (r : V → Hp → VK → Prop) : Prop :=
  ∀ (pins : List (Addr × Obj)) (s : Shared) (σ : St) (H : Hp) (x : V) (v : Value) (Q : VK), Inv X pins σ H s → RelV x v → r x H Q →
    wpAny (model X.prog X.w) X.A (f v) (EP X pins σ Q) X.xe s
/-- a call of a value that is known (a builtin, a type) with values -/
def CallR (X : Cx) (f : Value) (r : List V → Hp → VK → Prop) : Prop :=
  ∀ (pins : List (Addr × Obj)) (s : Shared) (σ : St) (H : Hp) (xs : List V) (us : List Value) (Q : VK), Inv X pins σ H s → Vals xs us → r xs H Q →
    wpAny (model X.prog X.w) X.A (call f us) (EP X pins σ Q) X.xe s
def tOp (r : R2) (ta tb : TE) : TE := fun σ H Q => ta σ H fun x H1 => tb σ H1 fun y H2 => r x y H2 Q
def tUn (r : V → Hp → VK → Prop) (ta : TE) : TE := fun σ H Q => ta σ H fun x H1 => r x H1 Q
/-- ints in, under C, and a value out -/
def rI (C : Int → Int → Prop) (g : Int → Int → V) : R2 := fun x y H Q => ∃ i j, x = .int i ∧ y = .int j ∧ C i j ∧ Q (g i j) H
def rI0 (g : Int → Int → V) : R2 := fun x y H Q => ∃ i j, x = .int i ∧ y = .int j ∧ Q (g i j) H
def rU (g : Int → V) : V → Hp → VK → Prop := fun x H Q => ∃ i, x = .int i ∧ Q (g i) H
section
variable {X : Cx} {a b c : Expr} {ta tb tc : TE} {pos : Pos}
theorem binT (ha : PE X a ta) (hb : PE X b tb) {pins : List (Addr × Obj)} {s : Shared} {σ : St} {H : Hp} {R : V → V → Hp → Prop} (I : Inv X pins σ H s)
    (h : ta σ H fun x H1 => tb σ H1 fun y H2 => R x y H2) {Q : Value → Shared → Prop} {f : Value → Value → Sem Value}
    (hf : ∀ v u s2 x y H2, Inv X pins σ H2 s2 → RelV x v → RelV y u → R x y H2 → wpAny (model X.prog X.w) X.A (f v u) Q X.xe s2) :
    wpAny (model X.prog X.w) X.A (eval a X.env) (fun v s₁ => wpAny (model X.prog X.w) X.A (eval b X.env) (fun u s₂ => wpAny (model X.prog X.w) X.A (f v u) Q X.xe s₂) X.xe s₁) X.xe s := by
  refine thn (ha pins s σ H _ I h) fun v s1 ⟨x, H1, I1, r1, q1⟩ => ?_
  refine thn (hb pins s1 σ H1 _ I1 q1) fun u s2 ⟨y, H2, I2, r2, q2⟩ => ?_
  exact hf v u s2 x y H2 I2 r1 r2 q2
theorem pe_op {op : Operator} {r : R2} (ho : OpR X (binaryOp op) r) (ha : PE X a ta) (hb : PE X b tb) : PE X (.BinOp a op b pos) (tOp r ta tb) := by
  intro pins s σ H Q I h
  exact wpAny_BinOp (binT ha hb I h fun v u s2 x y H2 I2 rx ry q => ho pins s2 σ H2 x y v u Q I2 rx ry q)
theorem pe_un {op : UnaryOp} {r : V → Hp → VK → Prop} (ho : UnR X (unaryOp op) r) (ha : PE X a ta) : PE X (.UnaryOp op a pos) (tUn r ta) := by
  intro pins s σ H Q I h
  exact UnaryOp_ (thn (ha pins s σ H _ I h) fun v s1 ⟨x, H1, I1, r1, q1⟩ => ho pins s1 σ H1 x v Q I1 r1 q1)
/-! ### ints -/
theorem opI {f : Value → Value → Sem Value} {C : Int → Int → Prop} {g : Int → Int → Int}
    (rule : ∀ (i j : Int) (t u : Tok) (s : Shared) (Q : Value → Shared → Prop) (E : Value → Shared → Prop), C i j → Q (.int (g i j) s.toks) { s with toks := s.toks + 1 } → wpAny (model X.prog X.w) X.A (f (.int i t) (.int j u)) Q E s) :
    OpR X f (rI C fun i j => .int (g i j)) := by
  intro pins s σ H x y v u Q I rx ry h
  obtain ⟨i, j, rfl, rfl, hc, q⟩ := h
  obtain ⟨t, rfl⟩ := rx
  obtain ⟨t', rfl⟩ := ry
  exact rule i j t t' s _ _ hc ⟨.int (g i j), H, I.tok _, ⟨_, rfl⟩, q⟩
theorem opI0 {f : Value → Value → Sem Value} {g : Int → Int → Int}
    (rule : ∀ (i j : Int) (t u : Tok) (s : Shared) (Q : Value → Shared → Prop) (E : Value → Shared → Prop), Q (.int (g i j) s.toks) { s with toks := s.toks + 1 } → wpAny (model X.prog X.w) X.A (f (.int i t) (.int j u)) Q E s) :
    OpR X f (rI0 fun i j => .int (g i j)) := by
  intro pins s σ H x y v u Q I rx ry h
  obtain ⟨i, j, rfl, rfl, q⟩ := h
  obtain ⟨t, rfl⟩ := rx
  obtain ⟨t', rfl⟩ := ry
  exact rule i j t t' s _ _ ⟨.int (g i j), H, I.tok _, ⟨_, rfl⟩, q⟩
theorem opB0 {f : Value → Value → Sem Value} {g : Int → Int → Bool}
    (rule : ∀ (i j : Int) (t u : Tok) (s : Shared) (Q : Value → Shared → Prop) (E : Value → Shared → Prop), Q (.bool (g i j)) s → wpAny (model X.prog X.w) X.A (f (.int i t) (.int j u)) Q E s) :
    OpR X f (rI0 fun i j => .bl (g i j)) := by
  intro pins s σ H x y v u Q I rx ry h
  obtain ⟨i, j, rfl, rfl, q⟩ := h
  obtain ⟨t, rfl⟩ := rx
  obtain ⟨t', rfl⟩ := ry
  exact rule i j t t' s _ _ ⟨.bl (g i j), H, I, rfl, q⟩
theorem op_add : OpR X (binaryOp .Add) (rI0 fun i j => .int (i + j)) := opI0 fun _ _ _ _ _ _ _ q => add_int q
theorem op_sub : OpR X (binaryOp .Sub) (rI0 fun i j => .int (i - j)) := opI0 fun _ _ _ _ _ _ _ q => sub_int q
/-- % by a positive divisor of any size -/
theorem op_mod : OpR X (binaryOp .Mod) (rI (fun _ j => 0 < j) fun i j => .int (i % j)) := opI fun i j _ _ _ _ _ hc q => by
  have h1 : (0 : Int) < j := hc
  exact mod_int' (by omega) (by rw [Int.fmod_eq_emod_of_nonneg i (by omega)]; exact q)
theorem unI {f : Value → Sem Value} {g : Int → Int}
    (rule : ∀ (i : Int) (t : Tok) (s : Shared) (Q : Value → Shared → Prop) (E : Value → Shared → Prop), Q (.int (g i) s.toks) { s with toks := s.toks + 1 } → wpAny (model X.prog X.w) X.A (f (.int i t)) Q E s) :
    UnR X f (rU fun i => .int (g i)) := by
  intro pins s σ H x v Q I rx h
  obtain ⟨i, rfl, q⟩ := h
  obtain ⟨t, rfl⟩ := rx
  exact rule i t s _ _ ⟨.int (g i), H, I.tok _, ⟨_, rfl⟩, q⟩
theorem un_neg : UnR X (unaryOp .USub) (rU fun i => .int (-i)) := unI fun _ _ _ _ _ q => neg_int q
/-! ### bools among ints: n += (a < b) -/
end
/-! ### comparisons -/
/-- the scalars that == tells apart as data does -/
def scal : V → V → Bool
  | .non, .non => true | .non, .int _ => true | .int _, .non => true | .non, .bl _ => true | .bl _, .non => true | .non, .str _ => true | .str _, .non => true
  | .int _, .int _ => true | .bl _, .bl _ => true | .str _, .str _ => true | .byt _, .byt _ => true
  | .int _, .str _ => true | .str _, .int _ => true | .bl _, .str _ => true | .str _, .bl _ => true
  | _, _ => false
def rEq : R2 := fun x y H Q => scal x y = true ∧ Q (.bl (decide (x = y))) H
def rNe : R2 := fun x y H Q => scal x y = true ∧ Q (.bl (!decide (x = y))) H
theorem dec_int {i j : Int} : decide (V.int i = V.int j) = (i == j) := by
  rw [Bool.eq_iff_iff]
  simp
theorem dec_bl {i j : Bool} : decide (V.bl i = V.bl j) = (i == j) := by
  rw [Bool.eq_iff_iff]
  simp
theorem dec_str {i j : Str} : decide (V.str i = V.str j) = (i == j) := by
  rw [Bool.eq_iff_iff]
  simp
theorem dec_byt {i j : Array UInt8} : decide (V.byt i = V.byt j) = (i.toList == j.toList) := by
  rw [Bool.eq_iff_iff]
  cases i
  cases j
  simp
section
variable {X : Cx} {a b c : Expr} {ta tb tc : TE} {pos : Pos}
theorem fin_bl {pins : List (Addr × Obj)} {σ : St} {H : Hp} {s : Shared} {Q : VK} {k k' : Bool} (I : Inv X pins σ H s) (q : Q (.bl k) H) (e : k = k') : EP X pins σ Q (.bool k') s := by
  subst e
  exact ⟨.bl k, H, I, rfl, q⟩
theorem op_eq : OpR X (compareOp .Eq) rEq := by
  intro pins s σ H x y v u Q I rx ry h
  obtain ⟨hs, q⟩ := h
  cases x with
  | non =>
    cases rx
    cases y with
    | non => cases ry; exact PySem.EqNone.eq_none_none (fin_bl I q (by simp))
    | bl j => cases ry; exact PySem.EqNone.eq_none_bool (fin_bl I q (by simp))
    | int j => obtain ⟨t', rfl⟩ := ry; exact PySem.EqNone.eq_none_int (fin_bl I q (by simp))
    | str j => obtain ⟨t', rfl⟩ := ry; exact PySem.EqNone.eq_none_str (fin_bl I q (by simp))
    | _ => exact absurd (show false = true from hs) Bool.false_ne_true
  | bl i =>
    cases rx
    cases y with
    | non => cases ry; exact PySem.EqNone.eq_bool_none (fin_bl I q (by simp))
    | bl j => cases ry; exact eq_bool (fin_bl I q dec_bl)
    | str j => obtain ⟨t', rfl⟩ := ry; exact PySem.EqMixed.eq_bool_str (fin_bl I q (by simp))
    | _ => exact absurd (show false = true from hs) Bool.false_ne_true
  | int i =>
    obtain ⟨t, rfl⟩ := rx
    cases y with
    | non => cases ry; exact PySem.EqNone.eq_int_none (fin_bl I q (by simp))
    | int j => obtain ⟨t', rfl⟩ := ry; exact eq_int (fin_bl I q dec_int)
    | str j => obtain ⟨t', rfl⟩ := ry; exact PySem.EqMixed.eq_int_str (fin_bl I q (by simp))
    | _ => exact absurd (show false = true from hs) Bool.false_ne_true
  | str i =>
    obtain ⟨t, rfl⟩ := rx
    cases y with
    | non => cases ry; exact PySem.EqNone.eq_str_none (fin_bl I q (by simp))
    | bl j => cases ry; exact PySem.EqMixed.eq_str_bool (fin_bl I q (by simp))
    | int j => obtain ⟨t', rfl⟩ := ry; exact PySem.EqMixed.eq_str_int (fin_bl I q (by simp))
    | str j => obtain ⟨t', rfl⟩ := ry; exact eq_str (fin_bl I q dec_str)
    | _ => exact absurd (show false = true from hs) Bool.false_ne_true
  | byt i =>
    obtain ⟨t, rfl⟩ := rx
    cases y with
    | byt j => obtain ⟨t', rfl⟩ := ry; exact PySem.W.eq_bytes (fin_bl I q dec_byt)
    | _ => exact absurd (show false = true from hs) Bool.false_ne_true
  | _ => cases y <;> exact absurd (show false = true from hs) Bool.false_ne_true
theorem op_ne : OpR X (compareOp .NotEq) rNe := by
  intro pins s σ H x y v u Q I rx ry h
  obtain ⟨hs, q⟩ := h
  cases x with
  | non =>
    cases rx
    cases y with
    | non => cases ry; exact PySem.EqNone.ne_none_none (fin_bl I q (by simp))
    | bl j => cases ry; exact PySem.EqNone.ne_none_bool (fin_bl I q (by simp))
    | int j => obtain ⟨t', rfl⟩ := ry; exact PySem.EqNone.ne_none_int (fin_bl I q (by simp))
    | str j => obtain ⟨t', rfl⟩ := ry; exact PySem.EqNone.ne_none_str (fin_bl I q (by simp))
    | _ => exact absurd (show false = true from hs) Bool.false_ne_true
  | bl i =>
    cases rx
    cases y with
    | non => cases ry; exact PySem.EqNone.ne_bool_none (fin_bl I q (by simp))
    | bl j => cases ry; exact ne_bool (fin_bl I q (congrArg not dec_bl))
    | str j => obtain ⟨t', rfl⟩ := ry; exact PySem.EqMixed.ne_bool_str (fin_bl I q (by simp))
    | _ => exact absurd (show false = true from hs) Bool.false_ne_true
  | int i =>
    obtain ⟨t, rfl⟩ := rx
    cases y with
    | non => cases ry; exact PySem.EqNone.ne_int_none (fin_bl I q (by simp))
    | int j => obtain ⟨t', rfl⟩ := ry; exact ne_int (fin_bl I q (congrArg not dec_int))
    | str j => obtain ⟨t', rfl⟩ := ry; exact PySem.EqMixed.ne_int_str (fin_bl I q (by simp))
    | _ => exact absurd (show false = true from hs) Bool.false_ne_true
  | str i =>
    obtain ⟨t, rfl⟩ := rx
    cases y with
    | non => cases ry; exact PySem.EqNone.ne_str_none (fin_bl I q (by simp))
    | bl j => cases ry; exact PySem.EqMixed.ne_str_bool (fin_bl I q (by simp))
    | int j => obtain ⟨t', rfl⟩ := ry; exact PySem.EqMixed.ne_str_int (fin_bl I q (by simp))
    | str j => obtain ⟨t', rfl⟩ := ry; exact ne_str (fin_bl I q (congrArg not dec_str))
    | _ => exact absurd (show false = true from hs) Bool.false_ne_true
  | byt i =>
    obtain ⟨t, rfl⟩ := rx
    cases y with
    | byt j => obtain ⟨t', rfl⟩ := ry; exact PySem.W.ne_bytes (fin_bl I q (congrArg not dec_byt))
    | _ => exact absurd (show false = true from hs) Bool.false_ne_true
  | _ => cases y <;> exact absurd (show false = true from hs) Bool.false_ne_true
theorem op_lt : OpR X (compareOp .Lt) (rI0 fun i j => .bl (decide (i < j))) := opB0 fun _ _ _ _ _ _ _ q => lt_int q
theorem op_le : OpR X (compareOp .LtE) (rI0 fun i j => .bl (decide (i ≤ j))) := opB0 fun _ _ _ _ _ _ _ q => le_int q
theorem op_gt : OpR X (compareOp .Gt) (rI0 fun i j => .bl (decide (j < i))) := opB0 fun _ _ _ _ _ _ _ q => gt_int q
/-- the one string within the other -/
theorem op_in_str : OpR X (compareOp .In) (fun x y H Q => ∃ i j, x = .str i ∧ y = .str j ∧ Q (.bl (!(Builtin.Str.occurrences j i 0 j.length 1).isEmpty)) H) := by
  intro pins s σ H x y v u Q I rx ry h
  obtain ⟨i, j, rfl, rfl, q⟩ := h
  obtain ⟨t, rfl⟩ := rx
  obtain ⟨t', rfl⟩ := ry
  exact in_str (fin_bl I q rfl)
/-- is None, is not None: the right side a value none -/
theorem op_isN : OpR X (compareOp .Is) (fun x y H Q => y = .non ∧ Q (.bl (decide (x = .non))) H) := by
  intro pins s σ H x y v u Q I rx ry h
  obtain ⟨rfl, q⟩ := h
  cases ry
  refine is_none_gen (fin_bl I q ?_)
  cases x <;> first
    | (cases rx; rfl)
    | (obtain ⟨rfl, _⟩ := rx; rfl)
    | (obtain ⟨t, rfl⟩ := rx; rfl)
theorem op_notN : OpR X (compareOp .IsNot) (fun x y H Q => y = .non ∧ Q (.bl (!decide (x = .non))) H) := by
  intro pins s σ H x y v u Q I rx ry h
  obtain ⟨rfl, q⟩ := h
  cases ry
  refine isnot_none_gen (fin_bl I q ?_)
  cases x <;> first
    | (cases rx; rfl)
    | (obtain ⟨rfl, _⟩ := rx; rfl)
    | (obtain ⟨t, rfl⟩ := rx; rfl)
/-- two rules for one operation: by cases -/
theorem OpR.or {f : Value → Value → Sem Value} {r r' : R2} (h : OpR X f r) (h' : OpR X f r') : OpR X f (fun x y H Q => r x y H Q ∨ r' x y H Q) := by
  intro pins s σ H x y v u Q I rx ry q
  rcases q with q | q
  · exact h pins s σ H x y v u Q I rx ry q
  · exact h' pins s σ H x y v u Q I rx ry q
theorem nomark (b : Expr) {op : CmpOp} (h : op ≠ .In := by decide) (h2 : op ≠ .NotIn := by decide) : behindInMarks op b = false := by
  have e1 : (op == CmpOp.In) = false := by cases op <;> first | rfl | exact absurd rfl h
  have e2 : (op == CmpOp.NotIn) = false := by cases op <;> first | rfl | exact absurd rfl h2
  cases b <;> simp [behindInMarks, e1, e2]
/-- a comparison as a value; hm: nomark b, or (for in, not in) by with_unfolding_all rfl -/
theorem pe_cmpR {op : CmpOp} {r : R2} (ho : OpR X (compareOp op) r) (ha : PE X a ta) (hb : PE X b tb) (hm : behindInMarks op b = false) : PE X (.Compare a [op] [b] pos) (tOp r ta tb) := by
  intro pins s σ H Q I h
  exact wpAny_Compare1 (binT ha hb I h fun v u s2 x y H2 I2 rx ry q => ho pins s2 σ H2 x y v u Q I2 rx ry q) hm
/-- a reading of a value as a test -/
def tTest (t : TE) : TT := fun σ H Q => t σ H fun x H' => ∃ k, x = .bl k ∧ Q k H'
theorem pt_cmpR {op : CmpOp} {r : R2} (ho : OpR X (compareOp op) r) (ha : PE X a ta) (hb : PE X b tb) (hm : behindInMarks op b = false) : PT X (.Compare a [op] [b] pos) (tTest (tOp r ta tb)) := by
  intro pins s σ H Q I h
  refine wpAny_isTrue_Compare1 (thn (ha pins s σ H _ I h) fun v s1 ⟨x, H1, I1, r1, q1⟩ => thn (hb pins s1 σ H1 _ I1 q1) fun u s2 ⟨y, H2, I2, r2, q2⟩ =>
    thn (ho pins s2 σ H2 x y v u _ I2 r1 r2 q2) fun c s3 ⟨z, H3, I3, r3, k, e, q3⟩ => ?_) hm
  subst e
  cases r3
  exact wpAny_truthy_bool ⟨H3, I3, q3⟩
/-- a op1 b op2 c -/
def tChain (r r' : R2) (ta tb tc : TE) : TE := fun σ H Q => ta σ H fun x H1 => tb σ H1 fun y H2 => r x y H2 fun z H3 => ∃ k, z = .bl k ∧
  (if k = true then tc σ H3 fun w' H4 => r' y w' H4 Q else Q (.bl false) H3)
theorem pt_chain {op op' : CmpOp} {r r' : R2} (ho : OpR X (compareOp op) r) (ho' : OpR X (compareOp op') r') (ha : PE X a ta) (hb : PE X b tb) (hc : PE X c tc)
    (hm : lastMarks [op, op'] [b, c] = false := by with_unfolding_all rfl) : PT X (.Compare a [op, op'] [b, c] pos) (tTest (tChain r r' ta tb tc)) := by
  intro pins s σ H Q I h
  refine isTrue_chain (thn (ha pins s σ H _ I h) fun v s1 ⟨x, H1, I1, r1, q1⟩ => test_link (thn (hb pins s1 σ H1 _ I1 q1) fun u s2 ⟨y, H2, I2, r2, q2⟩ =>
    thn (ho pins s2 σ H2 x y v u _ I2 r1 r2 q2) fun d s3 ⟨z, H3, I3, r3, k, e, q3⟩ => ?_)) hm
  subst e
  cases r3
  refine wpAny_truthy_bool ?_
  cases k with
  | false =>
    obtain ⟨k', e', q'⟩ := q3
    cases e'
    exact ite_ff ⟨H3, I3, q'⟩
  | true =>
    refine ite_tt (test_last (thn (hc pins s3 σ H3 _ I3 q3) fun w' s4 ⟨z', H4, I4, r4, q4⟩ => thn (ho' pins s4 σ H4 y z' u w' _ I4 r2 r4 q4) fun d' s5 ⟨z2, H5, I5, r5, k2, e2, q5⟩ => ?_))
    subst e2
    cases r5
    exact wpAny_truthy_bool ⟨H5, I5, q5⟩
/-! ### truth -/
theorem line63 : (sizeLine : Nat) < 2 ^ 63 := by rw [sizeLine_eq]; decide
/-! ### strs and bytes -/
theorem op_add_str : OpR X (binaryOp .Add) (fun x y H Q => ∃ i j, x = .str i ∧ y = .str j ∧ i.length + j.length ≤ sizeLine ∧ Q (.str (i ++ j)) H) := by
  intro pins s σ H x y v u Q I rx ry h
  obtain ⟨i, j, rfl, rfl, hz, q⟩ := h
  obtain ⟨t, rfl⟩ := rx
  obtain ⟨t', rfl⟩ := ry
  exact add_str (fun t' tk => ⟨.str (i ++ j), H, I.tok _, ⟨_, rfl⟩, q⟩) hz
/-! ### scalar builtins, by CallR -/
theorem vals1 {x : V} {us : List Value} (r : Vals [x] us) : ∃ u, us = [u] ∧ RelV x u := by
  cases r with
  | cons r1 r2 => cases r2; exact ⟨_, rfl, r1⟩
theorem vals2 {x y : V} {us : List Value} (r : Vals [x, y] us) : ∃ u w', us = [u, w'] ∧ RelV x u ∧ RelV y w' := by
  cases r with
  | cons r1 r2 =>
    cases r2 with
    | cons r3 r4 => cases r4; exact ⟨_, _, rfl, r1, r3⟩
theorem call_abs : CallR X (.builtin "abs") (fun xs H Q => ∃ i, xs = [.int i] ∧ Q (.int (if i < 0 then -i else i)) H) := by
  intro pins s σ H xs us Q I r h
  obtain ⟨i, rfl, q⟩ := h
  obtain ⟨u, rfl, t, rfl⟩ := vals1 r
  exact call_abs_int fun u tk => ⟨.int (if i < 0 then -i else i), H, I.tok _, ⟨_, rfl⟩, q⟩
/-- len of a str, a bytes, a list, a tuple -/
def LenV (K : PySem.W.Frag) (x : V) (H : Hp) (n : Nat) : Prop :=
  match x with
  | .str y => y.length ≤ sizeLine ∧ n = y.length
  | .byt y => y.size ≤ sizeLine ∧ n = y.size
  | .ref p => (∃ xs, SqL K H p xs ∧ n = xs.length) ∨ ∃ xs, SqT K H p xs ∧ n = xs.length
  | _ => False
theorem call_len : CallR X (.builtin "len") (fun xs H Q => ∃ x n, xs = [x] ∧ LenV X.K x H n ∧ Q (.int n) H) := by
  intro pins s σ H xs us Q I r h
  obtain ⟨x, n, rfl, e, q⟩ := h
  obtain ⟨u, rfl, rx⟩ := vals1 r
  have hl := line63
  have hs : sizeLine = 16777216 := sizeLine_eq
  cases x with
  | str y =>
    obtain ⟨t, rfl⟩ := rx
    obtain ⟨hy, e'⟩ : y.length ≤ sizeLine ∧ n = y.length := e
    subst e'
    exact len_str (by omega) ⟨.int _, H, I.tok _, ⟨_, rfl⟩, q⟩
  | byt y =>
    obtain ⟨t, rfl⟩ := rx
    obtain ⟨hy, e'⟩ : y.size ≤ sizeLine ∧ n = y.size := e
    subst e'
    exact PySem.W.len_bytes (by omega) ⟨.int _, H, I.tok _, ⟨_, rfl⟩, q⟩
  | ref p =>
    cases rx
    have e' : (∃ xs, SqL X.K H p xs ∧ n = xs.length) ∨ ∃ xs, SqT X.K H p xs ∧ n = xs.length := e
    rcases e' with ⟨xs, hx, e'⟩ | ⟨xs, hx, e'⟩
    · subst e'
      obtain ⟨its, r', pl, hz⟩ := I.list hx
      have hlen := r'.length
      exact Calls.call_len_list pl.isList (by simp only [List.size_toArray]; omega) ⟨.int xs.length, H, I.tok _, ⟨_, by simp only [List.size_toArray]; rw [hlen]⟩, q⟩
    · subst e'
      obtain ⟨its, r', pl, hz⟩ := I.tuple hx
      have hlen := r'.length
      exact len_tuple pl (by simp only [List.size_toArray]; omega) ⟨.int xs.length, H, I.tok _, ⟨_, by simp only [List.size_toArray]; rw [hlen]⟩, q⟩
  | _ => exact (show False from e).elim
end
end L2
namespace L2
open PySem PySem.Spec PyProof.Rows
/-! ### an instance, its attributes a map -/
structure ObjM (h : Heap) (x dx C : Addr) (mA : Str → Option Value) : Prop where
  obj : h.get? x = some (PySem.W.instObj C dx)
  ns : h.Ns1 dx mA
  ne : dx ≠ x
theorem lookIn_ns {h : Heap} {dx : Addr} {mA : Str → Option Value} (n : h.Ns1 dx mA) : ∃ od, h.get? dx = some od ∧ ∀ name, PySem.W.lookIn name od = some (mA name) := by
  obtain ⟨o, es, ep, ho, hd, hk, _, hm⟩ := n
  refine ⟨o, ho, fun name => ?_⟩
  have e := hm name
  unfold nsFind findBy at e
  rw [← Array.find?_toList] at e
  unfold PySem.W.lookIn
  rw [hd]
  dsimp only
  split
  · rename_i y q
    rw [q] at e
    exact congrArg some e
  · rename_i q
    rw [q] at e
    have a : es.toList.any (·.refKey) = false := by
      rw [List.any_eq_false]
      intro y hy
      obtain ⟨z, t, hkey⟩ := hk y (Array.mem_toList_iff.mp hy)
      simp [DictEntry.refKey, hkey]
    have a' : ¬ es.toList.any (·.refKey) = true := by rw [a]; exact Bool.false_ne_true
    rw [if_neg a']
    exact congrArg some e
theorem ObjM.look {h : Heap} {x dx C : Addr} {mA : Str → Option Value} (I : ObjM h x dx C mA) : ∃ od, PySem.W.InstAt h x (PySem.W.instObj C dx) C (some od) ∧ ∀ name, PySem.W.lookIn name od = some (mA name) :=
  let ⟨od, ho, hl⟩ := lookIn_ns I.ns
  ⟨od, ⟨I.obj, rfl, rfl, ho⟩, hl⟩
section
variable {prog : Program} {w : World} {A : Around} {E : Value → Shared → Prop} {s : Shared} {K : PySem.W.Frag} {x dx C f : Addr} {mA : Str → Option Value} {name : Str} {v : Value}
theorem get_map {expr : Bool} {Q : Value → Shared → Prop} (X : K.In s.heap) (I : ObjM s.heap x dx C mA) (hg : PySem.W.plainGet K C name = true) (hh : PySem.W.hasDictIn K C = true)
    (ha : PySem.W.findIn K (.ref C) name = some none) (hv : mA name = some v) (hv' : PySem.W.handedIn v = true) (h : Q v { s with toks := s.toks + 1 }) :
    wpAny (model prog w) A (getAttr (.ref x) name expr) Q E s := by
  obtain ⟨od, J, hl⟩ := I.look
  exact PySem.W.get_value X J (PySem.W.plainGet_of hg).1 (PySem.W.findObj_own hh ha rfl (by rw [hl, hv])) hv' h
theorem get_meth {pl : Sem Bool} {Q : Value × List Value → Shared → Prop} (X : K.In s.heap) (I : ObjM s.heap x dx C mA) (hg : PySem.W.plainGet K C name = true)
    (hf : PySem.W.findIn K (.ref C) name = some (some (.ref f))) (ht : PySem.W.isFn K (.ref f) = true) (hv : mA name = none) (h : Q (.ref f, [.ref x]) s) :
    wpAny (model prog w) A (getMethod (.ref x) name pl) Q E s := by
  obtain ⟨od, J, hl⟩ := I.look
  exact PySem.W.method_fn X J (PySem.W.plainGet_of hg).1 (PySem.W.plainGet_of hg).2 hf (beq_iff_eq.mp ht) (by show (PySem.W.lookIn name od).map (·.isSome) = some false; rw [hl, hv]; rfl) h
theorem set_map {ns : List Str} {Q : Unit → Shared → Prop} (X : K.In s.heap) (I : ObjM s.heap x dx C mA)
    (hs : PySem.W.findIn K (.ref C) "__setattr__" = some (some (.builtin "object.__setattr__"))) (hp : PySem.W.plainOver K C = true) (ht : PySem.W.takerIn K C name = some none) (hh : PySem.W.hasDictIn K C = true)
    (hw : PySem.Within mA ns) (hsz : ns.length ≤ sizeLine)
    (h : ∀ h', ObjM h' x dx C (fun y => if y = name then some v else mA y) → Heap.SameBut dx s.heap h' → Q () { s with heap := h', toks := s.toks + 2 }) :
    wpAny (model prog w) A (setAttr (.ref x) name v) Q E s := by
  obtain ⟨od, J, hl⟩ := I.look
  refine PySem.W.set_plain X J hs (PySem.W.osa_open (s := { s with toks := s.toks + 1 }) (r := none) X J hp ht fun b => ?_)
  obtain ⟨cd, hc, hd'⟩ := PySem.W.any_some hh
  have hx : s.heap.get? x = some ⟨.ref C, some dx, .plain, #[]⟩ := I.obj
  refine wpAny_bind (wpAny_pure (wpAny_bind (wpAny_bind (wpAny_loadPart hx (wpAny_bind (PySem.W.Looks.here (s := { s with toks := s.toks + 1 }) (PySem.W.looks_clsIn X hc) ?_))))))
  rw [hd']
  refine wpAny_pure (a := some dx) (wpAny_bind (wpAny_pure (wpAny_bind ?_)))
  refine wpAny_nsSet1 (s := { s with toks := s.toks + 1 }) I.ns fun h' hn2 hs2 => ?_
  obtain ⟨oD, esD, epD, hoD, hdD, hcD⟩ := hn2.count (PySem.Within.cons name v hw)
  refine wpAny_bind (wpAny_lookBehind hoD (by rw [hdD]; exact pastItsLine_dict (Nat.le_trans hcD (by rw [List.length_cons]; omega))) ?_)
  exact wpAny_pure (h _ ⟨(hs2.2 _ (Ne.symm I.ne)).trans I.obj, hn2, I.ne⟩ hs2)
/-- C(..): the dict at the heap's end, the instance behind it; then its __init__ -/
theorem make_map {R : Result → Shared → Prop} {vs : List Value} {kw : List (Str × Value)} (X : K.In s.heap) (hm : PySem.W.makesIn K C = true)
    (hi : PySem.W.findIn K (.ref C) "__init__" = some (some (.ref f))) (hf : PySem.W.typeIn K (.ref f) = some (.type "function"))
    (h : codeAny (model prog w) (A.under (.builtin "type.__call__" ⟨.ref C :: vs, kw⟩)) (.call (.ref f) ⟨.ref (s.heap.objs.size + 1) :: vs, kw⟩) (PySem.W.InitBack (s.heap.objs.size + 1) R)
      { s with heap := (s.heap.push PySem.W.emptyDict).push (PySem.W.instObj C s.heap.objs.size) }) :
    codeAny (model prog w) A (.call (.ref C) ⟨vs, kw⟩) R s := by
  obtain ⟨hh, g, d, t, os⟩ := s
  exact PySem.W.make_core (PySem.W.makes_of X hm) (PySem.W.looks_findIn X hi) (fun self => PySem.W.bind_fn X self hf) (.inl rfl) h
end
/-! ### the attributes as a list of pairs -/
def putF (f : Str) (v : V) : List (Str × V) → List (Str × V)
  | [] => [(f, v)]
  | (g, x) :: r => if g = f then (g, v) :: r else (g, x) :: putF f v r
theorem lookup_putF (f g : Str) (v : V) : ∀ fs : List (Str × V), (putF f v fs).lookup g = if g = f then some v else fs.lookup g
  | [] => by
    show List.lookup g [(f, v)] = _
    by_cases h : g = f
    · have hb : (g == f) = true := beq_iff_eq.mpr h
      simp only [List.lookup, hb, if_pos h]
    · have hb : (g == f) = false := beq_eq_false_iff_ne.mpr h
      simp only [List.lookup, hb, if_neg h]
  | (k, x) :: r => by
    have ih := lookup_putF f g v r
    rw [show putF f v ((k, x) :: r) = (if k = f then (k, v) :: r else (k, x) :: putF f v r) from rfl]
    by_cases hk : k = f
    · rw [if_pos hk]
      by_cases h : g = k
      · have hb : (g == k) = true := beq_iff_eq.mpr h
        simp only [List.lookup, hb, if_pos (h.trans hk)]
      · have hb : (g == k) = false := beq_eq_false_iff_ne.mpr h
        simp only [List.lookup, hb, if_neg (fun e : g = f => h (e.trans hk.symm))]
    · rw [if_neg hk]
      by_cases h : g = k
      · have hb : (g == k) = true := beq_iff_eq.mpr h
        simp only [List.lookup, hb, if_neg (fun e : g = f => hk (h.symm.trans e))]
      · have hb : (g == k) = false := beq_eq_false_iff_ne.mpr h
        simp only [List.lookup, hb]
        exact ih
theorem keys_putF (f : Str) (v : V) : ∀ fs : List (Str × V), f ∈ (putF f v fs).map (·.1) ∧ ∀ g, g ∈ fs.map (·.1) → g ∈ (putF f v fs).map (·.1)
  | [] => ⟨by simp [putF], fun g h => by simp at h⟩
  | (k, x) :: r => by
    obtain ⟨i1, i2⟩ := keys_putF f v r
    rw [show putF f v ((k, x) :: r) = (if k = f then (k, v) :: r else (k, x) :: putF f v r) from rfl]
    by_cases hk : k = f
    · rw [if_pos hk]
      subst hk
      exact ⟨by simp, fun g h => by simpa using h⟩
    · rw [if_neg hk]
      refine ⟨?_, fun g h => ?_⟩
      · rw [List.map_cons]
        exact List.mem_cons_of_mem _ i1
      · rw [List.map_cons] at h ⊢
        rcases List.mem_cons.mp h with e | e
        · exact List.mem_cons.mpr (.inl e)
        · exact List.mem_cons_of_mem _ (i2 g e)
theorem length_putF (f : Str) (v : V) : ∀ fs : List (Str × V), (putF f v fs).length ≤ fs.length + 1
  | [] => by simp [putF]
  | (k, x) :: r => by
    have ih := length_putF f v r
    rw [show putF f v ((k, x) :: r) = (if k = f then (k, v) :: r else (k, x) :: putF f v r) from rfl]
    by_cases hk : k = f
    · rw [if_pos hk, List.length_cons, List.length_cons]; omega
    · rw [if_neg hk, List.length_cons, List.length_cons]; omega
theorem RelO.some_of {v : V} {o : Option Value} (r : RelO (some v) o) : ∃ u, o = some u ∧ RelV v u := by
  cases o with
  | none => exact (show False from r).elim
  | some u => exact ⟨u, rfl, r⟩
theorem RelO.none_of {o : Option Value} (r : RelO none o) : o = none := by
  cases o with
  | none => rfl
  | some u => exact (show False from r).elim
theorem handed_of {v : V} {u : Value} (r : RelV v u) : PySem.W.handedIn u = true := by
  cases v with
  | non => cases (show u = Value.none from r); rfl
  | bl b => cases (show u = Value.bool b from r); rfl
  | int i => obtain ⟨t, e⟩ := (show ∃ t, u = Value.int i t from r); cases e; rfl
  | str x => obtain ⟨t, e⟩ := (show ∃ t, u = Value.str x t from r); cases e; rfl
  | byt b => obtain ⟨t, e⟩ := (show ∃ t, u = Value.bytes b t from r); cases e; rfl
  | flt b => obtain ⟨t, e⟩ := (show ∃ t, u = Value.float b t from r); cases e; rfl
  | ref a => cases (show u = Value.ref a from r); rfl
  | ty n => cases (show u = Value.type n from r); rfl
  | stk x t => obtain ⟨e, _⟩ := (show u = Value.str x t ∧ t ≠ 0 from r); cases e; rfl
section
variable {P : Program} {w : World} {H H' : Hp} {h h' : Heap} {a C dx : Addr} {fs fs' : List (Str × V)}
theorem ins_get (hok : HOk P w H h) (e : H a = some (.ins C dx fs)) : ∃ mA, ObjM h a dx C mA ∧ (∀ f, RelO (fs.lookup f) (mA f)) ∧ PySem.Within mA (fs.map (·.1)) ∧ fs.length ≤ 1000 ∧ H dx = some (.own a) := by
  obtain ⟨d, z, ne, ob, mA, n, r, q⟩ := (show ObjOk P w H h a (.ins C dx fs) from hok a _ e)
  exact ⟨mA, ⟨ob, n, ne⟩, r, q, z, d⟩
end
/-! ### what of the text a class must have -/
structure Cls (K : PySem.W.Frag) (C : Addr) : Prop where
  pg : PySem.W.plainGet K C Str.empty = true
  hd : PySem.W.hasDictIn K C = true
  po : PySem.W.plainOver K C = true
  sa : PySem.W.findIn K (.ref C) "__setattr__" = some (some (.builtin "object.__setattr__"))
theorem Cls.get {K : PySem.W.Frag} {C : Addr} (c : Cls K C) (f : Str) : PySem.W.plainGet K C f = true := c.pg
/-- no class of it has the name -/
def NoAttr (K : PySem.W.Frag) (C : Addr) (f : Str) : Prop := PySem.W.findIn K (.ref C) f = some none
theorem NoAttr.taker {K : PySem.W.Frag} {C : Addr} {f : Str} (n : NoAttr K C f) : PySem.W.takerIn K C f = some none := by
  unfold PySem.W.takerIn
  rw [show PySem.W.findIn K (.ref C) f = some none from n]
  rfl
/-- a method: a plain def of the class or of one above it -/
structure Meth (K : PySem.W.Frag) (C : Addr) (m : Str) (f : Addr) : Prop where
  at_ : PySem.W.findIn K (.ref C) m = some (some (.ref f))
  fn : PySem.W.isFn K (.ref f) = true
  kp : PySem.W.keepIn K (.ref f) = true
section
variable {X : Cx} {pins : List (Addr × Obj)} {σ : St} {H : Hp} {s : Shared} {a C dx : Addr} {fs : List (Str × V)} {f : Str} {v : V} {A : Around} {E : Value → Shared → Prop}
theorem getattr_ok {b : Bool} {Q : Value → Shared → Prop} (I : Inv X pins σ H s) (e : H a = some (.ins C dx fs)) (c : Cls X.K C) (n : NoAttr X.K C f) (l : fs.lookup f = some v)
    (h : ∀ u s', Inv X pins σ H s' → RelV v u → Q u s') : wpAny (model X.prog X.w) A (getAttr (.ref a) f b) Q E s := by
  obtain ⟨mA, O, r, _, _, _⟩ := ins_get I.hok e
  obtain ⟨u, hu, ru⟩ := RelO.some_of (v := v) (o := mA f) (by rw [← l]; exact r f)
  exact get_map I.kIn O (c.get f) c.hd n hu (handed_of ru) (h u _ (I.tok _) ru)
theorem getmeth_ok {m : Str} {g : Addr} {pl : Sem Bool} {Q : Value × List Value → Shared → Prop} (I : Inv X pins σ H s) (e : H a = some (.ins C dx fs)) (c : Cls X.K C) (k : Meth X.K C m g) (l : fs.lookup m = none)
    (h : Q (.ref g, [.ref a]) s) : wpAny (model X.prog X.w) A (getMethod (.ref a) m pl) Q E s := by
  obtain ⟨mA, O, r, _, _, _⟩ := ins_get I.hok e
  have hn : mA m = none := RelO.none_of (by rw [← l]; exact r m)
  exact get_meth I.kIn O (c.get m) k.at_ k.fn hn h
theorem setattr_ok {y : V} {u : Value} {Q : Unit → Shared → Prop} (I : Inv X pins σ H s) (e : H a = some (.ins C dx fs)) (c : Cls X.K C) (n : NoAttr X.K C f) (hl : fs.length < 1000) (ry : RelV y u)
    (h : ∀ s', Inv X pins σ (upd H a (.ins C dx (putF f y fs))) s' → Q () s') : wpAny (model X.prog X.w) A (setAttr (.ref a) f u) Q E s := by
  obtain ⟨mA, O, r, wi, _, ho⟩ := ins_get I.hok e
  have hz : (fs.map (·.1)).length ≤ sizeLine := by rw [List.length_map, sizeLine_eq]; omega
  refine set_map I.kIn O c.sa c.po n.taker c.hd wi hz fun h' O' sb => h _ ?_
  have hd : ∃ o, h'.get? dx = some o := let ⟨o, _, _, e', _⟩ := O'.ns; ⟨o, e'⟩
  refine I.write (x := a) (e := dx) (by rw [e]; exact True.intro) (.inr ho) (fun b q hb z => (sb.2 b hb).trans z) hd ?_
  refine ⟨by rw [upd_ne O.ne]; exact ho, ?_, O.ne, O'.obj, _, O'.ns, fun g => ?_, fun g hg => ?_⟩
  · have := length_putF f y fs; omega
  · show RelO ((putF f y fs).lookup g) (if g = f then some u else mA g)
    rw [lookup_putF]
    by_cases q : g = f
    · rw [if_pos q, if_pos q]; exact ry
    · rw [if_neg q, if_neg q]; exact r g
  · by_cases q : g = f
    · rw [q]; exact (keys_putF f y fs).1
    · refine (keys_putF f y fs).2 g (wi g fun z => hg ?_)
      show (if g = f then some u else mA g) = none
      rw [if_neg q]; exact z
/-- a new instance, tracked, without attributes -/
theorem Inv.made (I : Inv X pins σ H s) : Inv X pins σ (upd (upd H s.heap.objs.size (.own (s.heap.objs.size + 1))) (s.heap.objs.size + 1) (.ins C s.heap.objs.size []))
    { s with heap := (s.heap.push PySem.W.emptyDict).push (PySem.W.instObj C s.heap.objs.size) } := by
  have e1 : (s.heap.push PySem.W.emptyDict).get? s.heap.objs.size = some PySem.W.emptyDict := Heap.get?_push_size s.heap rfl
  have e2 : ((s.heap.push PySem.W.emptyDict).push (PySem.W.instObj C s.heap.objs.size)).get? (s.heap.objs.size + 1) = some (PySem.W.instObj C s.heap.objs.size) := by
    have := Heap.get?_push_size (s.heap.push PySem.W.emptyDict) (o := PySem.W.instObj C s.heap.objs.size) rfl
    rwa [Heap.size_push] at this
  have e3 : (s.heap.push PySem.W.emptyDict).Ns s.heap.objs.size (fun _ => none) := ⟨PySem.W.emptyDict, #[], _, e1, rfl, (fun e he => absurd he (by simp)), fun _ => rfl⟩
  have I1 := I.laid (a := s.heap.objs.size) (o := .own (s.heap.objs.size + 1)) (h' := s.heap.push PySem.W.emptyDict) (t' := s.toks) (fun b u q => Heap.get?_push_of_some _ q) (Nat.le_refl _) ⟨_, e1⟩
  refine I1.laid (a := s.heap.objs.size + 1) (o := .ins C s.heap.objs.size []) (t' := s.toks) (fun b u q => Heap.get?_push_of_some _ q) (Nat.le_of_eq (Heap.size_push _ _)) ?_
  have ne : s.heap.objs.size ≠ s.heap.objs.size + 1 := Nat.ne_of_lt (Nat.lt_succ_self _)
  refine ⟨by rw [upd_ne ne, upd_same], Nat.zero_le _, ne, e2, fun _ => none, (Heap.Ns1.of_empty e3).at fun o q => Heap.get?_push_of_some _ q, fun _ => True.intro, fun y hy => absurd rfl hy⟩
/-- e.f where nothing but the object is asked: through attributeBase (super) and the last hold -/
theorem attr_of {prog : Program} {w : World} {env : Env} {e : Expr} {f : Str} {pos : Pos} {s : Shared} {Q : Value → Shared → Prop} (hb : attributeBase e f env (eval e env) = eval e env)
    (h : wpAny (model prog w) A (eval e env) (fun o s₁ => wpAny (model prog w) A (getAttr o f true) Q E s₁) E s) : wpAny (model prog w) A (eval (.Attribute e f pos) env) Q E s :=
  Attribute_any_ h (by rw [arm_eval_Attribute, hb])
end
/-! ### readings and rules -/
/-- e.f, an attribute of the instance -/
def tFld (K : PySem.W.Frag) (ta : TE) (f : Str) : TE := fun σ H Q => ta σ H fun x H1 => ∃ a C dx fs v, x = .ref a ∧ H1 a = some (.ins C dx fs) ∧ Cls K C ∧ NoAttr K C f ∧ fs.lookup f = some v ∧ Q v H1
/-- e.f = value -/
def sFld (K : PySem.W.Frag) (ta tv : TE) (f : Str) : TS := fun D σ H => tv σ H fun y H1 => ta σ H1 fun x H2 => ∃ a C dx fs, x = .ref a ∧ H2 a = some (.ins C dx fs) ∧ Cls K C ∧ NoAttr K C f ∧ fs.length < 1000 ∧
  D.nx σ (upd H2 a (.ins C dx (putF f y fs)))
section
variable {X : Cx} {o e value : Expr} {f : Str} {pos pos' tpos : Pos} {ta tv : TE}
theorem pe_fld (he : PE X e ta) (hb : attributeBase e f X.env (eval e X.env) = eval e X.env) : PE X (.Attribute e f pos) (tFld X.K ta f) := by
  intro pins s σ H Q I h
  refine attr_of hb (thn (he pins s σ H _ I h) fun u s1 ⟨x, H1, I1, rx, a, C, dx, fs, v, ex, ea, c, n, l, q⟩ => ?_)
  subst ex
  obtain rfl : u = Value.ref a := rx
  exact getattr_ok I1 ea c n l fun u' s2 I2 ru => ⟨v, H1, I2, ru, q⟩
theorem ps_fld (ha : PE X o ta) (hv : PE X value tv) (hs : swapsWith value (some (.Attribute o f pos')) pos.line X.env = pure false) : PS X (.Assign [.Attribute o f pos'] value pos) (sFld X.K ta tv f) := by
  intro pins s σ H D I h
  refine plainObj_wpAny_Assign_Attribute (thn (hv pins s σ H _ I h) fun u s1 ⟨y, H1, I1, ry, q⟩ => thn (ha pins s1 σ H1 _ I1 q) fun ov s2 ⟨x, H2, I2, rx, a, C, dx, fs, ex, ea, c, n, l, q2⟩ => ?_) hs
  subst ex
  obtain rfl : ov = Value.ref a := rx
  exact setattr_ok I2 ea c n l ry fun s3 I3 => ⟨σ, _, I3, q2⟩
/-- what is between an instance and its method: the tree of a method call -/
theorem methcall_of {pl : Sem Bool} {m : Str} {apos : Pos} {args : List Expr} {pins : List (Addr × Obj)} {s : Shared} {σ : St} {H : Hp} {Q : Value → Shared → Prop} {te : TE} (he : PE X e te) (I : Inv X pins σ H s)
    (h : te σ H fun x H1 => ∃ a C dx fs g, x = .ref a ∧ H1 a = some (.ins C dx fs) ∧ Cls X.K C ∧ Meth X.K C m g ∧ fs.lookup m = none ∧
      ∀ s1, Inv X pins σ H1 s1 → wpAny (model X.prog X.w) X.A (callWith pos (.ref g) [.ref a] (backTo pos (starEach args X.env)) (backToKw pos (keywordEach [] X.env))) Q X.xe s1)
    (ht : eval (.Call (.Attribute e m apos) args [] pos) X.env = (do
      let ov ← eval e X.env
      standAt apos.atName
      let (f, first) ← holding [ov] (getMethod ov m pl)
      callWith pos f first (backTo pos (starEach args X.env)) (backToKw pos (keywordEach [] X.env)))) :
    wpAny (model X.prog X.w) X.A (eval (.Call (.Attribute e m apos) args [] pos) X.env) Q X.xe s := by
  refine PySem.W.methodCall_KW (pl := pl) (thn (he pins s σ H _ I h) fun u s1 ⟨x, H1, I1, rx, a, C, dx, fs, g, ex, ea, c, k, l, q⟩ => ?_) ht
  subst ex
  obtain rfl : u = Value.ref a := rx
  exact getmeth_ok I1 ea c k l (q s1 I1)
end
/-! ### isinstance -/
section
variable {X : Cx} {pins : List (Addr × Obj)} {σ : St} {H : Hp} {s : Shared} {A : Around} {E : Value → Shared → Prop} {Q : Value → Shared → Prop} {c : Value} {b : Bool}
/-- the type of a value, as the fragment's deciders take it; for an instance its class -/
inductive TyOf (K : PySem.W.Frag) (H : Hp) : V → Value → Prop where
  | non : TyOf K H .non (.type "NoneType")
  | bl (x : Bool) : TyOf K H (.bl x) (.type "bool")
  | int (i : Int) : TyOf K H (.int i) (.type "int")
  | str (x : Str) : TyOf K H (.str x) (.type "str")
  | flt (x : UInt64) : TyOf K H (.flt x) (.type "float")
  | lst {a : Addr} {xs : List V} (e : H a = some (.lst xs)) : TyOf K H (.ref a) (.type "list")
  | frz {a : Addr} {o : Obj} {xs : List V} (e : H a = some (.frz o (.lst xs))) : TyOf K H (.ref a) (.type "list")
  | tup {a : Addr} {xs : List V} (e : H a = some (.tup xs)) : TyOf K H (.ref a) (.type "tuple")
  | dK {a : Addr} {kvs : List (Key × V)} (e : H a = some (.dK kvs)) : TyOf K H (.ref a) (.type "dict")
  | dT {a : Addr} {kvs : List (List Key × V)} (e : H a = some (.dT kvs)) : TyOf K H (.ref a) (.type "dict")
  | ins {a C dx : Addr} {fs : List (Str × V)} (e : H a = some (.ins C dx fs)) (cl : Cls K C) (ha : PySem.W.findIn K (.ref C) "__class__" = some (some (.builtin "object.__class__")))
      (hn : PySem.W.specialIn K (.builtin "object.__class__") "__get__" = some (some (.builtin "getset_descriptor.__get__"))) (htk : PySem.W.takesIn K (.builtin "object.__class__") = some true)
      (hm : PySem.W.mroIn K C (.type "object") = some true) : TyOf K H (.ref a) (.ref C)
/-- isinstance(x, c) for one class c, a built-in or an own one: kitOne's answer -/
theorem isinst_ok {x : V} {u t : Value} (I : Inv X pins σ H s) (rx : RelV x u) (ty : TyOf X.K H x t) (e : PySem.W.kitOne X.K t c = some b) (h : ∀ tk, Q (.bool b) { s with toks := tk }) :
    wpAny (model X.prog X.w) A (call (.builtin "isinstance") [u, c]) Q E s := by
  cases ty with
  | non => cases (show u = Value.none from rx); exact PySem.W.kia_one PySem.W.kitx_none I.kIn True.intro e (fun z => nomatch z) h
  | bl y => cases (show u = Value.bool y from rx); exact PySem.W.kia_one PySem.W.kitx_bool I.kIn True.intro e (fun z => nomatch z) h
  | int i => obtain ⟨t, q⟩ := (show ∃ t, u = Value.int i t from rx); cases q; exact PySem.W.kia_one PySem.W.kitx_int I.kIn True.intro e (fun z => nomatch z) h
  | str y => obtain ⟨t, q⟩ := (show ∃ t, u = Value.str y t from rx); cases q; exact PySem.W.kia_one PySem.W.kitx_str I.kIn True.intro e (fun z => nomatch z) h
  | flt y => obtain ⟨t, q⟩ := (show ∃ t, u = Value.float y t from rx); cases q; exact PySem.W.kia_one PySem.W.kitx_float I.kIn True.intro e (fun z => nomatch z) h
  | @lst a xs ea =>
    cases (show u = Value.ref a from rx)
    obtain ⟨_, _, n, _, h1⟩ := (show ObjOk X.prog X.w H s.heap a (.lst xs) from I.hok a _ ea)
    exact PySem.W.kia_one PySem.W.kitx_list I.kIn ⟨_, h1, rfl⟩ e (fun z => nomatch z) h
  | @frz a ob xs ea =>
    cases (show u = Value.ref a from rx)
    obtain ⟨_, _, _, n, _, h1⟩ := (show ObjOk X.prog X.w H s.heap a (.frz ob (.lst xs)) from I.hok a _ ea)
    exact PySem.W.kia_one PySem.W.kitx_list I.kIn ⟨_, h1, rfl⟩ e (fun z => nomatch z) h
  | @tup a xs ea =>
    cases (show u = Value.ref a from rx)
    obtain ⟨_, _, _, p⟩ := (show ObjOk X.prog X.w H s.heap a (.tup xs) from I.hok a _ ea)
    obtain ⟨o, h1, h2, _⟩ := p
    exact PySem.W.kia_one PySem.W.kitx_tuple I.kIn ⟨o, h1, h2⟩ e (fun z => nomatch z) h
  | @dK a kvs ea =>
    cases (show u = Value.ref a from rx)
    obtain ⟨_, _, vs, _, p⟩ := (show ObjOk X.prog X.w H s.heap a (.dK kvs) from I.hok a _ ea)
    obtain ⟨o, es, ep, h1, h2, _⟩ := p
    exact PySem.W.kia_one PySem.W.kitx_dict I.kIn ⟨o, h1, h2.1⟩ e (fun z => nomatch z) h
  | @dT a kvs ea =>
    cases (show u = Value.ref a from rx)
    obtain ⟨_, _, xs, _, o, es, ep, h1, h2, _⟩ := (show ObjOk X.prog X.w H s.heap a (.dT kvs) from I.hok a _ ea)
    exact PySem.W.kia_one PySem.W.kitx_dict I.kIn ⟨o, h1, h2.1⟩ e (fun z => nomatch z) h
  | @ins a C dx fs ea cl ha hn htk hm =>
    cases (show u = Value.ref a from rx)
    obtain ⟨mA, O, _⟩ := ins_get I.hok ea
    obtain ⟨od, J, _⟩ := O.look
    exact PySem.W.kia_one (PySem.W.kitx_own (cl.get _) cl.hd ha hn htk hm) I.kIn J e (fun z => nomatch z) h
end
end L2
namespace L2
open PySem PySem.Spec PyProof.Rows
/-! ### room -/
structure Room (k : Nat) (A : Around) : Prop where
  hd : A.handled = none
  dp : A.depth + 3 * k + 5 < recursionLimit
  un : A.units + 16 * k + 200 < cLine
theorem Room.mono {j k : Nat} {A : Around} (r : Room k A) (h : j ≤ k) : Room j A := ⟨r.hd, by have := r.dp; omega, by have := r.un; omega⟩
theorem Room.deeper {k : Nat} {A : Around} (r : Room (k + 1) A) (env : Env) : Room k (A.deeper env) :=
  ⟨r.hd, by have := r.dp; show A.depth + 1 + 3 * k + 5 < _; omega, by have := r.un; show A.units + 3 + 16 * k + 200 < _; omega⟩
theorem make_depth {A : Around} {C : Addr} {us : List Value} {kw : List (Str × Value)} : (A.under (.builtin "type.__call__" ⟨.ref C :: us, kw⟩)).depth = A.depth + 1 := by
  first | rfl | simp [Around.under, Code.weight, Code.isCreation, Code.isGuard, Code.isCaller, Code.frames, Code.isFrame, guardIds]
theorem make_units {A : Around} {C : Addr} {us : List Value} {kw : List (Str × Value)} : (A.under (.builtin "type.__call__" ⟨.ref C :: us, kw⟩)).units = A.units + 1 := by
  first | rfl | simp [Around.under, Code.cUnits, Code.frames, Code.isFrame]
theorem Room.make {k : Nat} {A : Around} (r : Room (k + 1) A) (C : Addr) (us : List Value) (kw : List (Str × Value)) : Room k (A.under (.builtin "type.__call__" ⟨.ref C :: us, kw⟩)) :=
  ⟨r.hd, by have := r.dp; rw [make_depth]; omega, by have := r.un; rw [make_units]; omega⟩
theorem Room.depth {k : Nat} {A : Around} (r : Room k A) : A.depth < recursionLimit := by have := r.dp; omega
theorem Room.units {k : Nat} {A : Around} (r : Room k A) : A.units + 64 < cLine := by have := r.un; omega
/-! ### argument lists and displays -/
def tNil : TA := fun _ H Q => Q [] H
def tCons (ta : TE) (tr : TA) : TA := fun σ H Q => ta σ H fun x H1 => tr σ H1 fun xs H2 => Q (x :: xs) H2
section
variable {X : Cx} {e : Expr} {es : List Expr} {te : TE} {t : TA} {pos : Pos}
theorem pa_nil : PA X [] tNil := fun _ _ _ _ H Q I h => Calls.spliced_nil ⟨[], H, I, .nil, h⟩
theorem pa_cons (ha : PE X e te) (hr : PA X es t) (hs : starEach (e :: es) X.env = (false, eval e X.env) :: starEach es X.env := by rfl) : PA X (e :: es) (tCons te t) := by
  intro pos pins s σ H Q I h
  rw [hs]
  show wpAny _ _ (spliced ((false, eval e X.env) :: backTo pos (starEach es X.env))) _ _ s
  refine Calls.spliced_cons (thn (ha pins s σ H _ I h) fun u s1 ⟨x, H1, I1, r1, q1⟩ => ?_)
  exact thn (hr pos pins s1 σ H1 _ I1 q1) fun us s2 ⟨xs, H2, I2, r2, q2⟩ => ⟨x :: xs, H2, I2, .cons r1 r2, q2⟩
/-- a tuple, a list of written items -/
def tTup (t : TA) : TE := fun σ H Q => t σ H fun xs H1 => xs.length ≤ sizeLine ∧ ∀ p, H1 p = none → Q (.ref p) (upd H1 p (.tup xs))
def tLst (t : TA) : TE := fun σ H Q => t σ H fun xs H1 => xs.length ≤ sizeLine ∧ ∀ p, H1 p = none → Q (.ref p) (upd H1 p (.lst xs))
theorem pe_tup {x1} (h : PA X es t) : PE X (.Tuple es x1 pos) (tTup t) := by
  intro pins s σ H Q I hq
  refine wpAny_Tuple_spliced (thn (h pos pins s σ H _ I hq) fun us s1 ⟨xs, H1, I1, r, z, q⟩ => ⟨by rw [← r.length]; exact z, ?_⟩)
  have hf : H1 s1.heap.objs.size = none := I1.hok.fresh (Nat.le_refl _)
  refine ⟨.ref s1.heap.objs.size, upd H1 s1.heap.objs.size (.tup xs), I1.laid (t' := s1.toks) (fun b u e => Heap.get?_push_of_some _ e) (Nat.le_refl _) ?_, rfl, q _ hf⟩
  exact ⟨z, us, r, ⟨_, Heap.get?_push_size _ rfl, rfl, _, rfl⟩⟩
theorem pe_lst (h : PA X es t) : PE X (.List es pos) (tLst t) := by
  intro pins s σ H Q I hq
  refine wpAny_List_spliced (thn (h pos pins s σ H _ I hq) fun us s1 ⟨xs, H1, I1, r, z, q⟩ => ⟨by rw [← r.length]; exact z, ?_⟩)
  have hf : H1 s1.heap.objs.size = none := I1.hok.fresh (Nat.le_refl _)
  refine ⟨.ref s1.heap.objs.size, upd H1 s1.heap.objs.size (.lst xs), I1.laid (t' := s1.toks) (fun b u e => Heap.get?_push_of_some _ e) (Nat.le_refl _) ?_, rfl, q _ hf⟩
  exact ⟨z, us, 0, r, Heap.get?_push_size _ rfl⟩
end
/-! ### what a def promises -/
/-- a def's promise: the bound arguments in the parameters' order, the heap, the wanted end, the wanted exception -/
abbrev Sp := List V → Hp → VK → XK → Prop
/-- how an exception lies behind a call (file 08 gives it): the callers' frames, abstract heap and state ahead of the call, the wish, the exception, the state -/
abbrev CXT := List Env → Hp → Shared → XK → Value → Shared → Prop
/-- the state at a call -/
structure Env0 (P : Program) (w : World) (K : PySem.W.Frag) (mg : Str → Option Value) (base : Heap) (A : Around) (outer : List Env) (s : Shared) (H : Hp) : Prop where
  frames : A.frames = some outer
  mod : Mod K mg base
  bs : ∀ b o, base.get? b = some o → s.heap.get? b = some o ∧ H b = none
  bsz : base.objs.size ≤ s.heap.objs.size
  funs : s.heap.FunFrames base outer
  frf : ∀ b ∈ frs outer, H b = none
  hok : HOk P w H s.heap
  bare : AllBare s.gens
/-- a call's end -/
def CE (outer : List Env) (P : Program) (w : World) (H : Hp) (s : Shared) (Q : VK) (u : Value) (s' : Shared) : Prop :=
  ∃ v H', s'.os = s.os ∧ AllBare s'.gens ∧ Un (frs outer) [] H H' s.heap s'.heap ∧ HOk P w H' s'.heap ∧ RelV v u ∧ Q v H'
def CR (CX : CXT) (outer : List Env) (P : Program) (w : World) (H : Hp) (s : Shared) (Q : VK) (E : XK) (r : Result) (s' : Shared) : Prop :=
  match r with
  | .ok (.ret u) => CE outer P w H s Q u s'
  | .ok _ => False
  | .error e => CX outer H s E e s'
structure FnOk (P : Program) (w : World) (K : PySem.W.Frag) (mg : Str → Option Value) (base : Heap) (CX : CXT) (k : Nat) (f : Addr) (fd : FuncData) (ps : List Str) (sp : Sp) : Prop where
  len : ∀ vs H Q E, sp vs H Q E → vs.length = ps.length
  run : ∀ (A : Around) (outer : List Env) (s : Shared) (H : Hp) (args : Args) (us : List Value) (vs : List V) (Q : VK) (E : XK), Room k A → Env0 P w K mg base A outer s H → BindsTo s fd args (ps.zip us) → Vals vs us → sp vs H Q E →
    codeAny (model P w) A (.call (.ref f) args) (CR CX outer P w H s Q E) s
theorem FnOk.mono {P : Program} {w : World} {K : PySem.W.Frag} {mg : Str → Option Value} {base : Heap} {CX : CXT} {j k : Nat} {f : Addr} {fd : FuncData} {ps : List Str} {sp : Sp} (F : FnOk P w K mg base CX j f fd ps sp) (h : j ≤ k) :
    FnOk P w K mg base CX k f fd ps sp := ⟨F.len, fun A outer s H args us vs Q E hr => F.run A outer s H args us vs Q E (hr.mono h)⟩
theorem Env0.make {P : Program} {w : World} {K : PySem.W.Frag} {mg : Str → Option Value} {base : Heap} {A : Around} {outer : List Env} {s : Shared} {H : Hp} (e : Env0 P w K mg base A outer s H) (C : Addr) (us : List Value) (kw : List (Str × Value)) :
    Env0 P w K mg base (A.under (.builtin "type.__call__" ⟨.ref C :: us, kw⟩)) outer s H := ⟨by first | exact e.frames | (simpa [Around.under, Code.envs, Code.isFrame, pushEnvs] using e.frames), e.mod, e.bs, e.bsz, e.funs, e.frf, e.hok, e.bare⟩
section
variable {X : Cx} {pins : List (Addr × Obj)} {σ : St} {H : Hp} {s s' : Shared}
/-- from a body: what a callee wants -/
theorem Inv.env0 (I : Inv X pins σ H s) : Env0 X.prog X.w X.K X.mg X.base X.A X.stack s H :=
  ⟨I.ok.frames, I.ok.mod, I.bs, Nat.le_trans I.ok.bsz I.sz, I.stack, I.stkFree, I.hok, I.bare⟩
/-- behind a call -/
theorem Inv.after {Q : VK} {u : Value} (I : Inv X pins σ H s) (h : CE X.stack X.prog X.w H s Q u s') : EP X pins σ Q u s' := by
  obtain ⟨v, H', os, bare, un, hok, r, q⟩ := h
  obtain ⟨hh, g, d, t, os'⟩ := s'
  obtain rfl : os' = s.os := os
  exact ⟨v, H', I.call (h' := hh) (g' := g) (d' := d) (t' := t) (ch := []) un hok bare (fun b z => absurd z (by simp)), r, q⟩
end
/-! ### calls -/
/-- f(..): the written arguments, then the defaults dvs; E: what is wanted of an exception -/
def tCall (sp : Sp) (dvs : List V) (E : XK) (t : TA) : TE := fun σ H Q => t σ H fun vs H1 => sp (vs ++ dvs) H1 Q E
/-- o.m(..) of an instance of the class at C -/
def tMeth (C : Addr) (m : Str) (sp : Sp) (dvs : List V) (E : XK) (ta : TE) (t : TA) : TE := fun σ H Q => ta σ H fun x H1 => ∃ a dx fs, x = .ref a ∧ H1 a = some (.ins C dx fs) ∧ fs.lookup m = none ∧
  t σ H1 fun vs H2 => sp (x :: (vs ++ dvs)) H2 Q E
/-- C(..): a new instance and its dict, then __init__ -/
def tMake (C : Addr) (sp : Sp) (dvs : List V) (E : XK) (t : TA) : TE := fun σ H Q => t σ H fun vs H1 => ∀ x dx, H1 x = none → H1 dx = none → dx ≠ x →
  sp (.ref x :: (vs ++ dvs)) (upd (upd H1 dx (.own x)) x (.ins C dx [])) (fun v H2 => v = .non ∧ Q (.ref x) H2) E
/-- how the parameters are bound: us the positional arguments, kw the keywords' values by name, ds the defaults that fill up -/
def Binds (K : PySem.W.Frag) (fd : FuncData) (ps : List Str) (ds : List Value) : Prop :=
  ∀ (s : Shared) (us : List Value), K.In s.heap → (us ++ ds).length = ps.length → BindsTo s fd ⟨us, []⟩ (ps.zip (us ++ ds))
/-- every parameter is given -/
theorem Binds.all {K : PySem.W.Frag} {fd : FuncData} {ps : List Str} (h : ∀ us : List Value, us.length = ps.length → bindArgs fd ⟨us, []⟩ = pure (ps.zip us)) : Binds K fd ps [] := fun s us _ hl => by
  rw [List.append_nil] at hl ⊢
  exact .of_eq (h us hl)
/-- an exception of a callee reaches what this body wants of exceptions -/
def Passes (CX : CXT) (X : Cx) (E : XK) : Prop := ∀ (pins : List (Addr × Obj)) (σ : St) (H : Hp) (s : Shared) (e : Value) (s' : Shared), Inv X pins σ H s → CX X.stack H s E e s' → X.xe e s'
section
variable {X : Cx} {CX : CXT} {k : Nat} {f C : Addr} {fd : FuncData} {ps : List Str} {sp : Sp} {dvs : List V} {ds : List Value} {E : XK} {x m : Str} {p pos apos : Pos} {e o : Expr} {es : List Expr} {ta : TE} {t : TA}
/-- the callee runs -/
theorem run_fn {pins : List (Addr × Obj)} {σ : St} {H : Hp} {s : Shared} {Q : VK} {us : List Value} {vs : List V} (F : FnOk X.prog X.w X.K X.mg X.base CX k f fd ps sp) (hr : Room k X.A) (hb : Binds X.K fd ps ds) (hd : Vals dvs ds) (hx : Passes CX X E)
    (I : Inv X pins σ H s) (r : Vals vs us) (h : sp (vs ++ dvs) H Q E) : wpAny (model X.prog X.w) X.A (call (.ref f) us) (EP X pins σ Q) X.xe s := by
  have r2 : Vals (vs ++ dvs) (us ++ ds) := r.append hd
  have hl : (us ++ ds).length = ps.length := by rw [← r2.length]; exact F.len _ _ _ _ h
  refine wpAny_call (codeAny_mono (F.run X.A X.stack s H ⟨us, []⟩ (us ++ ds) (vs ++ dvs) Q E hr I.env0 (hb s us I.kIn hl) r2 h) fun r s' hq => ?_)
  cases r with
  | error e => exact hx pins σ H s e s' I hq
  | ok fl =>
    cases fl with
    | ret u => exact I.after hq
    | next => exact False.elim hq
    | brk => exact False.elim hq
    | cont => exact False.elim hq
theorem pe_call (F : FnOk X.prog X.w X.K X.mg X.base CX k f fd ps sp) (hr : Room k X.A) (hg : Gl X x) (hm : X.mg x = some (.ref f)) (hk : PySem.W.keepIn X.K (.ref f) = true) (hb : Binds X.K fd ps ds) (hd : Vals dvs ds) (hx : Passes CX X E)
    (ha : PA X (e :: es) t) (hdb : (x == ("__debug__" : Str)) = false := by decide) (he : starEach (e :: es) X.env = (false, eval e X.env) :: starEach es X.env := by rfl) (hpl : (backTo pos (starEach es X.env)).any (·.1) = false := by rfl) :
    PE X (.Call (.Name x p) (e :: es) [] pos) (tCall sp dvs E t) := by
  intro pins s σ H Q I h
  refine wpAny_Call_Name_kw (ld_glob I hg hm ?_ hdb)
  refine PySem.W.callWith_K (h₀ := X.base) I.ok.mod.kin hk (thn (ha pos pins s σ H _ I h) fun us s1 ⟨vs, H1, I1, r, q⟩ => ⟨I1.kIn, ?_⟩) he hpl
  exact run_fn F hr hb hd hx I1 r q
/-- o.m(e, ..) -/
theorem pe_meth {pl : Sem Bool} (he : PE X o ta) (c : Cls X.K C) (hm : Meth X.K C m f) (F : FnOk X.prog X.w X.K X.mg X.base CX k f fd ps sp) (hr : Room k X.A) (hb : Binds X.K fd ps ds) (hd : Vals dvs ds) (hx : Passes CX X E) (ha : PA X (e :: es) t)
    (hst : starEach (e :: es) X.env = (false, eval e X.env) :: starEach es X.env := by rfl) (hpl : (backTo pos (starEach es X.env)).any (·.1) = false := by rfl)
    (ht : eval (.Call (.Attribute o m apos) (e :: es) [] pos) X.env = (do
      let ov ← eval o X.env
      standAt apos.atName
      let (f, first) ← holding [ov] (getMethod ov m pl)
      callWith pos f first (backTo pos (starEach (e :: es) X.env)) (backToKw pos (keywordEach [] X.env))) := by rfl) :
    PE X (.Call (.Attribute o m apos) (e :: es) [] pos) (tMeth C m sp dvs E ta t) := by
  intro pins s σ H Q I h
  refine PySem.W.methodCall_KW (pl := pl) (thn (he pins s σ H _ I h) fun u s1 ⟨x, H1, I1, rx, a, dx, fs, ex, ea, l, q⟩ => ?_) ht
  subst ex
  obtain rfl : u = Value.ref a := rx
  refine getmeth_ok I1 ea c hm l ?_
  refine PySem.W.callWith_K (first := [.ref a]) (h₀ := X.base) I.ok.mod.kin hm.kp (thn (ha pos pins s1 σ H1 _ I1 q) fun us s2 ⟨vs, H2, I2, r, q2⟩ => ⟨I2.kIn, ?_⟩) hst hpl
  exact run_fn (us := .ref a :: us) (vs := .ref a :: vs) F hr hb hd hx I2 (.cons rfl r) q2
/-- what a class must have to be made -/
structure Mk (K : PySem.W.Frag) (C f : Addr) : Prop where
  makes : PySem.W.makesIn K C = true
  init : PySem.W.findIn K (.ref C) "__init__" = some (some (.ref f))
  fn : PySem.W.isFn K (.ref f) = true
  kp : PySem.W.keepIn K (.ref C) = true
theorem run_make {pins : List (Addr × Obj)} {σ : St} {H : Hp} {s : Shared} {Q : VK} {us : List Value} {vs : List V} (M : Mk X.K C f) (F : FnOk X.prog X.w X.K X.mg X.base CX k f fd ps sp) (hr : Room (k + 1) X.A) (hb : Binds X.K fd ps ds) (hd : Vals dvs ds)
    (hx : Passes CX X E) (I : Inv X pins σ H s) (r : Vals vs us)
    (h : ∀ x dx, H x = none → H dx = none → dx ≠ x → sp (.ref x :: (vs ++ dvs)) (upd (upd H dx (.own x)) x (.ins C dx [])) (fun v H2 => v = .non ∧ Q (.ref x) H2) E) :
    wpAny (model X.prog X.w) X.A (call (.ref C) us) (EP X pins σ Q) X.xe s := by
  have hq := h (s.heap.objs.size + 1) s.heap.objs.size (I.hok.fresh (Nat.le_succ _)) (I.hok.fresh (Nat.le_refl _)) (Nat.ne_of_lt (Nat.lt_succ_self _))
  have I2 := Inv.made (C := C) I
  have r2 : Vals (V.ref (s.heap.objs.size + 1) :: (vs ++ dvs)) (Value.ref (s.heap.objs.size + 1) :: (us ++ ds)) := .cons rfl (r.append hd)
  have hl : (Value.ref (s.heap.objs.size + 1) :: us ++ ds).length = ps.length := by
    have e := r2.length
    rw [F.len _ _ _ _ hq] at e
    exact e.symm
  refine wpAny_call (make_map (f := f) I.kIn M.makes M.init (beq_iff_eq.mp M.fn) (codeAny_mono (F.run _ X.stack _ _ ⟨Value.ref (s.heap.objs.size + 1) :: us, []⟩ (Value.ref (s.heap.objs.size + 1) :: (us ++ ds)) _ _ E (hr.make C us [])
    (I2.env0.make C us []) (hb _ (Value.ref (s.heap.objs.size + 1) :: us) I2.kIn hl) r2 hq) fun r s' hq' => ?_))
  cases r with
  | error e => exact hx pins σ _ _ e s' I2 hq'
  | ok fl =>
    cases fl with
    | ret u =>
      obtain ⟨v, H', I3, rv, ev, q3⟩ := I2.after hq'
      subst ev
      exact ⟨rv, ⟨V.ref (s.heap.objs.size + 1), H', I3, rfl, q3⟩⟩
    | next => exact False.elim hq'
    | brk => exact False.elim hq'
    | cont => exact False.elim hq'
theorem pe_make (M : Mk X.K C f) (F : FnOk X.prog X.w X.K X.mg X.base CX k f fd ps sp) (hr : Room (k + 1) X.A) (hg : Gl X x) (hm : X.mg x = some (.ref C)) (hb : Binds X.K fd ps ds) (hd : Vals dvs ds) (hx : Passes CX X E)
    (ha : PA X (e :: es) t) (hdb : (x == ("__debug__" : Str)) = false := by decide) (he : starEach (e :: es) X.env = (false, eval e X.env) :: starEach es X.env := by rfl) (hpl : (backTo pos (starEach es X.env)).any (·.1) = false := by rfl) :
    PE X (.Call (.Name x p) (e :: es) [] pos) (tMake C sp dvs E t) := by
  intro pins s σ H Q I h
  refine wpAny_Call_Name_kw (ld_glob I hg hm ?_ hdb)
  refine PySem.W.callWith_K (h₀ := X.base) I.ok.mod.kin M.kp (thn (ha pos pins s σ H _ I h) fun us s1 ⟨vs, H1, I1, r, q⟩ => ⟨I1.kIn, ?_⟩) he hpl
  exact run_make M F hr hb hd hx I1 r q
end
/-! ### keywords -/
section
variable {X : Cx} {CX : CXT} {k : Nat} {f C : Addr} {fd : FuncData} {ps ks : List Str} {sp : Sp} {E : XK} {x m : Str} {p pos apos kpos : Pos} {e o : Expr} {es : List Expr} {kws : List Keyword} {te ta : TE} {t tk : TA} {nm : Option Str}
variable {g : List Value → List Value → List Value} {gV : List V → List V → List V}
end
/-! ### a def's body keeps its promise -/
/-- names: the parameters first -/
structure FnScope (N P : List Str) (sc : Scope) : Prop where
  kind : sc.kind = .function
  co : sc.isCoroutine = false
  gen : sc.isGenerator = false
  nd : N.Nodup
  pre : N.take P.length = P
  par : ∀ x ∈ P, sc.names.lookup x = some .local ∨ sc.names.lookup x = some .cell
  nofree : ∀ y ∈ sc.names, y.2 ≠ .free
theorem bindL_out {kindOf : Str → Option NameKind} {x : Str} : ∀ {binds : List (Str × Value)} {m : Str → Option Value}, (∀ v, (x, v) ∉ binds) → bindL kindOf binds m x = m x
  | [], _, _ => rfl
  | (n, v) :: r, m, h => by
    unfold bindL
    rw [bindL_out fun w hw => h w (List.mem_cons_of_mem _ hw)]
    split
    · have : x ≠ n := by rintro rfl; exact h v List.mem_cons_self
      simp [this]
    · rfl
theorem bindC_out {kindOf : Str → Option NameKind} {x : Str} : ∀ {binds : List (Str × Value)} {m : Str → Option Value}, (∀ v, (x, v) ∉ binds) → bindC kindOf binds m x = m x
  | [], _, _ => rfl
  | (n, v) :: r, m, h => by
    unfold bindC
    rw [bindC_out fun w hw => h w (List.mem_cons_of_mem _ hw)]
    split
    · rfl
    · have : x ≠ n := by rintro rfl; exact h v List.mem_cons_self
      simp [this]
theorem bindL_get {kindOf : Str → Option NameKind} {x : Str} {v : Value} : ∀ {P : List Str} {vs : List Value} {i : Nat} {m : Str → Option Value}, P.Nodup → P[i]? = some x → vs[i]? = some v → kindOf x = some .local →
    bindL kindOf (P.zip vs) m x = some v
  | [], _, _, _, _, h, _, _ => by simp at h
  | _ :: _, [], _, _, _, _, h, _ => by simp at h
  | p :: P, w :: vs, 0, m, nd, h1, h2, hk => by
    simp at h1 h2; subst h1; subst h2
    show bindL kindOf ((p, w) :: P.zip vs) m p = _
    unfold bindL
    rw [bindL_out fun v hv => (List.nodup_cons.mp nd).1 (List.of_mem_zip hv).1, if_pos hk]
    simp
  | p :: P, w :: vs, i + 1, m, nd, h1, h2, hk => by
    show bindL kindOf ((p, w) :: P.zip vs) m x = _
    unfold bindL
    exact bindL_get (i := i) (List.nodup_cons.mp nd).2 (by simpa using h1) (by simpa using h2) hk
theorem bindC_get {kindOf : Str → Option NameKind} {x : Str} {v : Value} : ∀ {P : List Str} {vs : List Value} {i : Nat} {m : Str → Option Value}, P.Nodup → P[i]? = some x → vs[i]? = some v → kindOf x ≠ some .local →
    bindC kindOf (P.zip vs) m x = some v
  | [], _, _, _, _, h, _, _ => by simp at h
  | _ :: _, [], _, _, _, _, h, _ => by simp at h
  | p :: P, w :: vs, 0, m, nd, h1, h2, hk => by
    simp at h1 h2; subst h1; subst h2
    show bindC kindOf ((p, w) :: P.zip vs) m p = _
    unfold bindC
    rw [bindC_out fun v hv => (List.nodup_cons.mp nd).1 (List.of_mem_zip hv).1, if_neg hk]
    simp
  | p :: P, w :: vs, i + 1, m, nd, h1, h2, hk => by
    show bindC kindOf ((p, w) :: P.zip vs) m x = _
    unfold bindC
    exact bindC_get (i := i) (List.nodup_cons.mp nd).2 (by simpa using h1) (by simpa using h2) hk
/-- the names' values at the entry -/
def start (N : List Str) (vs : List V) : St := vs.map some ++ List.replicate (N.length - vs.length) none
/-- the context of a def's body, at its entry; an exception leaves the frame, then lies as CX says -/
def cxOf (CX : CXT) (P : Program) (w : World) (K : PySem.W.Frag) (mg : Str → Option Value) (base : Heap) (N : List Str) (qual : Str) (scope : Scope) (f : Addr) (cd : Value) (A : Around) (outer : List Env) (s : Shared) (H : Hp) (E : XK) : Cx where
  prog := P
  w := w
  K := K
  mg := mg
  base := base
  A := A.deeper (envOfC qual scope s.heap.objs.size f cd)
  N := N
  s₀ := s
  H₀ := H
  env := envOfC qual scope s.heap.objs.size f cd
  outer := outer
  stack := envOfC qual scope s.heap.objs.size f cd :: outer
  ex := []
  calm := true
  fn := fun _ => true
  pn := []
  xe := fun e s' => wpAny (model P w) (A.deeper (envOfC qual scope s.heap.objs.size f cd)) (leaving (envOfC qual scope s.heap.objs.size f cd) e) (fun _ s'' => CX outer H s E e s'') (fun e' s'' => CX outer H s E e' s'') s'
theorem cell_has {sc : Scope} {n : Nat} {x : Str} (h : sc.names.lookup x = some .cell) : ∃ c, (cellsFrom n sc.names []).lookup x = some c := by
  have q := PySem.W.cellsFrom_some sc.names n [] (.inl h)
  exact Option.isSome_iff_exists.mp q
theorem inv_start {CX : CXT} {P : Program} {w : World} {K : PySem.W.Frag} {mg : Str → Option Value} {base : Heap} {N ps : List Str} {qual : Str} {scope : Scope} {f : Addr} {cd : Value} {A : Around} {outer : List Env} {s s1 : Shared} {H : Hp} {E : XK} {us : List Value} {vs : List V}
    (S : FnScope N ps scope) (hd : A.handled = none) (e0 : Env0 P w K mg base A outer s H) (hl : vs.length = ps.length) (r : Vals vs us)
    (x : InCallC s s.heap.objs.size (bindL (envOfC qual scope s.heap.objs.size f cd).kindOf (ps.zip us) fun _ => none) (cellsFrom (s.heap.objs.size + 1) scope.names []) (bindC (envOfC qual scope s.heap.objs.size f cd).kindOf (ps.zip us) fun _ => none) s1) :
    Inv (cxOf CX P w K mg base N qual scope f cd A outer s H E) [] (start N vs) H s1 := by
  have hpl : ps.length ≤ N.length := by have := congrArg List.length S.pre; rw [List.length_take] at this; omega
  obtain ⟨h1, tk, rfl, hk⟩ := x.done
  have noA : ∀ b : Addr, b ∉ (cxOf CX P w K mg base N qual scope f cd A outer s H E).ex := fun b z => absurd (show b ∈ ([] : List Addr) from z) (by simp)
  refine ⟨⟨e0.mod, S.kind, rfl, rfl, Nat.le_refl _, fun y z c h1 h2 => ?_, fun y hy => ?_, fun y c _ h => ?_, fun _ => hd, Around.frames_deeper e0.frames, .inr ⟨rfl, rfl⟩, fun b z => absurd z (noA b), e0.bs, e0.bsz, fun b _ _ => noA b, fun b z => absurd z (noA b), e0.funs, e0.frf⟩,
    rfl, e0.bare, Un.kept hk, ⟨_, x.toInCall.ns, fun i y v h1 h2 h3 => ?_⟩, fun y c h => ⟨_, x.cell y c h⟩, e0.hok.fresh (Nat.le_refl _), fun y c h => ?_, fun p hp => absurd (show p ∈ ([] : List (Addr × Obj)) from hp) (by simp), e0.hok.kept hk, ?_⟩
  · exact name_of_addr x.apart (PySem.mem_of_lookup h1) (PySem.mem_of_lookup h2)
  · have hy : scope.names.lookup y = some .cell ∨ scope.names.lookup y = some .free := hy
    rcases hy with hy | hy
    · exact cell_has hy
    · exact absurd rfl (S.nofree _ (PySem.mem_of_lookup hy))
  · exact Nat.le_of_lt (x.above y c (PySem.mem_of_lookup h))
  · have hi : i < vs.length := by
      unfold start at h2
      by_cases hi : i < vs.length
      · exact hi
      · rw [List.getElem?_append_right (by simpa using hi)] at h2
        rw [List.getElem?_replicate] at h2
        split at h2 <;> cases h2
    have ha : vs[i]? = some v := by
      unfold start at h2
      rw [List.getElem?_append_left (by simpa using hi), List.getElem?_map] at h2
      cases e : vs[i]? with
      | none => rw [e] at h2; cases h2
      | some a => rw [e] at h2; cases h2; rfl
    obtain ⟨u, hu, rv⟩ := r.get ha
    have hp : ps[i]? = some y := by
      rw [← S.pre, List.getElem?_take_of_lt (by omega)]; exact h1
    have ndP : ps.Nodup := by rw [← S.pre]; exact S.nd.sublist (List.take_sublist _ _)
    refine ⟨u, rv, ?_⟩
    rcases S.par y (List.mem_of_getElem? hp) with k | k
    · exact .inl ⟨k, bindL_get ndP hp hu k⟩
    · obtain ⟨c, e⟩ := cell_has (n := s.heap.objs.size + 1) k
      refine .inr ⟨.inl k, c, e, ?_⟩
      have q := x.cell y c e
      rw [bindC_get ndP hp hu (by show scope.names.lookup y ≠ _; rw [k]; decide)] at q
      exact q
  · exact e0.hok.fresh (Nat.le_of_lt (x.above y c (PySem.mem_of_lookup h)))
  · unfold start
    show _ = N.length
    rw [List.length_append, List.length_map, List.length_replicate]
    omega
/-- THE RULE: a def (or a method) of the text, by its body. The body's reading t is chosen for each entry; it is run at the parameters' values -/
theorem fn_of {CX : CXT} {P : Program} {w : World} {K : PySem.W.Frag} {mg : Str → Option Value} {base : Heap} {k : Nat} {f : Addr} {name qual : Str} {params : Arguments} {body : List Stmt} {scope : Scope} {dV kV doc pm cdv ct oc : Value} {an od : Option Addr}
    {osl : Array (Option Value)} {N ps : List Str} {sp : Sp} (lk : K.lookup f = some ⟨oc, od, .func (PySem.W.fnOf name qual params body scope dV kV doc pm an cdv ct), osl⟩) (hcd : PySem.W.codeIn K cdv qual = true) (S : FnScope N ps scope)
    (len : ∀ vs H Q E, sp vs H Q E → vs.length = ps.length)
    (hbody : ∀ (A : Around) (outer : List Env) (s : Shared) (H : Hp) (vs : List V) (Q : VK) (E : XK), Room k (A.deeper (envOfC qual scope s.heap.objs.size f cdv)) → sp vs H Q E →
      ∃ t, PSs (cxOf CX P w K mg base N qual scope f cdv A outer s H E) body t ∧ t { nx := fun _ H' => Q .non H', rt := Q } (start N vs) H) :
    FnOk P w K mg base CX (k + 1) f (PySem.W.fnOf name qual params body scope dV kV doc pm an cdv ct) ps sp := by
  refine ⟨len, fun A outer s H args us vs Q E hr e0 hb r hsp => ?_⟩
  have hl := len _ _ _ _ hsp
  have KX : K.In s.heap := e0.mod.kin.keeps fun b o e => (e0.bs b o e).1
  have lim : s.heap.NoLimit := e0.mod.nolimit.keeps fun b o e => (e0.bs b o e).1
  have hkind : ∀ y ∈ ps.zip us, scope.names.lookup y.1 = some .local ∨ (scope.names.lookup y.1 = some .cell ∧ ((cellsFrom (s.heap.objs.size + 1) scope.names []).lookup y.1).isSome = true) := fun ⟨n, v⟩ hy => by
    rcases S.par n (List.of_mem_zip hy).1 with q | q
    · exact .inl q
    · exact .inr ⟨q, PySem.W.cellsFrom_some _ _ _ (.inl q)⟩
  refine codeAny_call_function hr.depth (KX _ _ lk) rfl S.co S.gen rfl (PySem.W.codeRec_of KX hcd) (hb _ _ _ _ ?_)
  refine wpAny_newFunctionEnv_cells S.kind hkind fun env he s1 x => ?_
  subst he
  refine ⟨lim.keeps x.toInCall.keep, codeAny_func ?_⟩
  obtain ⟨t, ht, hq⟩ := hbody A outer s H vs Q E (hr.deeper _) hsp
  have I : Inv (cxOf CX P w K mg base N qual scope f cdv A outer s H E) [] (start N vs) H s1 := inv_start S hr.hd e0 hl r x
  refine wpAny_mono (ht [] s1 (start N vs) H _ I hq) (fun fl s' hs => ?_) fun e s' hs => hs
  have fin : ∀ {σ' : St} {H' : Hp} {v : V} {u : Value}, Inv (cxOf CX P w K mg base N qual scope f cdv A outer s H E) [] σ' H' s' → RelV v u → Q v H' → CE outer P w H s Q u s' :=
    fun {σ' H' v u} J rv q => ⟨v, H', J.os, J.bare, J.base, J.hok, rv, q⟩
  cases fl with
  | ret u =>
    obtain ⟨v, σ', H', J, rv, q⟩ := hs
    exact fin J rv q
  | next =>
    obtain ⟨σ', H', J, q⟩ := hs
    exact fin (v := V.non) (u := Value.none) J rfl q
  | brk =>
    obtain ⟨_, _, _, q⟩ := hs
    exact False.elim q
  | cont =>
    obtain ⟨_, _, _, q⟩ := hs
    exact False.elim q
end L2
namespace L2
open PySem PySem.Spec PyProof.Rows
section
variable {X : Cx} {x : Str} {p pos : Pos} {e : Expr} {es : List Expr} {t : TA} {id T : String} {r : List V → Hp → VK → Prop}
def tCB (r : List V → Hp → VK → Prop) (t : TA) : TE := fun σ H Q => t σ H fun vs H1 => r vs H1 Q
/-- f(e, ..), f a built-in function -/
theorem pe_callB (hc : CallR X (.builtin id) r) (hg : Gl X x) (hm : X.mg x = none) (hv : bootBuiltins x = some (.builtin id)) (ha : PA X (e :: es) t) (hn : x ≠ "__name__" := by decide) (hdb : (x == ("__debug__" : Str)) = false := by decide)
    (he : starEach (e :: es) X.env = (false, eval e X.env) :: starEach es X.env := by rfl) (hpl : (backTo pos (starEach es X.env)).any (·.1) = false := by rfl) : PE X (.Call (.Name x p) (e :: es) [] pos) (tCB r t) := by
  intro pins s σ H Q I h
  refine wpAny_Call_Name_kw (ld_blt I hg hm hv ?_ hn hdb)
  exact PyProof.Rows.callWith_builtin1 (thn (ha pos pins s σ H _ I h) fun us s1 ⟨vs, H1, I1, r1, q1⟩ => hc pins s1 σ H1 vs us Q I1 r1 q1) he hpl
/-- T(e, ..), T a built-in type -/
theorem pe_callTy (hc : CallR X (.type T) r) (hg : Gl X x) (hm : X.mg x = none) (hv : bootBuiltins x = some (.type T)) (ha : PA X (e :: es) t) (hn : x ≠ "__name__" := by decide) (hdb : (x == ("__debug__" : Str)) = false := by decide)
    (he : starEach (e :: es) X.env = (false, eval e X.env) :: starEach es X.env := by rfl) (hpl : (backTo pos (starEach es X.env)).any (·.1) = false := by rfl) : PE X (.Call (.Name x p) (e :: es) [] pos) (tCB r t) := by
  intro pins s σ H Q I h
  refine wpAny_Call_Name_kw (ld_blt I hg hm hv ?_ hn hdb)
  exact PyProof.Rows.callWith_type1 (thn (ha pos pins s σ H _ I h) fun us s1 ⟨vs, H1, I1, r1, q1⟩ => hc pins s1 σ H1 vs us Q I1 r1 q1) he hpl
end
end L2
namespace HT
open PySem PyProof.Rows
section
open PySem.SeqAt
open PySem.AutoSeq1 (wpAny_loadPart')
open PySem.MeetsSeq PySem.MeetsSeq2 PySem.MeetsSeq3
end
section
variable {prog : Program} {w : World} {A : Around} {E : Value → Shared → Prop} {s : Shared}
/-! ### t[a:b], not the whole -/
/-- a slice's bound as a place among n (d where it is left out) -/
def sIx (n d : Nat) : Option Int → Nat
  | none => d
  | some v => if v < 0 then (v + (n : Int)).toNat else min v.toNat n
end
end HT
namespace L2
open PySem PySem.Spec PyProof.Rows
/-! ### the parts of a slice -/
abbrev TO := St → Hp → (Option Int → Hp → Prop) → Prop
/-- a slice's part (left out, or an int) -/
def PO (X : Cx) (e : Option Expr) (t : TO) : Prop :=
  ∀ (pins : List (Addr × Obj)) (s : Shared) (σ : St) (H : Hp) (Q : Option Int → Hp → Prop), Inv X pins σ H s → t σ H Q →
    wpAny (model X.prog X.w) X.A (evalPart e X.env) (fun u s' => ∃ o H', Inv X pins σ H' s' ∧ IsPart u o ∧ Q o H') X.xe s
def tNoPart : TO := fun _ H Q => Q none H
def tPart (t : TE) : TO := fun σ H Q => t σ H fun x H1 => ∃ i, x = .int i ∧ Q (some i) H1
section
variable {X : Cx} {e : Expr} {te : TE} {lo hi : Option Expr} {tl th : TO} {pos p2 : Pos}
theorem po_none : PO X none tNoPart := by
  intro pins s σ H Q I h
  rw [evalPart_none]
  exact wpAny_pure ⟨none, H, I, .none, h⟩
theorem po_some (h : PE X e te) : PO X (some e) (tPart te) := by
  intro pins s σ H Q I hw
  rw [evalPart_some]
  refine thn (h pins s σ H _ I hw) fun u s1 ⟨x, H1, I1, r1, q1⟩ => ?_
  obtain ⟨i, rfl, q⟩ := q1
  obtain ⟨t, rfl⟩ := r1
  exact ⟨some i, H1, I1, .int i t, q⟩
/-- what a slice of a value is, by values: the slice object stands at sl -/
def SlR (X : Cx) (r : V → Option Int → Option Int → Hp → VK → Prop) : Prop :=
  ∀ (pins : List (Addr × Obj)) (s : Shared) (σ : St) (H : Hp) (x : V) (v vl vu : Value) (lo hi : Option Int) (sl : Addr) (Q : VK), Inv X pins σ H s → RelV x v → s.heap.IsSliceOf sl vl vu .none → IsPart vl lo → IsPart vu hi → r x lo hi H Q →
    ∃ T id, typeLookup (.type T) "__getitem__" = pure (some (.builtin id)) ∧ s.TypeIs v T ∧ wpAny (model X.prog X.w) X.A (getItem v (.ref sl)) (EP X pins σ Q) X.xe s
theorem SlR.or {r r' : V → Option Int → Option Int → Hp → VK → Prop} (h : SlR X r) (h' : SlR X r') : SlR X (fun x lo hi H Q => r x lo hi H Q ∨ r' x lo hi H Q) := by
  intro pins s σ H x v vl vu lo hi sl Q I rx hs pl pu q
  rcases q with q | q
  · exact h pins s σ H x v vl vu lo hi sl Q I rx hs pl pu q
  · exact h' pins s σ H x v vl vu lo hi sl Q I rx hs pl pu q
def tSl (r : V → Option Int → Option Int → Hp → VK → Prop) (te : TE) (tl th : TO) : TE := fun σ H Q => te σ H fun x H1 => tl σ H1 fun l H2 => th σ H2 fun u H3 => r x l u H3 Q
/-- a[lo:hi], any a -/
theorem pe_slice {r : V → Option Int → Option Int → Hp → VK → Prop} (hr : SlR X r) (he : PE X e te) (hl : PO X lo tl) (hu : PO X hi th) : PE X (.Subscript e (.Slice lo hi none p2) pos) (tSl r te tl th) := by
  intro pins s σ H Q I h
  refine Subscript_ (thn (he pins s σ H _ I h) fun v s1 ⟨x, H1, I1, r1, q1⟩ => ?_)
  refine wpAny_Slice (thn (hl pins s1 σ H1 _ I1 q1) fun vl s2 ⟨l, H2, I2, pl, q2⟩ => thn (hu pins s2 σ H2 _ I2 q2) fun vu s3 ⟨u, H3, I3, pu, q3⟩ => ?_)
  rw [evalPart_none]
  refine wpAny_pure ?_
  have I4 : Inv X pins σ H3 { s3 with heap := s3.heap.push { cls := .type "slice", data := .fields #[vl, vu, .none] } } := I3.kept (t' := s3.toks) fun b ob q => Heap.get?_push_of_some _ q
  obtain ⟨T, id, hT, ht, hg⟩ := hr pins { s3 with heap := s3.heap.push { cls := .type "slice", data := .fields #[vl, vu, .none] } } σ H3 x v vl vu l u s3.heap.objs.size Q I4 r1 (Heap.IsSliceOf.new ..) pl pu q3
  show wpAny (model X.prog X.w) X.A (subscriptTail e (.Slice lo hi none p2) v (.ref s3.heap.objs.size)) (EP X pins σ Q) X.xe { s3 with heap := s3.heap.push { cls := .type "slice", data := .fields #[vl, vu, .none] } }
  exact tail_any (ops := [.ref s3.heap.objs.size, v]) ht hT hg (by with_unfolding_all rfl)
/-- the items of xs[lo:hi] -/
def cutV (xs : List V) (lo hi : Option Int) : List V := (xs.drop (HT.sIx xs.length 0 lo)).take (HT.sIx xs.length xs.length hi - HT.sIx xs.length 0 lo)
theorem cutV_length (xs : List V) (lo hi : Option Int) : (cutV xs lo hi).length ≤ xs.length := by
  unfold cutV
  rw [List.length_take, List.length_drop]
  omega
/-! ### t < u, t + u -/
end
end L2
namespace L2
open PySem PySem.Spec PyProof.Rows
/-! ### places -/
/-- the place that an index of any sign means -/
def ixN (n : Nat) (i : Int) : Option Nat := if 0 ≤ i then (if i < n then some i.toNat else none) else if -(n : Int) ≤ i then some (i + n).toNat else none
def atI {α : Type} (xs : List α) (i : Int) : Option α := (ixN xs.length i).bind fun j => xs[j]?
theorem ixN_seq {n : Nat} {i : Int} {j : Nat} (h : ixN n i = some j) : seqIndex? i n = some j ∧ j < n ∧ -(n : Int) ≤ i ∧ i < n := by
  unfold ixN at h
  by_cases h0 : 0 ≤ i
  · rw [if_pos h0] at h
    by_cases h1 : i < n
    · rw [if_pos h1] at h
      have e : i.toNat = j := Option.some.inj h
      exact ⟨by rw [seqIndex_of h0 h1, e], by omega, by omega, h1⟩
    · rw [if_neg h1] at h; cases h
  · rw [if_neg h0] at h
    by_cases h1 : -(n : Int) ≤ i
    · rw [if_pos h1] at h
      have e : (i + n).toNat = j := Option.some.inj h
      exact ⟨by rw [seqIndex_neg (by omega) h1, e], by omega, h1, by omega⟩
    · rw [if_neg h1] at h; cases h
theorem atI_get {α : Type} {xs : List α} {i : Int} {v : α} (h : atI xs i = some v) : ∃ j, seqIndex? i xs.length = some j ∧ xs[j]? = some v ∧ j < xs.length ∧ -(xs.length : Int) ≤ i ∧ i < xs.length := by
  unfold atI at h
  cases e : ixN xs.length i with
  | none => rw [e] at h; cases h
  | some j =>
    rw [e] at h
    obtain ⟨h1, h2, h3, h4⟩ := ixN_seq e
    exact ⟨j, h1, h, h2, h3, h4⟩
theorem atI_nat {α : Type} {xs : List α} {j : Nat} {v : α} (h : xs[j]? = some v) : atI xs (j : Int) = some v := by
  have hj : j < xs.length := (List.getElem?_eq_some_iff.mp h).1
  have e : ixN xs.length (j : Int) = some j := by
    unfold ixN
    rw [if_pos (by omega), if_pos (by omega)]; simp
  unfold atI; rw [e]; exact h
/-! ### what may be subscripted -/
/-- what stands as an index of a plain subscript -/
def PlainIx (b : Expr) : Prop := ∀ o i, subscripted b false o i = operate [o, i] (getItem o i)
/-- a subscript by values -/
def IxR (X : Cx) (r : R2) : Prop :=
  ∀ (value slice : Expr) (pins : List (Addr × Obj)) (s : Shared) (σ : St) (H : Hp) (x y : V) (v u : Value) (Q : VK), Inv X pins σ H s → RelV x v → RelV y u → r x y H Q →
    subscripted slice false v u = operate [v, u] (getItem v u) → wpAny (model X.prog X.w) X.A (subscriptTail value slice v u) (EP X pins σ Q) X.xe s
/-- a call of a builtin's method by values: the receiver, the arguments -/
def MtR (X : Cx) (id : String) (r : V → List V → Hp → VK → Prop) : Prop :=
  ∀ (pins : List (Addr × Obj)) (s : Shared) (σ : St) (H : Hp) (x : V) (xs : List V) (v : Value) (us : List Value) (Q : VK), Inv X pins σ H s → RelV x v → Vals xs us → r x xs H Q →
    wpAny (model X.prog X.w) X.A (call (.builtin id) (v :: us)) (EP X pins σ Q) X.xe s
section
variable {X : Cx} {a b : Expr} {ta tb : TE} {pos : Pos}
theorem IxR.or {r r' : R2} (h : IxR X r) (h' : IxR X r') : IxR X (fun x y H Q => r x y H Q ∨ r' x y H Q) := by
  intro value slice pins s σ H x y v u Q I rx ry q hs
  rcases q with q | q
  · exact h value slice pins s σ H x y v u Q I rx ry q hs
  · exact h' value slice pins s σ H x y v u Q I rx ry q hs
/-- a[b] -/
theorem pe_ix {r : R2} (hr : IxR X r) (ha : PE X a ta) (hb : PE X b tb) (hs : PlainIx b) : PE X (.Subscript a b pos) (tOp r ta tb) := by
  intro pins s σ H Q I h
  exact Subscript_ (binT ha hb I h fun v u s2 x y H2 I2 rx ry q => hr a b pins s2 σ H2 x y v u Q I2 rx ry q (hs _ _))
def rIxL (K : PySem.W.Frag) : R2 := fun x y H Q => ∃ p xs i v, x = .ref p ∧ y = .int i ∧ SqL K H p xs ∧ atI xs i = some v ∧ Q v H
def rIxT (K : PySem.W.Frag) : R2 := fun x y H Q => ∃ p xs i v, x = .ref p ∧ y = .int i ∧ SqT K H p xs ∧ atI xs i = some v ∧ Q v H
def rIxS : R2 := fun x y H Q => ∃ z i c, x = .str z ∧ y = .int i ∧ z.length ≤ sizeLine ∧ atI z.cps.toList i = some c ∧ Q (.str ⟨#[c]⟩) H
theorem ix_list : IxR X (rIxL X.K) := by
  intro value slice pins s σ H x y v u Q I rx ry h hs
  obtain ⟨p, xs, i, z, rfl, rfl, hq, he, q⟩ := h
  cases rx
  obtain ⟨t, rfl⟩ := ry
  obtain ⟨its, r, pl, hz⟩ := I.list hq
  obtain ⟨j, h1, h2, h3, h4, h5⟩ := atI_get he
  obtain ⟨w, ew, rw'⟩ := r.get h2
  have hl := r.length
  have hn := line63
  have fin : EP X pins σ Q w s := ⟨z, H, I, rw', q⟩
  by_cases h0 : 0 ≤ i
  · have hj : i.toNat = j := by
      rw [seqIndex_of h0 h5] at h1
      exact Option.some.inj h1
    exact item_listR pl.isList h0 (by omega) (by rw [hj]; simpa using ew) fin hs
  · have hj : (i + (its.toArray.size : Int)).toNat = j := by
      rw [seqIndex_neg (by omega) h4] at h1
      rw [List.size_toArray, ← hl]
      exact Option.some.inj h1
    exact subscriptTail_builtinR (x := w) pl.isList.typeIs slot_list_getitem.lookup
      (wpAny_getItem_list_neg (Q := fun r s' => r = w ∧ EP X pins σ Q r s') pl.isList (by omega) (by rw [List.size_toArray] <;> omega) (by omega) (by rw [hj]; simpa using ew) ⟨rfl, fin⟩) hs
theorem ix_tup : IxR X (rIxT X.K) := by
  intro value slice pins s σ H x y v u Q I rx ry h hs
  obtain ⟨p, xs, i, z, rfl, rfl, hq, he, q⟩ := h
  cases rx
  obtain ⟨t, rfl⟩ := ry
  obtain ⟨its, r, pl, hz⟩ := I.tuple hq
  obtain ⟨j, h1, h2, h3, h4, h5⟩ := atI_get he
  obtain ⟨w, ew, rw'⟩ := r.get h2
  have hl := r.length
  have hn := line63
  have fin : EP X pins σ Q w s := ⟨z, H, I, rw', q⟩
  exact subscriptTail_builtinR (x := w) pl.typeIs slot_tuple_getitem.lookup
    (getItem_tuple (j := j) (Q := fun r s' => r = w ∧ EP X pins σ Q r s') pl (by omega) (by omega) (by rw [List.size_toArray, ← hl]; exact h1) (by simpa using ew) ⟨rfl, fin⟩) hs
theorem ix_str : IxR X rIxS := by
  intro value slice pins s σ H x y v u Q I rx ry h hs
  obtain ⟨z, i, c, rfl, rfl, hz, he, q⟩ := h
  obtain ⟨t, rfl⟩ := rx
  obtain ⟨t', rfl⟩ := ry
  obtain ⟨j, h1, h2, h3, h4, h5⟩ := atI_get he
  have hl : z.cps.toList.length = z.length := by simp [Str.length]
  rw [hl] at h1 h4 h5
  have hn := line63
  exact tail_any (typeIs_str s z t) slot_str_getitem.lookup (getItem_str (c := c) (by
    have e1 : decide (i < -(2 ^ 63 : Int)) = false := decide_eq_false (by omega)
    have e2 : decide (i ≥ 2 ^ 63) = false := decide_eq_false (by omega)
    rw [e1, e2, Bool.or_false]) (by rw [h1]; simpa using h2) ⟨.str ⟨#[c]⟩, H, I.tok _, ⟨_, rfl⟩, q⟩) hs
/-- list, tuple or str -/
def rIx (K : PySem.W.Frag) : R2 := fun x y H Q => rIxL K x y H Q ∨ rIxT K x y H Q ∨ rIxS x y H Q
theorem ix_seq : IxR X (rIx X.K) := ix_list.or (ix_tup.or ix_str)
/-! ### xs[i] = v, any sign -/
/-! ### slices -/
theorem slice_bounds (lo hi : Option Int) (n : Nat) : (sliceBounds lo hi none n).1 = ((HT.sIx n 0 lo : Nat) : Int) ∧ (sliceBounds lo hi none n).2.1 = ((HT.sIx n n hi : Nat) : Int) ∧ (sliceBounds lo hi none n).2.2 = 1 := by
  refine ⟨?_, ?_, rfl⟩
  · cases lo with
    | none => simp [sliceBounds, HT.sIx]
    | some i =>
      simp only [sliceBounds, HT.sIx, Option.getD_none, show (1 : Int) > 0 by decide, if_true]
      by_cases h : i < 0
      · simp only [h, if_true] <;> omega
      · simp only [h, if_false] <;> omega
  · cases hi with
    | none => simp [sliceBounds, HT.sIx]
    | some i =>
      simp only [sliceBounds, HT.sIx, Option.getD_none, show (1 : Int) > 0 by decide, if_true]
      by_cases h : i < 0
      · simp only [h, if_true] <;> omega
      · simp only [h, if_false] <;> omega
theorem slicePick_cut (its : List Value) (lo hi : Option Int) : slicePick its.toArray lo hi none = ((its.drop (HT.sIx its.length 0 lo)).take (HT.sIx its.length its.length hi - HT.sIx its.length 0 lo)).toArray := by
  obtain ⟨h1, h2, h3⟩ := slice_bounds lo hi its.toArray.size
  unfold slicePick
  rw [h1, h2, h3]
  simp only [sliceRange_one, pick_run, List.size_toArray] <;> rfl
/-- xs[lo:hi] of a list: a new list -/
def rSlL (K : PySem.W.Frag) : V → Option Int → Option Int → Hp → VK → Prop := fun x lo hi H Q => ∃ a xs, x = .ref a ∧ SqL K H a xs ∧ ∀ p, H p = none → Q (.ref p) (upd H p (.lst (cutV xs lo hi)))
theorem sl_list : SlR X (rSlL X.K) := by
  intro pins s σ H x v vl vu lo hi sl Q I rx hs pl pu h
  obtain ⟨a, xs, rfl, hx, q⟩ := h
  cases rx
  obtain ⟨its, r, ht, hz⟩ := I.list hx
  have hlen := r.length
  refine ⟨"list", _, slot_list_getitem.lookup, ht.isList.typeIs, ?_⟩
  refine wpAny_getItem_list_slice ht.isList hs pl pu .none (by simp) ?_ (by rw [List.size_toArray] <;> omega)
  rw [slicePick_cut, ← hlen]
  refine ⟨.ref s.heap.objs.size, _, I.laid (t' := s.toks) (o := .lst (cutV xs lo hi)) (fun b ob q => Heap.get?_push_of_some _ q) (Nat.le_refl _) ?_, rfl, q _ (I.hok.fresh (Nat.le_refl _))⟩
  exact ⟨Nat.le_trans (cutV_length xs lo hi) hz, _, 0, (r.drop (HT.sIx xs.length 0 lo)).take (HT.sIx xs.length xs.length hi - HT.sIx xs.length 0 lo), Heap.get?_push_size _ rfl⟩
/-! ### in, not in: flat items -/
def flatV : V → Bool
  | .non => true
  | .bl _ => true
  | .int _ => true
  | .str _ => true
  | _ => false
/-- == of flat values -/
def eqV : V → V → Bool
  | .non, .non => true
  | .bl a, .bl b => a == b
  | .bl a, .int b => (if a then 1 else 0) == b
  | .int a, .bl b => a == (if b then 1 else 0)
  | .int a, .int b => a == b
  | .str a, .str b => a == b
  | _, _ => false
theorem eqAt_V {A : Around} {s : Shared} {y x : V} {u v : Value} (ry : RelV y u) (rx : RelV x v) (fy : flatV y = true) (fx : flatV x = true) : SeqAt.EqAt A s u v (eqV y x) := by
  cases y with
  | non =>
    cases ry
    cases x with
    | non => cases rx; exact SeqAt.EqAt.same _
    | bl b => cases rx; exact SeqAt.EqAt.none_bool b
    | int b => obtain ⟨t, rfl⟩ := rx; exact SeqAt.EqAt.none_int b t
    | str b => obtain ⟨t, rfl⟩ := rx; exact SeqAt.EqAt.none_str b t
    | _ => exact absurd (show false = true from fx) Bool.false_ne_true
  | bl a =>
    cases ry
    cases x with
    | non => cases rx; exact SeqAt.EqAt.bool_none a
    | bl b => cases rx; exact SeqAt.EqAt.bool_bool a b
    | int b => obtain ⟨t, rfl⟩ := rx; exact SeqAt.EqAt.bool_int a b t
    | str b => obtain ⟨t, rfl⟩ := rx; exact SeqAt.EqAt.bool_str a b t
    | _ => exact absurd (show false = true from fx) Bool.false_ne_true
  | int a =>
    obtain ⟨t', rfl⟩ := ry
    cases x with
    | non => cases rx; exact SeqAt.EqAt.int_none a t'
    | bl b => cases rx; exact SeqAt.EqAt.int_bool a t' b
    | int b => obtain ⟨t, rfl⟩ := rx; exact SeqAt.EqAt.int_int a t' b t
    | str b => obtain ⟨t, rfl⟩ := rx; exact SeqAt.EqAt.int_str a t' b t
    | _ => exact absurd (show false = true from fx) Bool.false_ne_true
  | str a =>
    obtain ⟨t', rfl⟩ := ry
    cases x with
    | non => cases rx; exact SeqAt.EqAt.str_none a t'
    | bl b => cases rx; exact SeqAt.EqAt.str_bool a t' b
    | int b => obtain ⟨t, rfl⟩ := rx; exact SeqAt.EqAt.str_int a t' b t
    | str b => obtain ⟨t, rfl⟩ := rx; exact SeqAt.EqAt.str_str a t' b t
    | _ => exact absurd (show false = true from fx) Bool.false_ne_true
  | _ => exact absurd (show false = true from fy) Bool.false_ne_true
/-- the items' answers, read off the values (a value's own answer does not lean on its token) -/
def eqU (x : V) (u : Value) : Bool := match u with
  | .none => eqV .non x
  | .bool b => eqV (.bl b) x
  | .int i _ => eqV (.int i) x
  | .str z _ => eqV (.str z) x
  | _ => false
theorem eqU_of {x y : V} {u : Value} (r : RelV y u) (f : flatV y = true) : eqU x u = eqV y x := by
  cases y with
  | non => cases r; rfl
  | bl b => cases r; rfl
  | int i => obtain ⟨t, rfl⟩ := r; rfl
  | str z => obtain ⟨t, rfl⟩ := r; rfl
  | _ => exact absurd (show false = true from f) Bool.false_ne_true
theorem any_eqU {x : V} : ∀ {xs : List V} {us : List Value}, Vals xs us → xs.all flatV = true → us.any (eqU x) = xs.any fun y => eqV y x
  | _, _, .nil, _ => rfl
  | y :: xs, u :: us, .cons r t, f => by
    rw [List.all_cons, Bool.and_eq_true] at f
    rw [List.any_cons, List.any_cons, eqU_of r f.1, any_eqU t f.2]
theorem mem_eqAt {A : Around} {s : Shared} {x : V} {v : Value} (rx : RelV x v) (fx : flatV x = true) : ∀ {xs : List V} {us : List Value}, Vals xs us → xs.all flatV = true → ∀ u ∈ us, SeqAt.EqAt A s u v (eqU x u)
  | _, _, .nil, _ => fun u hu => by cases hu
  | y :: xs, u :: us, .cons r t, f => fun u' hu => by
    rw [List.all_cons, Bool.and_eq_true] at f
    rcases List.mem_cons.mp hu with rfl | hu
    · rw [eqU_of r f.1]; exact eqAt_V r rx f.1 fx
    · exact mem_eqAt rx fx t f.2 u' hu
def inV (x : V) (xs : List V) : Bool := xs.any fun y => eqV y x
/-- x in a list or tuple of flat items -/
def rIn (K : PySem.W.Frag) (neg : Bool) : R2 := fun x y H Q => ∃ p xs, y = .ref p ∧ (SqL K H p xs ∨ SqT K H p xs) ∧ flatV x = true ∧ xs.all flatV = true ∧ Q (.bl (if neg then !inV x xs else inV x xs)) H
theorem op_in_seq : OpR X (compareOp .In) (rIn X.K false) := by
  intro pins s σ H x y v u Q I rx ry h
  obtain ⟨p, xs, rfl, hq, fx, fs, q⟩ := h
  cases ry
  rcases hq with hq | hq
  · obtain ⟨its, r, pl, hz⟩ := I.list hq
    refine SeqAt.in_listAt (eqU x) pl.isList (fun w hw => mem_eqAt rx fx r fs w (by simpa using hw)) ⟨.bl _, H, I, rfl, ?_⟩
    rw [show its.toArray.any (eqU x) = its.any (eqU x) by simp, any_eqU r fs]
    exact q
  · obtain ⟨its, r, pl, hz⟩ := I.tuple hq
    refine SeqAt.in_tupleAt (eqU x) pl (fun w hw => mem_eqAt rx fx r fs w (by simpa using hw)) ⟨.bl _, H, I, rfl, ?_⟩
    rw [show its.toArray.any (eqU x) = its.any (eqU x) by simp, any_eqU r fs]
    exact q
theorem op_notIn_seq : OpR X (compareOp .NotIn) (rIn X.K true) := by
  intro pins s σ H x y v u Q I rx ry h
  obtain ⟨p, xs, rfl, hq, fx, fs, q⟩ := h
  cases ry
  rcases hq with hq | hq
  · obtain ⟨its, r, pl, hz⟩ := I.list hq
    refine SeqAt.notIn_listAt (eqU x) pl.isList (fun w hw => mem_eqAt rx fx r fs w (by simpa using hw)) ⟨.bl _, H, I, rfl, ?_⟩
    rw [show its.toArray.any (eqU x) = its.any (eqU x) by simp, any_eqU r fs]
    exact q
  · obtain ⟨its, r, pl, hz⟩ := I.tuple hq
    refine SeqAt.notIn_tupleAt (eqU x) pl (fun w hw => mem_eqAt rx fx r fs w (by simpa using hw)) ⟨.bl _, H, I, rfl, ?_⟩
    rw [show its.toArray.any (eqU x) = its.any (eqU x) by simp, any_eqU r fs]
    exact q
theorem op_notIn_str : OpR X (compareOp .NotIn) (fun x y H Q => ∃ i j, x = .str i ∧ y = .str j ∧ Q (.bl (!(!(Builtin.Str.occurrences j i 0 j.length 1).isEmpty))) H) := by
  intro pins s σ H x y v u Q I rx ry h
  obtain ⟨i, j, rfl, rfl, q⟩ := h
  obtain ⟨t, rfl⟩ := rx
  obtain ⟨t', rfl⟩ := ry
  exact notIn_str ⟨.bl _, H, I, rfl, q⟩
/-! ### len, list(x), tuple(x) of any list or tuple that is read -/
theorem call_list_of : CallR X (.type "list") (fun xs H Q => ∃ p ys, xs = [.ref p] ∧ (SqL X.K H p ys ∨ SqT X.K H p ys) ∧ ∀ l, H l = none → Q (.ref l) (upd H l (.lst ys))) := by
  intro pins s σ H xs us Q I r h
  obtain ⟨p, ys, rfl, hq, q⟩ := h
  obtain ⟨u, rfl, rx⟩ := vals1 r
  cases rx
  have fin : ∀ (its : List Value), Vals ys its → ys.length ≤ sizeLine → ∀ (h' : Heap) (c' : Nat), (∀ b o', s.heap.get? b = some o' → h'.get? b = some o') →
      h'.get? s.heap.objs.size = some { cls := .type "list", dict := none, data := .seq its.toArray c', slots := #[] } → EP X pins σ Q (.ref s.heap.objs.size) { s with heap := h' } := fun its r' hz h' c' kp e =>
    ⟨.ref s.heap.objs.size, _, I.laid (t' := s.toks) kp (Nat.le_refl _) (show ObjOk X.prog X.w _ h' _ (.lst ys) from ⟨hz, its, c', r', e⟩), rfl, q _ (I.hok.fresh (Nat.le_refl _))⟩
  rcases hq with hq | hq
  · obtain ⟨its, r', pl, hz⟩ := I.list hq
    have hlen := r'.length
    obtain ⟨o, ho, hc, n, hd⟩ := pl.isList
    exact call_list_seq p (.inl rfl) ho hc hd (fun h' c' kp e => fin its r' hz h' c' kp e) (by simp only [List.size_toArray] <;> omega)
  · obtain ⟨its, r', pl, hz⟩ := I.tuple hq
    have hlen := r'.length
    obtain ⟨o, ho, hc, n, hd⟩ := pl
    exact call_list_seq p (.inr rfl) ho hc hd (fun h' c' kp e => fin its r' hz h' c' kp e) (by simp only [List.size_toArray] <;> omega)
/-! ### the call of a builtin's method: o.m(..) -/
/-- the value is of that builtin type -/
def tyV (K : PySem.W.Frag) (T : String) (x : V) (H : Hp) : Prop := match x with
  | .str _ => T = "str"
  | .int _ => T = "int"
  | .ref p => (T = "list" ∧ ∃ xs, SqL K H p xs) ∨ (T = "tuple" ∧ ∃ o, K.lookup p = some o ∧ o.cls = .type "tuple" ∧ o.dict = none) ∨
      (T = "dict" ∧ ((∃ kvs, H p = some (.dK kvs)) ∨ ∃ kvs, H p = some (.dT kvs))) ∨ (T = "set" ∧ ∃ S n, H p = some (.set S n))
  | _ => False
theorem tyV_is {pins : List (Addr × Obj)} {σ : St} {H : Hp} {s : Shared} {T : String} {x : V} {v : Value} (I : Inv X pins σ H s) (r : RelV x v) (ty : tyV X.K T x H) :
    s.TypeIs v T ∧ ∀ a, v = .ref a → ∃ ob, s.heap.get? a = some ob ∧ ob.dict = none := by
  cases x with
  | str z =>
    obtain ⟨t, rfl⟩ := r
    cases (show T = "str" from ty)
    exact ⟨typeIs_str s z t, fun _ e => nomatch e⟩
  | int i =>
    obtain ⟨t, rfl⟩ := r
    cases (show T = "int" from ty)
    exact ⟨typeIs_int s i t, fun _ e => nomatch e⟩
  | ref p =>
    cases r
    rcases ty with ⟨rfl, xs, hq⟩ | ⟨rfl, o, hk, hc, hd⟩ | ⟨rfl, hk⟩ | ⟨rfl, S, n, hk⟩
    · obtain ⟨its, _, pl, _⟩ := I.list hq
      refine ⟨pl.isList.typeIs, fun a e => ?_⟩
      cases e
      obtain ⟨o, n, e, c, hd, _⟩ := pl
      exact ⟨o, e, hd⟩
    · refine ⟨⟨o, I.kIn p o hk, hc⟩, fun a e => ?_⟩
      cases e
      exact ⟨o, I.kIn _ o hk, hd⟩
    · have z : ∃ o, s.heap.get? p = some o ∧ o.ExactDict := by
        rcases hk with ⟨kvs, hk⟩ | ⟨kvs, hk⟩
        · obtain ⟨_, _, _, _, o, _, _, e, ex, _⟩ := I.hok p _ hk
          exact ⟨o, e, ex⟩
        · obtain ⟨_, _, _, _, o, _, _, e, ex, _⟩ := I.hok p _ hk
          exact ⟨o, e, ex⟩
      obtain ⟨o, e, ex⟩ := z
      refine ⟨⟨o, e, ex.1⟩, fun a e2 => ?_⟩
      cases e2
      exact ⟨o, e, ex.2.1⟩
    · obtain ⟨o, _, _, _, e, ex, _⟩ := I.hok p _ hk
      refine ⟨⟨o, e, ex.1⟩, fun a e2 => ?_⟩
      cases e2
      exact ⟨o, e, ex.2.1⟩
  | _ => exact False.elim ty
def tBM0 (K : PySem.W.Frag) (T : String) (r : V → List V → Hp → VK → Prop) (to : TE) : TE := fun σ H Q => to σ H fun x H1 => tyV K T x H1 ∧ r x [] H1 Q
def tBM (K : PySem.W.Frag) (T : String) (r : V → List V → Hp → VK → Prop) (to : TE) (t : TA) : TE := fun σ H Q => to σ H fun x H1 => tyV K T x H1 ∧ t σ H1 fun xs H2 => r x xs H2 Q
variable {o e : Expr} {es : List Expr} {to : TE} {t : TA} {name : Str} {apos cpos : Pos} {T id : String} {r : V → List V → Hp → VK → Prop}
theorem pe_bm0 (pa : PlainAttrs T) (slot : Slot T name id) (hty : typeOf (.builtin id) = pure (.type "method_descriptor")) (hm : MtR X id r) (ho : PE X o to)
    (hbase : attributeBase o name X.env (eval o X.env) = eval o X.env := by rfl) (hline : (apos.endLine == cpos.line) = true := by rfl) : PE X (.Call (.Attribute o name apos) [] [] cpos) (tBM0 X.K T r to) := by
  intro pins s σ H Q I h
  refine wpAny_Call_method0_late hbase hline (thn (ho pins s σ H _ I h) fun v s1 ⟨x, H1, I1, r1, ty, q1⟩ => ?_)
  obtain ⟨h1, h2⟩ := tyV_is I1 r1 ty
  exact ⟨T, id, pa, slot, hty, h1, h2, Calls.callWith_builtin rfl (PySem.evalArgs_none (hm pins s1 σ H1 x [] v [] Q I1 r1 .nil q1))⟩
theorem pe_bm (pa : PlainAttrs T) (slot : Slot T name id) (hty : typeOf (.builtin id) = pure (.type "method_descriptor")) (hm : MtR X id r) (ho : PE X o to) (ha : PA X (e :: es) t)
    (hbase : attributeBase o name X.env (eval o X.env) = eval o X.env := by rfl)
    (hfew : ((backTo cpos (starEach (e :: es) X.env)).all (fun x => !x.1) && (backToKw cpos (keywordEach [] X.env)).all (fun x => x.1.isSome)
      && decide ((e :: es).length + ([] : List Keyword).length + (if ([] : List Keyword).isEmpty then 0 else 1) < 30)) = true := by rfl)
    (hline : (apos.endLine == cpos.line) = true := by rfl) (hs : starEach (e :: es) X.env = (false, eval e X.env) :: starEach es X.env := by rfl) (hplain : (backTo cpos (starEach es X.env)).any (·.1) = false := by rfl) :
    PE X (.Call (.Attribute o name apos) (e :: es) [] cpos) (tBM X.K T r to t) := by
  intro pins s σ H Q I h
  refine wpAny_Call_method_late hbase hfew hline rfl (thn (ho pins s σ H _ I h) fun v s1 ⟨x, H1, I1, r1, ty, q1⟩ => ?_)
  obtain ⟨h1, h2⟩ := tyV_is I1 r1 ty
  refine ⟨T, id, pa, slot, hty, h1, h2, ?_⟩
  have hA := ha cpos pins s1 σ H1 _ I1 q1
  rw [hs] at hA ⊢
  refine Calls.callWith_builtin (by show (false || (backTo cpos (starEach es X.env)).any (·.1)) = false; rw [hplain] <;> rfl) (Calls.evalArgs_plain ?_)
  exact thn hA fun us s2 ⟨vs, H2, I2, r2, q2⟩ => hm pins s2 σ H2 x vs v us Q I2 r1 r2 q2
/- xs.append(e), list.index on a module's tuple .. are MtR facts of 06m -/
end
end L2
namespace L2
open PySem PySem.Spec PyProof.Rows
def MtM (X : Cx) (id : String) (r : V → List V → Hp → VK → Prop) : Prop :=
  ∀ (pins : List (Addr × Obj)) (s : Shared) (σ : St) (H : Hp) (x : V) (xs : List V) (v : Value) (us : List Value) (Q : VK), Inv X pins σ H s → RelV x v → Vals xs us → r x xs H Q →
    wpAny (model X.prog X.w) X.A (call (.builtin id) (v :: us)) (EP X pins σ Q) X.xe s
/-! ### lists of values -/
theorem Vals.one : ∀ {x : V} {us : List Value}, Vals [x] us → ∃ u, us = [u] ∧ RelV x u
  | _, _, .cons r .nil => ⟨_, rfl, r⟩
theorem Vals.zero : ∀ {us : List Value}, Vals [] us → us = []
  | _, .nil => rfl
theorem Vals.dropLast {xs : List V} {us : List Value} (h : Vals xs us) : Vals xs.dropLast us.dropLast := by
  induction h with
  | nil => exact .nil
  | cons r t ih =>
    cases t with
    | nil => exact .nil
    | cons q t' => exact .cons r ih
theorem erase_last {α : Type} (l : List α) : l.eraseIdx (l.length - 1) = l.dropLast := by
  induction l with
  | nil => rfl
  | cons a r ih =>
    cases r with
    | nil => rfl
    | cons b r =>
      have e : (a :: b :: r).length - 1 = ((b :: r).length - 1) + 1 := by
        have h1 : (a :: b :: r).length = r.length + 2 := rfl
        have h2 : (b :: r).length = r.length + 1 := rfl
        omega
      rw [e, List.eraseIdx_cons_succ, ih]
      all_goals rfl
section
variable {X : Cx} {pins : List (Addr × Obj)} {σ : St} {H : Hp} {s : Shared} {l b : Addr} {xs ys zs : List V}
/-! ### the two steps: a tracked list is rewritten, a new list is laid -/
theorem Inv.lset {its its' : List Value} {n : Nat} {f : Array Value → Array Value} {t' : Nat} (I : Inv X pins σ H s) (hH : H l = some (.lst xs))
    (e : s.heap.get? l = some { cls := .type "list", data := .seq its.toArray n }) (hf : f its.toArray = its'.toArray) (hv : Vals ys its') (hz : ys.length ≤ sizeLine) :
    Inv X pins σ (upd H l (.lst ys)) { s with heap := s.heap.update l (Obj.mapSeq f), toks := t' } := by
  have q := PySem.IsL.update e f
  rw [hf] at q
  refine I.write (x := l) (e := l) (by rw [hH]; exact trivial) (.inl rfl) (fun b' u hb hu => (Heap.get?_update_other s.heap (Obj.mapSeq f) (Ne.symm hb)).trans hu) ⟨_, q⟩ ?_
  exact ⟨hz, its', _, hv, q⟩
theorem Inv.lnew {its : List Value} {t' : Nat} (I : Inv X pins σ H s) (hv : Vals ys its) (hz : ys.length ≤ sizeLine) :
    Inv X pins σ (upd H s.heap.objs.size (.lst ys)) { s with heap := s.heap.push { cls := .type "list", data := .seq its.toArray }, toks := t' } :=
  I.laid (fun _ _ q => Heap.get?_push_of_some _ q) (Nat.le_refl _) ⟨hz, its, 0, hv, Heap.get?_push_size _ rfl⟩
theorem Inv.fresh (I : Inv X pins σ H s) : H s.heap.objs.size = none := I.hok.fresh (Nat.le_refl _)
theorem Inv.lstM (I : Inv X pins σ H s) (hH : H l = some (.lst xs)) : xs.length ≤ sizeLine ∧ ∃ (its : List Value) (n : Nat), Vals xs its ∧ xs.length = its.length ∧ s.heap.get? l = some { cls := .type "list", data := .seq its.toArray n } := by
  obtain ⟨z, its, n, r, e⟩ := I.hok l _ hH
  exact ⟨z, its, n, r, r.length, e⟩
theorem notLongL {n : Nat} (h : n ≤ sizeLine) : Builtin.List.listTooLong n = false := by
  unfold Builtin.List.listTooLong
  exact decide_eq_false (by omega)
end
section
variable {X : Cx}
/-! ### methods -/
def rAppend : V → List V → Hp → VK → Prop := fun x vs H Q => ∃ l xs y, x = .ref l ∧ vs = [y] ∧ H l = some (.lst xs) ∧ xs.length < sizeLine ∧ Q .non (upd H l (.lst (xs ++ [y])))
theorem mt_append : MtM X "list.append" rAppend := by
  intro pins s σ H x vs v us Q I rx rv h
  obtain ⟨l, xs, y, rfl, rfl, hH, hz, q⟩ := h
  cases rx
  obtain ⟨u, rfl, ru⟩ := rv.one
  obtain ⟨z, its, n, r, hl, e⟩ := I.lstM hH
  refine call_meets F.slot_list_append ⟨_, e, rfl⟩ F.entry_list_append (F.args_list_append_2 _ _) (PySem.list_append l its.toArray n u (by rw [List.size_toArray]; omega)) ⟨e, ?_⟩
  refine ⟨.non, _, I.lset (its' := its ++ [u]) hH e (by simp) (r.append (.cons ru .nil)) ?_, rfl, q⟩
  rw [List.length_append, List.length_singleton]
  omega
def rExtend : V → List V → Hp → VK → Prop := fun x vs H Q => ∃ l b xs zs, x = .ref l ∧ vs = [.ref b] ∧ H l = some (.lst xs) ∧ H b = some (.lst zs) ∧ xs.length + zs.length ≤ sizeLine ∧ Q .non (upd H l (.lst (xs ++ zs)))
theorem mt_extend : MtM X "list.extend" rExtend := by
  intro pins s σ H x vs v us Q I rx rv h
  obtain ⟨l, b, xs, zs, rfl, rfl, hH, hB, hz, q⟩ := h
  cases rx
  obtain ⟨u, rfl, ru⟩ := rv.one
  cases ru
  obtain ⟨z, its, n, r, hl, e⟩ := I.lstM hH
  obtain ⟨z2, its2, n2, r2, hl2, e2⟩ := I.lstM hB
  have hsz : its.toArray.size + its2.toArray.size ≤ sizeLine := by rw [List.size_toArray, List.size_toArray]; omega
  have hlong : ¬ (!its.toArray.isEmpty && Builtin.List.listTooLong (its.toArray.size + its2.toArray.size)) = true := by
    rw [notLongL hsz, Bool.and_false]
    exact Bool.false_ne_true
  refine call_meets F.slot_list_extend ⟨_, e, rfl⟩ F.entry_list_extend (F.args_list_extend_2 _ _)
    (AutoSeq1.list_extend_list_list_0 l its.toArray n b its2.toArray n2 hlong (by rw [List.size_toArray]; omega) (by omega)) ⟨e, e2, ?_⟩
  refine ⟨.non, _, I.lset (its' := its ++ its2) hH e (by simp) (r.append r2) ?_, rfl, q⟩
  rw [List.length_append]
  omega
def rPop : V → List V → Hp → VK → Prop := fun x vs H Q => ∃ l xs y, x = .ref l ∧ vs = [] ∧ H l = some (.lst xs) ∧ xs[xs.length - 1]? = some y ∧ Q y (upd H l (.lst xs.dropLast))
theorem mt_pop : MtM X "list.pop" rPop := by
  intro pins s σ H x vs v us Q I rx rv h
  obtain ⟨l, xs, y, rfl, rfl, hH, hy, q⟩ := h
  cases rx
  have hus := rv.zero
  subst hus
  obtain ⟨z, its, n, r, hl, e⟩ := I.lstM hH
  obtain ⟨u, hu, ru⟩ := r.get hy
  have hy' : its.toArray[its.toArray.size - 1]? = some u := by
    show its.toArray[its.length - 1]? = some u
    rw [← Array.getElem?_toList, ← hl]
    exact hu
  refine call_meets F.slot_list_pop ⟨_, e, rfl⟩ F.entry_list_pop (F.args_list_pop_1 _) (MeetsSeq.list_pop_last l its.toArray n u hy' (by rw [List.size_toArray]; omega)) ⟨e, ?_⟩
  refine ⟨y, _, I.lset (its' := its.dropLast) hH e ?_ r.dropLast ?_, ru, q⟩
  · show its.toArray.eraseIdxIfInBounds (its.toArray.size - 1) = its.dropLast.toArray
    rw [List.size_toArray, List.eraseIdxIfInBounds_toArray, erase_last]
  · rw [List.length_dropLast]
    omega
/-! ### list + list, list += list, list * int -/
def rCat : R2 := fun x y H Q => ∃ l b xs zs, x = .ref l ∧ y = .ref b ∧ H l = some (.lst xs) ∧ H b = some (.lst zs) ∧ xs.length + zs.length ≤ sizeLine ∧ ∀ p, H p = none → Q (.ref p) (upd H p (.lst (xs ++ zs)))
theorem op_cat : OpR X (binaryOp .Add) rCat := by
  intro pins s σ H x y v u Q I rx ry h
  obtain ⟨l, b, xs, zs, rfl, rfl, hH, hB, hz, q⟩ := h
  cases rx
  cases ry
  obtain ⟨z, its, n, r, hl, e⟩ := I.lstM hH
  obtain ⟨z2, its2, n2, r2, hl2, e2⟩ := I.lstM hB
  refine PySem.P.add_list e e2 ?_ (by rw [List.size_toArray, List.size_toArray]; omega)
  have ea : its.toArray ++ its2.toArray = (its ++ its2).toArray := by simp
  rw [ea]
  exact ⟨.ref _, _, I.lnew (t' := s.toks) (r.append r2) (by rw [List.length_append]; omega), rfl, q _ I.fresh⟩
/-! ### del xs[i] -/
end
/-! ### xs[a:b] = ys -/
section
variable {prog : Program} {w : World} {A : Around} {E : Value → Shared → Prop} {s : Shared}
set_option maxRecDepth 100000 in
end
section
variable {X : Cx}
end
end L2
namespace L2
open PySem PySem.Spec PyProof.Rows
/-! ### lists of pairs as tables -/
section
variable {κ : Type} [DecidableEq κ]
end
/-! ### a tracked dict, its keys ints and texts or tuples of these -/
section
variable {P : Program} {w : World} {H : Hp} {h : Heap} {a : Addr}
end
section
variable {X : Cx} {pins : List (Addr × Obj)} {σ : St} {H : Hp} {s : Shared} {a : Addr} {y v : V} {u r : Value} {o : Option V} {A : Around} {E : Value → Shared → Prop}
end
section
variable {X : Cx} {pins : List (Addr × Obj)} {σ : St} {H : Hp} {s : Shared} {a : Addr} {kvs : List (Key × V)} {k : Key} {u : Value} {A : Around} {E : Value → Shared → Prop}
end
/-! ### readings and rules -/
section
variable {X : Cx} {o i e value : Expr} {pos pos' tpos : Pos} {td ty tv : TE}
end
/-! ### displays -/
section
variable {X : Cx} {pos : Pos}
end
/-! ### methods -/
section
variable {X : Cx} {pins : List (Addr × Obj)} {σ : St} {H : Hp} {s : Shared} {a : Addr} {y d : V} {u r : Value} {o : Option V} {A : Around} {E : Value → Shared → Prop}
end
section
variable {X : Cx} {o e f : Expr} {apos cpos : Pos} {td ty tx : TE}
end
/-! ### dict(d): a copy -/
section
variable {X : Cx} {pins : List (Addr × Obj)} {σ : St} {H : Hp} {s : Shared} {a : Addr} {kvs : List (Key × V)} {A : Around} {E : Value → Shared → Prop}
end
section
variable {X : Cx} {pins : List (Addr × Obj)} {σ : St} {H : Hp} {s : Shared} {a : Addr} {y : V} {u : Value} {A : Around} {E : Value → Shared → Prop}
end
end L2
namespace Att
open PySem PySem.W PySem.Calls PyProof.Rows
/-! ### the script -/
theorem ints_of_wellAll {P : Params} {h : Heap} : ∀ (ns : List Int) (vs : List Value), WellAll P h vs (ns.map WData.int) → IntsAre vs ns := by
  intro ns
  induction ns with
  | nil =>
    intro vs w
    rw [List.map_nil] at w
    cases w
    exact .nil
  | cons n ns ih =>
    intro vs w
    rw [List.map_cons] at w
    cases w with
    | cons a b =>
      cases a
      exact .cons _ _ (ih _ b)
theorem script_of {l : OpenLaw} {n : Nat} (hn : l.most = some n) {P : Params} {h : Heap} {args : List WData} {vals : List Value}
    (hpre : l.row.toRowW.claim.pre args = true) (hwl : WellAll P h vals args) :
    ∃ a vs ns, vals = [Value.ref a] ∧ args = [WData.list (ns.map WData.int)] ∧ h.get? a = some { cls := .type "list", data := .seq vs.toArray } ∧ IntsAre vs ns ∧ ns.length ≤ n := by
  have hsh : WShape.hasAll [] args [.list .int] = true := (pre_splitW hpre).1
  have hc : l.pre.holds [] { args := args } = true := (pre_splitW hpre).2
  obtain ⟨d, r, rfl, h1, h2⟩ := hasAllW_cons hsh
  obtain rfl := hasAllW_nil h2
  obtain ⟨xs, rfl, h3⟩ := hasW_list h1
  obtain ⟨ns, rfl⟩ := items_int h3
  have hlen : ns.length ≤ n := by
    unfold OpenLaw.pre at hc
    have h4 : (WTm.not (.lt (.lit (.int (n : Int))) (.len (.arg 0)))).holds [] { args := [.list (ns.map .int)] } = true := by
      have h4 := (holds_andW hc).1
      rw [hn] at h4
      exact h4
    have h5 := condW_of h4 (w_not (w_lt w_lit (w_len_list (w_arg rfl))))
    rw [List.length_map] at h5
    refine Nat.le_of_not_lt fun q => ?_
    have q' : (n : Int) < ((ns.length : Nat) : Int) := by omega
    first
      | (rw [decide_eq_true q'] at h5; exact absurd h5 (by decide))
      | (simp at h5; omega)
  cases hwl with
  | cons w1 w2 =>
    cases w2
    cases w1 with
    | list ho hall => exact ⟨_, _, ns, rfl, rfl, ho, ints_of_wellAll ns _ hall, hlen⟩
theorem post_true (l : OpenLaw) (args : List WData) : l.row.toRowW.claim.post args (.bool true) args = true :=
  postW_of (r := l.row.toRowW) (X := (true == true))
    (show WShape.has [] (.bool true) .bool = true by first | rfl | decide | simp [WShape.has, WShape.arms, WShape.armsAll])
    (show (WTm.eq .res (.lit (.bool true))).value [] { args := args, res := some (.bool true), after := args } = some (.bool (true == true)) from w_eq_bool (w_res rfl) w_lit) rfl
/-! ### the attachment: holds_open's last premise (the goal 'hc' behind k_head) from a wpAny of the law's body -/
/-- the same from a codeAny of the CALL (for a layer whose function contracts speak of calls) -/
theorem attach_call {l : OpenLaw} {n : Nat} {q : Program} {loose : List Str} {XP : (Str → Option Value) → Heap → Prop} {YP : World → Heap → Prop} {d : DefRec}
    (hn : l.most = some n) (hdf : d.params.defaults = [])
    (call : ∀ (w : World) (s₀ s₁ : Shared) (mg mb : Str → Option Value) (fa : Addr) (o : Obj) (pm cd doc : Value) (a : Addr) (vs : List Value) (ns : List Int),
      Ground q loose [] XP w s₀ mg mb s₁.heap → YP w s₁.heap →
      s₁.heap.get? fa = some o → o.data = .func (docDef d.name d.params d.body d.scope pm cd doc) → s₁.heap.CodeRec cd d.name → mg d.name = some (.ref fa) →
      s₁.heap.get? a = some { cls := .type "list", data := .seq vs.toArray } → IntsAre vs ns → ns.length ≤ n → s₁.gens = #[] →
      codeAny (model l.prog w) callerA (.call (.ref fa) ⟨[.ref a], []⟩) (fun r s' => r = .ok (.ret (.bool true)) ∧ OldK s₁.heap s'.heap ∧ s'.os = s₁.os ∧ AllBare s'.gens) s₁) :
    WalkO q loose XP YP l.row.toRowW d [] (fun f vs => PySem.call f vs) := by
  intro w s₀ s₁ mg mb G Y fa o pm cd doc dV kV ho hd hcd hD hmg hg args vals as hpre hlay hrd hwl hlo
  obtain rfl : dV = .none := Dflts.none hD hdf
  obtain rfl : kV = .none := Dflts.noKw hD
  obtain ⟨a, vs, ns, rfl, rfl, hobj, hints, hlen⟩ := script_of hn hpre hwl
  refine enter_call (codeAny_mono (call w s₀ s₁ mg mb fa o pm cd doc a vs ns G Y ho (fd_plain hd) hcd hmg hobj hints hlen hg) fun r s' hq => ?_)
  obtain ⟨rfl, h2, h3, h4⟩ := hq
  exact ⟨.inl ⟨.bool true, .bool true, [], rfl, fun _ => rfl, .bool true, post_true l _, fun _ => ⟨List.Pairwise.nil, fun _ hm => (nomatch hm)⟩⟩, h2, h3, h4⟩
/-! ### rules over ANY heap (no ledger) from facts about the written part K: the library's own take a ledger (News) for what they write -/
section
variable {prog : Program} {w : World} {A : Around} {E : Value → Shared → Prop} {s : Shared} {K : Frag}
/-! the whole heap as the ledger: makes every rule that writes through a ledger a rule over any heap -/
end
end Att
namespace L2
open PySem PySem.Spec PyProof.Rows
theorem vals_ints : ∀ {vs : List Value} {ns : List Int}, IntsAre vs ns → Vals (ns.map V.int) vs
  | _, _, .nil => .nil
  | _, _, .cons n t h => .cons ⟨t, rfl⟩ (vals_ints h)
/-- nothing is tracked but the script, known to the object (or it is an object of the module) -/
def Only (H : Hp) : Prop := ∀ b, H b = none ∨ ∃ o xs, H b = some (.frz o (.lst xs))
/-- THE HEAD: the law's promise, at the heap behind the top. F, the promise of the law's def, may use that base is part of the heap (so K.In base, base.Ns mainGlobals mg stand in Mod) -/
theorem law_call {P : Program} {w : World} {K : PySem.W.Frag} {mg mb : Str → Option Value} {CX : CXT} {k : Nat} {fa a : Addr} {fd : FuncData} {x : Str} {sp : Sp} {s₁ : Shared} {vs : List Value} {ns : List Int}
    (KX : K.In s₁.heap) (hns : s₁.heap.Ns mainGlobals mg) (hb : s₁.heap.Ns builtinsNs mb) (hbb : ∀ x : Str, x ≠ "__name__" → mb x = bootBuiltins x) (hlim : s₁.heap.NoLimit) (hg : s₁.gens = #[])
    (ha : s₁.heap.get? a = some { cls := .type "list", data := .seq vs.toArray }) (hi : IntsAre vs ns) (hl : ns.length ≤ sizeLine) (hr : Room k callerA)
    (F : ∀ base : Heap, K.In base → base.Ns mainGlobals mg → FnOk P w K mg base CX k fa fd [x] sp) (hbind : ∀ (s : Shared) (u : Value), BindsTo s fd ⟨[u], []⟩ [(x, u)])
    (hsp : ∀ H : Hp, Only H → SqL K H a (ns.map V.int) → sp [.ref a] H (fun v _ => v = .bl true) fun _ _ _ => False)
    (hCX : ∀ H e s', CX [] H s₁ (fun _ _ _ => False) e s' → False) :
    codeAny (model P w) callerA (.call (.ref fa) ⟨[.ref a], []⟩) (fun r s' => r = .ok (.ret (.bool true)) ∧ OldK s₁.heap s'.heap ∧ s'.os = s₁.os ∧ AllBare s'.gens) s₁ := by
  have rv := vals_ints hi
  have lenV := hi.length
  -- from an abstract heap in which nothing but the script may be tracked
  have core : ∀ H : Hp, Only H → SqL K H a (ns.map V.int) → HOk P w H s₁.heap → (∀ b, H b ≠ none → b = a) → (H a ≠ none → K.lookup a = none) →
      codeAny (model P w) callerA (.call (.ref fa) ⟨[.ref a], []⟩) (fun r s' => r = .ok (.ret (.bool true)) ∧ OldK s₁.heap s'.heap ∧ s'.os = s₁.os ∧ AllBare s'.gens) s₁ := by
    intro H hO hS hok hA hK
    have base_of : ∀ {b : Addr} {o : Obj}, s₁.heap.get? b = some o → H b = none → (hidT s₁.heap H).get? b = some o := fun e n => hidT_get e n
    have noA : ∀ {b : Addr} {o : Obj} {es : Array DictEntry} {ep : Nat}, s₁.heap.get? b = some o → o.data = .dict es ep → H b = none := fun {b o es ep} e d => by
      cases q : H b with
      | none => rfl
      | some u =>
        have e' : b = a := hA b (by rw [q]; simp)
        subst e'
        rw [ha] at e; cases e
        have d' : Data.seq vs.toArray _ = Data.dict es ep := d
        cases d'
    have nsK : ∀ {b : Addr} {m : Str → Option Value}, s₁.heap.Ns b m → (hidT s₁.heap H).Ns b m := fun {b m} ⟨o, es, ep, e, d, r⟩ => ⟨o, es, ep, base_of e (noA e d), d, r⟩
    have hKb : K.In (hidT s₁.heap H) := fun b o e => base_of (KX b o e) (by
      cases q : H b with
      | none => rfl
      | some u =>
        have e' : b = a := hA b (by rw [q]; simp)
        subst e'
        rw [hK (by rw [q]; simp)] at e; cases e)
    have hM : Mod K mg (hidT s₁.heap H) := ⟨hKb, nsK hns, ⟨mb, nsK hb, hbb⟩, let ⟨mc, h1, h2⟩ := hlim; ⟨mc, nsK h1, h2⟩⟩
    have e0 : Env0 P w K mg (hidT s₁.heap H) callerA [] s₁ H := ⟨rfl, hM, fun b o e => of_hidT e, Nat.le_of_eq (hidT_size _ _), trivial, fun b hb => absurd (show b ∈ ([] : List Addr) from hb) (by simp), hok, .of_eq hg⟩
    refine codeAny_mono ((F _ hKb (nsK hns)).run callerA [] s₁ H ⟨[.ref a], []⟩ [.ref a] [.ref a] _ _ hr e0 (hbind s₁ (.ref a)) (.cons rfl .nil) (hsp H hO hS)) fun r s' h => ?_
    cases r with
    | error e => exact (hCX H e s' h).elim
    | ok fl =>
      cases fl with
      | next => exact False.elim h
      | brk => exact False.elim h
      | cont => exact False.elim h
      | ret u =>
        obtain ⟨v, H', os, bare, un, hok', r', q⟩ := h
        have q' : v = .bl true := q
        subst q'
        obtain rfl : u = Value.bool true := r'
        refine ⟨rfl, OldK.of_keep fun b o e => ?_, os, bare⟩
        cases q : H b with
        | none => exact un.keep b o e q (by intro z; exact absurd (show b ∈ ([] : List Addr) from z) (by simp)) (by simp)
        | some u =>
          rcases hO b with z | ⟨ob, xs, z⟩
          · rw [q] at z; cases z
          · have z2 := un.frzs b ob _ z
            obtain ⟨e1, _⟩ := hok b _ z
            obtain ⟨e2, _⟩ := hok' b _ z2
            rw [e] at e1; cases e1
            exact e2
  cases hk : K.lookup a with
  | some o =>
    -- the script is one of the module's own objects
    have e := KX a o hk
    rw [ha] at e
    cases e
    refine core (fun _ => none) (fun _ => .inl rfl) (.inr ⟨_, vs.toArray, _, hk, rfl, rfl, rfl, by rw [List.size_toArray, lenV]; exact hl, by simpa using vals0_ints rv⟩) (fun b u z => by have z' : (none : Option HO) = some u := z; cases z') (fun b z => absurd rfl z) fun z => absurd rfl z
  | none =>
    refine core (fun b => if b = a then some (.frz { cls := .type "list", data := .seq vs.toArray } (.lst (ns.map V.int))) else none) (fun b => ?_) (.inl (.inr ⟨{ cls := .type "list", data := .seq vs.toArray }, if_pos rfl⟩)) (fun b u z => ?_) (fun b z => ?_) fun _ => hk
    · by_cases hb : b = a
      · exact .inr ⟨_, _, if_pos hb⟩
      · exact .inl (if_neg hb)
    · by_cases hb : b = a
      · have z' := (if_pos hb).symm.trans z
        cases z'
        subst hb
        exact ⟨ha, by rw [List.length_map]; exact hl, vs, _, rv, ha⟩
      · have z' := (if_neg hb).symm.trans z
        cases z'
    · by_cases hb : b = a
      · exact hb
      · exact absurd (if_neg hb) z
end L2
namespace L2
open PySem PySem.Spec PyProof.Rows
/-- the goal that k_head leaves (case hc), from the law's promise. F gives the function object fd (K's own) once, then the promise over every base -/
theorem walk_of {l : PySem.W.OpenLaw} {n k : Nat} {q : Program} {loose : List Str} {XP : (Str → Option Value) → Heap → Prop} {YP : World → Heap → Prop} {d : DefRec} {K : Params → PySem.W.Frag} {CX : World → CXT} {sp : World → Sp} {x : Str}
    (hn : l.most = some n) (hn2 : n ≤ sizeLine) (hdf : d.params.defaults = []) (hr : Room k callerA)
    (hY : ∀ (w : World) (h : Heap), YP w h → (K w.params).In h)
    (F : ∀ (w : World) (mg : Str → Option Value) (fa : Addr) (h : Heap), (K w.params).In h → h.Ns mainGlobals mg → mg d.name = some (.ref fa) →
      ∃ fd : FuncData, (∀ (s : Shared) (u : Value), BindsTo s fd ⟨[u], []⟩ [(x, u)]) ∧
        ∀ base : Heap, (K w.params).In base → base.Ns mainGlobals mg → FnOk l.prog w (K w.params) mg base (CX w) k fa fd [x] (sp w))
    (hsp : ∀ (w : World) (H : Hp) (a : Addr) (ns : List Int), ns.length ≤ n → Only H → SqL (K w.params) H a (ns.map V.int) → sp w [.ref a] H (fun v _ => v = .bl true) fun _ _ _ => False)
    (hCX : ∀ (w : World) (H : Hp) (s : Shared) (e : Value) (s' : Shared), CX w [] H s (fun _ _ _ => False) e s' → False) :
    PySem.W.WalkO q loose XP YP l.row.toRowW d [] (fun f vs => PySem.call f vs) := by
  refine Att.attach_call hn hdf fun w s₀ s₁ mg mb fa o pm cd doc a vs ns G Y ho hd hcd hmg hobj hints hlen hg => ?_
  have KX := hY w _ Y
  obtain ⟨fd, hb, hF⟩ := F w mg fa _ KX G.T.g hmg
  exact law_call KX G.T.g G.T.b G.T.builtins G.T.nolimit hg hobj hints (Nat.le_trans hlen hn2) hr hF hb (fun H hO hS => hsp w H a ns hlen hO hS) fun H e s' => hCX w H s₁ e s'
end L2
/- THE LAST THEOREM (shape; LID, My.* are yours):
   My.Adr: a structure of the addresses that your layer names (classes, functions); My.Txt K t: a structure (Prop) of the equations over K;
   My.txt_mk : {K} {implicit addresses ..} (e1 : nsIn K mainGlobals "law" = some (some (.ref f))) (e2 : K.lookup f = some ⟨oc, od, .func (fnOf "law" "law" params body scope dV kV doc pm an cdv ct), sl⟩) (e3 : codeIn K cdv "law" = true) .. : ∃ t, My.Txt K t
set_option maxRecDepth 100000 in
set_option maxHeartbeats 0 in
theorem PySem.Challenge.cw_LID_holds : PySem.Challenge.rw_LID.Holds := by
  w_on; o_law; k_head; (case hw => w_witness2)
  k_fill
  refine L2.walk_of (l := PySem.Challenge.rw_LID) (n := 63) (k := 40) (x := "script") (CX := fun w => ..) (sp := fun _ => My.sp_law) rfl (by decide) rfl ⟨rfl, by decide, by decide⟩ (fun w h Y => PySem.W.kIn_of Y) ?F ?S ?C
  case F =>
    intro w mg fa h KX G hmg
    have T : ∃ t, My.Txt (L2.KOf KX) t := by
      dsimp only [L2.KOf]                          -- K must stand as «<heap const> w.params» for k_is
      refine' My.txt_mk ?e1 ?e2 ?e3 ..
      (case e1 => PySem.W.k_is)                    -- in the order: a name -> its address -> its object -> its parts
      (case e2 => PySem.W.k_is)
      ..
    obtain ⟨t, T⟩ := T
    have e0 := hmg.symm.trans (PySem.W.mg_of KX G T.law)
    cases e0                                       -- fa is the law's own address
    exact ⟨_, fun s u => .of_eq rfl, fun base kb nb => My.law_fn T kb nb⟩     -- if «.of_eq rfl» comes too early: refine' ⟨_, ?b, fun base kb nb => My.law_fn T kb nb⟩; exact fun s u => .of_eq rfl
  case S => exact fun w H a ns hl hO hS => ..
  case C => exact ..
(the tactic k_is has no namespace: write k_is) -/
/-! SHORT WORDS over the layer: a def of the text, its body, what a loop and a test want. -/
namespace L2
open PySem PySem.Spec PyProof.Rows
/-! ### the text by places -/
def defArgs (s : Stmt) : Arguments := match s with
  | .FunctionDef _ a _ _ _ _ _ _ _ _ => a
  | _ => { posonlyargs := [], args := [], vararg := none, kwonlyargs := [], kw_defaults := [], kwarg := none, defaults := [] }
def defBody (s : Stmt) : List Stmt := match s with
  | .FunctionDef _ _ b _ _ _ _ _ _ _ => b
  | _ => []
def defScope (s : Stmt) : Scope := match s with
  | .FunctionDef _ _ _ _ _ _ sc _ _ _ => sc
  | _ => { kind := .function, names := [], isGenerator := false, isCoroutine := false }
/-! ### no exception leaves a def -/
abbrev CX0 : CXT := fun _ _ _ _ _ _ => False
abbrev E0 : XK := fun _ _ _ => False
/-! ### a def (or method) of the text as it stands behind the top -/
structure Fun (K : PySem.W.Frag) (x qual : Str) (st : Stmt) (f : Addr) (fd : FuncData) : Prop where
  ex : ∃ (oc : Value) (od : Option Addr) (kV doc pm : Value) (an : Option Addr) (cdv ct : Value) (osl : Array (Option Value)),
    fd = PySem.W.fnOf x qual (defArgs st) (defBody st) (defScope st) .none kV doc pm an cdv ct ∧ K.lookup f = some ⟨oc, od, .func fd, osl⟩ ∧ PySem.W.codeIn K cdv qual = true
  kp : PySem.W.keepIn K (.ref f) = true
section
variable {P : Program} {w : World} {K : PySem.W.Frag} {mg : Str → Option Value} {base : Heap}
/-- THE RULE for a def: its body as a term of rules, and the reading of that term -/
theorem Fun.ok {x qual : Str} {st : Stmt} {f : Addr} {fd : FuncData} {N ps : List Str} {k : Nat} {sp : Sp} (F : Fun K x qual st f fd) (S : FnScope N ps (defScope st)) (len : ∀ vs H Q E, sp vs H Q E → vs.length = ps.length)
    (hbody : ∀ (cdv : Value) (A : Around) (outer : List Env) (s : Shared) (H : Hp) (vs : List V) (Q : VK) (E : XK), Room k (A.deeper (envOfC qual (defScope st) s.heap.objs.size f cdv)) → sp vs H Q E →
      ∃ t, PSs (cxOf CX0 P w K mg base N qual (defScope st) f cdv A outer s H E).nox (defBody st) t ∧ t { nx := fun _ H' => Q .non H', rt := Q } (start N vs) H) : FnOk P w K mg base CX0 (k + 1) f fd ps sp := by
  obtain ⟨oc, od, kV, doc, pm, an, cdv, ct, osl, rfl, lk, hcd⟩ := F.ex
  refine fn_of lk hcd S len fun A outer s H vs Q E hr hsp => ?_
  obtain ⟨t, h, q⟩ := hbody cdv A outer s H vs Q E hr hsp
  exact ⟨t, h.nox, q⟩
/-- how its arguments bind (no defaults): h is «fun _ _ _ _ _ _ us hl => match us, hl with | [_, _], _ => rfl», one _ a parameter -/
theorem Fun.binds {x qual : Str} {st : Stmt} {f : Addr} {fd : FuncData} {ps : List Str} (F : Fun K x qual st f fd)
    (h : ∀ (kV doc pm : Value) (an : Option Addr) (cdv ct : Value) (us : List Value), us.length = ps.length → bindArgs (PySem.W.fnOf x qual (defArgs st) (defBody st) (defScope st) .none kV doc pm an cdv ct) ⟨us, []⟩ = pure (ps.zip us)) : Binds K fd ps [] := by
  obtain ⟨oc, od, kV, doc, pm, an, cdv, ct, osl, rfl, lk, hcd⟩ := F.ex
  exact .all (h kV doc pm an cdv ct)
theorem fun_mk {x qual : Str} {st : Stmt} {f : Addr} {oc : Value} {od an : Option Addr} {osl : Array (Option Value)} {kV doc pm cdv ct : Value} (l : K.lookup f = some ⟨oc, od, .func (PySem.W.fnOf x qual (defArgs st) (defBody st) (defScope st) .none kV doc pm an cdv ct), osl⟩)
    (c : PySem.W.codeIn K cdv qual = true) (k : PySem.W.keepIn K (.ref f) = true) : Fun K x qual st f (PySem.W.fnOf x qual (defArgs st) (defBody st) (defScope st) .none kV doc pm an cdv ct) := ⟨⟨oc, od, kV, doc, pm, an, cdv, ct, osl, rfl, l, c⟩, k⟩
end
theorem small1000 {n : Nat} (h : n ≤ 1000) : n < sizeLine := Nat.lt_of_le_of_lt h (by decide)
/-! ### expressions in short: the name that stands in the i-th slot -/
section
variable {X : Cx}
theorem pv (i : Nat) {x : Str} {pos : Pos} (hN : X.N[i]? = some x := by rfl) (hv : Vis X.env.scope x := by first | exact Or.inl rfl | exact Or.inr (Or.inl rfl) | exact Or.inr (Or.inr rfl)) (hd : (x == ("__debug__" : Str)) = false := by decide)
    (hcd : (x == ("__classdict__" : Str)) = false := by decide) : PE X (.Name x pos) (tVar i) := pe_var hN hv hd hcd
end
/-! ### tests -/
theorem iteF {A B : Prop} (h : B) : if false = true then A else B := by
  rw [if_neg Bool.false_ne_true]
  exact h
theorem iteT {A B : Prop} (h : A) : if true = true then A else B := by
  rw [if_pos rfl]
  exact h
theorem ite2 {c A B : Prop} [Decidable c] (h1 : c → A) (h2 : ¬ c → B) : if c then A else B := by
  by_cases h : c
  · rw [if_pos h]
    exact h1 h
  · rw [if_neg h]
    exact h2 h
/-! ### heaps -/
/-- all that was tracked is as it was -/
def Same (H H' : Hp) : Prop := ∀ b o, H b = some o → H' b = some o
theorem Same.refl (H : Hp) : Same H H := fun _ _ h => h
theorem Same.trans {H H1 H2 : Hp} (a : Same H H1) (b : Same H1 H2) : Same H H2 := fun c o h => b c o (a c o h)
theorem Same.seq {K : PySem.W.Frag} {H H' : Hp} {a : Addr} {xs : List V} (e : Same H H') (h : SqL K H a xs) : SqL K H' a xs := by
  rcases h with (h | ⟨o, h⟩) | h
  · exact .inl (.inl (e _ _ h))
  · exact .inl (.inr ⟨o, e _ _ h⟩)
  · exact .inr h
/-! ### a dict's pairs: keys that differ -/
section
variable {κ : Type} [DecidableEq κ]
end
end L2

set_option Elab.async false
set_option linter.all false
set_option maxRecDepth 100000
set_option maxHeartbeats 4000000
namespace PySem
open Sem (wp)
namespace RV
theorem mro : mroOf (.type "reversed") = pure [.type "reversed", .type "object"] := by rw [mroOf_type]; kernel_rfl
theorem lookup_new : typeLookup (.type "reversed") "__new__" = pure (some (.builtin "reversed.__new__")) := by rw [typeLookup_type, builtinLookup_eq_fast]; kernel_rfl
theorem made : Bind.madeBy (.type "reversed") = pure (some "reversed.__new__") := madeBy_type mro lookup_new (by decide +kernel)
theorem typeCall_1 (a : Value) : checkTypeCall "reversed" ⟨[a], []⟩ = pure () := by kernel_rfl
theorem newCall_1 (a : Value) : checkBuiltinCall "reversed.__new__" ⟨[.type "reversed", a], []⟩ = pure () := by kernel_rfl
theorem entry_new : entryFor table "reversed.__new__" = some Builtin.«reversed.__new__» := entryFor_of_tree (by kernel_rfl)
theorem sub_self : isSubtype (.type "reversed") (.type "reversed") = pure true := by rw [isSubtype_type]; kernel_rfl
theorem slot_init : Slot "reversed" "__init__" "object.__init__" :=
  .of (owner := "object") (n := "__init__") (by rw [typeLookup_type, builtinLookup_eq_fast]; kernel_rfl) (by decide +kernel) (by decide +kernel) (by decide +kernel)
    (by first | exact .inl (by decide +kernel) | exact .inr (by decide +kernel)) (by rw [isSubtype_type]; kernel_rfl)
theorem called : TypeCalled "reversed" "reversed.__new__" "object.__init__" :=
  ⟨by decide +kernel, by decide +kernel, ⟨_, _, mro⟩, made, by decide +kernel, sub_self, slot_init⟩
theorem owner : Manifest.owners.lookup (String.ofList ['d', 'e', 's', 'r', 'e', 'v', 'e', 'r'].reverse) = some Manifest.sig_reversed := by kernel_rfl
theorem slot_next : Slot "reversed" "__next__" "reversed.__next__" :=
  .of (owner := "reversed") (n := "__next__") (by rw [typeLookup_type, builtinLookup_eq_fast]; kernel_rfl) (by decide +kernel) (by decide +kernel) (by decide +kernel)
    (by first | exact .inl (by decide +kernel) | exact .inr (by decide +kernel)) (by rw [isSubtype_type]; kernel_rfl)
theorem entry_next : entryFor table "reversed.__next__" = some Builtin.«reversed.__next__» := entryFor_of_tree (by kernel_rfl)
theorem args_next_1 (a : Value) : argsOk "reversed.__next__" ⟨[a], []⟩ := by
  unfold argsOk; rw [signature?_of (id := "reversed.__next__") (n := ['_', '_', 't', 'x', 'e', 'n', '_', '_']) (o := ['d', 'e', 's', 'r', 'e', 'v', 'e', 'r']) (by kernel_rfl) owner]; kernel_rfl
theorem slot_iter : Slot "reversed" "__iter__" "reversed.__iter__" :=
  .of (owner := "reversed") (n := "__iter__") (by rw [typeLookup_type, builtinLookup_eq_fast]; kernel_rfl) (by decide +kernel) (by decide +kernel) (by decide +kernel)
    (by first | exact .inl (by decide +kernel) | exact .inr (by decide +kernel)) (by rw [isSubtype_type]; kernel_rfl)
theorem args_iter_1 (a : Value) : argsOk "reversed.__iter__" ⟨[a], []⟩ := by
  unfold argsOk; rw [signature?_of (id := "reversed.__iter__") (n := ['_', '_', 'r', 'e', 't', 'i', '_', '_']) (o := ['d', 'e', 's', 'r', 'e', 'v', 'e', 'r']) (by kernel_rfl) owner]; kernel_rfl
theorem entry_iter : entryFor table "reversed.__iter__" = some Builtin.«dict_keyiterator.__iter__» :=
  entryFor_alias (id' := "dict_keyiterator.__iter__") (by kernel_rfl) (by first | rfl | decide +kernel | (unfold String.splitOn; simp +decide [String.splitOnAux])) (by decide +kernel) (by kernel_rfl)
theorem no_rev : typeLookup (.type "str") "__reversed__" = pure none := by rw [typeLookup_type, builtinLookup_eq_fast]; kernel_rfl
theorem sub_str_dict : isSubtype (.type "str") (.type "dict") = pure false := by rw [isSubtype_type]; kernel_rfl
theorem newClass (a : Value) : Builtin.SmallTypes.newClass "reversed" ⟨[.type "reversed", a], []⟩ = pure (.type "reversed", [a]) := by
  unfold Builtin.SmallTypes.newClass
  simp only [isType, sub_self, pure_bind, Bool.not_true, Bool.false_eq_true, if_false]
end RV
def Heap.IsRevStr (h : Heap) (a : Addr) (x : Str) (t : Tok) (i : Int) : Prop := ∃ o, h.get? a = some o ∧ o.cls = .type "reversed" ∧ o.data = .fields #[.str x t, rawInt i]
theorem Heap.IsRevStr.typeIs {s : Shared} {a : Addr} {x : Str} {t : Tok} {i : Int} (y : s.heap.IsRevStr a x t i) : s.TypeIs (.ref a) "reversed" := let ⟨o, ho, hc, _⟩ := y; ⟨o, ho, hc⟩
section
variable {prog : Program} {w : World} {A : Around} {E : Value → Shared → Prop} {s : Shared}
theorem meets_rev_new (x : Str) (t : Tok) (hx : x.length ≤ sizeLine) : Meets (Builtin.«reversed.__new__» ⟨[.type "reversed", .str x t], []⟩)
    (fun _ R s => ∀ tk, R (.ok (.ret (.ref s.heap.objs.size))) { s with heap := s.heap.push { cls := .type "reversed", data := .fields #[.str x t, rawInt ((x.length : Int) - 1)] }, toks := tk }) := by
  intro prog w A R s h
  unfold Builtin.«reversed.__new__»
  refine wpAny_bind (wpAny_of_eq (RV.newClass _) ?_)
  try dsimp only
  refine wpAny_bind (wpAny_of_eq (a := ()) (by first | rfl | kernel_rfl) ?_)
  refine wpAny_bind (wpAny_of_eq (a := ()) (by first | rfl | kernel_rfl) ?_)
  try dsimp only
  refine wpAny_bind (wpAny_specialOf (typeIs_str _ _ _) RV.no_rev ?_)
  try dsimp only
  refine wpAny_bind ?_
  show wpAny _ _ (isInstance (Value.str x t) (.type "dict") >>= _) _ _ _
  refine wpAny_bind (wpAny_isInstance (T := "str") (b := false) (typeIs_str _ _ _) RV.sub_str_dict ?_)
  simp only [Bool.false_eq_true, if_false]
  refine wpAny_bind (wpAny_specialOf (typeIs_str _ _ _) F.slot_str_getitem.lookup ?_)
  dsimp only
  rw [if_pos (by decide)]
  refine wpAny_pure ?_
  simp only [Bool.not_true, Bool.false_eq_true, if_false]
  have hs : sizeLine = 16777216 := sizeLine_eq
  refine wpAny_bind (PySem.P.len_str (by omega) ?_)
  refine wpAny_bind (wpAny_of_eq (a := some (x.length : Int)) rfl ?_)
  dsimp only
  refine wpAny_bind ?_
  show wpAny _ _ (newObj (Value.type "reversed") (.fields [Value.str x t, rawInt ((x.length : Int) - 1)].toArray)) _ _ _
  refine wpAny_newObj_type (wpAny_pure (h _)) (by size_fits)
theorem call_rev_str {x : Str} {t : Tok} {Q : Value → Shared → Prop} (hx : x.length ≤ sizeLine)
    (h : ∀ tk, Q (.ref s.heap.objs.size) { s with heap := s.heap.push { cls := .type "reversed", data := .fields #[.str x t, rawInt ((x.length : Int) - 1)] }, toks := tk }) :
    wpAny (model prog w) A (call (.type "reversed") [.str x t]) Q E s :=
  callType_new RV.called (by decide) (RV.typeCall_1 _) (RV.newCall_1 _) (fun obj => F.args_object_init_2 obj _) RV.entry_new (meets_rev_new x t hx) fun tk => ⟨⟨_, Heap.get?_push_size _ rfl, rfl⟩, h tk⟩
theorem next_rev_item {it : Addr} {x : Str} {t : Tok} {i c : Nat} {Q : Option Value → Shared → Prop} (hx : x.length ≤ sizeLine) (hit : s.heap.IsRevStr it x t (i : Int)) (hc : x.cps[i]? = some c)
    (hQ : ∀ h' tk tk', h'.IsRevStr it x t ((i : Int) - 1) → Heap.SameBut it s.heap h' → Q (some (.str ⟨#[c]⟩ tk')) { s with heap := h', toks := tk }) :
    wpAny (model prog w) A (pyNext (.ref it)) Q E s := by
  obtain ⟨o, ho, hcl, hd⟩ := id hit
  have hs : sizeLine = 16777216 := sizeLine_eq
  have hi : i < x.cps.size := (Array.getElem?_eq_some_iff.mp hc).1
  have hi' : i < x.length := hi
  unfold pyNext
  refine wpAny_bind (wpAny_attempt (wpAny_callSpecial?_slot (name := Str.ofString "__next__") hit.typeIs RV.slot_next
    (wpAny_call_entry RV.slot_next hit.typeIs RV.entry_next ?_ (RV.args_next_1 _))))
  unfold Builtin.«reversed.__next__»
  refine wpAny_bind (wpAny_of_eq (a := (Value.ref it, [])) rfl ?_)
  try dsimp only
  refine wpAny_bind (wpAny_field ho hd (x := .str x t) rfl ?_)
  refine wpAny_bind (wpAny_field ho hd (x := rawInt (i : Int)) rfl ?_)
  show wpAny _ _ (if (i : Int) < 0 then _ else _) _ _ s
  rw [if_neg (by omega)]
  refine wpAny_bind (wpAny_specialOf (typeIs_str _ _ _) F.slot_str_getitem.lookup ?_)
  simp only [Option.isNone_some, Bool.false_eq_true, if_false]
  refine wpAny_bind (wpAny_mkInt ?_)
  have e1 : (seqIndex? (i : Int) x.length).bind (x.cps[·]?) = some c := by
    have e2 : seqIndex? (i : Int) x.length = some i := by
      unfold seqIndex?
      have h0 : ¬ (i : Int) < 0 := by omega
      simp only [h0, if_false]
      simp
      omega
    rw [e2]
    exact hc
  refine wpAny_bind (wpAny_attempt (PySem.P.getItem_str (c := c) (by simp; omega) e1 ?_))
  dsimp only
  refine wpAny_bind (wpAny_field ho hd (x := rawInt (i : Int)) rfl ?_)
  show wpAny _ _ (setField (.ref it) 1 (rawInt ((i : Int) - 1)) >>= _) _ _ _
  refine wpAny_bind (wpAny_setField ho hd (by simp) ?_)
  refine wpAny_pure ⟨_, rfl, wpAny_pure (hQ _ _ _ ?_ (Heap.SameBut.update ..))⟩
  exact ⟨_, Heap.get?_update_self _ ho (Obj.isFreed_of_fields (Obj.data_mapFields hd _)), (Obj.cls_mapFields ..).trans hcl, by
    rw [Obj.data_mapFields hd]; simp⟩
theorem next_rev_end {it : Addr} {x : Str} {t : Tok} {Q : Option Value → Shared → Prop} (hh : A.handled = none) (hit : s.heap.IsRevStr it x t (-1))
    (hQ : ∀ h', Heap.ExtBut it s.heap h' → Q none { s with heap := h' }) : wpAny (model prog w) A (pyNext (.ref it)) Q E s := by
  obtain ⟨o, ho, hcl, hd⟩ := id hit
  unfold pyNext
  refine wpAny_bind (wpAny_attempt (wpAny_callSpecial?_slot (name := Str.ofString "__next__") hit.typeIs RV.slot_next
    (wpAny_call_entry RV.slot_next hit.typeIs RV.entry_next ?_ (RV.args_next_1 _))))
  unfold Builtin.«reversed.__next__»
  refine wpAny_bind (wpAny_of_eq (a := (Value.ref it, [])) rfl ?_)
  try dsimp only
  refine wpAny_bind (wpAny_field ho hd (x := .str x t) rfl ?_)
  refine wpAny_bind (wpAny_field ho hd (x := rawInt (-1)) rfl ?_)
  show wpAny _ _ (if (-1 : Int) < 0 then _ else _) _ _ s
  rw [if_pos (by decide)]
  refine wpAny_bind (wpAny_rule ?_)
  refine wpAny_bind ?_
  show wpAny _ _ (setField (.ref it) 1 (rawInt (-1)) >>= fun _ => setField (.ref it) 0 .none) _ _ _
  refine wpAny_bind (wpAny_setField ho hd (by simp) ?_)
  refine wpAny_setField (Heap.get?_update_self _ ho (Obj.isFreed_of_fields (Obj.data_mapFields hd _))) (Obj.data_mapFields hd _) (by simp) ?_
  refine wpAny_bind ?_
  show wpAny _ _ (newExc (.type "StopIteration") [] >>= _) _ _ _
  refine wpAny_bind ?_
  simp only [newExc, newTuple]
  refine wpAny_bind (wpAny_newObj_type ?_ (by size_fits))
  refine wpAny_bind (m := firstArgMember _ _) (wpAny_of_eq (a := Value.none) (by first | rfl | (simp only [firstArgMember]; rfl)) ?_)
  refine wpAny_newObj_type ?_ (by size_fits)
  simp only [raiseNew]
  refine wpAny_bind (wpAny_handled ?_)
  first | rw [show A.in1.handled = none from hh] | rw [hh]
  refine wpAny_bind (wpAny_pure (wpAny_throw ?_))
  refine wpAny_bind (wpAny_isInstance (T := "StopIteration") (b := true) ⟨_, Heap.get?_push_size _ rfl, rfl⟩ isSubtype_stop ?_)
  refine wpAny_pure (hQ _ ((Heap.ExtBut.push ?_ _).push _))
  exact ((Heap.SameBut.update ..).trans (Heap.SameBut.update ..)).extBut
theorem iter_rev {it : Addr} {x : Str} {t : Tok} {i : Int} {Q : Value → Shared → Prop} (hit : s.heap.IsRevStr it x t i) (h : Q (.ref it) s) : wpAny (model prog w) A (pyIter (.ref it)) Q E s := by
  refine wpAny_pyIter_slot hit.typeIs RV.slot_iter (wpAny_call_entry RV.slot_iter hit.typeIs RV.entry_iter ?_ (RV.args_iter_1 _))
  show wpAny _ _ (ret (.ref it)) _ _ s
  exact wpAny_pure ⟨_, rfl, "reversed", _, hit.typeIs, RV.slot_next.lookup, h⟩
end
end PySem

/-! fractions, letters, walks: plain mathematics -/
namespace TW
abbrev Fr := Int × Int
/-- what one letter leads a fraction to -/
def mv (c : Nat) (f : Fr) : Fr :=
  if c = 116 then (f.1 + f.2, f.2) else if c = 117 then (f.1 - f.2, f.2)
  else if 0 < f.1 then (-f.2, f.1) else if f.1 < 0 then (f.2, -f.1) else (1, 0)
def walk (w : List Nat) (f : Fr) : Fr := w.foldl (fun f c => mv c f) f
def exch (c : Nat) : Nat := if c = 116 then 117 else if c = 117 then 116 else 114
def bk (w : List Nat) : List Nat := w.reverse.map exch
def IsL (c : Nat) : Prop := c = 116 ∨ c = 117 ∨ c = 114
def IsW (w : List Nat) : Prop := ∀ c ∈ w, IsL c
def IsF (f : Fr) : Prop := (f.1 = 1 ∧ f.2 = 0) ∨ (0 < f.2 ∧ Int.gcd f.1 f.2 = 1)

theorem walk_nil (f : Fr) : walk [] f = f := rfl
theorem walk_cons (c : Nat) (w : List Nat) (f : Fr) : walk (c :: w) f = walk w (mv c f) := rfl
theorem walk_append (a b : List Nat) (f : Fr) : walk (a ++ b) f = walk b (walk a f) := by
  unfold walk; rw [List.foldl_append]
theorem walk_snoc (a : List Nat) (c : Nat) (f : Fr) : walk (a ++ [c]) f = mv c (walk a f) := by
  rw [walk_append]; rfl
theorem IsW.nil : IsW [] := fun _ h => nomatch h
theorem IsW.cons {c : Nat} {w : List Nat} (h : IsL c) (hw : IsW w) : IsW (c :: w) := fun d hd => by
  rcases List.mem_cons.mp hd with rfl | hd
  · exact h
  · exact hw d hd
theorem IsW.append {a b : List Nat} (ha : IsW a) (hb : IsW b) : IsW (a ++ b) := fun d hd => by
  rcases List.mem_append.mp hd with hd | hd
  · exact ha d hd
  · exact hb d hd
theorem IsW.tail {c : Nat} {w : List Nat} (h : IsW (c :: w)) : IsW w := fun d hd => h d (List.mem_cons_of_mem _ hd)
theorem IsW.head {c : Nat} {w : List Nat} (h : IsW (c :: w)) : IsL c := h c List.mem_cons_self
theorem bk_length (w : List Nat) : (bk w).length = w.length := by unfold bk; simp

theorem gcd_add (a b : Int) : Int.gcd (a + b) b = Int.gcd a b := by simp
theorem gcd_sub (a b : Int) : Int.gcd (a - b) b = Int.gcd a b := by simp
theorem mv_F {c : Nat} {f : Fr} (h : IsF f) : IsF (mv c f) := by
  obtain ⟨a, b⟩ := f
  unfold mv IsF at *
  dsimp only at h ⊢
  rcases h with ⟨rfl, rfl⟩ | ⟨hb, hg⟩
  · repeat' split <;> simp
  · by_cases h1 : c = 116
    · rw [if_pos h1]; right; exact ⟨hb, by rw [gcd_add]; exact hg⟩
    · rw [if_neg h1]
      by_cases h2 : c = 117
      · rw [if_pos h2]; right; exact ⟨hb, by rw [gcd_sub]; exact hg⟩
      · rw [if_neg h2]
        by_cases h3 : 0 < a
        · rw [if_pos h3]; right; refine ⟨h3, ?_⟩
          show Int.gcd (-b) a = 1
          rw [Int.neg_gcd, Int.gcd_comm]; exact hg
        · rw [if_neg h3]
          by_cases h4 : a < 0
          · rw [if_pos h4]; right
            refine ⟨by show 0 < -a; omega, ?_⟩
            show Int.gcd b (-a) = 1
            rw [Int.gcd_neg, Int.gcd_comm]; exact hg
          · rw [if_neg h4]; left; exact ⟨rfl, rfl⟩
theorem walk_F : ∀ {w : List Nat} {f : Fr}, IsF f → IsF (walk w f)
  | [], _, h => h
  | _ :: w, _, h => by rw [walk_cons]; exact walk_F (w := w) (mv_F h)
theorem mv_exch {c : Nat} {f : Fr} (hc : IsL c) (h : IsF f) : mv (exch c) (mv c f) = f := by
  obtain ⟨a, b⟩ := f
  rcases hc with rfl | rfl | rfl
  · show ((a + b) - b, b) = (a, b); congr 1; omega
  · show ((a - b) + b, b) = (a, b); congr 1; omega
  · show mv 114 (mv 114 (a, b)) = (a, b)
    unfold mv IsF at *
    dsimp only at h ⊢
    rcases h with ⟨rfl, rfl⟩ | ⟨hb, hg⟩
    · decide
    · by_cases h3 : 0 < a
      · have hb' : ¬ (0 < -b) := by omega
        have hb2 : -b < 0 := by omega
        simp [h3, hb]; omega
      · by_cases h4 : a < 0
        · simp [h3, h4, hb]
        · have e : a = 0 := by omega
          subst e
          have : b = 1 := by simp at hg; omega
          subst this; decide
theorem F_nought : IsF (0, 1) := Or.inr ⟨by decide, by decide⟩
theorem F_end : IsF (1, 0) := Or.inl ⟨rfl, rfl⟩
theorem F_one : IsF (1, 1) := Or.inr ⟨by decide, by decide⟩
/-- one turn of the divisor's loop -/
theorem gcd_turn {a b : Int} (ha : 0 ≤ a) (hb : 0 < b) : Int.gcd b (a % b) = Int.gcd a b := by
  rw [Int.gcd_comm b, Int.emod_def]; simp
end TW

set_option Elab.async false
/-! the quiet pieces, and steps -/
namespace TW
theorem mv_t (a b : Int) : mv 116 (a, b) = (a + b, b) := rfl
theorem mv_u (a b : Int) : mv 117 (a, b) = (a - b, b) := rfl
theorem mvr_pos {a : Int} (b : Int) (h : 0 < a) : mv 114 (a, b) = (-b, a) := by
  show (if 0 < a then _ else _) = _
  rw [if_pos h]
theorem mvr_neg {a : Int} (b : Int) (h : a < 0) : mv 114 (a, b) = (b, -a) := by
  show (if 0 < a then _ else if a < 0 then _ else _) = _
  rw [if_neg (by omega), if_pos h]
def pcs : List (List Nat) := [[116, 117], [117, 116], [114, 114], [116, 114, 116, 114, 116, 114]]
theorem quiet_tr {a b : Int} (hb : 0 < b) (hg : Int.gcd a b = 1) : walk [116, 114, 116, 114, 116, 114] (a, b) = (a, b) := by
  show mv 114 (mv 116 (mv 114 (mv 116 (mv 114 (mv 116 (a, b)))))) = (a, b)
  rw [mv_t a b]
  rcases Int.lt_trichotomy (a + b) 0 with h | h | h
  · rw [mvr_neg _ h, mv_t b (-(a + b)), show b + -(a + b) = -a by omega, mvr_pos _ (show 0 < -a by omega), mv_t (- -(a + b)) (-a), show - -(a + b) + -a = b by omega, mvr_pos _ hb, Int.neg_neg]
  · have hb1 : b = 1 := by
      have e : a = -b := by omega
      rw [e, Int.neg_gcd, Int.gcd_self] at hg
      omega
    subst hb1
    have ha : a = -1 := by omega
    subst ha
    rfl
  · rw [mvr_pos _ h, mv_t (-b) (a + b), show -b + (a + b) = a by omega]
    rcases Int.lt_trichotomy a 0 with k | k | k
    · rw [mvr_neg _ k, mv_t (a + b) (-a), show a + b + -a = b by omega, mvr_pos _ hb, Int.neg_neg]
    · subst k
      have hb1 : b = 1 := by
        rw [Int.gcd_comm, Int.gcd_zero_right] at hg
        omega
      subst hb1
      rfl
    · rw [mvr_pos _ k, mv_t (-(a + b)) a, show -(a + b) + a = -b by omega, mvr_neg _ (show -b < 0 by omega), Int.neg_neg]
theorem quiet_pc {p : List Nat} {f : Fr} (hp : p ∈ pcs) (hf : IsF f) : walk p f = f := by
  obtain ⟨a, b⟩ := f
  have e : p = [116, 117] ∨ p = [117, 116] ∨ p = [114, 114] ∨ p = [116, 114, 116, 114, 116, 114] := by simpa [pcs] using hp
  rcases e with rfl | rfl | rfl | rfl
  · exact mv_exch (c := 116) (.inl rfl) hf
  · exact mv_exch (c := 117) (.inr (.inl rfl)) hf
  · exact mv_exch (c := 114) (.inr (.inr rfl)) hf
  · rcases hf with ⟨h1, h2⟩ | ⟨h1, h2⟩
    · cases (show a = 1 from h1)
      cases (show b = 0 from h2)
      rfl
    · exact quiet_tr h1 h2
theorem pcs_W {p : List Nat} (hp : p ∈ pcs) : IsW p := by
  have e : p = [116, 117] ∨ p = [117, 116] ∨ p = [114, 114] ∨ p = [116, 114, 116, 114, 116, 114] := by simpa [pcs] using hp
  intro c hc
  unfold IsL
  rcases e with rfl | rfl | rfl | rfl <;> simp at hc <;> omega
theorem pcs_len {p : List Nat} (hp : p ∈ pcs) : p.length ≤ 6 ∧ 2 ≤ p.length := by
  have e : p = [116, 117] ∨ p = [117, 116] ∨ p = [114, 114] ∨ p = [116, 114, 116, 114, 116, 114] := by simpa [pcs] using hp
  rcases e with rfl | rfl | rfl | rfl <;> simp
/-- the word behind a step -/
def due (u : List Nat) (isIn : Bool) (i : Int) (p : List Nat) : Option (List Nat) :=
  if i < 0 ∨ (u.length : Int) < i then none
  else if isIn = true then some (u.take i.toNat ++ p ++ u.drop i.toNat)
  else if (u.drop i.toNat).take p.length = p then some (u.take i.toNat ++ u.drop (i.toNat + p.length)) else none
theorem due_off {u p : List Nat} {b : Bool} {i : Int} (h : i < 0 ∨ (u.length : Int) < i) : due u b i p = none := by
  unfold due
  rw [if_pos h]
theorem due_in {u p : List Nat} {i : Int} (h0 : 0 ≤ i) (h1 : i ≤ u.length) : due u true i p = some (u.take i.toNat ++ p ++ u.drop i.toNat) := by
  unfold due
  rw [if_neg (by omega), if_pos rfl]
theorem due_out {u p : List Nat} {i : Int} (h0 : 0 ≤ i) (h1 : i ≤ u.length) : due u false i p = if (u.drop i.toNat).take p.length = p then some (u.take i.toNat ++ u.drop (i.toNat + p.length)) else none := by
  unfold due
  rw [if_neg (by omega), if_neg (by decide)]
theorem out_room {u p : List Nat} {i : Int} (h0 : 0 ≤ i) (h1 : i ≤ u.length) (e : (u.drop i.toNat).take p.length = p) : i + p.length ≤ u.length := by
  have l := congrArg List.length e
  rw [List.length_take, List.length_drop] at l
  omega
theorem due_len {u v p : List Nat} {b : Bool} {i : Int} (hp : p ∈ pcs) (h : due u b i p = some v) : v.length ≤ u.length + 6 := by
  have l := (pcs_len hp).1
  unfold due at h
  split at h
  · cases h
  · split at h
    · cases h
      simp only [List.length_append, List.length_take, List.length_drop]
      omega
    · split at h
      · cases h
        simp only [List.length_append, List.length_take, List.length_drop]
        omega
      · cases h
theorem due_walk {u v p : List Nat} {b : Bool} {i : Int} {f : Fr} (hf : IsF f) (hp : p ∈ pcs) (h : due u b i p = some v) : walk v f = walk u f := by
  unfold due at h
  split at h
  · cases h
  · split at h
    · cases h
      rw [walk_append, walk_append, quiet_pc hp (walk_F hf), ← walk_append, List.take_append_drop]
    · split at h
      · rename_i e
        cases h
        have e1 : u = u.take i.toNat ++ (p ++ u.drop (i.toNat + p.length)) := by
          have z := List.take_append_drop i.toNat u
          have z2 := List.take_append_drop p.length (u.drop i.toNat)
          rw [e, List.drop_drop] at z2
          rw [z2]
          exact z.symm
        have e2 : walk u f = walk (u.take i.toNat ++ (p ++ u.drop (i.toNat + p.length))) f := congrArg (fun x => walk x f) e1
        rw [e2, walk_append, walk_append, walk_append, quiet_pc hp (walk_F hf)]
      · cases h
end TW

set_option Elab.async false
/-! words as matrices; three fractions tell all; what comes back does so within three -/
namespace TW
def lv (c : Nat) (f : Fr) : Fr := if c = 116 then (f.1 + f.2, f.2) else if c = 117 then (f.1 - f.2, f.2) else (-f.2, f.1)
def wv (w : List Nat) (f : Fr) : Fr := w.foldl (fun f c => lv c f) f
def ng (f : Fr) : Fr := (-f.1, -f.2)
def nrm (f : Fr) : Fr := if 0 < f.2 ∨ (f.2 = 0 ∧ 0 < f.1) then f else ng f
theorem wv_cons (c : Nat) (w : List Nat) (f : Fr) : wv (c :: w) f = wv w (lv c f) := rfl
theorem ng_ng (f : Fr) : ng (ng f) = f := by
  obtain ⟨a, b⟩ := f
  simp [ng]
theorem lv_ng (c : Nat) (f : Fr) : lv c (ng f) = ng (lv c f) := by
  obtain ⟨a, b⟩ := f
  unfold lv ng
  by_cases h1 : c = 116
  · simp only [h1, if_true]; congr 1; omega
  · by_cases h2 : c = 117
    · simp only [h2, if_true]; simp; omega
    · simp only [h1, h2, if_false]
def nz (f : Fr) : Prop := f.1 ≠ 0 ∨ f.2 ≠ 0
theorem nrm_ng {f : Fr} (h : nz f) : nrm (ng f) = nrm f := by
  obtain ⟨a, b⟩ := f
  unfold nz at h
  unfold nrm ng
  dsimp only at h ⊢
  by_cases h1 : 0 < b ∨ (b = 0 ∧ 0 < a)
  · rw [if_neg (by omega), if_pos h1]; simp
  · rw [if_pos (by omega), if_neg h1]
theorem nrm_or (f : Fr) : nrm f = f ∨ nrm f = ng f := by
  unfold nrm
  split
  · exact .inl rfl
  · exact .inr rfl
theorem lv_nz {c : Nat} {f : Fr} (h : nz f) : nz (lv c f) := by
  obtain ⟨a, b⟩ := f
  unfold nz lv at *
  by_cases h1 : c = 116
  · simp only [h1, if_true]; dsimp only at h; omega
  · by_cases h2 : c = 117
    · simp only [h2, if_true]; simp; omega
    · simp only [h1, h2, if_false]; dsimp only at h; omega
theorem F_nz {f : Fr} (h : IsF f) : nz f := by
  unfold nz
  rcases h with ⟨h1, h2⟩ | ⟨h1, h2⟩ <;> omega
theorem mv_nrm {c : Nat} {f : Fr} (h : IsF f) : mv c f = nrm (lv c f) := by
  obtain ⟨a, b⟩ := f
  unfold mv nrm lv ng IsF at *
  dsimp only at h ⊢
  by_cases h1 : c = 116
  · simp only [h1, if_true]
    rcases h with ⟨rfl, rfl⟩ | ⟨hb, hg⟩
    · decide
    · rw [if_pos (.inl hb)]
  · by_cases h2 : c = 117
    · simp only [h2, if_true]
      rcases h with ⟨rfl, rfl⟩ | ⟨hb, hg⟩
      · decide
      · simp [hb]
    · simp only [h1, h2, if_false]
      rcases h with ⟨rfl, rfl⟩ | ⟨hb, hg⟩
      · decide
      · by_cases h3 : 0 < a
        · rw [if_pos h3, if_pos (.inl h3)]
        · rw [if_neg h3]
          by_cases h4 : a < 0
          · rw [if_pos h4, if_neg (by omega)]; simp
          · have e : a = 0 := by omega
            subst e
            have hb1 : b = 1 := by
              rw [Int.gcd_comm, Int.gcd_zero_right] at hg
              omega
            subst hb1
            decide
theorem nrm_F {f : Fr} (h : IsF f) : nrm f = f := by
  unfold nrm
  rw [if_pos]
  rcases h with ⟨h1, h2⟩ | ⟨h1, h2⟩ <;> omega
theorem walk_nrm : ∀ {w : List Nat} {f g : Fr}, IsF f → nz g → nrm g = f → walk w f = nrm (wv w g)
  | [], _, _, _, _, e => e.symm
  | c :: w, f, g, hf, hg, e => by
    rw [walk_cons, wv_cons]
    refine walk_nrm (mv_F hf) (lv_nz hg) ?_
    rw [mv_nrm hf]
    rcases nrm_or g with h | h
    · rw [← e, h]
    · rw [← e, h, lv_ng, nrm_ng (lv_nz hg)]
theorem walk_wv {w : List Nat} {f : Fr} (h : IsF f) : walk w f = nrm (wv w f) := walk_nrm h (F_nz h) (nrm_F h)
/-- a word is linear -/
theorem lv_lin (c : Nat) (x y : Int) (p q : Fr) : lv c (x * p.1 + y * q.1, x * p.2 + y * q.2) = (x * (lv c p).1 + y * (lv c q).1, x * (lv c p).2 + y * (lv c q).2) := by
  obtain ⟨a, b⟩ := p
  obtain ⟨d, e⟩ := q
  unfold lv
  by_cases h1 : c = 116
  · simp only [h1, if_true]; congr 1; grind
  · by_cases h2 : c = 117
    · simp only [h2, if_true]; simp; grind
    · simp only [h1, h2, if_false]; congr 1; grind
theorem wv_lin : ∀ (w : List Nat) (x y : Int) (p q : Fr), wv w (x * p.1 + y * q.1, x * p.2 + y * q.2) = (x * (wv w p).1 + y * (wv w q).1, x * (wv w p).2 + y * (wv w q).2)
  | [], _, _, _, _ => rfl
  | c :: w, x, y, p, q => by rw [wv_cons, lv_lin, wv_lin w, wv_cons, wv_cons]
theorem wv_mat (w : List Nat) (f : Fr) : wv w f = (f.1 * (wv w (1, 0)).1 + f.2 * (wv w (0, 1)).1, f.1 * (wv w (1, 0)).2 + f.2 * (wv w (0, 1)).2) := by
  have h := wv_lin w f.1 f.2 (1, 0) (0, 1)
  obtain ⟨x, y⟩ := f
  simpa using h
theorem lv_det (c : Nat) (p q : Fr) : (lv c p).1 * (lv c q).2 - (lv c q).1 * (lv c p).2 = p.1 * q.2 - q.1 * p.2 := by
  obtain ⟨a, b⟩ := p
  obtain ⟨d, e⟩ := q
  unfold lv
  by_cases h1 : c = 116
  · simp only [h1, if_true]; grind
  · by_cases h2 : c = 117
    · simp only [h2, if_true]; simp; grind
    · simp only [h1, h2, if_false]; grind
theorem wv_det : ∀ (w : List Nat) (p q : Fr), (wv w p).1 * (wv w q).2 - (wv w q).1 * (wv w p).2 = p.1 * q.2 - q.1 * p.2
  | [], _, _ => rfl
  | c :: w, p, q => by rw [wv_cons, wv_cons, wv_det w, lv_det]
theorem nrm_eq {p q : Fr} (h : nrm p = nrm q) : p = q ∨ p = ng q := by
  rcases nrm_or p with hp | hp <;> rcases nrm_or q with hq | hq <;> rw [hp, hq] at h
  · exact .inl h
  · exact .inr h
  · exact .inr (by rw [← h, ng_ng])
  · exact .inl (by rw [← ng_ng p, h, ng_ng])
/-- two words that lead three fractions alike are one matrix, but for the sign -/
theorem three_mat {u v : List Nat} (h0 : walk u (0, 1) = walk v (0, 1)) (h1 : walk u (1, 0) = walk v (1, 0)) (h2 : walk u (1, 1) = walk v (1, 1)) : (∀ f, wv u f = wv v f) ∨ (∀ f, wv u f = ng (wv v f)) := by
  rw [walk_wv F_nought, walk_wv F_nought] at h0
  rw [walk_wv F_end, walk_wv F_end] at h1
  rw [walk_wv F_one, walk_wv F_one] at h2
  have g0 := nrm_eq h0
  have g1 := nrm_eq h1
  have g2 := nrm_eq h2
  have du := wv_det v (1, 0) (0, 1)
  have mu := wv_mat u (1, 1)
  have mv := wv_mat v (1, 1)
  rcases g0 with g0 | g0 <;> rcases g1 with g1 | g1
  · exact .inl fun f => by rw [wv_mat u, wv_mat v, g0, g1]
  · exfalso
    rw [mu, mv, g0, g1] at g2
    unfold ng at g2
    generalize wv v (1, 0) = p at *
    generalize wv v (0, 1) = q at *
    obtain ⟨a, b⟩ := p
    obtain ⟨c, d⟩ := q
    simp only [Prod.mk.injEq] at g2 du
    grind
  · exfalso
    rw [mu, mv, g0, g1] at g2
    unfold ng at g2
    generalize wv v (1, 0) = p at *
    generalize wv v (0, 1) = q at *
    obtain ⟨a, b⟩ := p
    obtain ⟨c, d⟩ := q
    simp only [Prod.mk.injEq] at g2 du
    grind
  · refine .inr fun f => ?_
    rw [wv_mat u, wv_mat v, g0, g1]
    unfold ng
    simp only [Prod.mk.injEq]
    constructor <;> grind
theorem three_all {u v : List Nat} (h0 : walk u (0, 1) = walk v (0, 1)) (h1 : walk u (1, 0) = walk v (1, 0)) (h2 : walk u (1, 1) = walk v (1, 1)) {f : Fr} (hf : IsF f) : walk u f = walk v f := by
  rw [walk_wv hf, walk_wv hf]
  rcases three_mat h0 h1 h2 with h | h
  · rw [h f]
  · have z : nz (wv v f) := by
      have : ∀ (w : List Nat) (g : Fr), nz g → nz (wv w g) := fun w => by
        induction w with
        | nil => exact fun g h => h
        | cons c w ih => exact fun g h => ih _ (lv_nz h)
      exact this v f (F_nz hf)
    rw [h f, nrm_ng z]
end TW

set_option Elab.async false
/-! what comes back does so within three times -/
namespace TW
end TW
set_option Elab.async false
/-! words by syllables r, s = tr, z = ru: what acts alike has one and the same plain row of them -/
namespace TW
inductive Syl | r | s | z
  deriving DecidableEq
namespace Syl
def wd : Syl → List Nat
  | r => [114]
  | s => [116, 114]
  | z => [114, 117]
def isR : Syl → Bool
  | r => true
  | _ => false
def inv : Syl → Syl
  | r => r
  | s => z
  | z => s
end Syl
open Syl
def tw (l : List Syl) : List Nat := l.flatMap wd
theorem tw_nil : tw [] = [] := rfl
theorem tw_cons (x : Syl) (l : List Syl) : tw (x :: l) = wd x ++ tw l := rfl
theorem tw_append (a b : List Syl) : tw (a ++ b) = tw a ++ tw b := by unfold tw; simp
def alt : List Syl → Prop
  | [] => True
  | [_] => True
  | x :: y :: l => x.isR ≠ y.isR ∧ alt (y :: l)
theorem alt_tail {x : Syl} {l : List Syl} (h : alt (x :: l)) : alt l := by
  cases l with
  | nil => trivial
  | cons y l => exact h.2
def Ps (f : Fr) : Prop := 0 < f.1 ∧ 0 < f.2
def Ne (f : Fr) : Prop := f.1 < 0 ∧ 0 < f.2
theorem r_ne {f : Fr} (h : Ne f) : Ps (walk (wd r) f) := by
  obtain ⟨a, b⟩ := f
  obtain ⟨h1, h2⟩ := h
  show Ps (mv 114 (a, b))
  rw [mvr_neg b h1]
  exact ⟨h2, by show 0 < -a; have : a < 0 := h1; omega⟩
theorem s_ps {f : Fr} (h : Ps f) : Ne (walk (wd s) f) := by
  obtain ⟨a, b⟩ := f
  have h1 : 0 < a := h.1
  have h2 : 0 < b := h.2
  show Ne (mv 114 (mv 116 (a, b)))
  rw [mv_t, mvr_pos b (show 0 < a + b by omega)]
  exact ⟨by show -b < 0; omega, by show 0 < a + b; omega⟩
theorem z_ps {f : Fr} (h : Ps f) : Ne (walk (wd z) f) := by
  obtain ⟨a, b⟩ := f
  have h1 : 0 < a := h.1
  have h2 : 0 < b := h.2
  show Ne (mv 117 (mv 114 (a, b)))
  rw [mvr_pos b h1, mv_u]
  exact ⟨by show -b - a < 0; omega, h1⟩
/-- where a plain row leads: by its first and last syllable -/
theorem run : ∀ (l : List Syl) (x : Syl) (f : Fr), alt (x :: l) → (if x.isR = true then Ne f else Ps f) → (if ((x :: l).getLast (by simp)).isR = true then Ps (walk (tw (x :: l)) f) else Ne (walk (tw (x :: l)) f))
  | [], x, f, _, hf => by
    have e : tw [x] = wd x := by rw [tw_cons, tw_nil, List.append_nil]
    rw [e]
    cases x with
    | r => exact r_ne hf
    | s => exact s_ps hf
    | z => exact z_ps hf
  | y :: l, x, f, h, hf => by
    rw [tw_cons, walk_append, List.getLast_cons (by simp)]
    refine run l y (walk (wd x) f) h.2 ?_
    have h1 := h.1
    cases x <;> cases y <;> simp [isR] at h1 hf ⊢
    · exact r_ne hf
    · exact r_ne hf
    · exact s_ps hf
    · exact z_ps hf
theorem wd_inv (x : Syl) {f : Fr} (hf : IsF f) : walk (wd x.inv) (walk (wd x) f) = f := by
  cases x with
  | r => exact mv_exch (c := 114) (.inr (.inr rfl)) hf
  | s =>
    show mv 117 (mv 114 (mv 114 (mv 116 f))) = f
    have e1 : mv 114 (mv 114 (mv 116 f)) = mv 116 f := mv_exch (c := 114) (.inr (.inr rfl)) (mv_F hf)
    rw [e1]
    exact mv_exch (c := 116) (.inl rfl) hf
  | z =>
    show mv 114 (mv 116 (mv 117 (mv 114 f))) = f
    have e1 : mv 116 (mv 117 (mv 114 f)) = mv 114 f := mv_exch (c := 117) (.inr (.inl rfl)) (mv_F hf)
    rw [e1]
    exact mv_exch (c := 114) (.inr (.inr rfl)) hf
theorem wd_inv' (x : Syl) {f : Fr} (hf : IsF f) : walk (wd x) (walk (wd x.inv) f) = f := by
  have h := wd_inv x.inv hf
  cases x <;> exact h
/-- two of a kind are the third -/
theorem wd_two {x : Syl} (hx : x.isR = false) {f : Fr} (hf : IsF f) : walk (wd x) (walk (wd x) f) = walk (wd x.inv) f := by
  have q : walk [116, 114, 116, 114, 116, 114] f = f := quiet_pc (by simp [pcs]) hf
  cases x with
  | r => cases hx
  | s =>
    have e : walk (wd s) (walk (wd s) (walk (wd s) f)) = f := q
    have g := wd_inv s (f := walk (wd s) (walk (wd s) f)) (walk_F (walk_F hf))
    rw [e] at g
    exact g.symm
  | z =>
    have q2 : ∀ g, IsF g → walk (wd s) (walk (wd s) (walk (wd s) g)) = g := fun g hg => quiet_pc (p := [116, 114, 116, 114, 116, 114]) (by simp [pcs]) hg
    have i : ∀ g, IsF g → walk (wd s) (walk (wd z) g) = g := fun g hg => wd_inv z hg
    have e := q2 (walk (wd z) (walk (wd z) f)) (walk_F (walk_F hf))
    rw [i _ (walk_F hf), i _ hf] at e
    exact e.symm
def Same3 (u v : List Nat) : Prop := ∀ f, IsF f → walk u f = walk v f
theorem F_m1 : IsF (-1, 1) := Or.inr ⟨by decide, by decide⟩
theorem last_snoc (k : Syl) (l : List Syl) (x : Syl) (h : k :: (l ++ [x]) ≠ []) : (k :: (l ++ [x])).getLast h = x := by
  rw [List.getLast_cons (by simp)]
  simp
/-- both ends of one kind: it leads elsewhere -/
theorem odd_ends {x : Syl} {l : List Syl} (h : alt (x :: l)) (e : ((x :: l).getLast (by simp)).isR = x.isR) : ¬ Same3 (tw (x :: l)) [] := by
  intro q
  cases hx : x.isR with
  | true =>
    have g := run l x (-1, 1) h (by rw [hx, if_pos rfl]; exact ⟨by decide, by decide⟩)
    rw [e, hx, if_pos rfl, q _ F_m1] at g
    exact absurd g.1 (by decide)
  | false =>
    have g := run l x (1, 1) h (by rw [hx, if_neg (by decide)]; exact ⟨by decide, by decide⟩)
    rw [e, hx, if_neg (by decide), q _ F_one] at g
    exact absurd g.1 (by decide)
theorem alt_append : ∀ {a b : List Syl}, alt a → alt b → (∀ x y, a.getLast? = some x → b.head? = some y → x.isR ≠ y.isR) → alt (a ++ b)
  | [], _, _, hb, _ => hb
  | [x], [], h, _, _ => h
  | [x], y :: b, _, hb, j => ⟨j x y rfl rfl, hb⟩
  | x :: y :: a, b, h, hb, j => ⟨h.1, alt_append (a := y :: a) h.2 hb (fun p q e1 e2 => j p q (by rw [List.getLast?_cons_cons]; exact e1) e2)⟩
theorem alt_prefix : ∀ {a b : List Syl}, alt (a ++ b) → alt a
  | [], _, _ => trivial
  | [x], _, _ => trivial
  | x :: y :: a, b, h => ⟨h.1, alt_prefix (a := y :: a) (b := b) h.2⟩
/-- a plain row that is not empty leads something elsewhere -/
theorem not_still {l : List Syl} (h : alt l) (hn : l ≠ []) : ¬ Same3 (tw l) [] := by
  cases l with
  | nil => exact absurd rfl hn
  | cons x l =>
    by_cases e : ((x :: l).getLast (by simp)).isR = x.isR
    · exact odd_ends h e
    · intro q
      -- an even row: split off the last
      have hl : l ≠ [] := fun z => by subst z; exact e rfl
      obtain ⟨m, y, rfl⟩ : ∃ m y, l = m ++ [y] := ⟨l.dropLast, l.getLast hl, (List.dropLast_concat_getLast hl).symm⟩
      have ey : ((x :: (m ++ [y])).getLast (by simp)) = y := last_snoc x m y _
      rw [ey] at e
      cases hx : x.isR with
      | false =>
        -- x m r  ->  x x m r x' : ends of one kind
        have hy : y.isR = true := by
          cases hyy : y.isR with
          | true => rfl
          | false => rw [hx, hyy] at e; exact absurd rfl e
        have a1 : alt (x.inv :: (m ++ [y])) := by
          cases m with
          | nil =>
            refine ⟨?_, trivial⟩
            cases x <;> simp [inv, isR] at hx hy ⊢ <;> simp [hy]
          | cons k m =>
            refine ⟨?_, h.2⟩
            have := h.1
            cases x <;> cases k <;> simp [inv, isR] at hx this ⊢
        have a2 : alt (x.inv :: (m ++ [y]) ++ [x.inv]) := by
          refine alt_append a1 trivial fun p q0 e1 e2 => ?_
          have ep : p = y := by
            have z : (x.inv :: (m ++ [y])).getLast? = some y := by
              have : x.inv :: (m ++ [y]) = (x.inv :: m) ++ [y] := rfl
              rw [this, List.getLast?_concat]
            rw [z] at e1
            exact (Option.some.inj e1).symm
          have eq : q0 = x.inv := (Option.some.inj e2).symm
          subst ep eq
          rw [hy]
          cases x <;> simp [inv, isR] at hx ⊢
        refine odd_ends (x := x.inv) (l := m ++ [y] ++ [x.inv]) (by simpa using a2) (by rw [last_snoc]) ?_
        intro f hf
        have t1 : tw (x.inv :: (m ++ [y] ++ [x.inv])) = wd x.inv ++ tw (m ++ [y]) ++ wd x.inv := by
          rw [tw_cons, tw_append, tw_cons, tw_nil, List.append_nil, List.append_assoc]
        rw [t1, walk_append, walk_append, ← wd_two hx hf]
        have q1 := q (walk (wd x) f) (walk_F hf)
        rw [tw_cons, walk_append] at q1
        rw [q1, walk_nil, walk_nil]
        exact wd_inv x hf
      | true =>
        -- r m y : turned by r it is m y r
        have hy : y.isR = false := by
          cases hyy : y.isR with
          | false => rfl
          | true => rw [hx, hyy] at e; exact absurd rfl e
        cases x with
        | s => cases hx
        | z => cases hx
        | r =>
          -- m y r begins and ends unlike; go on with y' (m y r) y ..: ends of one kind
          -- the row y' r m y y = y' r m y'
          have a0 : alt (r :: (m ++ [y.inv])) := by
            have hm : alt (r :: m) := alt_prefix (a := r :: m) (b := [y]) h
            refine alt_append (a := r :: m) hm trivial fun p q0 e1 e2 => ?_
            have eq : q0 = y.inv := (Option.some.inj e2).symm
            subst eq
            have j : p.isR ≠ y.isR := by
              have hh : alt ((r :: m) ++ [y]) := h
              clear q ey e hl
              revert hh e1
              generalize r :: m = k
              induction k with
              | nil => intro e1 _; cases e1
              | cons c k ih =>
                intro e1 hh
                cases k with
                | nil =>
                  cases e1
                  exact hh.1
                | cons d k => exact ih (by rw [List.getLast?_cons_cons] at e1; exact e1) hh.2
            cases y <;> simp [inv, isR] at hy j ⊢ <;> exact j
          have a2 : alt (y.inv :: r :: (m ++ [y.inv])) := ⟨by cases y <;> simp [inv, isR] at hy ⊢, a0⟩
          refine odd_ends a2 (by rw [List.getLast_cons (by simp), last_snoc]) ?_
          intro f hf
          have t1 : tw (y.inv :: r :: (m ++ [y.inv])) = wd y.inv ++ (tw (r :: m) ++ wd y.inv) := by
            have : r :: (m ++ [y.inv]) = (r :: m) ++ [y.inv] := rfl
            rw [tw_cons, this, tw_append, tw_cons y.inv, tw_nil, List.append_nil]
          have q1 := q (walk (wd y.inv) f) (walk_F hf)
          have t2 : tw (r :: (m ++ [y])) = tw (r :: m) ++ wd y := by
            have : r :: (m ++ [y]) = (r :: m) ++ [y] := rfl
            rw [this, tw_append, tw_cons y, tw_nil, List.append_nil]
          rw [t2, walk_append, walk_nil] at q1
          rw [t1, walk_append, walk_append, walk_nil]
          -- y' = y y
          have two := wd_two (x := y) hy (f := walk (tw (r :: m)) (walk (wd y.inv) f)) (walk_F (walk_F hf))
          rw [← two, q1]
          exact wd_inv' y hf
/-! ### one row alone -/
theorem inv_isR (x : Syl) : x.inv.isR = x.isR := by cases x <;> rfl
def binv (l : List Syl) : List Syl := l.reverse.map inv
theorem binv_cons (x : Syl) (l : List Syl) : binv (x :: l) = binv l ++ [x.inv] := by unfold binv; simp
theorem walk_binv : ∀ (l : List Syl) {f : Fr}, IsF f → walk (tw (binv l)) (walk (tw l) f) = f
  | [], _, _ => rfl
  | x :: l, f, hf => by
    rw [binv_cons, tw_append, tw_cons x l, walk_append, walk_append, walk_binv l (walk_F hf), tw_cons, tw_nil, List.append_nil, wd_inv x hf]
theorem alt_map : ∀ {l : List Syl}, alt l → alt (l.map inv)
  | [], _ => trivial
  | [_], _ => trivial
  | x :: y :: l, h => ⟨by rw [inv_isR, inv_isR]; exact h.1, alt_map (l := y :: l) h.2⟩
theorem alt_rev : ∀ {l : List Syl}, alt l → alt l.reverse
  | [], _ => trivial
  | x :: l, h => by
    rw [List.reverse_cons]
    refine alt_append (alt_rev (alt_tail h)) trivial fun p q e1 e2 => ?_
    rw [List.getLast?_reverse] at e1
    cases l with
    | nil => cases e1
    | cons y l =>
      cases e1
      cases e2
      exact fun z => h.1 z.symm
theorem alt_binv {l : List Syl} (h : alt l) : alt (binv l) := alt_map (alt_rev h)
theorem head_binv {x : Syl} {l : List Syl} {p : Syl} (e : (binv (x :: l)).getLast? = some p) : p = x.inv := by
  rw [binv_cons, List.getLast?_concat] at e
  exact (Option.some.inj e).symm
/-- rows that lead alike are one row -/
theorem row_unique : ∀ {a b : List Syl}, alt a → alt b → Same3 (tw a) (tw b) → a = b
  | [], [], _, _, _ => rfl
  | [], y :: b, _, hb, q => absurd (fun f hf => (q f hf).symm) (not_still hb (by simp))
  | x :: a, [], ha, _, q => absurd q (not_still ha (by simp))
  | x :: a, y :: b, ha, hb, q => by
    by_cases e : x = y
    · subst e
      have q' : Same3 (tw a) (tw b) := fun f hf => by
        have z := q (walk (wd x.inv) f) (walk_F hf)
        rw [tw_cons, tw_cons, walk_append, walk_append, wd_inv' x hf] at z
        exact z
      rw [row_unique (alt_tail ha) (alt_tail hb) q']
    · exfalso
      -- back over a, then over b
      by_cases k : x.isR = y.isR
      · -- s and z: what stands between is one of them
        have hx : x.isR = false := by cases x <;> cases y <;> simp_all [isR]
        have hy : y = x.inv := by cases x <;> cases y <;> simp_all [isR, inv]
        subst hy
        have a1 : alt (binv a ++ x :: b) := by
          refine alt_append (alt_binv (alt_tail ha)) ?_ fun p q0 e1 e2 => ?_
          · cases b with
            | nil => trivial
            | cons c b => exact ⟨by rw [← inv_isR x]; exact hb.1, hb.2⟩
          · cases e2
            cases a with
            | nil => cases e1
            | cons c a =>
              rw [head_binv e1, inv_isR]
              exact fun z => ha.1 z.symm
        refine not_still a1 (by simp) fun f hf => ?_
        rw [tw_append, tw_cons, walk_append, walk_append, walk_nil]
        -- f = a x g with g behind
        have g1 := walk_F (w := tw (binv a)) hf
        have st : walk (wd x) (walk (tw (binv a)) f) = walk (wd x.inv) (walk (wd x.inv) (walk (tw (binv a)) f)) := by
          have := wd_two (x := x.inv) (by rw [inv_isR]; exact hx) g1
          rw [this]
          cases x <;> rfl
        rw [st]
        have z := q (walk (wd x.inv) (walk (tw (binv a)) f)) (walk_F g1)
        rw [tw_cons, tw_cons, walk_append, walk_append, wd_inv' x g1] at z
        rw [← z]
        have w0 := walk_binv (binv a) hf
        have bb : binv (binv a) = a := by
          unfold binv
          rw [← List.map_reverse, List.reverse_reverse, List.map_map]
          have : (inv ∘ inv) = id := by funext c; cases c <;> rfl
          rw [this, List.map_id]
        rw [bb] at w0
        exact w0
      · have a1 : alt (binv (x :: a) ++ y :: b) := by
          refine alt_append (alt_binv ha) hb fun p q0 e1 e2 => ?_
          cases e2
          rw [head_binv e1, inv_isR]
          exact k
        refine not_still a1 (by simp) fun f hf => ?_
        rw [tw_append, walk_append, walk_nil, ← q _ (walk_F hf)]
        have w0 := walk_binv (binv (x :: a)) hf
        have bb : binv (binv (x :: a)) = x :: a := by
          unfold binv
          rw [← List.map_reverse, List.reverse_reverse, List.map_map]
          have : (inv ∘ inv) = id := by funext c; cases c <;> rfl
          rw [this, List.map_id]
        rw [bb] at w0
        exact w0
/-! ### the row of a word, the last syllable first -/
def psh : Syl → List Syl → List Syl
  | r, r :: l => l
  | s, s :: l => z :: l
  | s, z :: l => l
  | z, z :: l => s :: l
  | z, s :: l => l
  | x, l => x :: l
theorem psh_alt {x : Syl} {l : List Syl} (h : alt l) : alt (psh x l) := by
  cases x <;> cases l with
  | nil => trivial
  | cons y l =>
    cases y <;> first
      | exact alt_tail h
      | exact ⟨by simp [isR], h⟩
      | (cases l with
          | nil => trivial
          | cons c l => exact ⟨by have := h.1; simpa [isR] using this, h.2⟩)
theorem walk_snoc_row (l : List Syl) (x : Syl) (f : Fr) : walk (tw ((x :: l).reverse)) f = walk (wd x) (walk (tw l.reverse) f) := by
  rw [List.reverse_cons, tw_append, walk_append, tw_cons, tw_nil, List.append_nil]
theorem psh_walk (x : Syl) (l : List Syl) {f : Fr} (hf : IsF f) : walk (tw (psh x l).reverse) f = walk (wd x) (walk (tw l.reverse) f) := by
  cases x <;> cases l with
  | nil => exact walk_snoc_row _ _ _
  | cons y l =>
    cases y <;> first
      | exact walk_snoc_row _ _ _
      | (rw [walk_snoc_row l]
         exact (wd_inv _ (walk_F hf)).symm)
      | (rw [walk_snoc_row l]
         show walk (tw (_ :: l).reverse) f = _
         rw [walk_snoc_row l]
         first | exact (wd_two (x := s) rfl (walk_F hf)).symm | exact (wd_two (x := z) rfl (walk_F hf)).symm)
def stp (l : List Syl) (c : Nat) : List Syl := if c = 116 then psh r (psh s l) else if c = 117 then psh z (psh r l) else psh r l
def row (w : List Nat) : List Syl := w.foldl stp []
theorem stp_alt {l : List Syl} {c : Nat} (h : alt l) : alt (stp l c) := by
  unfold stp
  split
  · exact psh_alt (psh_alt h)
  · split
    · exact psh_alt (psh_alt h)
    · exact psh_alt h
theorem stp_walk (l : List Syl) {c : Nat} (hc : IsL c) {f : Fr} (hf : IsF f) : walk (tw (stp l c).reverse) f = mv c (walk (tw l.reverse) f) := by
  have rr : ∀ g, IsF g → mv 114 (mv 114 g) = g := fun g hg => mv_exch (c := 114) (.inr (.inr rfl)) hg
  rcases hc with rfl | rfl | rfl
  · show walk (tw (psh r (psh s l)).reverse) f = _
    rw [psh_walk r _ hf, psh_walk s l hf]
    exact rr _ (mv_F (walk_F hf))
  · show walk (tw (psh z (psh r l)).reverse) f = _
    rw [psh_walk z _ hf, psh_walk r l hf]
    show mv 117 (mv 114 (mv 114 _)) = _
    rw [rr _ (walk_F hf)]
  · show walk (tw (psh r l).reverse) f = _
    rw [psh_walk r l hf]
    rfl
theorem foldl_alt : ∀ (w : List Nat) {l : List Syl}, alt l → alt (w.foldl stp l)
  | [], _, h => h
  | _ :: w, _, h => foldl_alt w (stp_alt h)
theorem foldl_walk : ∀ (w : List Nat) (l : List Syl), IsW w → ∀ {f : Fr}, IsF f → walk (tw (w.foldl stp l).reverse) f = walk w (walk (tw l.reverse) f)
  | [], _, _, _, _ => rfl
  | c :: w, l, h, f, hf => by
    rw [List.foldl_cons, foldl_walk w _ h.tail hf, stp_walk l h.head hf, walk_cons]
theorem row_alt (w : List Nat) : alt (row w) := foldl_alt w trivial
theorem row_walk {w : List Nat} (h : IsW w) {f : Fr} (hf : IsF f) : walk (tw (row w).reverse) f = walk w f := foldl_walk w [] h hf
/-- words that lead alike have one row -/
theorem row_eq {u v : List Nat} (hu : IsW u) (hv : IsW v) (q : Same3 u v) : row u = row v := by
  have e := row_unique (alt_rev (row_alt u)) (alt_rev (row_alt v)) fun f hf => by rw [row_walk hu hf, row_walk hv hf]; exact q f hf
  have := congrArg List.reverse e
  simpa using this
end TW
set_option Elab.async false
set_option linter.all false
/-! rows begun elsewhere: rows without loose ends are one another's, from another place -/
namespace TW
open Syl
end TW
set_option Elab.async false
set_option linter.all false
/-! rounds -/
namespace TW
open Syl
end TW
/-! runs: words as whole numbers with a turn between each two -/
namespace TW
/-! ### how many letters it takes -/
end TW

/-! one run towards the end -/
namespace TW
end TW

set_option Elab.async false
set_option linter.all false
/-! beats: the row of a dance, made a round by putting beats from the front behind the others -/
namespace TW
open Syl
theorem snoc_of {α : Type} {l : List α} (h : l ≠ []) : ∃ a b, l = a ++ [b] := ⟨l.dropLast, l.getLast h, (List.dropLast_concat_getLast h).symm⟩
/-! ### the round -/
/-! ### a round told from another place -/
/-! ### begun elsewhere -/
end TW

set_option Elab.async false
set_option linter.all false
/-! the plainest word: pairs go, trt and uru are turned over; the steps that do it. Words here from the last letter on -/
namespace TW
abbrev Stp := Bool × Int × List Nat
def prs : List (List Nat) := [[116, 117], [117, 116], [114, 114]]
def pr (x : List Nat) : List Nat := if x.take 1 = [114] then x.drop 1 else 114 :: x
def sett (x : List Nat) : List Nat :=
  if (x.take 2).reverse ∈ prs then x.drop 2
  else if x.take 3 = [116, 114, 116] then 114 :: 117 :: pr (x.drop 3)
  else if x.take 3 = [117, 114, 117] then 114 :: 116 :: pr (x.drop 3) else x
def ovT (n : Nat) : List Stp := [(true, (n : Int) + 3, [114, 114]), (true, (n : Int) + 4, [116, 117]), (true, (n : Int) + 5, [114, 114]), (false, (n : Int) + 0, [116, 114, 116, 114, 116, 114])]
def ovU (n : Nat) : List Stp := [(true, (n : Int) + 1, [116, 114, 116, 114, 116, 114]), (false, (n : Int) + 0, [117, 116]), (false, (n : Int) + 4, [114, 114]), (false, (n : Int) + 3, [116, 117])]
def prS (x : List Nat) : List Stp := if x.take 1 = [114] then [(false, ((x.length - 1 : Nat) : Int), [114, 114])] else []
def stepsOf (x : List Nat) : List Stp :=
  if (x.take 2).reverse ∈ prs then [(false, ((x.length - 2 : Nat) : Int), (x.take 2).reverse)]
  else if x.take 3 = [116, 114, 116] then ovT (x.length - 3) ++ prS (x.drop 3)
  else if x.take 3 = [117, 114, 117] then ovU (x.length - 3) ++ prS (x.drop 3) else []
def rns : List Stp → List Nat → Option (List Nat)
  | [], u => some u
  | (b, i, p) :: r, u => (due u b i p).bind (rns r)
theorem rns_append (a b : List Stp) (u : List Nat) : rns (a ++ b) u = (rns a u).bind (rns b) := by
  induction a generalizing u with
  | nil => rfl
  | cons t a ih =>
    obtain ⟨x, i, p⟩ := t
    show (due u x i p).bind (rns (a ++ b)) = ((due u x i p).bind (rns a)).bind (rns b)
    cases due u x i p with
    | none => rfl
    | some v => exact ih v
theorem at_in (a b p : List Nat) {i : Int} (hi : i = a.length) : due (a ++ b) true i p = some (a ++ p ++ b) := by
  subst hi
  rw [due_in (by omega) (by simp; omega)]
  simp
theorem at_out (a p b : List Nat) {i : Int} (hi : i = a.length) : due (a ++ p ++ b) false i p = some (a ++ b) := by
  subst hi
  rw [due_out (by omega) (by simp; omega)]
  have e1 : ((a.length : Int)).toNat = a.length := by omega
  rw [e1, List.append_assoc, List.drop_left' rfl, List.take_left' rfl, if_pos rfl, List.take_left' rfl]
  congr 2
  rw [← List.append_assoc, List.drop_left' (by simp)]
theorem ovT_run (L rest : List Nat) : rns (ovT L.length) (L ++ [116, 114, 116] ++ rest) = some (L ++ [114, 117, 114] ++ rest) := by
  unfold ovT
  have e1 := at_in (L ++ [116, 114, 116]) rest [114, 114] (i := (L.length : Int) + 3) (by simp)
  have e2 := at_in (L ++ [116, 114, 116, 114]) ([114] ++ rest) [116, 117] (i := (L.length : Int) + 4) (by simp)
  have e3 := at_in (L ++ [116, 114, 116, 114, 116]) ([117, 114] ++ rest) [114, 114] (i := (L.length : Int) + 5) (by simp)
  have e4 := at_out L [116, 114, 116, 114, 116, 114] ([114, 117, 114] ++ rest) (i := (L.length : Int) + 0) (by simp)
  simp only [List.append_assoc, List.cons_append, List.nil_append] at e1 e2 e3 e4 ⊢
  unfold rns
  rw [e1]
  show (due _ _ _ _).bind _ = _
  rw [e2]
  show (due _ _ _ _).bind _ = _
  rw [e3]
  show (due _ _ _ _).bind _ = _
  rw [e4]
  rfl
theorem ovU_run (L rest : List Nat) : rns (ovU L.length) (L ++ [117, 114, 117] ++ rest) = some (L ++ [114, 116, 114] ++ rest) := by
  unfold ovU
  have e1 := at_in (L ++ [117]) ([114, 117] ++ rest) [116, 114, 116, 114, 116, 114] (i := (L.length : Int) + 1) (by simp)
  have e2 := at_out L [117, 116] ([114, 116, 114, 116, 114, 114, 117] ++ rest) (i := (L.length : Int) + 0) (by simp)
  have e3 := at_out (L ++ [114, 116, 114, 116]) [114, 114] ([117] ++ rest) (i := (L.length : Int) + 4) (by simp)
  have e4 := at_out (L ++ [114, 116, 114]) [116, 117] rest (i := (L.length : Int) + 3) (by simp)
  simp only [List.append_assoc, List.cons_append, List.nil_append] at e1 e2 e3 e4 ⊢
  unfold rns
  rw [e1]
  show (due _ _ _ _).bind _ = _
  rw [e2]
  show (due _ _ _ _).bind _ = _
  rw [e3]
  show (due _ _ _ _).bind _ = _
  rw [e4]
  rfl
theorem take1_cons {x : List Nat} {a : Nat} (h : x.take 1 = [a]) : x = a :: x.drop 1 := by
  have := List.take_append_drop 1 x
  rw [h] at this
  exact this.symm
theorem prS_run (x rest : List Nat) : rns (prS x) (x.reverse ++ [114] ++ rest) = some ((pr x).reverse ++ rest) := by
  unfold prS pr
  split
  · rename_i h
    have e := take1_cons h
    have e2 : x.reverse = (x.drop 1).reverse ++ [114] := by
      have z := congrArg List.reverse e
      rw [List.reverse_cons] at z
      exact z
    have hl : (x.length - 1 : Nat) = (x.drop 1).reverse.length := by simp
    rw [hl]
    have e3 := at_out (x.drop 1).reverse [114, 114] rest (i := (((x.drop 1).reverse.length : Nat) : Int)) rfl
    rw [e2]
    simp only [List.append_assoc, List.cons_append, List.nil_append] at e3 ⊢
    unfold rns
    rw [e3]
    rfl
  · show some _ = some _
    rw [List.reverse_cons]
theorem rev_take3 {x : List Nat} {a b c : Nat} (h : x.take 3 = [a, b, c]) : x.reverse = (x.drop 3).reverse ++ [c, b, a] ∧ (x.length - 3 : Nat) = (x.drop 3).reverse.length := by
  have := List.take_append_drop 3 x
  rw [h] at this
  refine ⟨?_, by simp⟩
  conv => lhs; rw [← this]
  simp
theorem stepsOf_run (x rest : List Nat) : rns (stepsOf x) (x.reverse ++ rest) = some ((sett x).reverse ++ rest) := by
  unfold stepsOf sett
  split
  · have e : x.reverse = (x.drop 2).reverse ++ (x.take 2).reverse := by
      rw [← List.reverse_append, List.take_append_drop]
    have hl : (x.length - 2 : Nat) = (x.drop 2).reverse.length := by simp
    rw [hl]
    have e3 := at_out (x.drop 2).reverse (x.take 2).reverse rest (i := (((x.drop 2).reverse.length : Nat) : Int)) rfl
    rw [← e] at e3
    unfold rns
    rw [e3]
    rfl
  split
  · rename_i h
    obtain ⟨e, hl⟩ := rev_take3 h
    rw [rns_append, e, hl, ovT_run]
    show rns (prS (x.drop 3)) ((x.drop 3).reverse ++ [114, 117, 114] ++ rest) = _
    have := prS_run (x.drop 3) ([117, 114] ++ rest)
    simp only [List.append_assoc, List.cons_append, List.nil_append, List.reverse_cons] at this ⊢
    exact this
  split
  · rename_i h
    obtain ⟨e, hl⟩ := rev_take3 h
    rw [rns_append, e, hl, ovU_run]
    show rns (prS (x.drop 3)) ((x.drop 3).reverse ++ [114, 116, 114] ++ rest) = _
    have := prS_run (x.drop 3) ([116, 114] ++ rest)
    simp only [List.append_assoc, List.cons_append, List.nil_append, List.reverse_cons] at this ⊢
    exact this
  · rfl
theorem rns_walk {sts : List Stp} {u v : List Nat} (hp : ∀ t ∈ sts, t.2.2 ∈ pcs) (h : rns sts u = some v) : Same3 u v := by
  induction sts generalizing u with
  | nil => cases h; exact fun _ _ => rfl
  | cons t r ih =>
    obtain ⟨b, i, p⟩ := t
    have h' : (due u b i p).bind (rns r) = some v := h
    cases e : due u b i p with
    | none => rw [e] at h'; cases h'
    | some w =>
      rw [e] at h'
      have := ih (fun t ht => hp t (List.mem_cons_of_mem _ ht)) h'
      exact fun f hf => by rw [← this f hf]; exact (due_walk hf (hp _ List.mem_cons_self) e).symm
theorem prs_pcs {p : List Nat} (h : p ∈ prs) : p ∈ pcs := by
  unfold prs at h
  unfold pcs
  simp only [List.mem_cons, List.not_mem_nil, or_false] at h ⊢
  rcases h with h | h | h
  · exact .inl h
  · exact .inr (.inl h)
  · exact .inr (.inr (.inl h))
theorem prS_pcs {x : List Nat} : ∀ t ∈ prS x, t.2.2 ∈ pcs := by
  intro t ht
  unfold prS at ht
  split at ht
  · have := List.mem_singleton.mp ht
    subst this
    simp [pcs]
  · cases ht
theorem stepsOf_pcs {x : List Nat} : ∀ t ∈ stepsOf x, t.2.2 ∈ pcs := by
  intro t ht
  unfold stepsOf at ht
  split at ht
  · rename_i h
    have := List.mem_singleton.mp ht
    subst this
    exact prs_pcs h
  split at ht
  · rcases List.mem_append.mp ht with ht | ht
    · unfold ovT at ht
      simp only [List.mem_cons, List.not_mem_nil, or_false] at ht
      rcases ht with rfl | rfl | rfl | rfl <;> simp [pcs]
    · exact prS_pcs t ht
  split at ht
  · rcases List.mem_append.mp ht with ht | ht
    · unfold ovU at ht
      simp only [List.mem_cons, List.not_mem_nil, or_false] at ht
      rcases ht with rfl | rfl | rfl | rfl <;> simp [pcs]
    · exact prS_pcs t ht
  · cases ht
theorem stepsOf_len (x : List Nat) : (stepsOf x).length ≤ 5 := by
  have h : ∀ y, (prS y).length ≤ 1 := fun y => by unfold prS; split <;> simp
  unfold stepsOf
  split
  · simp
  split
  · rw [List.length_append]; have := h (x.drop 3); simp [ovT]; omega
  split
  · rw [List.length_append]; have := h (x.drop 3); simp [ovU]; omega
  · simp
theorem pr_len (x : List Nat) : (pr x).length ≤ x.length + 1 := by
  unfold pr
  split
  · rw [List.length_drop]; omega
  · simp
theorem sett_len (x : List Nat) : (sett x).length ≤ x.length := by
  unfold sett
  split
  · rw [List.length_drop]; omega
  split
  · rename_i h
    have l := congrArg List.length h
    rw [List.length_take] at l
    have := pr_len (x.drop 3)
    rw [List.length_drop] at this
    simp only [List.length_cons, List.length_nil] at l ⊢
    omega
  split
  · rename_i h
    have l := congrArg List.length h
    rw [List.length_take] at l
    have := pr_len (x.drop 3)
    rw [List.length_drop] at this
    simp only [List.length_cons, List.length_nil] at l ⊢
    omega
  · exact Nat.le_refl _
theorem pr_W {x : List Nat} (h : IsW x) : IsW (pr x) := by
  unfold pr
  split
  · exact fun c hc => h c (List.mem_of_mem_drop hc)
  · exact IsW.cons (.inr (.inr rfl)) h
theorem sett_W {x : List Nat} (h : IsW x) : IsW (sett x) := by
  have hd : ∀ n, IsW (x.drop n) := fun n c hc => h c (List.mem_of_mem_drop hc)
  unfold sett
  split
  · exact hd 2
  split
  · exact IsW.cons (.inr (.inr rfl)) (IsW.cons (.inr (.inl rfl)) (pr_W (hd 3)))
  split
  · exact IsW.cons (.inr (.inr rfl)) (IsW.cons (.inl rfl) (pr_W (hd 3)))
  · exact h
def mps (u : List Nat) : List Stp × List Nat := u.foldl (fun a c => (a.1 ++ stepsOf (c :: a.2), sett (c :: a.2))) ([], [])
theorem mps_snoc (u : List Nat) (c : Nat) : mps (u ++ [c]) = ((mps u).1 ++ stepsOf (c :: (mps u).2), sett (c :: (mps u).2)) := by
  unfold mps; rw [List.foldl_append]; rfl
def plainW (u : List Nat) : List Nat := (mps u).2.reverse
theorem snoc_ind {P : List Nat → Prop} (h0 : P []) (h1 : ∀ u c, P u → P (u ++ [c])) (u : List Nat) : P u := by
  have : ∀ n (u : List Nat), u.length = n → P u := by
    intro n
    induction n with
    | zero => intro u h; rw [List.eq_nil_of_length_eq_zero h]; exact h0
    | succ n ih =>
      intro u h
      obtain ⟨a, b, rfl⟩ := snoc_of (l := u) (fun e => by subst e; cases h)
      exact h1 a b (ih a (by simpa using h))
  exact this _ u rfl
theorem mps_run (u : List Nat) : ∀ rest, rns (mps u).1 (u ++ rest) = some ((mps u).2.reverse ++ rest) := by
  refine snoc_ind (P := fun u => ∀ rest, rns (mps u).1 (u ++ rest) = some ((mps u).2.reverse ++ rest)) (fun rest => rfl) (fun u c ih rest => ?_) u
  rw [mps_snoc, rns_append, List.append_assoc, ih]
  show rns (stepsOf (c :: (mps u).2)) ((mps u).2.reverse ++ ([c] ++ rest)) = _
  have := stepsOf_run (c :: (mps u).2) rest
  rw [List.reverse_cons, List.append_assoc] at this
  exact this
theorem mps_pcs (u : List Nat) : ∀ t ∈ (mps u).1, t.2.2 ∈ pcs := by
  refine snoc_ind (P := fun u => ∀ t ∈ (mps u).1, t.2.2 ∈ pcs) (fun t ht => by cases ht) (fun u c ih t ht => ?_) u
  rw [mps_snoc] at ht
  rcases List.mem_append.mp ht with ht | ht
  · exact ih t ht
  · exact stepsOf_pcs t ht
theorem mps_len (u : List Nat) : (mps u).1.length ≤ 5 * u.length ∧ (mps u).2.length ≤ u.length := by
  refine snoc_ind (P := fun u => (mps u).1.length ≤ 5 * u.length ∧ (mps u).2.length ≤ u.length) ⟨Nat.le_refl _, Nat.le_refl _⟩ (fun u c ih => ?_) u
  rw [mps_snoc]
  have h1 := stepsOf_len (c :: (mps u).2)
  have h2 := sett_len (c :: (mps u).2)
  simp only [List.length_append, List.length_cons, List.length_nil] at h2 ⊢
  omega
theorem mps_W {u : List Nat} (h : IsW u) : IsW (mps u).2 := by
  refine snoc_ind (P := fun u => IsW u → IsW (mps u).2) (fun _ => IsW.nil) (fun u c ih hw => ?_) u h
  rw [mps_snoc]
  exact sett_W (IsW.cons (hw c (by simp)) (ih fun d hd => hw d (List.mem_append_left _ hd)))
theorem plain_same (u : List Nat) : Same3 u (plainW u) := by
  have := mps_run u []
  rw [List.append_nil, List.append_nil] at this
  exact rns_walk (mps_pcs u) this
theorem plain_W {u : List Nat} (h : IsW u) : IsW (plainW u) := fun c hc => mps_W h c (List.mem_reverse.mp hc)
end TW

set_option Elab.async false
set_option linter.all false
/-! plain words: words that lead alike have one plain word; steps undone -/
namespace TW
open Syl
def okT (c : Nat) (x : List Nat) : Prop := ¬ ((c :: x).take 2).reverse ∈ prs ∧ (c :: x).take 3 ≠ [116, 114, 116] ∧ (c :: x).take 3 ≠ [117, 114, 117]
/-- plain, from the last letter on -/
def Pl : List Nat → Prop
  | [] => True
  | c :: x => Pl x ∧ okT c x
theorem Pl.drop1 {x : List Nat} (h : Pl x) : Pl (x.drop 1) := by
  cases x with
  | nil => exact h
  | cons c x => exact h.1
theorem sett_Pl {c : Nat} {y : List Nat} (hw : IsW (c :: y)) (h : Pl y) : Pl (sett (c :: y)) := by
  unfold sett
  split
  · exact h.drop1
  rename_i n1
  split
  · rename_i h3
    match y, h3, h, hw with
    | b :: a :: y2, h3, h, hw =>
      simp only [List.take_succ_cons, List.take_zero, List.cons.injEq, and_true] at h3
      obtain ⟨rfl, rfl, rfl⟩ := h3
      show Pl (114 :: 117 :: pr y2)
      obtain ⟨⟨p2, o1⟩, o2⟩ := h
      cases y2 with
      | nil => simp [pr, Pl, okT, prs]
      | cons d y3 =>
        have hd : IsL d := hw d (by simp)
        by_cases e : d = 114
        · subst e
          have : pr (114 :: y3) = y3 := by simp [pr]
          rw [this]
          cases y3 with
          | nil => simp [Pl, okT, prs]
          | cons f y4 =>
            have hf : IsL f := hw f (by simp)
            have n1 : f ≠ 116 := fun z => by subst z; exact o1.2.1 rfl
            have n2 : f ≠ 114 := fun z => by subst z; exact p2.2.1 (by simp [prs])
            have hf' : f = 117 := by rcases hf with h | h | h; exact absurd h n1; exact h; exact absurd h n2
            subst hf'
            exact ⟨⟨p2.1, by simp [okT, prs]⟩, by simp [okT, prs]⟩
        · have n1 : d ≠ 117 := fun z => by subst z; exact o1.1 (by simp [prs])
          have hd' : d = 116 := by rcases hd with h | h | h; exact h; exact absurd h n1; exact absurd h e
          subst hd'
          have : pr (116 :: y3) = 114 :: 116 :: y3 := by simp [pr]
          rw [this]
          exact ⟨⟨⟨p2, by simp [okT, prs]⟩, by simp [okT, prs]⟩, by simp [okT, prs]⟩
  split
  · rename_i h3
    match y, h3, h, hw with
    | b :: a :: y2, h3, h, hw =>
      simp only [List.take_succ_cons, List.take_zero, List.cons.injEq, and_true] at h3
      obtain ⟨rfl, rfl, rfl⟩ := h3
      show Pl (114 :: 116 :: pr y2)
      obtain ⟨⟨p2, o1⟩, o2⟩ := h
      cases y2 with
      | nil => simp [pr, Pl, okT, prs]
      | cons d y3 =>
        have hd : IsL d := hw d (by simp)
        by_cases e : d = 114
        · subst e
          have : pr (114 :: y3) = y3 := by simp [pr]
          rw [this]
          cases y3 with
          | nil => simp [Pl, okT, prs]
          | cons f y4 =>
            have hf : IsL f := hw f (by simp)
            have n1 : f ≠ 117 := fun z => by subst z; exact o1.2.2 rfl
            have n2 : f ≠ 114 := fun z => by subst z; exact p2.2.1 (by simp [prs])
            have hf' : f = 116 := by rcases hf with h | h | h; exact h; exact absurd h n1; exact absurd h n2
            subst hf'
            exact ⟨⟨p2.1, by simp [okT, prs]⟩, by simp [okT, prs]⟩
        · have n1 : d ≠ 116 := fun z => by subst z; exact o1.1 (by simp [prs])
          have hd' : d = 117 := by rcases hd with h | h | h; exact absurd h n1; exact h; exact absurd h e
          subst hd'
          have : pr (117 :: y3) = 114 :: 117 :: y3 := by simp [pr]
          rw [this]
          exact ⟨⟨⟨p2, by simp [okT, prs]⟩, by simp [okT, prs]⟩, by simp [okT, prs]⟩
  · rename_i n2 n3
    exact ⟨h, n1, n2, n3⟩
theorem mps_Pl {u : List Nat} (h : IsW u) : Pl (mps u).2 := by
  refine snoc_ind (P := fun u => IsW u → Pl (mps u).2) (fun _ => trivial) (fun u c ih hw => ?_) u h
  rw [mps_snoc]
  have hu : IsW u := fun d hd => hw d (List.mem_append_left _ hd)
  exact sett_Pl (IsW.cons (hw c (by simp)) (mps_W hu)) (ih hu)
def rowT (x : List Nat) : List Syl := row x.reverse
theorem rowT_cons (c : Nat) (x : List Nat) : rowT (c :: x) = stp (rowT x) c := by
  unfold rowT row
  rw [List.reverse_cons, List.foldl_append]
  rfl
def dec : List Syl → List Nat
  | [] => []
  | s :: R => 114 :: 116 :: dec R
  | [r] => [114]
  | r :: s :: R => 116 :: dec R
  | r :: z :: R => 114 :: dec (z :: R)
  | r :: r :: _ => []
  | [z] => [117, 114]
  | [z, r] => [117]
  | z :: r :: z :: R => 117 :: dec (z :: R)
  | z :: r :: s :: R => 117 :: 114 :: 116 :: dec R
  | z :: r :: r :: _ => []
  | z :: s :: _ => []
  | z :: z :: _ => []
theorem shape : ∀ (n : Nat) (x : List Nat), x.length ≤ n → IsW x → Pl x → dec (rowT x) = x ∧ (∀ y, x = 116 :: y → rowT x = r :: s :: rowT y) ∧ ∀ y, x = 117 :: y → ∃ R, rowT x = z :: R := by
  intro n
  induction n with
  | zero =>
    intro x hl _ _
    have : x = [] := List.eq_nil_of_length_eq_zero (by omega)
    subst this
    exact ⟨rfl, fun y e => (by cases e), fun y e => (by cases e)⟩
  | succ n ih =>
    intro x hl hw hp
    match x, hl, hw, hp with
    | [], _, _, _ => exact ⟨rfl, fun y e => (by cases e), fun y e => (by cases e)⟩
    | c :: x', hl, hw, hp =>
      have hl' : x'.length ≤ n := by simp only [List.length_cons] at hl; omega
      obtain ⟨i1, i2, i3⟩ := ih x' hl' hw.tail hp.1
      have hc : IsL c := hw c (by simp)
      obtain ⟨p', o1, o2, o3⟩ := hp
      rcases hc with rfl | rfl | rfl
      · -- t
        have key : rowT (116 :: x') = r :: s :: rowT x' := by
          rw [rowT_cons]
          show psh r (psh s (rowT x')) = _
          match x', hw, p', o1, o2, i1, i2, i3, hl' with
          | [], _, _, _, _, _, _, _, _ => rfl
          | d :: x2, hw, p', o1, o2, i1, i2, i3, hl' =>
            have hd : IsL d := hw d (by simp)
            rcases hd with rfl | rfl | rfl
            · rw [i2 x2 rfl]; rfl
            · exact absurd (by simp [prs]) o1
            · obtain ⟨j1, j2, j3⟩ := ih x2 (by simp only [List.length_cons] at hl'; omega) hw.tail.tail p'.1
              rw [rowT_cons]
              show psh r (psh s (psh r (rowT x2))) = r :: s :: psh r (rowT x2)
              match x2, hw, p', o2, j2, j3 with
              | [], _, _, _, _, _ => rfl
              | f :: x3, hw, p', o2, j2, j3 =>
                have hf : IsL f := hw f (by simp)
                rcases hf with rfl | rfl | rfl
                · exact absurd rfl o2
                · obtain ⟨R, e⟩ := j3 x3 rfl
                  rw [e]; rfl
                · exact absurd (by simp [prs]) p'.2.1
        refine ⟨?_, fun y e => ?_, fun y e => by cases e⟩
        · rw [key]
          show 116 :: dec (rowT x') = _
          rw [i1]
        · cases e; exact key
      · -- u
        have key : dec (rowT (117 :: x')) = 117 :: x' ∧ ∃ R, rowT (117 :: x') = z :: R := by
          rw [rowT_cons]
          show dec (psh z (psh r (rowT x'))) = _ ∧ ∃ R, psh z (psh r (rowT x')) = _
          match x', hw, p', o1, o3, i1, i2, i3, hl' with
          | [], _, _, _, _, _, _, _, _ => exact ⟨rfl, _, rfl⟩
          | d :: x2, hw, p', o1, o3, i1, i2, i3, hl' =>
            have hd : IsL d := hw d (by simp)
            rcases hd with rfl | rfl | rfl
            · exact absurd (by simp [prs]) o1
            · obtain ⟨R, e⟩ := i3 x2 rfl
              rw [e] at i1 ⊢
              refine ⟨?_, _, rfl⟩
              show 117 :: dec (z :: R) = _
              rw [i1]
            · obtain ⟨j1, j2, j3⟩ := ih x2 (by simp only [List.length_cons] at hl'; omega) hw.tail.tail p'.1
              rw [rowT_cons]
              show dec (psh z (psh r (psh r (rowT x2)))) = _ ∧ ∃ R, psh z (psh r (psh r (rowT x2))) = _
              match x2, hw, p', o3, j1, j2, j3 with
              | [], _, _, _, _, _, _ => exact ⟨rfl, _, rfl⟩
              | f :: x3, hw, p', o3, j1, j2, j3 =>
                have hf : IsL f := hw f (by simp)
                rcases hf with rfl | rfl | rfl
                · have e := j2 x3 rfl
                  rw [e] at j1 ⊢
                  refine ⟨?_, _, rfl⟩
                  show 117 :: 114 :: 116 :: dec (rowT x3) = _
                  have : 116 :: dec (rowT x3) = 116 :: x3 := j1
                  rw [this]
                · exact absurd rfl o3
                · exact absurd (by simp [prs]) p'.2.1
        exact ⟨key.1, fun y e => (by cases e), fun y _ => key.2⟩
      · -- r
        have key : dec (rowT (114 :: x')) = 114 :: x' := by
          rw [rowT_cons]
          show dec (psh r (rowT x')) = _
          match x', hw, p', o1, i1, i2, i3, hl' with
          | [], _, _, _, _, _, _, _ => rfl
          | d :: x2, hw, p', o1, i1, i2, i3, hl' =>
            have hd : IsL d := hw d (by simp)
            rcases hd with rfl | rfl | rfl
            · have e := i2 x2 rfl
              rw [e] at i1 ⊢
              have i1' : 116 :: dec (rowT x2) = 116 :: x2 := i1
              show 114 :: 116 :: dec (rowT x2) = _
              rw [i1']
            · obtain ⟨R, e⟩ := i3 x2 rfl
              rw [e] at i1 ⊢
              show 114 :: dec (z :: R) = _
              rw [i1]
            · exact absurd (by simp [prs]) o1
        exact ⟨key, fun y e => (by cases e), fun y e => (by cases e)⟩
theorem dec_row {x : List Nat} (hw : IsW x) (hp : Pl x) : dec (rowT x) = x := (shape _ x (Nat.le_refl _) hw hp).1
theorem plain_eq {u v : List Nat} (hu : IsW u) (hv : IsW v) (h : Same3 u v) : plainW u = plainW v := by
  have e : row (plainW u) = row (plainW v) := row_eq (plain_W hu) (plain_W hv) fun f hf => by rw [← plain_same u f hf, ← plain_same v f hf, h f hf]
  have eu : rowT (mps u).2 = row (plainW u) := rfl
  have ev : rowT (mps v).2 = row (plainW v) := rfl
  have : (mps u).2 = (mps v).2 := by rw [← dec_row (mps_W hu) (mps_Pl hu), ← dec_row (mps_W hv) (mps_Pl hv), eu, ev, e]
  unfold plainW
  rw [this]
/-! ### steps undone -/
def undo1 (t : Stp) : Stp := (!t.1, t.2.1, t.2.2)
theorem due_undo {u v p : List Nat} {b : Bool} {i : Int} (h : due u b i p = some v) : due v (!b) i p = some u := by
  have hr : 0 ≤ i ∧ i ≤ u.length := by
    refine Classical.byContradiction fun z => ?_
    rw [due_off (by omega)] at h
    cases h
  have e : ((i.toNat : Nat) : Int) = i := by omega
  cases b with
  | true =>
    rw [due_in hr.1 hr.2] at h
    cases h
    have := at_out (u.take i.toNat) p (u.drop i.toNat) (i := i) (by rw [List.length_take]; omega)
    rw [List.take_append_drop] at this
    exact this
  | false =>
    rw [due_out hr.1 hr.2] at h
    split at h
    · rename_i c
      cases h
      have := at_in (u.take i.toNat) (u.drop (i.toNat + p.length)) p (i := i) (by rw [List.length_take]; omega)
      have e2 : u.take i.toNat ++ p ++ u.drop (i.toNat + p.length) = u := by
        rw [← List.drop_drop]
        have := List.take_append_drop p.length (u.drop i.toNat)
        rw [c] at this
        rw [List.append_assoc, this, List.take_append_drop]
      rw [e2] at this
      exact this
    · cases h
theorem rns_undo {sts : List Stp} {u v : List Nat} (h : rns sts u = some v) : rns (sts.reverse.map undo1) v = some u := by
  induction sts generalizing u with
  | nil => cases h; rfl
  | cons t r ih =>
    obtain ⟨b, i, p⟩ := t
    have h' : (due u b i p).bind (rns r) = some v := h
    cases e : due u b i p with
    | none => rw [e] at h'; cases h'
    | some w =>
      rw [e] at h'
      rw [List.reverse_cons, List.map_append, rns_append, ih h']
      show (due w (!b) i p).bind _ = _
      rw [due_undo e]
      rfl
/-- the steps that lead the one to the other -/
def steps2 (u v : List Nat) : List Stp := (mps u).1 ++ (mps v).1.reverse.map undo1
theorem steps2_run {u v : List Nat} (hu : IsW u) (hv : IsW v) (h : Same3 u v) : rns (steps2 u v) u = some v := by
  unfold steps2
  have h1 := mps_run u []
  have h2 := mps_run v []
  rw [List.append_nil, List.append_nil] at h1 h2
  rw [rns_append, h1]
  show rns _ (plainW u) = _
  rw [plain_eq hu hv h]
  exact rns_undo h2
theorem steps2_pcs (u v : List Nat) : ∀ t ∈ steps2 u v, t.2.2 ∈ pcs := by
  intro t ht
  rcases List.mem_append.mp ht with ht | ht
  · exact mps_pcs u t ht
  · obtain ⟨s, hs, rfl⟩ := List.mem_map.mp ht
    exact mps_pcs v s (List.mem_reverse.mp hs)
theorem steps2_len (u v : List Nat) : (steps2 u v).length ≤ 5 * u.length + 5 * v.length := by
  unfold steps2
  rw [List.length_append, List.length_map, List.length_reverse]
  have := (mps_len u).1
  have := (mps_len v).1
  omega
theorem rns_len {sts : List Stp} {u v : List Nat} (hp : ∀ t ∈ sts, t.2.2 ∈ pcs) (h : rns sts u = some v) : v.length ≤ u.length + 6 * sts.length := by
  induction sts generalizing u with
  | nil => cases h; simp
  | cons t r ih =>
    obtain ⟨b, i, p⟩ := t
    have h' : (due u b i p).bind (rns r) = some v := h
    cases e : due u b i p with
    | none => rw [e] at h'; cases h'
    | some w =>
      rw [e] at h'
      have a1 := ih (fun t ht => hp t (List.mem_cons_of_mem _ ht)) h'
      have a2 := due_len (hp _ List.mem_cons_self) e
      simp only [List.length_cons]
      omega
end TW

set_option Elab.async false
set_option linter.all false
set_option maxRecDepth 100000
set_option maxHeartbeats 4000000
/-! more rules over the layer: sgV of a text, comprehensions, all, any, isinstance, tuples compared, join -/
namespace L2
open PySem PySem.Spec PyProof.Rows

/-! ### an iterator that walks a list of values, as long as the heap keeps Ok -/
structure ItOn (J : It) (xs : List V) (Ok : Hp → Prop) : Prop where
  go : ∀ i H, Ok H → i < xs.length → J.go i H
  yld : ∀ i H x H', Ok H → i < xs.length → J.yld i H x H' → H' = H ∧ xs[i]? = some x
  stop : ∀ i H, Ok H → xs.length ≤ i → J.stop i H
theorem ItOn.list {K : PySem.W.Frag} {a : Addr} {xs : List V} : ItOn (Itl K a) xs (fun H => SqL K H a xs) :=
  ⟨fun i H h hi => ⟨xs, xs[i], h, by simp [hi]⟩, fun i H x H' h _ y => ⟨y.1, y.2 xs h⟩, fun i H h hi => ⟨xs, h, hi⟩⟩
theorem ItOn.tup {K : PySem.W.Frag} {a : Addr} {xs : List V} : ItOn (Itt K a) xs (fun H => SqT K H a xs) :=
  ⟨fun i H h hi => ⟨xs, xs[i], h, by simp [hi]⟩, fun i H x H' h _ y => ⟨y.1, y.2 xs h⟩, fun i H h hi => ⟨xs, h, hi⟩⟩
/-- a for loop over such an iterator: Pv what holds ahead of turn i -/
theorem for_on {J : It} {xs : List V} {Ok : Hp → Prop} (hJ : ItOn J xs Ok) {g : TG} {tb : TS} {D : Ends} {σ : St} {H : Hp} (Pv : Nat → St → Hp → Prop) (h0 : Pv 0 σ H) (hl : ∀ i σ H, i ≤ xs.length → Pv i σ H → Ok H)
    (hs : ∀ i x σ H, xs[i]? = some x → Pv i σ H → g x σ H fun σ2 H2 => tb { D with nx := Pv (i + 1), ct := Pv (i + 1), bk := D.nx } σ2 H2) (hd : ∀ σ H, Pv xs.length σ H → D.nx σ H) :
    ∃ W : Nat → Nat → St → Hp → Prop, (∃ m, W 0 m σ H) ∧ ∀ i m σ H, W i m σ H →
      (J.stop i H ∧ D.nx σ H) ∨ (J.go i H ∧ ∃ N : St → Hp → Prop, (∀ σ' H', N σ' H' → ∃ m', m' < m ∧ W (i + 1) m' σ' H') ∧ ∀ x H', J.yld i H x H' → g x σ H' fun σ2 H2 => tb { D with nx := N, ct := N, bk := D.nx } σ2 H2) := by
  refine ⟨fun i m σ H => m = xs.length - i ∧ i ≤ xs.length ∧ Pv i σ H, ⟨xs.length, by simp, Nat.zero_le _, h0⟩, ?_⟩
  rintro i m σ H ⟨rfl, hi, p⟩
  have q := hl i σ H hi p
  by_cases hlt : i < xs.length
  · refine .inr ⟨hJ.go i H q hlt, Pv (i + 1), fun σ' H' p' => ⟨xs.length - (i + 1), by omega, rfl, hlt, p'⟩, fun x H' y => ?_⟩
    obtain ⟨e, hy⟩ := hJ.yld i H x H' q hlt y
    subst e
    exact hs i x σ _ hy p
  · have e : i = xs.length := by omega
    subst e
    exact .inl ⟨hJ.stop _ H q (Nat.le_refl _), hd σ H p⟩

/-! ### the sgV of a text -/
def Its (x : Str) : It := ⟨fun i _ => i < x.cps.size, fun i H v H' => H' = H ∧ ∃ c, x.cps[i]? = some c ∧ v = .str ⟨#[c]⟩, fun i _ => x.cps.size ≤ i⟩
def sgV (x : Str) : List V := x.cps.toList.map fun c => V.str ⟨#[c]⟩
theorem sgV_length (x : Str) : (sgV x).length = x.cps.size := by unfold sgV; simp
theorem ItOn.str {x : Str} : ItOn (Its x) (sgV x) (fun _ => True) :=
  ⟨fun i H _ hi => by rw [sgV_length] at hi; exact hi, fun i H v H' _ _ y => by
    obtain ⟨e, c, hc, rfl⟩ := y
    refine ⟨e, ?_⟩
    unfold sgV
    rw [List.getElem?_map, Array.getElem?_toList, hc]
    rfl, fun i H _ hi => by rw [sgV_length] at hi; exact hi⟩
theorem turn_str {P : Program} {w : World} {K : PySem.W.Frag} {tg : Expr} {ty : String} (hty : ty = "str_ascii_iterator" ∨ ty = "str_iterator") (it : Addr) (x : Str) (t : Tok) :
    Turn P w K tg (Its x) [it] it (fun i h => h.IsStrIter it ty x t i) where
  mem := by simp
  obj := fun i h st b hb => by
    have e : b = it := by simpa using hb
    subst e
    obtain ⟨o, e, c, d⟩ := st
    exact ⟨o, e, fun v z => by rw [d] at z; cases z⟩
  keep := fun i h h' st k => let ⟨o, e, c, d⟩ := st; ⟨o, k it (by simp) o e, c, d⟩
  item := by
    intro X hP hw hK hc i pins s σ H E I hf st hg
    subst hP hw hK
    obtain ⟨f0, f1, f2, f3, f4, f5⟩ := hf it (by simp)
    have hlt : i < x.cps.size := hg
    rcases hty with rfl | rfl
    · refine wpAny_pyNext_ascii_item st (c := x.cps[i]) (by simp [hlt]) fun h' st' sb => ?_
      have I1 : Inv X pins σ H { s with heap := h', toks := s.toks + 1 } := I.turned (fun b o hb e => (sb.2 b hb).trans e) f0 f1 f3 f4 f5
      obtain ⟨o, e, c, d⟩ := id st'
      exact ⟨_, rfl, go_of (s := { s with heap := h', toks := s.toks + 1 }) e c d (by decide) ⟨.str ⟨#[x.cps[i]]⟩, H, I1, ⟨_, rfl⟩, ⟨rfl, _, by simp [hlt], rfl⟩, st', fun b hb => (hf b hb).1⟩⟩
    · refine wpAny_pyNext_wide_item st (c := x.cps[i]) (by simp [hlt]) fun h' st' sb => ?_
      have I1 : Inv X pins σ H { s with heap := h', toks := s.toks + 1 } := I.turned (fun b o hb e => (sb.2 b hb).trans e) f0 f1 f3 f4 f5
      obtain ⟨o, e, c, d⟩ := id st'
      exact ⟨_, rfl, go_of (s := { s with heap := h', toks := s.toks + 1 }) e c d (by decide) ⟨.str ⟨#[x.cps[i]]⟩, H, I1, ⟨_, rfl⟩, ⟨rfl, _, by simp [hlt], rfl⟩, st', fun b hb => (hf b hb).1⟩⟩
  done := by
    intro X hP hw hK hc i pins s σ H E I hf st hg
    subst hP hw hK
    obtain ⟨f0, f1, f2, f3, f4, f5⟩ := hf it (by simp)
    have hle : x.cps.size ≤ i := hg
    rcases hty with rfl | rfl
    · exact wpAny_pyNext_ascii_end (I.ok.hd hc) st (by simp; omega) fun h' eb => ⟨rfl, I.turned (t' := s.toks) (fun b o hb e => eb b o hb e) f0 f1 f3 f4 f5⟩
    · exact wpAny_pyNext_wide_end (I.ok.hd hc) st (by simp; omega) fun h' eb => ⟨rfl, I.turned (t' := s.toks) (fun b o hb e => eb b o hb e) f0 f1 f3 f4 f5⟩
  self := fun _ _ _ _ _ st h => by
    rcases hty with rfl | rfl
    · exact wpAny_pyIter_striter_ascii st h
    · exact wpAny_pyIter_striter_wide st h
section
variable {X : Cx} {tg : Expr}
def iStr (tl : TE) : TI := fun σ H R => tl σ H fun v H1 => ∃ x, v = .str x ∧ R (Its x) H1
theorem pi_str {l : Expr} {tl : TE} (hl : PE X l tl) : PI X tg l (iStr tl) := by
  intro pins s σ H R I h
  refine thn (hl pins s σ H _ I h) fun v s1 ⟨y, H1, I1, r1, q1⟩ => ?_
  obtain ⟨x, e, q⟩ := q1
  subst e
  obtain ⟨t, rfl⟩ := r1
  have fin : ∀ b ∈ [s1.heap.objs.size], FpOk X pins H1 b := fun b hb => by
    have e : b = s1.heap.objs.size := by simpa using hb
    subst e
    exact I1.fpOk (Nat.le_refl _) (I1.hok.fresh (Nat.le_refl _))
  cases ha : x.cps.all (· < 128)
  · refine wpAny_pyIter_wide ha ?_
    exact ⟨s1.heap.objs.size, [s1.heap.objs.size], _, _, H1, rfl, I1.kept (t' := s1.toks) fun b o e => Heap.get?_push_of_some _ e, turn_str (.inr rfl) _ x t, ⟨_, Heap.get?_push_size _ rfl, rfl, rfl⟩, fin, q⟩
  · refine wpAny_pyIter_ascii ha ?_
    exact ⟨s1.heap.objs.size, [s1.heap.objs.size], _, _, H1, rfl, I1.kept (t' := s1.toks) fun b o e => Heap.get?_push_of_some _ e, turn_str (.inl rfl) _ x t, ⟨_, Heap.get?_push_size _ rfl, rfl, rfl⟩, fin, q⟩
end
end L2

set_option Elab.async false
set_option linter.all false
set_option maxRecDepth 100000
set_option maxHeartbeats 4000000
/-! a list comprehension: one clause, at most one test -/
namespace L2
open PySem PySem.Spec PyProof.Rows

/-! ### the cells that a block sees -/
def clOf (env : Env) : List (Str × NameKind) → List (Str × Addr) → List (Str × Addr)
  | [], cs => cs
  | (n, k) :: r, cs => clOf env r (if k == .free then (match env.cells.lookup n with | some a => (n, a) :: cs | none => cs) else cs)
theorem forIn_fold {α β : Type} (f : α → β → Sem (ForInStep β)) (g : α → β → β) : ∀ (l : List α) (b : β), (∀ x ∈ l, ∀ r, f x r = pure (ForInStep.yield (g x r))) → forIn l b f = pure (l.foldl (fun r x => g x r) b)
  | [], b, _ => rfl
  | x :: l, b, h => by
    rw [List.forIn_cons, h x List.mem_cons_self, pure_bind]
    exact forIn_fold f g l _ fun y hy => h y (List.mem_cons_of_mem _ hy)
theorem clOf_fold {env : Env} : ∀ (names : List (Str × NameKind)) (cs : List (Str × Addr)), names.foldl (fun r x => if x.2 == .free then (match env.cells.lookup x.1 with | some a => (x.1, a) :: r | none => r) else r) cs = clOf env names cs
  | [], _ => rfl
  | (n, k) :: r, cs => by
    rw [List.foldl_cons]
    exact clOf_fold r _
theorem closure_of {env : Env} {scope : Scope} (h : ∀ x ∈ scope.names, x.2 = .free → ∃ a, env.cells.lookup x.1 = some a) : closureFor scope env = pure (clOf env scope.names []) := by
  simp only [closureFor]
  rw [forIn_fold _ (fun x r => if x.2 == .free then (match env.cells.lookup x.1 with | some a => (x.1, a) :: r | none => r) else r) scope.names [] (fun x hx r => by
    obtain ⟨n, k⟩ := x
    by_cases hk : k = .free
    · subst hk
      obtain ⟨a, ha⟩ := h (n, .free) hx rfl
      have ha' : env.cells.lookup n = some a := ha
      have e : cellOf env n = pure a := by unfold cellOf; rw [ha']
      simp only [beq_self_eq_true, if_true, e, pure_bind, ha']
    · have hb : (k == NameKind.free) = false := by simpa using hk
      simp only [hb, Bool.false_eq_true, if_false])]
  rw [clOf_fold]
  rfl
theorem clOf_mem {env : Env} : ∀ (names : List (Str × NameKind)) (cs : List (Str × Addr)) (x : Str) (c : Addr), (x, c) ∈ clOf env names cs → (x, c) ∈ cs ∨ ((x, NameKind.free) ∈ names ∧ env.cells.lookup x = some c)
  | [], cs, x, c, h => .inl h
  | (n, k) :: r, cs, x, c, h => by
    unfold clOf at h
    rcases clOf_mem r _ x c h with h1 | ⟨h1, h2⟩
    · by_cases hk : (k == NameKind.free) = true
      · rw [if_pos hk] at h1
        have hk' : k = .free := by simpa using hk
        subst hk'
        cases q : env.cells.lookup n with
        | none => rw [q] at h1; exact .inl h1
        | some a =>
          rw [q] at h1
          rcases List.mem_cons.mp h1 with e | h1
          · injection e with e1 e2
            subst e1 e2
            exact .inr ⟨List.mem_cons_self, q⟩
          · exact .inl h1
      · rw [if_neg hk] at h1; exact .inl h1
    · exact .inr ⟨List.mem_cons_of_mem _ h1, h2⟩
theorem clOf_keep {env : Env} : ∀ (names : List (Str × NameKind)) (cs : List (Str × Addr)) (x : Str), (∃ c, (x, c) ∈ cs) ∨ (x, NameKind.free) ∈ names → (∀ y ∈ names, y.2 = .free → ∃ a, env.cells.lookup y.1 = some a) → ∃ c, (x, c) ∈ clOf env names cs
  | [], cs, x, h, _ => by
    rcases h with h | h
    · exact h
    · exact nomatch h
  | (n, k) :: r, cs, x, h, hf => by
    unfold clOf
    refine clOf_keep r _ x ?_ fun y hy => hf y (List.mem_cons_of_mem _ hy)
    rcases h with ⟨c, h⟩ | h
    · refine .inl ⟨c, ?_⟩
      split
      · cases env.cells.lookup n with
        | none => exact h
        | some a => exact List.mem_cons_of_mem _ h
      · exact h
    · rcases List.mem_cons.mp h with e | h
      · injection e with e1 e2
        subst e1 e2
        obtain ⟨a, ha⟩ := hf (x, .free) List.mem_cons_self rfl
        refine .inl ⟨a, ?_⟩
        simp only [beq_self_eq_true, if_true, show env.cells.lookup x = some a from ha]
        exact List.mem_cons_self
      · exact .inr h
theorem lookup_of_mem {α β : Type} [BEq α] [LawfulBEq α] {x : α} : ∀ {l : List (α × β)} {c : β}, (x, c) ∈ l → ∃ d, l.lookup x = some d
  | (y, d) :: r, c, h => by
    by_cases e : x = y
    · subst e; exact ⟨d, by simp [List.lookup_cons]⟩
    · have hb : (x == y) = false := by simpa using e
      rcases List.mem_cons.mp h with h | h
      · injection h with h1 _; exact absurd h1 e
      · obtain ⟨d', q⟩ := lookup_of_mem h
        exact ⟨d', by simp [List.lookup_cons, hb, q]⟩

/-! ### the names of a block as they are relabelled -/
theorem relabel_seen {env : Env} {x : Str} : ∀ {names : List (Str × NameKind)}, (∀ y ∈ names, y.2 ≠ .cell) →
    ((names.map fun (n, k) => if (k == NameKind.free && env.scope.kind == .function && env.kindOf n == some .cell) then (n, NameKind.cell) else (n, k)).lookup x = some .cell ∨
     (names.map fun (n, k) => if (k == NameKind.free && env.scope.kind == .function && env.kindOf n == some .cell) then (n, NameKind.cell) else (n, k)).lookup x = some .free) → (x, NameKind.free) ∈ names
  | [], _, h => by simp at h
  | (n, k) :: r, hc, h => by
    have ih := relabel_seen (env := env) (x := x) (names := r) fun y hy => hc y (List.mem_cons_of_mem _ hy)
    have hk : k ≠ .cell := hc (n, k) List.mem_cons_self
    rw [List.map_cons] at h
    by_cases e : x = n
    · subst e
      by_cases hf : k = .free
      · subst hf; exact List.mem_cons_self
      · have hb : (k == NameKind.free) = false := by simpa using hf
        simp [List.lookup_cons, hb] at h
        rcases h with h | h
        · exact absurd h hk
        · exact absurd h hf
    · have hb : (x == n) = false := by simpa using e
      refine List.mem_cons_of_mem _ (ih ?_)
      by_cases c : (k == NameKind.free && env.scope.kind == .function && env.kindOf n == some .cell) = true
      · simpa [List.lookup_cons, hb, c] using h
      · simpa [List.lookup_cons, hb, c] using h
theorem relabel_free {env : Env} {x : Str} (he : env.kindOf x = some .cell ∨ env.kindOf x = some .free) (hk : env.scope.kind = .function) : ∀ {names : List (Str × NameKind)}, names.lookup x = some .free →
    ((names.map fun (n, k) => if (k == NameKind.free && env.scope.kind == .function && env.kindOf n == some .cell) then (n, NameKind.cell) else (n, k)).lookup x = some .cell ∨
     (names.map fun (n, k) => if (k == NameKind.free && env.scope.kind == .function && env.kindOf n == some .cell) then (n, NameKind.cell) else (n, k)).lookup x = some .free)
  | [], h => by simp at h
  | (n, k) :: r, h => by
    rw [List.map_cons]
    dsimp only
    by_cases e : x = n
    · subst e
      simp only [List.lookup_cons, beq_self_eq_true] at h
      have h' : k = .free := Option.some.inj h
      subst h'
      by_cases c : (NameKind.free == NameKind.free && env.scope.kind == .function && env.kindOf x == some .cell) = true
      · rw [if_pos c]; left; simp [List.lookup_cons]
      · rw [if_neg c]; right; simp [List.lookup_cons]
    · have hb : (x == n) = false := by simpa using e
      simp only [List.lookup_cons, hb] at h
      have ih := relabel_free he hk h
      by_cases c : (k == NameKind.free && env.scope.kind == .function && env.kindOf n == some .cell) = true
      · rw [if_pos c]; simp only [List.lookup_cons, hb]; exact ih
      · rw [if_neg c]; simp only [List.lookup_cons, hb]; exact ih

/-- the context of a block: s₀, H₀ the state at its entry (the iterator stands), C its own names, cl the cells that it sees, fp the iterator's records -/
def cxLc (X : Cx) (N : List Str) (scope : Scope) (C : Addr) (s₀ : Shared) (H₀ : Hp) (fp : List Addr) : Cx where
  prog := X.prog
  w := X.w
  K := X.K
  mg := X.mg
  base := X.base
  A := X.A
  N := N
  s₀ := s₀
  H₀ := H₀
  env := compEnvC scope (clOf X.env scope.names []) C X.env
  outer := X.stack
  stack := X.stack
  ex := fp
  fn := fun _ => false
  calm := X.calm
  pn := []
  xe := fun _ _ => False
/-- what a block's scope must be: its own name x, then the seen names ys, which stand at the places js of the def -/
structure LcScope (X : Cx) (scope : Scope) (x : Str) (ys : List Str) (js : List Nat) : Prop where
  kind : scope.kind = .function
  nocell : ∀ y ∈ scope.names, y.2 ≠ .cell
  locs : ∀ y ∈ scope.names, y.2 = .local → scope.names.lookup y.1 = some .local
  own : scope.names.lookup x = some .local
  seen : ∀ y ∈ ys, scope.names.lookup y = some .free
  out : ∀ y ∈ scope.names, y.2 = .free → X.env.kindOf y.1 = some .cell ∨ X.env.kindOf y.1 = some .free
  places : js.map (fun j => X.N[j]?) = ys.map some
  nd : (x :: ys).Nodup
/-- the values of the seen names -/
def seenV (σ : St) (js : List Nat) : St := js.map fun j => (σ[j]?).join

section
variable {X : Cx} {pins : List (Addr × Obj)} {σ : St} {H : Hp} {s : Shared} {scope : Scope} {x : Str} {ys : List Str} {js : List Nat} {fp : List Addr} {C D : Addr} {h1 : Heap}

theorem LcScope.cells (L : LcScope X scope x ys js) (I : Inv X pins σ H s) : ∀ y ∈ scope.names, y.2 = .free → ∃ a, X.env.cells.lookup y.1 = some a := fun y hy hf => I.ok.has y.1 (L.out y hy hf)
theorem LcScope.sub (L : LcScope X scope x ys js) {y : Str} {c : Addr} (h : (clOf X.env scope.names []).lookup y = some c) : X.env.cells.lookup y = some c ∧ (y, NameKind.free) ∈ scope.names := by
  rcases clOf_mem scope.names [] y c (PySem.mem_of_lookup h) with z | ⟨z1, z2⟩
  · exact nomatch z
  · exact ⟨z2, z1⟩
theorem LcScope.has (L : LcScope X scope x ys js) (I : Inv X pins σ H s) {y : Str} (h : (y, NameKind.free) ∈ scope.names) : ∃ c, (clOf X.env scope.names []).lookup y = some c := by
  obtain ⟨c, q⟩ := clOf_keep scope.names [] y (.inr h) (L.cells I)
  exact lookup_of_mem q

/-- the block's entry -/
theorem Inv.block (L : LcScope X scope x ys js) (I : Inv X pins σ H s) (hf : ∀ b ∈ fp, FpOk X pins H b) (ho : ∀ b ∈ fp, ∃ o, s.heap.get? b = some o) (hC : s.heap.objs.size ≤ C) (old : ∀ b o, s.heap.get? b = some o → h1.get? b = some o) {m : Str → Option Value} (hn : h1.Ns C m) {t' : Nat} :
    Inv (cxLc X (x :: ys) scope C s H fp) [] (none :: seenV σ js) H { s with heap := h1, toks := t' } := by
  have fpC : ∀ b ∈ fp, b ≠ C := fun b hb z => by
    obtain ⟨o, e⟩ := ho b hb
    exact absurd (Nat.lt_of_lt_of_le (Heap.lt_size e) (by rw [z]; exact hC)) (Nat.lt_irrefl _)
  refine ⟨⟨I.ok.mod, L.kind, I.ok.glob, I.ok.blt, hC, fun y z c h1 h2 => ?_, fun y hy => ?_, fun y c h => (nomatch h), I.ok.hd, I.ok.frames, .inl rfl, fun b hb => ⟨fpC b hb, fun y c e => ?_⟩, I.bs, Nat.le_trans I.ok.bsz I.sz, fun b o e hb => ?_, fun b hb z => ?_, I.stack, I.stkFree⟩,
    rfl, I.bare, Un.kept old, ⟨m, hn, fun i y v e1 e2 e3 => ?_⟩, fun y c e => ?_, I.hok.fresh hC, fun y c e => ?_, fun p hp => (nomatch hp), I.hok.kept old, ?_⟩
  · exact I.ok.inj y z c (L.sub h1).1 (L.sub h2).1
  · have hy' : (y, NameKind.free) ∈ scope.names := relabel_seen (env := X.env) L.nocell hy
    exact L.has I hy'
  · exact (hf b hb).2.2.2.2.1 y c (L.sub e).1
  · rcases (hf b hb).2.2.2.1 with z | z
    · exact I.ok.noex b o e z
    · exact absurd (Nat.lt_of_lt_of_le (Heap.lt_size e) (Nat.le_trans I.ok.bsz z)) (Nat.lt_irrefl _)
  · rcases List.mem_cons.mp (I.stkSub b z) with z | z
    · exact (hf b hb).2.1 z
    · exact (hf b hb).2.2.1 z
  · cases i with
    | zero => exact absurd e2 (by simp)
    | succ i =>
      have e1' : ys[i]? = some y := by simpa [cxLc] using e1
      have e2' : (seenV σ js)[i]? = some (some v) := by simpa using e2
      have hj : ∃ j, js[i]? = some j := by
        unfold seenV at e2'
        rw [List.getElem?_map] at e2'
        cases q : js[i]? with
        | none => rw [q] at e2'; cases e2'
        | some j => exact ⟨j, rfl⟩
      obtain ⟨j, hj⟩ := hj
      have pj : X.N[j]? = some y := by
        have q := congrArg (fun l => l[i]?) L.places
        simp only [List.getElem?_map, hj, e1', Option.map_some] at q
        exact Option.some.inj q
      have vj : σ[j]? = some (some v) := by
        unfold seenV at e2'
        rw [List.getElem?_map, hj, Option.map_some] at e2'
        have e3' := Option.some.inj e2'
        cases q : σ[j]? with
        | none => rw [q] at e3'; cases e3'
        | some o => rw [q] at e3'; exact congrArg some e3'
      have ym : y ∈ ys := List.mem_of_getElem? e1'
      have yl := L.seen y ym
      have yf : (y, NameKind.free) ∈ scope.names := PySem.mem_of_lookup yl
      have yo := L.out _ yf rfl
      obtain ⟨m0, hn0, hl0⟩ := I.loc
      have vis : Vis X.env.scope y := .inr yo
      obtain ⟨u, r, l⟩ := hl0 j y v pj vj vis
      refine ⟨u, r, ?_⟩
      rcases l with ⟨k, _⟩ | ⟨k, c, ec, z⟩
      · rcases yo with q | q <;> (rw [k] at q; cases q)
      · obtain ⟨c', ec'⟩ := L.has I yf
        have ecc := (L.sub ec').1
        rw [ec] at ecc
        cases ecc
        obtain ⟨oc, hoc, hd⟩ := z
        exact .inr ⟨relabel_free yo I.ok.kind yl, c, ec', ⟨oc, old _ _ hoc, hd⟩⟩
  · obtain ⟨v, oc, hoc, hd⟩ := I.cell y c (L.sub e).1
    exact ⟨v, oc, old _ _ hoc, hd⟩
  · exact I.freeC y c (L.sub e).1
  · show (none :: seenV σ js).length = (x :: ys).length
    have q := congrArg List.length L.places
    rw [List.length_map, List.length_map] at q
    unfold seenV
    rw [List.length_cons, List.length_cons, List.length_map, q]

/-- behind the block: D, which was laid in it, holds the list -/
theorem Inv.unblock {pc : List (Addr × Obj)} {σc : St} {H' : Hp} {s' : Shared} {N : List Str} {acc : List V} {its : List Value} {n : Nat} {h' : Heap} (I : Inv X pins σ H s) (hf : ∀ b ∈ fp, FpOk X pins H b) (hD : s.heap.objs.size ≤ D) (hC : s.heap.objs.size ≤ C) (hDC : D ≠ C)
    (J : Inv (cxLc X N scope C s H fp) pc σc H' s') (hHD : H' D = none) (rv : Vals acc its) (hz : acc.length ≤ sizeLine) (hd : s'.heap.get? D = some { cls := .type "list", data := .seq its.toArray n }) (sb : Heap.SameBut C s'.heap h') :
    Inv X pins σ (upd H' D (.lst acc)) { s' with heap := h' } := by
  have lt : ∀ b o, s.heap.get? b = some o → b ≠ C ∧ b ≠ D := fun b o e => ⟨Nat.ne_of_lt (Nat.lt_of_lt_of_le (Heap.lt_size e) hC), Nat.ne_of_lt (Nat.lt_of_lt_of_le (Heap.lt_size e) hD)⟩
  have B : Un (frs X.stack) fp H H' s.heap s'.heap := J.base
  refine I.call' (ch := fp) (s' := { s' with heap := h' }) J.os ⟨fun b o e n hb hx => ?_, fun b o e n hb hx => ?_, fun b o e n hx => ?_, fun b o e hx => ?_, fun b xs e => ?_, fun b o u e => ?_, fun b ps e => ?_⟩ ?_ J.bare ?_
  · exact (sb.2 b (lt b o e).1).trans (B.keep b o e n hb hx)
  · obtain ⟨sl, q⟩ := B.slot b o e n hb hx
    exact ⟨sl, (sb.2 b (lt b o e).1).trans q⟩
  · rw [upd_ne (lt b o e).2]; exact B.free b o e n hx
  · obtain ⟨o', q⟩ := B.there b o e hx
    exact ⟨o', (sb.2 b (lt b o e).1).trans q⟩
  · have q := B.tups b xs e
    rw [upd_ne (ne_of_none q hHD)]; exact q
  · have q := B.frzs b o u e
    rw [upd_ne (ne_of_none q hHD)]; exact q
  · obtain ⟨more, q⟩ := B.tbls b ps e
    exact ⟨more, by rw [upd_ne (ne_of_none q hHD)]; exact q⟩
  · intro b u e
    by_cases hb : b = D
    · subst hb
      rw [upd_same] at e
      cases e
      exact ⟨hz, its, n, rv, (sb.2 _ hDC).trans hd⟩
    · rw [upd_ne hb] at e
      have hCn : H' C = none := J.free
      refine (J.hok b u e).stay (fun c v hc q => (sb.2 c ?_).trans q) (fun c q => by rw [upd_ne (ne_of_none q hHD)]; exact q) fun c xs q => by rw [upd_ne (ne_of_none q hHD)]; exact q
      rcases hc with z | z
      · rw [z]; exact ne_of_none e hCn
      · exact ne_of_none z hCn
  · intro b hb
    obtain ⟨_, f1, _, f3, f4, f5⟩ := hf b hb
    exact ⟨f3, f1, f4, f5⟩
end

/-- a turn of the block, the step ahead of the store kept -/
theorem compLoop_tests {prog : Program} {w : World} {A : Around} {R : Result → Shared → Prop} {s : Shared} {elt target iter : Expr} {ifs : List Expr} {scope : Scope} {pos : Pos} {it acc : Value} {env : Env} (I : Nat → Shared → Prop)
    (turn : ∀ n s, I n s → wpAny (model prog w) A (pyNext it) (fun r s₁ => match r with
      | none => R (.ok .next) s₁
      | some v => wpAny (model prog w) A (letOwnedTupleGo target it v) (fun _ s₁' => wpAny (model prog w) A (assign target env v) (fun _ s₂ =>
          wpAny (model prog w) A (forIn ifs true fun c r => if r = true then do let ok ← isTrue c env (eval c env); pure (ForInStep.yield ok) else pure (ForInStep.yield r)) (fun ok s₃ =>
            if ok = true then wpAny (model prog w) A (eval elt env) (fun x s₄ =>
              wpAny (model prog w) A (call (.builtin "list.append") [acc, x]) (fun _ s₅ => ∃ m, m < n ∧ I m s₅) (notedBy (model prog w) A env fun e s' => R (.error e) s') s₄) (notedBy (model prog w) A env fun e s' => R (.error e) s') s₃
            else ∃ m, m < n ∧ I m s₃) (notedBy (model prog w) A env fun e s' => R (.error e) s') s₂) (notedBy (model prog w) A env fun e s' => R (.error e) s') s₁') (notedBy (model prog w) A env fun e s' => R (.error e) s') s₁) (notedBy (model prog w) A env fun e s' => R (.error e) s') s)
    (n : Nat) (h : I n s) :
    codeAny (model prog w) A (.compLoop (.ListComp elt [⟨target, iter, ifs, 0⟩] scope pos) 0 it acc env) R s := by
  refine codeAny_loop rfl I (fun n s hI => ?_) n h
  show wpAny _ A ((compTurn (.ListComp elt [⟨target, iter, ifs, 0⟩] scope pos) 0 it acc env).onRaise (fun x => do noteFrame x env; theTreesLotGoes x)) _ _ s
  refine wpAny_noted ?_
  rw [compTurn_list]
  refine wpAny_bind (wpAny_standAt (wpAny_bind (wpAny_mono (turn n s hI) (fun r s₁ h₁ => ?_) fun _ _ h' => h')))
  cases r with
  | none => exact wpAny_pure h₁
  | some v =>
    refine wpAny_bind (wpAny_mono h₁ (fun _ s₁' h₁' => ?_) fun _ _ h' => h')
    refine wpAny_bind (wpAny_mono h₁' (fun _ s₂ h₂ => wpAny_bind (wpAny_mono h₂ (fun ok s₃ h₃ => ?_) fun _ _ h' => h')) fun _ _ h' => h')
    cases ok with
    | false => exact wpAny_pure ⟨rfl, h₃⟩
    | true =>
      exact wpAny_bind (wpAny_bind (wpAny_mono h₃ (fun x s₄ h₄ => wpAny_bind (wpAny_mono h₄ (fun _ s₅ h₅ => wpAny_pure (wpAny_pure ⟨rfl, h₅⟩)) fun _ _ h' => h')) fun _ _ h' => h'))

/-- the reading: W by the turn, a measure, the list so far -/
def LcW (J : It) (tc : TT) (te : TE) (js : List Nat) (σ : St) (Q : VK) (H1 : Hp) : Prop := ∃ W : Nat → Nat → List V → Hp → Prop, (∃ m, W 0 m [] H1) ∧ ∀ i m acc H, W i m acc H → acc.length ≤ sizeLine ∧
  ((J.stop i H ∧ ∀ p, H p = none → Q (.ref p) (upd H p (.lst acc))) ∨
   (J.go i H ∧ acc.length < sizeLine ∧ ∀ x H', J.yld i H x H' → tc (some x :: seenV σ js) H' fun b H3 => if b = true then te (some x :: seenV σ js) H3 fun v H4 => ∃ m', m' < m ∧ W (i + 1) m' (acc ++ [v]) H4 else ∃ m', m' < m ∧ W (i + 1) m' acc H3))
def tLc (wi : TI) (tc : TT) (te : TE) (js : List Nat) : TE := fun σ H Q => wi σ H fun J H1 => LcW J tc te js σ Q H1
/-- no test -/
def tYes : TT := fun _ H Q => Q true H
/-- a list of tests, at most one -/
def PTs (X : Cx) (ifs : List Expr) (tc : TT) : Prop := (ifs = [] ∧ tc = tYes) ∨ ∃ c, ifs = [c] ∧ PT X c tc
theorem pts_none {X : Cx} : PTs X [] tYes := .inl ⟨rfl, rfl⟩
theorem PTs.run {X : Cx} {ifs : List Expr} {tc : TT} (h : PTs X ifs tc) {pins : List (Addr × Obj)} {s : Shared} {σ : St} {H : Hp} {Q : Bool → Hp → Prop} (I : Inv X pins σ H s) (q : tc σ H Q) :
    wpAny (model X.prog X.w) X.A (forIn ifs true fun c r => if r = true then do let ok ← isTrue c X.env (eval c X.env); pure (ForInStep.yield ok) else pure (ForInStep.yield r)) (TP X pins σ Q) X.xe s := by
  rcases h with ⟨rfl, rfl⟩ | ⟨c, rfl, h⟩
  · exact wpAny_tests_nil ⟨H, I, q⟩
  · exact wpAny_tests_one (h pins s σ H Q I q)

theorem pe_lc {X : Cx} {elt iter : Expr} {ifs : List Expr} {scope : Scope} {pos px : Pos} {x : Str} {ys : List Str} {js : List Nat} {wi : TI} {tc : TT} {te : TE} (hc : X.calm = true) (L : LcScope X scope x ys js) (hi : PI X (.Name x px) iter wi)
    (ht : ∀ C s₀ H₀ fp, PTs (cxLc X (x :: ys) scope C s₀ H₀ fp) ifs tc) (he : ∀ C s₀ H₀ fp, PE (cxLc X (x :: ys) scope C s₀ H₀ fp) elt te)
    (hs : ∀ z, foldedSetIterable iter X.env z = pure z := by intro _; rfl) :
    PE X (.ListComp elt [⟨.Name x px, iter, ifs, 0⟩] scope pos) (tLc wi tc te js) := by
  intro pins s σ H Q I h
  rw [eval_ListComp]
  refine wpAny_comprehension_free (use := none) rfl hs (closure_of (L.cells I)) L.kind L.locs (thn (hi pins s σ H _ I h) fun v s1 h1 => thn h1 fun itv s2 h2 => ?_)
  obtain ⟨it, fp, tn, J, H2, e, I2, T, st2, f2, W, ⟨m0, w0⟩, turn⟩ := h2
  subst e
  have ho2 : ∀ b ∈ fp, ∃ o, s2.heap.get? b = some o := fun b hb => let ⟨o, e, _⟩ := T.obj _ _ st2 b hb; ⟨o, e⟩
  refine wpAny_newObj_type (wpAny_newFunctionEnv L.nocell (by intro y hy; simp at hy) (fun h1 hns1 hsb1 => ?_) L.kind)
  dsimp only at hns1 hsb1 ⊢
  generalize hH2 : s2.heap.push { cls := .type "list", dict := none, data := .seq ([] : List Value).toArray } = G2 at hns1 hsb1 ⊢
  have hC : G2.objs.size = s2.heap.objs.size + 1 := by rw [← hH2, Heap.size_push]
  have hCle : s2.heap.objs.size ≤ G2.objs.size := by rw [hC]; exact Nat.le_succ _
  have hDC : s2.heap.objs.size ≠ G2.objs.size := by rw [hC]; exact Nat.ne_of_lt (Nat.lt_succ_self _)
  have old : ∀ b o, s2.heap.get? b = some o → h1.get? b = some o := fun b o e => hsb1.extBut b o (by rw [hC]; exact Nat.ne_of_lt (Nat.lt_succ_of_lt (Heap.lt_size e))) (Heap.get?_push_of_some _ (hH2 ▸ Heap.get?_push_of_some _ e))
  have hacc : h1.PlainList s2.heap.objs.size #[] := ⟨_, hsb1.extBut _ _ hDC (Heap.get?_push_of_some _ (hH2 ▸ Heap.get?_push_size _ rfl))⟩
  generalize hCe : G2.objs.size = C at *
  generalize hDe : s2.heap.objs.size = D at *
  have hDle : s2.heap.objs.size ≤ D := by rw [hDe]; exact Nat.le_refl _
  have hCle' : s2.heap.objs.size ≤ C := by rw [hDe]; exact hCle
  have fpD : ∀ b ∈ fp, b ≠ D := fun b hb z => by
    obtain ⟨o, e⟩ := ho2 b hb
    have := Heap.lt_size e
    rw [z, ← hDe] at this
    exact Nat.lt_irrefl _ this
  have fpC : ∀ b ∈ fp, b ≠ C := fun b hb z => by
    obtain ⟨o, e⟩ := ho2 b hb
    have := Nat.lt_of_lt_of_le (Heap.lt_size e) hCle'
    rw [z] at this
    exact Nat.lt_irrefl _ this
  have I3 : Inv (cxLc X (x :: ys) scope C s2 H2 fp) [] (none :: seenV σ js) H2 { s2 with heap := h1, toks := s2.toks + ([] : List (Str × Value)).length } := I2.block L f2 ho2 hCle' old hns1
  have cellD : ∀ y c, (cxLc X (x :: ys) scope C s2 H2 fp).env.cells.lookup y = some c → c ≠ D := fun y c e z => by
    obtain ⟨v, q⟩ := I2.cell y c (L.sub e).1
    have := q.lt
    rw [z, ← hDe] at this
    exact Nat.lt_irrefl _ this
  -- what stays true of the iterator's records through the block
  have stat : ∀ {H' : Hp} {pc : List (Addr × Obj)}, (∀ b ∈ fp, H' b = none) → (∀ p ∈ pc, p.1 = D) → ∀ b ∈ fp, FpOk (cxLc X (x :: ys) scope C s2 H2 fp) pc H' b := fun {H' pc} hn hp b hb =>
    ⟨hn b hb, fpC b hb, fun z => by
      rcases List.mem_cons.mp (I2.stkSub b z) with z | z
      · exact (f2 b hb).2.1 z
      · exact (f2 b hb).2.2.1 z, .inl hb, fun y c e => (f2 b hb).2.2.2.2.1 y c (L.sub e).1, fun p hq => by
      have hq' : p ∈ pc := hq
      rw [hp p hq']; exact Ne.symm (fpD b hb)⟩
  have loop : ∀ s3 : Shared, s3 = { s2 with heap := h1, toks := s2.toks + ([] : List (Str × Value)).length } →
      codeAny (model X.prog X.w) X.A (.compLoop (.ListComp elt [⟨.Name x px, iter, ifs, 0⟩] scope pos) 0 (.ref it) (.ref D) (compEnvC scope (clOf X.env scope.names []) C X.env))
        (compPost (model X.prog X.w) X.A X.xe none (EP X pins σ Q) (.ref D) C) s3 := by
    rintro s3 rfl
    refine compLoop_tests (fun n s' => ∃ i acc its H' k, Inv (cxLc X (x :: ys) scope C s2 H2 fp) [] (none :: seenV σ js) H' s' ∧ tn i s'.heap ∧ (∀ b ∈ fp, H' b = none) ∧ H' D = none ∧ s'.heap.get? D = some { cls := .type "list", data := .seq its k } ∧ Vals acc its.toList ∧ W i n acc H') ?_ m0 ?_
    · rintro n s4 ⟨i, acc, its, H4, k, I4, st4, fr4, hD4, ob4, rv4, w4⟩
      obtain ⟨hz, w4⟩ := turn i n acc H4 w4
      have I4' : Inv (cxLc X (x :: ys) scope C s2 H2 fp) [(D, { cls := .type "list", data := .seq its k })] (none :: seenV σ js) H4 s4 := I4.pins_of fun p hp => by
        have e : p = (D, { cls := .type "list", data := .seq its k }) := by simpa using hp
        subst e
        refine ⟨ob4, hD4, hDC, fun z => ?_, fun v z => (nomatch z)⟩
        obtain ⟨_, o, ho, _⟩ := I2.stack.mem (show D ∈ frs X.stack from z)
        have := Heap.lt_size ho
        rw [← hDe] at this
        exact Nat.lt_irrefl _ this
      have one : ∀ p ∈ ([(D, { cls := .type "list", data := .seq its k })] : List (Addr × Obj)), p.1 = D := fun p hp => by
        have e : p = (D, { cls := .type "list", data := .seq its k }) := by simpa using hp
        rw [e]
      rcases w4 with ⟨stop, qn⟩ | ⟨go, hlt, step⟩
      · refine thn (T.done (cxLc X (x :: ys) scope C s2 H2 fp) rfl rfl rfl hc i _ s4 _ H4 _ I4' (stat fr4 one) st4 stop) fun r s5 ⟨hr, I5⟩ => ?_
        subst hr
        obtain ⟨m, hn, _⟩ := I5.loc
        refine ⟨m, hn, fun h' sb => ⟨.ref D, _, ?_, rfl, qn D hD4⟩⟩
        exact I2.unblock (its := its.toList) f2 hDle hCle' hDC I5 hD4 rv4 hz (by
          have q := (I5.pin (D, { cls := .type "list", data := .seq its k }) (by simp)).1
          simpa using q) sb
      · refine thn (T.item (cxLc X (x :: ys) scope C s2 H2 fp) rfl rfl rfl hc i _ s4 _ H4 _ I4' (stat fr4 one) st4 go) fun r s5 ⟨u, hr, h5⟩ => ?_
        subst hr
        refine thn h5 fun _ s6 ⟨xv, H6, I6, r6, y6, st6, fr6⟩ => ?_
        have I6' := I6.pinned (stat fr6 one) (T.obj _ _ st6)
        have ownL : (cxLc X (x :: ys) scope C s2 H2 fp).env.scope.names.lookup x = some .local := lookup_relabel_local L.own
        have hg : PG (cxLc X (x :: ys) scope C s2 H2 fp) (.Name x px) (gName 0) := pg_name (i := 0) L.nd rfl (.inl ownL) (.inr ownL)
        refine wpAny_mono (hg _ s6 _ H6 xv u (fun σ2 H2' => σ2 = some xv :: seenV σ js ∧ H2' = H6) I6' r6 ⟨rfl, rfl⟩) (fun _ s7 ⟨σ7, H7, I7, e7, e7'⟩ => ?_) fun _ _ z => z.elim
        subst e7 e7'
        have q7 := step xv _ y6
        refine wpAny_mono ((ht C s2 H2 fp).run I7 q7) (fun ok s8 ⟨H8, I8, q8⟩ => ?_) fun _ _ z => z.elim
        -- the block's own names are forgotten behind a turn
        have hσ : ∀ {pc : List (Addr × Obj)} {Hc : Hp} {sc : Shared}, Inv (cxLc X (x :: ys) scope C s2 H2 fp) pc (some xv :: seenV σ js) Hc sc → Inv (cxLc X (x :: ys) scope C s2 H2 fp) pc (none :: seenV σ js) Hc sc := fun Ic => Ic.weak rfl fun i v e => by
          cases i with
          | zero => exact absurd e (by simp)
          | succ i => simpa using e
        have keepT : ∀ {Hc : Hp} {sc : Shared}, Inv (cxLc X (x :: ys) scope C s2 H2 fp) ([(D, { cls := .type "list", data := .seq its k })] ++ pinsAt fp s6.heap) (some xv :: seenV σ js) Hc sc → tn (i + 1) sc.heap ∧ (∀ b ∈ fp, Hc b = none) ∧ Hc D = none ∧ sc.heap.get? D = some { cls := .type "list", data := .seq its k } := fun {Hc sc} Ic => by
          refine ⟨T.keep _ _ _ st6 fun b hb o e => (Ic.pin (b, o) (List.mem_append_right _ (List.mem_append_right _ (mem_pinsAt hb e)))).1, fun b hb => ?_, (Ic.pin (D, { cls := .type "list", data := .seq its k }) (List.mem_append_right _ (List.mem_append_left _ List.mem_cons_self))).2.1, (Ic.pin (D, { cls := .type "list", data := .seq its k }) (List.mem_append_right _ (List.mem_append_left _ List.mem_cons_self))).1⟩
          obtain ⟨o, e, d⟩ := T.obj _ _ st6 b hb
          exact (Ic.pin (b, o) (List.mem_append_right _ (List.mem_append_right _ (mem_pinsAt hb e)))).2.1
        cases ok with
        | false =>
          obtain ⟨m', hm, w8⟩ := q8
          obtain ⟨a1, a2, a3, a4⟩ := keepT I8
          exact ⟨m', hm, i + 1, acc, its, H8, k, (hσ I8).pins_of (fun p hp => (nomatch hp)), a1, a2, a3, a4, rv4, w8⟩
        | true =>
          refine wpAny_mono (he C s2 H2 fp _ s8 _ H8 _ I8 q8) (fun ev s9 ⟨v9, H9, I9, r9, m', hm, w9⟩ => ?_) fun _ _ z => z.elim
          obtain ⟨a1, a2, a3, a4⟩ := keepT I9
          have hlen : its.size ≤ sizeLine := by
            have e1 := rv4.length
            have e2 : its.toList.length = its.size := by simp
            omega
          refine wpAny_list_append_plain (hsz := hlen) ⟨k, a4⟩ fun h10 pl sb => ?_
          obtain ⟨k', e10⟩ := pl
          have I10 : Inv (cxLc X (x :: ys) scope C s2 H2 fp) (pinsAt fp s6.heap) (none :: seenV σ js) H9 s9 := (hσ I9).pins_of fun p hp => I9.pin p (List.mem_append_right _ (List.mem_append_right _ hp))
          have I11 : Inv (cxLc X (x :: ys) scope C s2 H2 fp) (pinsAt fp s6.heap) (none :: seenV σ js) H9 { s9 with heap := h10 } :=
            I10.turned (t' := s9.toks) (it := D) (fun b o hb e => (sb.2 b hb).trans e) a3 hDC (.inr hDle) cellD fun p hp z => by
              have hp' : p ∈ pinsAt fp s6.heap := hp
              exact fpD p.1 (of_pinsAt hp').1 z
          refine ⟨m', hm, i + 1, acc ++ [v9], its.push ev, H9, k', I11.pins_of (fun p hp => (nomatch hp)), T.keep _ _ _ a1 (fun b hb o e => (sb.2 b (fpD b hb)).trans e), a2, a3, e10, ?_, w9⟩
          rw [Array.toList_push]
          exact rv4.append (.cons r9 .nil)
    · exact ⟨0, [], #[], H2, _, I3, T.keep _ _ _ st2 fun b hb o e => old b o e, fun b hb => (f2 b hb).1, I2.hok.fresh hDle, hacc.choose_spec, .nil, w0⟩
  exact codeAny_compStart_list (loop _ rfl) (T.self _ 0 _ _ _ (T.keep _ _ _ st2 fun b hb o e => old b o e) (loop _ rfl))
end L2

set_option Elab.async false
set_option linter.all false
set_option maxRecDepth 100000
set_option maxHeartbeats 4000000
/-! all, any, isinstance, == of data, join, a module's dict -/
namespace L2
open PySem PySem.Spec PyProof.Rows

/-! ### data: what a value reads as -/
mutual
def RdD (K : PySem.W.Frag) (H : Hp) : V → PyData → Prop
  | v, .none => v = .non
  | v, .bool b => v = .bl b
  | v, .int i => v = .int i
  | v, .str x => v = .str x ∧ PyData.strOk x = true
  | v, .list ds => ∃ a xs, v = .ref a ∧ SqL K H a xs ∧ RdDs K H xs ds
  | v, .tuple ds => ∃ a xs, v = .ref a ∧ SqT K H a xs ∧ RdDs K H xs ds
  | _, .dict _ => False
def RdDs (K : PySem.W.Frag) (H : Hp) : List V → List PyData → Prop
  | xs, [] => xs = []
  | xs, d :: ds => ∃ x r, xs = x :: r ∧ RdD K H x d ∧ RdDs K H r ds
end
section
variable {X : Cx} {pins : List (Addr × Obj)} {σ : St} {H : Hp} {s : Shared}
mutual
theorem RdD.reads (I : Inv X pins σ H s) : ∀ {v : V} {d : PyData} {u : Value}, RdD X.K H v d → RelV v u → ∃ as, Reads s.heap u d as
  | _, .none, _, h, r => by cases (show _ = _ from h); cases r; exact ⟨_, .none⟩
  | _, .bool b, _, h, r => by cases (show _ = _ from h); cases r; exact ⟨_, .bool b⟩
  | _, .int i, _, h, r => by cases (show _ = _ from h); obtain ⟨t, rfl⟩ := r; exact ⟨_, .int i t⟩
  | _, .str x, _, h, r => by cases h.1; obtain ⟨t, rfl⟩ := r; exact ⟨_, .str x t⟩
  | _, .list ds, _, h, r => by
    obtain ⟨a, xs, rfl, hq, hd⟩ := h
    cases r
    obtain ⟨its, rv, pl, _⟩ := I.list hq
    obtain ⟨as, ra⟩ := RdDs.reads I hd rv
    obtain ⟨o, n, e, c, _, dd⟩ := pl
    exact ⟨_, .list e c dd (by simpa using ra)⟩
  | _, .tuple ds, _, h, r => by
    obtain ⟨a, xs, rfl, hq, hd⟩ := h
    cases r
    obtain ⟨its, rv, pl, _⟩ := I.tuple hq
    obtain ⟨as, ra⟩ := RdDs.reads I hd rv
    obtain ⟨o, e, c, n, dd⟩ := pl
    exact ⟨_, .tuple e c dd (by simpa using ra)⟩
  | _, .dict _, _, h, _ => h.elim
theorem RdDs.reads (I : Inv X pins σ H s) : ∀ {xs : List V} {ds : List PyData} {us : List Value}, RdDs X.K H xs ds → Vals xs us → ∃ as, ReadsAll s.heap us ds as
  | _, [], _, h, r => by cases (show _ = _ from h); cases r; exact ⟨_, .nil⟩
  | _, d :: ds, _, h, r => by
    obtain ⟨x, rr, rfl, h1, h2⟩ := h
    cases r with
    | cons r1 r2 =>
      obtain ⟨as, a1⟩ := RdD.reads I h1 r1
      obtain ⟨bs, a2⟩ := RdDs.reads I h2 r2
      exact ⟨_, .cons a1 a2⟩
end
mutual
theorem RdD.lay : ∀ {v : V} {d : PyData}, RdD X.K H v d → d.canLay0 = true
  | _, .none, _ => rfl
  | _, .bool b, _ => rfl
  | _, .int i, _ => rfl
  | _, .str x, h => h.2
  | _, .list ds, h => by obtain ⟨a, xs, _, _, hd⟩ := h; exact RdDs.lay hd
  | _, .tuple ds, h => by obtain ⟨a, xs, _, _, hd⟩ := h; exact RdDs.lay hd
  | _, .dict _, h => h.elim
theorem RdDs.lay : ∀ {xs : List V} {ds : List PyData}, RdDs X.K H xs ds → PyData.canLayAll0 ds = true
  | _, [], _ => rfl
  | _, d :: ds, h => by
    obtain ⟨x, r, _, h1, h2⟩ := h
    show (d.canLay0 && PyData.canLayAll0 ds) = true
    rw [RdD.lay h1, RdDs.lay h2]
    rfl
end
/-- == and != of two data -/
def rEqD (K : PySem.W.Frag) (neg : Bool) : R2 := fun x y H Q => ∃ dx dy, RdD K H x dx ∧ RdD K H y dy ∧ dx.depth ≤ 60 ∧ Q (.bl (if neg then !PyData.eqv dx dy else PyData.eqv dx dy)) H
theorem op_eqD (hu : X.A.units + 64 < cLine) : OpR X (compareOp .Eq) (rEqD X.K false) := by
  intro pins s σ H x y v u Q I rx ry h
  obtain ⟨dx, dy, h1, h2, hd, q⟩ := h
  obtain ⟨as, r1⟩ := h1.reads I rx
  obtain ⟨bs, r2⟩ := h2.reads I ry
  exact SeqAt.compareEq_reads r1 r2 h1.lay h2.lay (by omega) ⟨.bl (PyData.eqv dx dy), H, I, rfl, q⟩
theorem op_neD (hu : X.A.units + 64 < cLine) : OpR X (compareOp .NotEq) (rEqD X.K true) := by
  intro pins s σ H x y v u Q I rx ry h
  obtain ⟨dx, dy, h1, h2, hd, q⟩ := h
  obtain ⟨as, r1⟩ := h1.reads I rx
  obtain ⟨bs, r2⟩ := h2.reads I ry
  exact SeqAt.compareNe_reads r1 r2 h1.lay h2.lay (by omega) ⟨.bl (!PyData.eqv dx dy), H, I, rfl, q⟩

/-! ### all, any over a list of truths -/
theorem range_all (bs : List Bool) : (List.range bs.length).all (fun i => (bs[i]?).getD false) = bs.all id := by
  rw [Bool.eq_iff_iff, List.all_eq_true, List.all_eq_true]
  constructor
  · intro h b hb
    obtain ⟨i, hi, rfl⟩ := List.mem_iff_getElem.mp hb
    have := h i (by simp [hi])
    simpa [hi] using this
  · intro h i hi
    have hi' : i < bs.length := by simpa using hi
    simpa [hi'] using h bs[i] (List.getElem_mem hi')
theorem range_any (bs : List Bool) : (List.range bs.length).any (fun i => (bs[i]?).getD false) = bs.any id := by
  rw [Bool.eq_iff_iff, List.any_eq_true, List.any_eq_true]
  constructor
  · rintro ⟨i, hi, h⟩
    have hi' : i < bs.length := by simpa using hi
    exact ⟨bs[i], List.getElem_mem hi', by simpa [hi'] using h⟩
  · rintro ⟨b, hb, h⟩
    obtain ⟨i, hi, rfl⟩ := List.mem_iff_getElem.mp hb
    exact ⟨i, by simp [hi], by simpa [hi] using h⟩
def rTruths (K : PySem.W.Frag) (f : List Bool → Bool) : List V → Hp → VK → Prop := fun xs H Q => ∃ p bs, xs = [V.ref p] ∧ SqL K H p (bs.map V.bl) ∧ Q (.bl (f bs)) H
theorem truths_of {bs : List Bool} : ∀ {its : List Value}, Vals (bs.map V.bl) its → its = bs.map Value.bool := by
  induction bs with
  | nil => intro its r; cases r; rfl
  | cons b r ih =>
    intro its h
    cases h with
    | cons h1 h2 => cases h1; rw [ih h2]; rfl
theorem truth_bools {prog : Program} {w : World} {A : Around} (bs : List Bool) : TruthOf prog w A (fun i v => (bs.map Value.bool).toArray[i]? = some v) (fun i => (bs[i]?).getD false) := by
  intro i v s Q E hP hQ
  have e : (bs[i]?).map Value.bool = some v := by simpa using hP
  cases q : bs[i]? with
  | none => rw [q] at e; cases e
  | some b =>
    rw [q] at e
    cases e
    have hQ' : Q ((bs[i]?).getD false) s := hQ
    rw [q] at hQ'
    exact wpAny_truthy_bool hQ'
theorem call_all (hc : X.calm = true) : CallR X (.builtin "all") (rTruths X.K fun bs => bs.all id) := by
  intro pins s σ H xs us Q I r h
  obtain ⟨p, bs, rfl, hq, q⟩ := h
  obtain ⟨u, rfl, ru⟩ := vals1 r
  cases ru
  obtain ⟨its, rv, pl, hz⟩ := I.list hq
  have ei := truths_of rv
  subst ei
  have hl := pl.isList
  have hp : p < s.heap.objs.size := let ⟨o, n, e, _⟩ := pl; Heap.lt_size e
  refine call_all_walk (wpAny_pyIter_list hl ?_)
  refine ⟨s.heap.objs.size, _, _, _, _, _, _, rfl, Walks.list (show X.A.in1.handled = none from I.ok.hd hc) s.heap.objs.size p (Nat.ne_of_lt hp) (bs.map Value.bool).toArray, ⟨⟨_, Heap.get?_push_size _ rfl, rfl, rfl⟩, hl.push _⟩, truth_bools bs, fun h' tk hk => ⟨.bl _, H, I.kept (fun b o e => hk b o (fun z => ?_) (Heap.get?_push_of_some _ e)), rfl, ?_⟩⟩
  · have z' : b = s.heap.objs.size := by simpa using z
    exact absurd (Heap.lt_size e) (by rw [z']; exact Nat.lt_irrefl _)
  · have e : (bs.map Value.bool).toArray.size = bs.length := by simp
    rw [e, range_all]
    exact q
theorem call_any (hc : X.calm = true) : CallR X (.builtin "any") (rTruths X.K fun bs => bs.any id) := by
  intro pins s σ H xs us Q I r h
  obtain ⟨p, bs, rfl, hq, q⟩ := h
  obtain ⟨u, rfl, ru⟩ := vals1 r
  cases ru
  obtain ⟨its, rv, pl, hz⟩ := I.list hq
  have ei := truths_of rv
  subst ei
  have hl := pl.isList
  have hp : p < s.heap.objs.size := let ⟨o, n, e, _⟩ := pl; Heap.lt_size e
  refine call_any_walk (wpAny_pyIter_list hl ?_)
  refine ⟨s.heap.objs.size, _, _, _, _, _, _, rfl, Walks.list (show X.A.in1.handled = none from I.ok.hd hc) s.heap.objs.size p (Nat.ne_of_lt hp) (bs.map Value.bool).toArray, ⟨⟨_, Heap.get?_push_size _ rfl, rfl, rfl⟩, hl.push _⟩, truth_bools bs, fun h' tk hk => ⟨.bl _, H, I.kept (fun b o e => hk b o (fun z => ?_) (Heap.get?_push_of_some _ e)), rfl, ?_⟩⟩
  · have z' : b = s.heap.objs.size := by simpa using z
    exact absurd (Heap.lt_size e) (by rw [z']; exact Nat.lt_irrefl _)
  · have e : (bs.map Value.bool).toArray.size = bs.length := by simp
    rw [e, range_any]
    exact q

/-! ### isinstance against a built-in class -/
def rIsi (K : PySem.W.Frag) : List V → Hp → VK → Prop := fun xs H Q => ∃ x n t b, xs = [x, V.ty n] ∧ TyOf K H x t ∧ PySem.W.kitOne K t (.type n) = some b ∧ Q (.bl b) H
theorem call_isi : CallR X (.builtin "isinstance") (rIsi X.K) := by
  intro pins s σ H xs us Q I r h
  obtain ⟨x, n, t, b, rfl, ty, e, q⟩ := h
  obtain ⟨u, w', rfl, ru, rw'⟩ := vals2 r
  cases (show w' = Value.type n from rw')
  exact isinst_ok I ru ty e fun tk => ⟨.bl b, H, I.tok tk, rfl, q⟩
theorem kit_same {K : PySem.W.Frag} (n : String) : PySem.W.kitOne K (.type n) (.type n) = some true := by
  unfold PySem.W.kitOne
  rw [if_pos (by simp)]

/-! ### join -/
theorem texts_are {ys : List Str} : ∀ {us : List Value}, Vals (ys.map V.str) us → StrsAre us ys := by
  induction ys with
  | nil => intro us r; cases r; exact .nil
  | cons y r ih =>
    intro us h
    cases h with
    | cons h1 h2 => obtain ⟨t, rfl⟩ := h1; exact .cons y t (ih h2)
def rJoin (K : PySem.W.Frag) : V → List V → Hp → VK → Prop := fun x vs H Q => ∃ sep p ys, x = .str sep ∧ vs = [.ref p] ∧ SqL K H p (ys.map V.str) ∧ (ys.map (·.length)).sum + ys.length * sep.length ≤ 16777216 ∧ Q (.str (Str.join sep ys)) H
theorem mt_join : MtR X "str.join" (rJoin X.K) := by
  intro pins s σ H x xs v us Q I rx r h
  obtain ⟨sep, p, ys, rfl, rfl, hq, hz, q⟩ := h
  obtain ⟨u, rfl, ru⟩ := vals1 r
  cases ru
  obtain ⟨t, rfl⟩ := rx
  obtain ⟨its, rv, pl, _⟩ := I.list hq
  refine join_list pl.isList (by simpa using texts_are rv) hz fun t' k => ⟨.str (Txt.join sep ys), H, I.tok k, ⟨t', rfl⟩, ?_⟩
  have e : Txt.join sep ys = Str.join sep ys := by
    have := join_closes (sep := sep) (sep' := sep) (ys := ys) rfl
    exact eq_of_beq this
  rw [e]
  exact q

/-! ### an item of a module's dict whose keys are texts -/
def rIxM (K : PySem.W.Frag) (P : Params) : R2 := fun x y H Q => ∃ a es n k v u, x = .ref a ∧ y = .str k ∧ K.lookup a = some ⟨.type "dict", none, .dict es n, #[]⟩ ∧ PySem.W.KeysLit P es.toList ∧ PySem.W.nsIn K a k = some (some u) ∧ RelV v u ∧ Q v H
theorem ix_mod : IxR X (rIxM X.K X.w.params) := by
  intro value slice pins s σ H x y v u Q I rx ry h hs
  obtain ⟨a, es, n, k, z, uz, rfl, rfl, lk, kl, ns, rz, q⟩ := h
  cases rx
  obtain ⟨t, rfl⟩ := ry
  obtain ⟨m, F⟩ := I.fr
  exact PySem.W.topItem_K F I.ok.mod.kin lk kl ns ⟨_, H, I.tok _, rz, q⟩ hs
end
end L2

set_option Elab.async false
set_option linter.all false
set_option maxRecDepth 100000
set_option maxHeartbeats 4000000
/-! reversed(text); rules by alternatives; callees in short -/
namespace L2
open PySem PySem.Spec PyProof.Rows

/-! ### reversed(text) -/
def Itv (x : Str) : It := ⟨fun i _ => i < x.cps.size, fun i H v H' => H' = H ∧ ∃ c, x.cps[x.cps.size - 1 - i]? = some c ∧ v = .str ⟨#[c]⟩, fun i _ => x.cps.size ≤ i⟩
theorem ItOn.rev {x : Str} : ItOn (Itv x) (sgV x).reverse (fun _ => True) :=
  ⟨fun i H _ hi => by rw [List.length_reverse, sgV_length] at hi; exact hi, fun i H v H' _ hi y => by
    obtain ⟨e, c, hc, rfl⟩ := y
    refine ⟨e, ?_⟩
    rw [List.length_reverse] at hi
    rw [List.getElem?_reverse hi, sgV_length]
    unfold sgV
    rw [List.getElem?_map, Array.getElem?_toList, hc]
    rfl, fun i H _ hi => by rw [List.length_reverse, sgV_length] at hi; exact hi⟩
theorem turn_rev {P : Program} {w : World} {K : PySem.W.Frag} {tg : Expr} (it : Addr) (x : Str) (t : Tok) (hx : x.length ≤ sizeLine) :
    Turn P w K tg (Itv x) [it] it (fun i h => i ≤ x.cps.size ∧ h.IsRevStr it x t ((x.cps.size : Int) - 1 - (i : Int))) where
  mem := by simp
  obj := fun i h st b hb => by
    have e : b = it := by simpa using hb
    subst e
    obtain ⟨_, o, e, c, d⟩ := st
    exact ⟨o, e, fun v z => by rw [d] at z; cases z⟩
  keep := fun i h h' st k => let ⟨l, o, e, c, d⟩ := st; ⟨l, o, k it (by simp) o e, c, d⟩
  item := by
    intro X hP hw hK hc i pins s σ H E I hf st hg
    subst hP hw hK
    obtain ⟨f0, f1, f2, f3, f4, f5⟩ := hf it (by simp)
    have hlt : i < x.cps.size := hg
    obtain ⟨_, st⟩ := st
    have e : (x.cps.size : Int) - 1 - (i : Int) = ((x.cps.size - 1 - i : Nat) : Int) := by omega
    rw [e] at st
    have hx2 : x.cps[x.cps.size - 1 - i]? = some (x.cps[x.cps.size - 1 - i]'(by omega)) := Array.getElem?_eq_getElem (by omega)
    refine next_rev_item hx st hx2 fun h' tk tk' st' sb => ?_
    have I1 : Inv X pins σ H { s with heap := h', toks := tk } := I.turned (fun b o hb e => (sb.2 b hb).trans e) f0 f1 f3 f4 f5
    have e2 : ((x.cps.size - 1 - i : Nat) : Int) - 1 = (x.cps.size : Int) - 1 - ((i + 1 : Nat) : Int) := by omega
    rw [e2] at st'
    obtain ⟨o, eo, c, d⟩ := id st'
    exact ⟨_, rfl, go_of (s := { s with heap := h', toks := tk }) eo c d (by decide) ⟨.str ⟨#[_]⟩, H, I1, ⟨_, rfl⟩, ⟨rfl, _, hx2, rfl⟩, ⟨hlt, st'⟩, fun b hb => (hf b hb).1⟩⟩
  done := by
    intro X hP hw hK hc i pins s σ H E I hf st hg
    subst hP hw hK
    obtain ⟨f0, f1, f2, f3, f4, f5⟩ := hf it (by simp)
    have hle : x.cps.size ≤ i := hg
    obtain ⟨hi, st⟩ := st
    have e : (x.cps.size : Int) - 1 - (i : Int) = -1 := by omega
    rw [e] at st
    exact next_rev_end (I.ok.hd hc) st fun h' eb => ⟨rfl, I.turned (t' := s.toks) (fun b o hb e => eb b o hb e) f0 f1 f3 f4 f5⟩
  self := fun _ _ _ _ _ st h => iter_rev st.2 h
def iRev (ta : TA) : TI := fun σ H R => ta σ H fun vs H1 => ∃ x, vs = [.str x] ∧ x.length ≤ sizeLine ∧ R (Itv x) H1
theorem pi_rev {X : Cx} {tg a : Expr} {ta : TA} {p pos : Pos} (hg : Gl X "reversed") (hm : X.mg "reversed" = none) (ha : PA X [a] ta) (hs : starEach [a] X.env = [(false, eval a X.env)] := by rfl) : PI X tg (.Call (.Name "reversed" p) [a] [] pos) (iRev ta) := by
  intro pins s σ H R I h
  refine Call_ (ld_blt I hg hm boot_reversed (PyProof.Rows.callWith_type1 (thn (ha pos pins s σ H _ I h) fun us s1 ⟨vs, H1, I1, r1, q1⟩ => ?_) hs rfl))
  obtain ⟨x, e, hx, q⟩ := q1
  subst e
  obtain ⟨u, rfl, ru⟩ := vals1 r1
  obtain ⟨t, rfl⟩ := ru
  refine call_rev_str hx fun tk => ?_
  have st : ({ s1 with heap := s1.heap.push { cls := .type "reversed", data := .fields #[.str x t, rawInt ((x.length : Int) - 1)] }, toks := tk } : Shared).heap.IsRevStr s1.heap.objs.size x t ((x.length : Int) - 1) := ⟨_, Heap.get?_push_size _ rfl, rfl, rfl⟩
  refine iter_rev st ?_
  refine ⟨s1.heap.objs.size, [s1.heap.objs.size], _, _, H1, rfl, I1.kept (t' := tk) fun b o e => Heap.get?_push_of_some _ e, turn_rev _ x t hx, ⟨Nat.zero_le _, ?_⟩, fun b hb => ?_, q⟩
  · have e : (x.cps.size : Int) - 1 - ((0 : Nat) : Int) = (x.length : Int) - 1 := by show (x.cps.size : Int) - 1 - ((0 : Nat) : Int) = (x.cps.size : Int) - 1; omega
    rw [e]; exact st
  · have e : b = s1.heap.objs.size := by simpa using hb
    subst e
    exact I1.fpOk (Nat.le_refl _) (I1.hok.fresh (Nat.le_refl _))

/-! ### a block's scope, over written scopes alone -/
structure LcS (os scope : Scope) (x : Str) (ys : List Str) : Prop where
  kind : scope.kind = .function
  nocell : ∀ y ∈ scope.names, y.2 ≠ .cell
  locs : ∀ y ∈ scope.names, y.2 = .local → scope.names.lookup y.1 = some .local
  own : scope.names.lookup x = some .local
  seen : ∀ y ∈ ys, scope.names.lookup y = some .free
  out : ∀ y ∈ scope.names, y.2 = .free → os.names.lookup y.1 = some .cell ∨ os.names.lookup y.1 = some .free
  nd : (x :: ys).Nodup
theorem LcS.to {X : Cx} {os scope : Scope} {x : Str} {ys : List Str} {js : List Nat} (h : LcS os scope x ys) (e : X.env.scope = os) (p : js.map (fun j => X.N[j]?) = ys.map some) : LcScope X scope x ys js :=
  ⟨h.kind, h.nocell, h.locs, h.own, h.seen, fun y hy hf => by
    have q := h.out y hy hf
    rw [← e] at q
    exact q, p, h.nd⟩

/-! ### a list made by a comprehension whose element leaves the heap as it is -/
theorem lc_on {J : It} {xs : List V} {Ok : Hp → Prop} (hJ : ItOn J xs Ok) {tc : TT} {te : TE} {js : List Nat} {σ : St} {H : Hp} {Q : VK} (f : V → V) (hok : Ok H) (hz : xs.length ≤ sizeLine)
    (he : ∀ (i : Nat) x Q', xs[i]? = some x → Q' (f x) H → tc (some x :: seenV σ js) H fun b H3 => if b = true then te (some x :: seenV σ js) H3 Q' else False)
    (mono : ∀ σ' H' (R R' : Bool → Hp → Prop), (∀ b h, R b h → R' b h) → tc σ' H' R → tc σ' H' R')
    (q : ∀ p, H p = none → Q (.ref p) (upd H p (.lst (xs.map f)))) : LcW J tc te js σ Q H := by
  refine ⟨fun i m acc H' => H' = H ∧ i ≤ xs.length ∧ m = xs.length - i ∧ acc = (xs.take i).map f, ⟨xs.length, rfl, Nat.zero_le _, by simp, by simp⟩, ?_⟩
  rintro i m acc H' ⟨rfl, hi, rfl, rfl⟩
  have hlen : ((xs.take i).map f).length = i := by simp; omega
  refine ⟨by omega, ?_⟩
  by_cases hlt : i < xs.length
  · refine .inr ⟨hJ.go i _ hok hlt, by omega, fun x H'' y => ?_⟩
    obtain ⟨e, hx⟩ := hJ.yld i _ x H'' hok hlt y
    subst e
    refine mono _ _ _ _ (fun b h z => ?_) (he i x (fun v H4 => ∃ m', m' < xs.length - i ∧ (H4 = H'' ∧ i + 1 ≤ xs.length ∧ m' = xs.length - (i + 1) ∧ (xs.take i).map f ++ [v] = (xs.take (i + 1)).map f)) hx ⟨xs.length - (i + 1), by omega, rfl, hlt, rfl, ?_⟩)
    · cases b with
      | true => exact z
      | false => exact z.elim
    · have e : xs.take (i + 1) = xs.take i ++ [x] := by
        rw [List.take_add_one, hx]
        rfl
      rw [e, List.map_append]
      rfl
  · have e : i = xs.length := by omega
    subst e
    refine .inl ⟨hJ.stop _ _ hok (Nat.le_refl _), fun p hp => ?_⟩
    rw [List.take_length]
    exact q p hp

/-- the same without a test -/
theorem lc_y {J : It} {xs : List V} {Ok : Hp → Prop} (hJ : ItOn J xs Ok) {te : TE} {js : List Nat} {σ : St} {H : Hp} {Q : VK} (f : V → V) (hok : Ok H) (hz : xs.length ≤ sizeLine)
    (he : ∀ (i : Nat) x Q', xs[i]? = some x → Q' (f x) H → te (some x :: seenV σ js) H Q') (q : ∀ p, H p = none → Q (.ref p) (upd H p (.lst (xs.map f)))) : LcW J tYes te js σ Q H :=
  lc_on hJ f hok hz (fun i x Q' hx hq => by
    show if true = true then te (some x :: seenV σ js) H Q' else False
    rw [if_pos rfl]
    exact he i x Q' hx hq) (fun _ _ _ _ hR z => hR _ _ z) q

/-! ### the names of built-ins -/
theorem bt_int : bootBuiltins "int" = some (.type "int") := by decide +kernel
theorem bt_str : bootBuiltins "str" = some (.type "str") := by decide +kernel
theorem bt_bool : bootBuiltins "bool" = some (.type "bool") := by decide +kernel
theorem bt_tuple : bootBuiltins "tuple" = some (.type "tuple") := by decide +kernel
theorem bt_list : bootBuiltins "list" = some (.type "list") := by decide +kernel
theorem bt_len : bootBuiltins "len" = some (.builtin "len") := by decide +kernel
theorem bt_all : bootBuiltins "all" = some (.builtin "all") := by decide +kernel
theorem bt_any : bootBuiltins "any" = some (.builtin "any") := by decide +kernel
theorem bt_isinstance : bootBuiltins "isinstance" = some (.builtin "isinstance") := by decide +kernel
theorem bt_abs : bootBuiltins "abs" = some (.builtin "abs") := by decide +kernel

/-! ### operators by alternatives -/
section
variable {X : Cx}
def rAddS : R2 := fun x y H Q => ∃ i j, x = .str i ∧ y = .str j ∧ i.length + j.length ≤ sizeLine ∧ Q (.str (i ++ j)) H
def rPlus : R2 := fun x y H Q => rI0 (fun i j => .int (i + j)) x y H Q ∨ rAddS x y H Q
theorem op_plus : OpR X (binaryOp .Add) rPlus := OpR.or op_add op_add_str
def rEqq (K : PySem.W.Frag) : R2 := fun x y H Q => rEq x y H Q ∨ rEqD K false x y H Q
theorem op_eqq (hu : X.A.units + 64 < cLine) : OpR X (compareOp .Eq) (rEqq X.K) := OpR.or op_eq (op_eqD hu)
def rNee (K : PySem.W.Frag) : R2 := fun x y H Q => rNe x y H Q ∨ rEqD K true x y H Q
theorem op_nee (hu : X.A.units + 64 < cLine) : OpR X (compareOp .NotEq) (rNee X.K) := OpR.or op_ne (op_neD hu)
def rInS : R2 := fun x y H Q => ∃ i j, x = .str i ∧ y = .str j ∧ Q (.bl (!(Builtin.Str.occurrences j i 0 j.length 1).isEmpty)) H
def rNotInS : R2 := fun x y H Q => ∃ i j, x = .str i ∧ y = .str j ∧ Q (.bl (!(!(Builtin.Str.occurrences j i 0 j.length 1).isEmpty))) H
def rInn (K : PySem.W.Frag) : R2 := fun x y H Q => rIn K false x y H Q ∨ rInS x y H Q
theorem op_inn : OpR X (compareOp .In) (rInn X.K) := OpR.or op_in_seq op_in_str
def rNotInn (K : PySem.W.Frag) : R2 := fun x y H Q => rIn K true x y H Q ∨ rNotInS x y H Q
theorem op_notinn : OpR X (compareOp .NotIn) (rNotInn X.K) := OpR.or op_notIn_seq op_notIn_str
def rIxA (K : PySem.W.Frag) (P : Params) : R2 := fun x y H Q => rIx K x y H Q ∨ rIxM K P x y H Q
theorem ix_any : IxR X (rIxA X.K X.w.params) := IxR.or ix_seq ix_mod
end

/-! ### the same with the written part named: within a block's element the reading may not hang on the block -/
section
variable {X : Cx} {K : PySem.W.Frag} {Pm : Params}
theorem op_eqqK (hu : X.A.units + 64 < cLine) (e : X.K = K) : OpR X (compareOp .Eq) (rEqq K) := e ▸ op_eqq hu
theorem op_neeK (hu : X.A.units + 64 < cLine) (e : X.K = K) : OpR X (compareOp .NotEq) (rNee K) := e ▸ op_nee hu
theorem op_innK (e : X.K = K) : OpR X (compareOp .In) (rInn K) := e ▸ op_inn
theorem op_notinnK (e : X.K = K) : OpR X (compareOp .NotIn) (rNotInn K) := e ▸ op_notinn
theorem ix_anyK (e : X.K = K) (e2 : X.w.params = Pm) : IxR X (rIxA K Pm) := e ▸ e2 ▸ ix_any
theorem call_isiK (e : X.K = K) : CallR X (.builtin "isinstance") (rIsi K) := e ▸ call_isi
def rLen (K : PySem.W.Frag) : List V → Hp → VK → Prop := fun xs H Q => ∃ x n, xs = [x] ∧ LenV K x H n ∧ Q (.int n) H
theorem call_lenK (e : X.K = K) : CallR X (.builtin "len") (rLen K) := e ▸ call_len
theorem call_allK (hc : X.calm = true) (e : X.K = K) : CallR X (.builtin "all") (rTruths K fun bs => bs.all id) := e ▸ call_all hc
theorem call_anyK (hc : X.calm = true) (e : X.K = K) : CallR X (.builtin "any") (rTruths K fun bs => bs.any id) := e ▸ call_any hc
end

/-! ### a callee in short -/
structure Callee (P : Program) (w : World) (K : PySem.W.Frag) (mg : Str → Option Value) (base : Heap) (k : Nat) (x : Str) (ps : List Str) (sp : Sp) : Prop where
  ex : ∃ f fd, FnOk P w K mg base CX0 k f fd ps sp ∧ mg x = some (.ref f) ∧ PySem.W.keepIn K (.ref f) = true ∧ Binds K fd ps []
theorem Callee.mono {P : Program} {w : World} {K : PySem.W.Frag} {mg : Str → Option Value} {base : Heap} {j k : Nat} {x : Str} {ps : List Str} {sp : Sp} (c : Callee P w K mg base j x ps sp) (h : j ≤ k) : Callee P w K mg base k x ps sp := by
  obtain ⟨f, fd, F, m, kp, b⟩ := c.ex
  exact ⟨f, fd, F.mono h, m, kp, b⟩
theorem pe_calls {X : Cx} {k : Nat} {x : Str} {ps : List Str} {sp : Sp} {e : Expr} {es : List Expr} {t : TA} {p pos : Pos} (c : Callee X.prog X.w X.K X.mg X.base k x ps sp) (hr : Room k X.A) (hg : Gl X x) (ha : PA X (e :: es) t)
    (hdb : (x == ("__debug__" : Str)) = false := by decide) (he : starEach (e :: es) X.env = (false, eval e X.env) :: starEach es X.env := by rfl) (hpl : (backTo pos (starEach es X.env)).any (·.1) = false := by rfl) :
    PE X (.Call (.Name x p) (e :: es) [] pos) (tCall sp [] E0 t) := by
  obtain ⟨f, fd, F, m, kp, b⟩ := c.ex
  exact pe_call F hr hg m kp b .nil (fun _ _ _ _ _ _ _ h => h.elim) ha hdb he hpl
theorem callee_of {P : Program} {w : World} {K : PySem.W.Frag} {mg : Str → Option Value} {base : Heap} {k : Nat} {x qual : Str} {st : Stmt} {f : Addr} {fd : FuncData} {ps : List Str} {sp : Sp} (F : Fun K x qual st f fd) (G : FnOk P w K mg base CX0 k f fd ps sp) (m : mg x = some (.ref f))
    (h : ∀ (kV doc pm : Value) (an : Option Addr) (cdv ct : Value) (us : List Value), us.length = ps.length → bindArgs (PySem.W.fnOf x qual (defArgs st) (defBody st) (defScope st) .none kV doc pm an cdv ct) ⟨us, []⟩ = pure (ps.zip us)) : Callee P w K mg base k x ps sp :=
  ⟨f, fd, G, m, F.kp, F.binds h⟩
end L2

set_option Elab.async false
set_option linter.all false
set_option maxRecDepth 100000
set_option maxHeartbeats 4000000
/-! an exception of an own class: raised, left, caught -/
namespace L2
open PySem PySem.Spec PyProof.Rows

section
variable {M : Model} {A : Around} {E : Value → Shared → Prop} {s : Shared} {env : Env} {outer : List Env} {base : Heap} {L e : Addr} {oe : Obj} {vs : Array Value}

end
end L2

namespace L2
open PySem PySem.Spec PyProof.Rows
section
variable {CX : CXT} {P : Program} {w : World} {K : PySem.W.Frag} {mg : Str → Option Value} {base : Heap} {N : List Str} {qual : Str} {scope : Scope} {f : Addr} {cd : Value} {A : Around} {outer : List Env} {s s1 : Shared} {H H1 : Hp} {E : XK}
  {pins : List (Addr × Obj)} {σ : St} {e : Addr} {C : Value} {T0 : Option Addr}
/-! ### raise C(..), C a class of the text over ValueError -/
end
end L2

set_option Elab.async false
set_option linter.all false
set_option maxRecDepth 100000
set_option maxHeartbeats 4000000
namespace L2
open PySem PySem.Spec PyProof.Rows
section
variable {P : Program} {w : World} {K : PySem.W.Frag} {mg : Str → Option Value} {base : Heap} {N : List Str} {qual : Str} {scope : Scope} {f : Addr} {cd : Value} {A : Around} {outer : List Env} {s : Shared} {H : Hp} {E : XK}
end

/-! ### try, except -/
section
variable {X : Cx} {pins : List (Addr × Obj)} {σ : St} {H : Hp} {s : Shared}
end
end L2

set_option Elab.async false
set_option linter.all false
set_option maxRecDepth 100000
set_option maxHeartbeats 4000000
namespace L2
open PySem PySem.Spec PyProof.Rows

/-! ### __class__ of a caught exception of an own class -/
section
variable {prog : Program} {w : World} {A : Around} {E : Value → Shared → Prop} {s : Shared} {K : PySem.W.Frag} {x C : Addr} {ox : Obj} {tk : Tok}
end

/-! isinstance(error, own class) -/
section
variable {X : Cx}
end
end L2

/-! ### any in a handler's suite: the end of the list is told by an exception that is chained to the one at hand -/
namespace L2
open PySem PySem.Spec PyProof.Rows
section
variable {prog : Program} {w : World} {A : Around} {E : Value → Shared → Prop} {s : Shared}
end
end L2

set_option Elab.async false
set_option linter.all false
set_option maxRecDepth 100000
set_option maxHeartbeats 4000000
/-! slices of texts, index; callees that may raise -/
namespace L2
open PySem PySem.Spec PyProof.Rows
def rSlS : V → Option Int → Option Int → Hp → VK → Prop := fun x lo hi H Q => ∃ y, x = .str y ∧ y.length ≤ sizeLine ∧ Q (.str (Txt.slice y lo hi)) H
theorem part_of {v : Value} {o : Option Int} (h : IsPart v o) : ∃ l : Option (Int × Tok), v = partValue l ∧ l.map (·.1) = o := by
  cases h with
  | none => exact ⟨none, rfl, rfl⟩
  | int i t => exact ⟨some (i, t), rfl, rfl⟩
theorem sl_str {X : Cx} : SlR X rSlS := by
  intro pins s σ H x v vl vu lo hi sl Q I rx hs pl pu h
  obtain ⟨y, rfl, hz, q⟩ := h
  obtain ⟨t, rfl⟩ := rx
  obtain ⟨l, rfl, rfl⟩ := part_of pl
  obtain ⟨u, rfl, rfl⟩ := part_of pu
  obtain ⟨o, ho, hc, hd⟩ := hs
  refine ⟨"str", _, F.slot_str_getitem.lookup, typeIs_str _ _ _, wpAny_getItem_str_slice (l := l) (u := u) (st := none) ⟨o, ho, hc, hd⟩ rfl ?_⟩
  exact post_val_or_str ⟨Nat.le_trans (Txt.slice_le y _ _) hz, fun t' k => ⟨.str (Txt.slice y (l.map (·.1)) (u.map (·.1))), H, I.tok k, ⟨t', rfl⟩, q⟩⟩
def rSl (K : PySem.W.Frag) : V → Option Int → Option Int → Hp → VK → Prop := fun x lo hi H Q => rSlS x lo hi H Q ∨ rSlL K x lo hi H Q
theorem sl_any {X : Cx} {K : PySem.W.Frag} (e : X.K = K) : SlR X (rSl K) := e ▸ SlR.or sl_str sl_list

/-! ### the letters of a slice -/
open Builtin Builtin.Str in
theorem cut_hi (l : Option Int) {b len : Nat} (h : len ≤ b) : strSliceIndices l (some (b : Int)) 1 len = strSliceIndices l (some (len : Int)) 1 len := by
  have a : ¬ ((len : Int) < 0) := by omega
  have c : ¬ ((b : Int) < 0) := by omega
  have e : min (b : Int) (len : Int) = min (len : Int) (len : Int) := by omega
  simp only [strSliceIndices, a, c, if_false, e, show ((1 : Int) > 0) = True from by simp, if_true]
theorem cut_mid (x : Str) {a m : Nat} (ha : a ≤ x.length) : Txt.slice x (some (a : Int)) (some ((a : Int) + (m : Int))) = ⟨((x.cps.toList.drop a).take m).toArray⟩ := by
  have e0 : (a : Int) + (m : Int) = ((a + m : Nat) : Int) := by omega
  rw [e0]
  by_cases h : a + m ≤ x.length
  · have z := StrLaws.sliceText_nat x (a := a) (b := a + m) (by omega) h
    rw [show a + m - a = m by omega] at z
    exact z
  · have z := StrLaws.sliceText_nat x (a := a) (b := x.length) ha (Nat.le_refl _)
    have e : Txt.slice x (some (a : Int)) (some ((a + m : Nat) : Int)) = Txt.slice x (some (a : Int)) (some (x.length : Int)) := by
      unfold Txt.slice
      rw [cut_hi _ (show x.length ≤ a + m by omega)]
    rw [e]
    refine Eq.trans z ?_
    have l : (x.cps.toList.drop a).length ≤ x.length - a := by rw [List.length_drop]; show x.cps.toList.length - a ≤ x.cps.size - a; rw [Array.length_toList]; exact Nat.le_refl _
    rw [List.take_of_length_le l, List.take_of_length_le (Nat.le_trans l (by omega))]
theorem cut_to (x : Str) {a : Nat} (ha : a ≤ x.length) : Txt.slice x none (some (a : Int)) = ⟨(x.cps.toList.take a).toArray⟩ := by
  have z := StrLaws.sliceText_nat x (a := 0) (b := a) (Nat.zero_le _) ha
  have e : Txt.slice x none (some (a : Int)) = Txt.slice x (some ((0 : Nat) : Int)) (some (a : Int)) := by
    unfold Txt.slice
    rw [StrLaws.sliceIdx_none_lo]
    rfl
  rw [e]
  exact z
theorem cut_from (x : Str) {a : Nat} (ha : a ≤ x.length) : Txt.slice x (some (a : Int)) none = ⟨(x.cps.toList.drop a).toArray⟩ := by
  have z := StrLaws.sliceText_nat x (a := a) (b := x.length) ha (Nat.le_refl _)
  have e : Txt.slice x (some (a : Int)) none = Txt.slice x (some (a : Int)) (some (x.length : Int)) := by
    unfold Txt.slice
    rw [StrLaws.sliceIdx_none_hi]
  rw [e]
  refine Eq.trans z ?_
  have l : (x.cps.toList.drop a).length ≤ x.length - a := by rw [List.length_drop]; show x.cps.toList.length - a ≤ x.cps.size - a; rw [Array.length_toList]; exact Nat.le_refl _
  rw [List.take_of_length_le l]

/-! ### index of a text -/
/-! ### a callee that may raise -/
end L2
namespace L2
open PySem PySem.Spec PyProof.Rows
end L2
namespace L2
open PySem PySem.Spec PyProof.Rows
end L2

set_option Elab.async false
set_option linter.all false
set_option maxRecDepth 100000
set_option maxHeartbeats 4000000
/-! is True, is not True; a text some times -/
namespace L2
open PySem PySem.Spec PyProof.Rows
section
variable {X : Cx}
def rIsB (neg : Bool) : R2 := fun x y H Q => ∃ c d, x = .bl c ∧ y = .bl d ∧ Q (.bl (if neg = true then c != d else c == d)) H
theorem op_isntB : OpR X (compareOp .IsNot) (rIsB true) := by
  intro pins s σ H x y v u Q I rx ry h
  obtain ⟨c, d, rfl, rfl, q⟩ := h
  cases rx
  cases ry
  exact isnot_bool ⟨.bl (c != d), H, I, rfl, q⟩
def rIsN (neg : Bool) : R2 := fun x y H Q => y = .non ∧ Q (.bl (if neg = true then !decide (x = .non) else decide (x = .non))) H
theorem op_isntA : OpR X (compareOp .IsNot) (fun x y H Q => rIsN true x y H Q ∨ rIsB true x y H Q) := OpR.or op_notN op_isntB
end
end L2

set_option Elab.async false
set_option linter.all false
set_option maxRecDepth 100000
set_option maxHeartbeats 4000000
/-! range with a step -/
namespace L2
open PySem PySem.Spec PyProof.Rows
section
variable {X : Cx} {tg : Expr}
end
end L2

set_option Elab.async false
set_option linter.all false
set_option maxRecDepth 100000
set_option maxHeartbeats 4000000
/-! reversed(list), division of large numbers, lists joined, own classes -/
namespace L2
open PySem PySem.Spec PyProof.Rows
/-! ### reversed(list), the list left as it is -/
def Itvl (K : PySem.W.Frag) (a : Addr) (n : Nat) : It :=
  ⟨fun i H => i < n ∧ ∃ xs, SqL K H a xs ∧ xs.length = n, fun i H v H' => H' = H ∧ ∀ xs, SqL K H a xs → xs.length = n → xs[n - 1 - i]? = some v, fun i _ => n ≤ i⟩
theorem ItOn.revl {K : PySem.W.Frag} {a : Addr} {xs : List V} : ItOn (Itvl K a xs.length) xs.reverse (fun H => SqL K H a xs) :=
  ⟨fun i H h hi => ⟨by simpa using hi, xs, h, rfl⟩, fun i H v H' h hi y => ⟨y.1, by
    rw [List.length_reverse] at hi
    rw [List.getElem?_reverse hi]
    exact y.2 xs h rfl⟩, fun i H h hi => by rw [List.length_reverse] at hi; exact hi⟩
theorem turn_revl {P : Program} {w : World} {K : PySem.W.Frag} {tg : Expr} (a it : Addr) (n : Nat) :
    Turn P w K tg (Itvl K a n) [it] it (fun i h => i ≤ n ∧ h.IsRevIter it a ((n : Int) - 1 - (i : Int))) where
  mem := by simp
  obj := fun i h st b hb => by
    have e : b = it := by simpa using hb
    subst e
    obtain ⟨_, o, e, c, d⟩ := st
    exact ⟨o, e, fun v z => by rw [d] at z; cases z⟩
  keep := fun i h h' st k => ⟨st.1, st.2.at fun o e => k it (by simp) o e⟩
  item := by
    intro X hP hw hK hc i pins s σ H E I hf st hg
    subst hP hw hK
    obtain ⟨hlt, xs, hq, hn⟩ := hg
    obtain ⟨its, rv, p, hz⟩ := I.list hq
    have hl := rv.length
    have hx : xs[n - 1 - i]? = some (xs[n - 1 - i]'(by omega)) := List.getElem?_eq_getElem (by omega)
    obtain ⟨u, hu, ru⟩ := rv.get hx
    obtain ⟨f0, f1, f2, f3, f4, f5⟩ := hf it (by simp)
    obtain ⟨_, st⟩ := st
    have e : (n : Int) - 1 - (i : Int) = ((n - 1 - i : Nat) : Int) := by omega
    rw [e] at st
    refine wpAny_pyNext_rev_item st p.isList (x := u) (by simpa using hu) fun h' st' sb => ?_
    have e2 : ((n - 1 - i : Nat) : Int) - 1 = (n : Int) - 1 - ((i + 1 : Nat) : Int) := by omega
    rw [e2] at st'
    have I1 : Inv X pins σ H { s with heap := h' } := I.turned (t' := s.toks) (fun b o hb e => (sb.2 b hb).trans e) f0 f1 f3 f4 f5
    obtain ⟨o, eo, c, d⟩ := id st'
    exact ⟨u, rfl, go_of (s := { s with heap := h' }) eo c d (by decide) ⟨_, H, I1, ru, ⟨rfl, fun ys hy hyn => by rw [I.list_inj hy hq]; exact hx⟩, ⟨hlt, st'⟩, fun b hb => (hf b hb).1⟩⟩
  done := by
    intro X hP hw hK hc i pins s σ H E I hf st hg
    subst hP hw hK
    obtain ⟨f0, f1, f2, f3, f4, f5⟩ := hf it (by simp)
    have hle : n ≤ i := hg
    obtain ⟨hi, st⟩ := st
    have e : (n : Int) - 1 - (i : Int) = -1 := by omega
    rw [e] at st
    exact wpAny_pyNext_rev_end (I.ok.hd hc) st fun h' eb => ⟨rfl, I.turned (t' := s.toks) (fun b o hb e => eb b o hb e) f0 f1 f3 f4 f5⟩
  self := fun _ _ _ _ _ st h => wpAny_pyIter_revIter st.2 h
def iRevL (K : PySem.W.Frag) (ta : TA) : TI := fun σ H R => ta σ H fun vs H1 => ∃ a xs, vs = [.ref a] ∧ SqL K H1 a xs ∧ R (Itvl K a xs.length) H1
theorem pi_revl {X : Cx} {tg a : Expr} {ta : TA} {p pos : Pos} (hg : Gl X "reversed") (hm : X.mg "reversed" = none) (ha : PA X [a] ta) (hs : starEach [a] X.env = [(false, eval a X.env)] := by rfl) : PI X tg (.Call (.Name "reversed" p) [a] [] pos) (iRevL X.K ta) := by
  intro pins s σ H R I h
  refine Call_ (ld_blt I hg hm boot_reversed (PyProof.Rows.callWith_type1 (thn (ha pos pins s σ H _ I h) fun us s1 ⟨vs, H1, I1, r1, q1⟩ => ?_) hs rfl))
  obtain ⟨l, xs, e, hx, q⟩ := q1
  subst e
  obtain ⟨u, rfl, ru⟩ := vals1 r1
  cases ru
  obtain ⟨its, rv, pl, hz⟩ := I1.list hx
  have hl := rv.length
  refine call_reversed_list pl.isList ?_
  have hsz : its.toArray.size = xs.length := by rw [List.size_toArray]; exact hl.symm
  rw [hsz]
  have st : ({ s1 with heap := s1.heap.push (revObj l ((xs.length : Int) - 1)) } : Shared).heap.IsRevIter s1.heap.objs.size l ((xs.length : Int) - 1) := ⟨_, Heap.get?_push_size _ rfl, rfl, rfl⟩
  refine wpAny_pyIter_revIter st ?_
  refine ⟨s1.heap.objs.size, [s1.heap.objs.size], _, _, H1, rfl, I1.kept (t' := s1.toks) fun b o e => Heap.get?_push_of_some _ e, turn_revl l _ xs.length, ⟨Nat.zero_le _, ?_⟩, fun b hb => ?_, q⟩
  · have e : (xs.length : Int) - 1 - ((0 : Nat) : Int) = (xs.length : Int) - 1 := by omega
    rw [e]; exact st
  · have e : b = s1.heap.objs.size := by simpa using hb
    subst e
    exact I1.fpOk (Nat.le_refl _) (I1.hok.fresh (Nat.le_refl _))
section
variable {X : Cx}
/-! ### // of numbers of any size that occurs -/
def CDivL (_ j : Int) : Prop := 0 < j ∧ j.natAbs.log2 < 9000
theorem op_fdivL : OpR X (binaryOp .FloorDiv) (rI CDivL fun i j => .int (i / j)) := opI fun i j _ _ _ _ _ hc q => by
  refine floordiv_int (by have := hc.1; omega) ?_ (.inl (PyProof.noPylong_of_log2 hc.2))
  rw [Int.fdiv_eq_ediv_of_nonneg _ (by have := hc.1; omega)]
  exact q
/-! ### + also of lists -/
/-! ### isinstance, also of own classes -/
def rIsiA (K : PySem.W.Frag) : List V → Hp → VK → Prop := fun xs H Q => rIsi K xs H Q ∨ ∃ x C t b, xs = [x, V.ref C] ∧ TyOf K H x t ∧ PySem.W.kitOne K t (.ref C) = some b ∧ Q (.bl b) H
theorem call_isiA : CallR X (.builtin "isinstance") (rIsiA X.K) := by
  intro pins s σ H xs us Q I r h
  rcases h with h | ⟨x, C, t, b, rfl, ty, e, q⟩
  · exact call_isi pins s σ H xs us Q I r h
  obtain ⟨u, w', rfl, ru, rw'⟩ := vals2 r
  cases (show w' = Value.ref C from rw')
  exact isinst_ok I ru ty e fun tk => ⟨.bl b, H, I.tok tk, rfl, q⟩
theorem call_isiAK {K : PySem.W.Frag} (e : X.K = K) : CallR X (.builtin "isinstance") (rIsiA K) := e ▸ call_isiA
theorem PE.or {e : Expr} {t t' : TE} (h : PE X e t) (h' : PE X e t') : PE X e (fun σ H Q => t σ H Q ∨ t' σ H Q) := fun pins s σ H Q I q => by
  rcases q with q | q
  · exact h pins s σ H Q I q
  · exact h' pins s σ H Q I q
/-- an own class as an object is asked by -/
structure KCls (K : PySem.W.Frag) (C : Addr) : Prop where
  cl : Cls K C
  ha : PySem.W.findIn K (.ref C) "__class__" = some (some (.builtin "object.__class__"))
  hn : PySem.W.specialIn K (.builtin "object.__class__") "__get__" = some (some (.builtin "getset_descriptor.__get__"))
  htk : PySem.W.takesIn K (.builtin "object.__class__") = some true
  hm : PySem.W.mroIn K C (.type "object") = some true
theorem KCls.ty {K : PySem.W.Frag} {C : Addr} (c : KCls K C) {H : Hp} {a dx : Addr} {fs : List (Str × V)} (e : H a = some (.ins C dx fs)) : TyOf K H (.ref a) (.ref C) := .ins e c.cl c.ha c.hn c.htk c.hm
end
/-- C(..) in short -/
structure Maker (P : Program) (w : World) (K : PySem.W.Frag) (mg : Str → Option Value) (base : Heap) (k : Nat) (x : Str) (C : Addr) (ps : List Str) (sp : Sp) : Prop where
  ex : ∃ f fd, Mk K C f ∧ FnOk P w K mg base CX0 k f fd ps sp ∧ mg x = some (.ref C) ∧ Binds K fd ps []
theorem Maker.mono {P : Program} {w : World} {K : PySem.W.Frag} {mg : Str → Option Value} {base : Heap} {j k : Nat} {x : Str} {C : Addr} {ps : List Str} {sp : Sp} (c : Maker P w K mg base j x C ps sp) (h : j ≤ k) : Maker P w K mg base k x C ps sp := by
  obtain ⟨f, fd, M, F, m, b⟩ := c.ex
  exact ⟨f, fd, M, F.mono h, m, b⟩
theorem pe_makes {X : Cx} {k : Nat} {x : Str} {C : Addr} {ps : List Str} {sp : Sp} {e : Expr} {es : List Expr} {t : TA} {p pos : Pos} (c : Maker X.prog X.w X.K X.mg X.base k x C ps sp) (hr : Room (k + 1) X.A) (hg : Gl X x) (ha : PA X (e :: es) t)
    (hdb : (x == ("__debug__" : Str)) = false := by decide) (he : starEach (e :: es) X.env = (false, eval e X.env) :: starEach es X.env := by rfl) (hpl : (backTo pos (starEach es X.env)).any (·.1) = false := by rfl) :
    PE X (.Call (.Name x p) (e :: es) [] pos) (tMake C sp [] E0 t) := by
  obtain ⟨f, fd, M, F, m, b⟩ := c.ex
  exact pe_make M F hr hg m b .nil (fun _ _ _ _ _ _ _ h => h.elim) ha hdb he hpl
/-- o.m(..) in short -/
structure Method (P : Program) (w : World) (K : PySem.W.Frag) (mg : Str → Option Value) (base : Heap) (k : Nat) (C : Addr) (m : Str) (ps : List Str) (sp : Sp) : Prop where
  ex : ∃ f fd, Meth K C m f ∧ FnOk P w K mg base CX0 k f fd ps sp ∧ Binds K fd ps []
theorem Method.mono {P : Program} {w : World} {K : PySem.W.Frag} {mg : Str → Option Value} {base : Heap} {j k : Nat} {C : Addr} {m : Str} {ps : List Str} {sp : Sp} (c : Method P w K mg base j C m ps sp) (h : j ≤ k) : Method P w K mg base k C m ps sp := by
  obtain ⟨f, fd, M, F, b⟩ := c.ex
  exact ⟨f, fd, M, F.mono h, b⟩
theorem pe_meths {X : Cx} {pl : Sem Bool} {k : Nat} {C : Addr} {m : Str} {ps : List Str} {sp : Sp} {o e : Expr} {es : List Expr} {ta : TE} {t : TA} {pos apos : Pos} (he : PE X o ta) (c : Cls X.K C) (hm : Method X.prog X.w X.K X.mg X.base k C m ps sp) (hr : Room k X.A) (ha : PA X (e :: es) t)
    (hst : starEach (e :: es) X.env = (false, eval e X.env) :: starEach es X.env := by rfl) (hpl : (backTo pos (starEach es X.env)).any (·.1) = false := by rfl)
    (ht : eval (.Call (.Attribute o m apos) (e :: es) [] pos) X.env = (do
      let ov ← eval o X.env
      standAt apos.atName
      let (f, first) ← holding [ov] (getMethod ov m pl)
      callWith pos f first (backTo pos (starEach (e :: es) X.env)) (backToKw pos (keywordEach [] X.env))) := by rfl) :
    PE X (.Call (.Attribute o m apos) (e :: es) [] pos) (tMeth C m sp [] E0 ta t) := by
  obtain ⟨f, fd, M, F, b⟩ := hm.ex
  exact pe_meth (pl := pl) he c M F hr b .nil (fun _ _ _ _ _ _ _ h => h.elim) ha hst hpl ht
theorem maker_of {P : Program} {w : World} {K : PySem.W.Frag} {mg : Str → Option Value} {base : Heap} {k : Nat} {x nm qual : Str} {C : Addr} {st : Stmt} {f : Addr} {fd : FuncData} {ps : List Str} {sp : Sp} (M : Mk K C f) (F : Fun K nm qual st f fd) (G : FnOk P w K mg base CX0 k f fd ps sp) (m : mg x = some (.ref C))
    (h : ∀ (kV doc pm : Value) (an : Option Addr) (cdv ct : Value) (us : List Value), us.length = ps.length → bindArgs (PySem.W.fnOf nm qual (defArgs st) (defBody st) (defScope st) .none kV doc pm an cdv ct) ⟨us, []⟩ = pure (ps.zip us)) : Maker P w K mg base k x C ps sp :=
  ⟨f, fd, M, G, m, F.binds h⟩
theorem method_of {P : Program} {w : World} {K : PySem.W.Frag} {mg : Str → Option Value} {base : Heap} {k : Nat} {nm qual : Str} {C : Addr} {st : Stmt} {f : Addr} {fd : FuncData} {ps : List Str} {sp : Sp} (M : Meth K C nm f) (F : Fun K nm qual st f fd) (G : FnOk P w K mg base CX0 k f fd ps sp)
    (h : ∀ (kV doc pm : Value) (an : Option Addr) (cdv ct : Value) (us : List Value), us.length = ps.length → bindArgs (PySem.W.fnOf nm qual (defArgs st) (defBody st) (defScope st) .none kV doc pm an cdv ct) ⟨us, []⟩ = pure (ps.zip us)) : Method P w K mg base k C nm ps sp :=
  ⟨f, fd, M, G, F.binds h⟩
end L2
namespace L2
open PySem PySem.Spec PyProof.Rows
/-! ### readings that keep what they are asked for -/
end L2

set_option Elab.async false
set_option linter.all false
set_option maxRecDepth 100000
set_option maxHeartbeats 4000000
/-! comprehensions by the place, with a test, that make new things -/
namespace L2
open PySem PySem.Spec PyProof.Rows
def keepI (b : Nat → Bool) (f : Nat → V) (n : Nat) : List V := (List.range n).filterMap fun i => if b i = true then some (f i) else none
theorem keepI_succ (b : Nat → Bool) (f : Nat → V) (n : Nat) : keepI b f (n + 1) = if b n = true then keepI b f n ++ [f n] else keepI b f n := by
  unfold keepI
  rw [List.range_succ, List.filterMap_append]
  by_cases h : b n = true
  · simp [h]
  · simp [h]
theorem keepI_len (b : Nat → Bool) (f : Nat → V) (n : Nat) : (keepI b f n).length ≤ n := by
  unfold keepI
  have := List.length_filterMap_le (fun i => if b i = true then some (f i) else none) (List.range n)
  rw [List.length_range] at this
  exact this
theorem keepI_all (f : Nat → V) (n : Nat) : keepI (fun _ => true) f n = (List.range n).map f := by
  induction n with
  | zero => rfl
  | succ n ih => rw [keepI_succ, if_pos rfl, ih, List.range_succ, List.map_append]; rfl
theorem lc_gen {J : It} {xs : List V} {Ok : Hp → Prop} (hJ : ItOn J xs Ok) {tc : TT} {te : TE} {js : List Nat} {σ : St} {H : Hp} {Q : VK} (b : Nat → Bool) (f : Nat → V) (hok : ∀ H', Same H H' → Ok H') (hz : xs.length ≤ sizeLine)
    (ht : ∀ (i : Nat) x H' (R : Bool → Hp → Prop), xs[i]? = some x → Same H H' → (∀ H'', Same H' H'' → R (b i) H'') → tc (some x :: seenV σ js) H' R)
    (he : ∀ (i : Nat) x H' Q', xs[i]? = some x → b i = true → Same H H' → (∀ H'', Same H' H'' → Q' (f i) H'') → te (some x :: seenV σ js) H' Q')
    (q : ∀ H' p, Same H H' → H' p = none → Q (.ref p) (upd H' p (.lst (keepI b f xs.length)))) : LcW J tc te js σ Q H := by
  refine ⟨fun i m acc H' => Same H H' ∧ i ≤ xs.length ∧ m = xs.length - i ∧ acc = keepI b f i, ⟨xs.length, Same.refl _, Nat.zero_le _, by simp, rfl⟩, ?_⟩
  rintro i m acc H' ⟨hs, hi, rfl, rfl⟩
  have hlen := keepI_len b f i
  refine ⟨by omega, ?_⟩
  by_cases hlt : i < xs.length
  · refine .inr ⟨hJ.go i _ (hok _ hs) hlt, by omega, fun x H'' y => ?_⟩
    obtain ⟨e, hx⟩ := hJ.yld i _ x H'' (hok _ hs) hlt y
    subst e
    refine ht i x H'' _ hx hs fun H3 s3 => ?_
    by_cases hb : b i = true
    · rw [if_pos hb]
      refine he i x H3 _ hx hb (hs.trans s3) fun H4 s4 => ⟨xs.length - (i + 1), by omega, (hs.trans s3).trans s4, hlt, rfl, ?_⟩
      rw [keepI_succ, if_pos hb]
    · rw [if_neg hb]
      refine ⟨xs.length - (i + 1), by omega, hs.trans s3, hlt, rfl, ?_⟩
      rw [keepI_succ, if_neg hb]
  · have e : i = xs.length := by omega
    subst e
    exact .inl ⟨hJ.stop _ _ (hok _ hs) (Nat.le_refl _), fun p hp => q H' p hs hp⟩
/-- without a test -/
theorem lc_growI {J : It} {xs : List V} {Ok : Hp → Prop} (hJ : ItOn J xs Ok) {te : TE} {js : List Nat} {σ : St} {H : Hp} {Q : VK} (f : Nat → V) (hok : ∀ H', Same H H' → Ok H') (hz : xs.length ≤ sizeLine)
    (he : ∀ (i : Nat) x H' Q', xs[i]? = some x → Same H H' → (∀ H'', Same H' H'' → Q' (f i) H'') → te (some x :: seenV σ js) H' Q')
    (q : ∀ H' p, Same H H' → H' p = none → Q (.ref p) (upd H' p (.lst ((List.range xs.length).map f)))) : LcW J tYes te js σ Q H :=
  lc_gen hJ (fun _ => true) f hok hz (fun i x H' R hx hs hr => hr _ (Same.refl _)) (fun i x H' Q' hx _ hs hq => he i x H' Q' hx hs hq) (fun H' p hs hp => by rw [keepI_all]; exact q H' p hs hp)
end L2

set_option Elab.async false
set_option linter.all false
set_option maxRecDepth 100000
set_option maxHeartbeats 4000000
/-! a pair turned round by [::-1]; a short text many times -/
namespace HT
open PySem PySem.Spec PyProof.Rows
section
variable {prog : Program} {w : World} {A : Around} {E : Value → Shared → Prop} {s : Shared}
end
end HT
namespace L2
open PySem PySem.Spec PyProof.Rows
section
variable {X : Cx} {e st : Expr} {te ts : TE} {pos p2 : Pos}
end
end L2
namespace L2
open PySem PySem.Spec PyProof.Rows
/-! ### a cut between two statements -/
end L2
namespace L2
open PySem PySem.Spec PyProof.Rows
section
variable {X : Cx} {K : PySem.W.Frag}
theorem ix_tupK (e : X.K = K) : IxR X (rIxT K) := e ▸ ix_tup
theorem op_neDK (hu : X.A.units + 64 < cLine) (e : X.K = K) : OpR X (compareOp .NotEq) (rEqD K true) := e ▸ op_neD hu
end
end L2

set_option Elab.async false
set_option linter.all false
set_option maxRecDepth 100000
set_option maxHeartbeats 4000000
/-! a list made by a comprehension and given a name at once: the name is stored ahead of the block's own ones going -/
namespace L2
open PySem PySem.Spec PyProof.Rows
end L2

set_option Elab.async false
set_option linter.all false
set_option maxRecDepth 100000
set_option maxHeartbeats 4000000
/-! in a module's dict; find; lists that are changed by a callee -/
namespace L2
open PySem PySem.Spec PyProof.Rows
section
variable {X : Cx}
def rInM (K : PySem.W.Frag) (P : Params) (neg : Bool) : R2 := fun x y H Q => ∃ a es n k r, y = .ref a ∧ x = .str k ∧ K.lookup a = some ⟨.type "dict", none, .dict es n, #[]⟩ ∧ PySem.W.KeysLit P es.toList ∧ PySem.W.nsIn K a k = some r ∧ (a == sysModules) = false ∧
  Q (.bl (if neg = true then !r.isSome else r.isSome)) H
theorem op_inM : OpR X (compareOp .In) (rInM X.K X.w.params false) := by
  intro pins s σ H x y v u Q I rx ry h
  obtain ⟨a, es, n, k, r, rfl, rfl, lk, kl, ns, lo, q⟩ := h
  cases ry
  obtain ⟨t, rfl⟩ := rx
  obtain ⟨m, F⟩ := I.fr
  exact PySem.W.topIn_K F I.ok.mod.kin lk kl ns lo ⟨.bl r.isSome, H, I.tok _, rfl, q⟩
theorem op_inMK {K : PySem.W.Frag} {Pm : Params} (e : X.K = K) (e2 : X.w.params = Pm) : OpR X (compareOp .In) (rInM K Pm false) := e ▸ e2 ▸ op_inM
end
/-- all is as it was but the two lists -/
def But (l m : Addr) (H H' : Hp) : Prop := ∀ b o, b ≠ l → b ≠ m → H b = some o → H' b = some o
theorem But.refl (l m : Addr) (H : Hp) : But l m H H := fun _ _ _ _ h => h
theorem But.trans {l m : Addr} {H H1 H2 : Hp} (a : But l m H H1) (b : But l m H1 H2) : But l m H H2 := fun c o h1 h2 h => b c o h1 h2 (a c o h1 h2 h)
theorem But.updL {l m : Addr} {H H' : Hp} {o : HO} (a : But l m H H') : But l m H (upd H' l o) := fun c u h1 h2 h => by rw [upd_ne h1]; exact a c u h1 h2 h
theorem But.updM {l m : Addr} {H H' : Hp} {o : HO} (a : But l m H H') : But l m H (upd H' m o) := fun c u h1 h2 h => by rw [upd_ne h2]; exact a c u h1 h2 h
theorem But.same {l m : Addr} {H H1 H2 : Hp} (a : But l m H H1) (b : Same H1 H2) : But l m H H2 := fun c o h1 h2 h => b c o (a c o h1 h2 h)
theorem But.out {l m : Addr} {H0 H H' : Hp} (a : But l m H H') (s : Same H0 H) (hl : H0 l = none) (hm : H0 m = none) : Same H0 H' := fun c o h => a c o (ne_of_none h hl) (ne_of_none h hm) (s c o h)
end L2

set_option Elab.async false
set_option linter.all false
set_option maxRecDepth 100000
set_option maxHeartbeats 4000000
/-! texts with their tokens: what replace asks for -/
namespace L2
open PySem PySem.Spec PyProof.Rows
open Builtin Builtin.Str
theorem gives_repl1 (x y z : Str) (t u v k : Tok) (h0 : (u == 0 || v == 0) = false) (hyz : (y == z) = false) (hl : tooLong (x.length + (occurrences x y 0 x.length 1).length * z.length) = false) :
    Gives («str.replace» ⟨[.str x t, .str y u, .str z v, .int 1 k], []⟩) (if ((occurrences x y 0 x.length 1).isEmpty || (y.length == 0 && z.length == 0)) = true ∨ u = v then .val (.str x t) else .str (glued z (partsBetween x (occurrences x y 0 x.length 1) y.length))) := by
  show Gives (if ((occurrences x y 0 x.length 1).isEmpty || (y.length == 0 && z.length == 0)) = true then (do rule "str.replace.nothing"; ret (.str x t)) else
          (do let same ← isSame (.str y u) (.str z v)
              if same = true then (do rule "str.replace.old-is-new"; ret (.str x t)) else
              if tooLong (x.length + (occurrences x y 0 x.length 1).length * z.length) = true then unsupported "str.replace:memory" else
              retStr (glued z (partsBetween x (occurrences x y 0 x.length 1) y.length)))) _
  cases hc : ((occurrences x y 0 x.length 1).isEmpty || (y.length == 0 && z.length == 0))
  · by_cases huv : u = v
    · have e : isSame (.str y u) (.str z v) = pure true := by
        subst huv
        show isSame.created (y == z) u u = pure true
        unfold isSame.created
        rw [if_neg (by rw [h0]; decide), if_pos (by simp)]
      rw [e, if_pos (Or.inr huv)]
      exact .rule (.of_eq rfl)
    · have no : ¬ (false = true ∨ u = v) := fun h => Or.elim h Bool.false_ne_true huv
      rw [isSame_str_other y z u v h0 (by simpa using huv) hyz, hl, if_neg no]
      exact .of_eq rfl
  · rw [if_pos (Or.inl rfl)]
    exact .rule (.of_eq rfl)
section
variable {X : Cx} {a b e : Expr} {es : List Expr} {ta tb te : TE} {t : TA} {pos : Pos}
/-- text.replace(old, new, 1): the text as it is, or the first one gone over -/
def rRepl : V → List V → Hp → VK → Prop := fun x vs H Q => ∃ w y u z v, x = .str w ∧ vs = [.stk y u, .stk z v, .int 1] ∧ (y == z) = false ∧ w.length ≤ 100000 ∧ z.length ≤ 10 ∧
  Q (.str w) H ∧ Q (.str (glued z (partsBetween w (occurrences w y 0 w.length 1) y.length))) H
theorem mt_repl : MtR X "str.replace" rRepl := by
  intro pins s σ H x xs v us Q I rx r h
  obtain ⟨w, y, u, z, k, rfl, rfl, hyz, hw, hz, q1, q2⟩ := h
  obtain ⟨tx, rfl⟩ := rx
  cases r with
  | cons r1 r =>
    cases r with
    | cons r2 r =>
      cases r with
      | cons r3 r =>
        cases r
        obtain ⟨rfl, hu⟩ := r1
        obtain ⟨rfl, hv⟩ := r2
        obtain ⟨ti, rfl⟩ := r3
        have hlen := StrLaws.occ_length_le w y 0 w.length 1
        have hl : tooLong (w.length + (occurrences w y 0 w.length 1).length * z.length) = false := by
          have h2 : (occurrences w y 0 w.length 1).length * z.length ≤ 1 * z.length := Nat.mul_le_mul_right _ hlen
          have e : (2 : Nat) ^ 24 = 16777216 := by decide
          unfold tooLong sizeLine
          exact decide_eq_false (by omega)
        refine call_gives F.slot_str_replace (typeIs_str _ _ _) F.entry_str_replace (F.args_str_replace_4 _ _ _ _) (gives_repl1 w y z tx u k ti (by simp [hu, hv]) hyz hl) ?_
        by_cases c : ((occurrences w y 0 w.length 1).isEmpty || (y.length == 0 && z.length == 0)) = true ∨ u = k
        · rw [if_pos c]
          exact ⟨.str w, H, I, ⟨_, rfl⟩, q1⟩
        · rw [if_neg c]
          refine ⟨?_, .str _, H, I.tok _, ⟨_, rfl⟩, q2⟩
          show (glued z (partsBetween w (occurrences w y 0 w.length 1) y.length)).length ≤ sizeLine
          have hy : (glued y (partsBetween w (occurrences w y 0 w.length 1) y.length)).length = w.length := by rw [StrLaws.glued_between_self]
          rw [size_glued, length_partsBetween, Nat.add_sub_cancel] at hy
          rw [size_glued, length_partsBetween, Nat.add_sub_cancel, sizeLine_eq]
          have h2 : (occurrences w y 0 w.length 1).length * z.length ≤ 1 * z.length := Nat.mul_le_mul_right _ hlen
          omega
/-! ### rules under 'tokens are given out' (toks is not 0), and rules behind which they are -/
def PEa (X : Cx) (e : Expr) (t : TE) : Prop :=
  ∀ (pins : List (Addr × Obj)) (s : Shared) (σ : St) (H : Hp) (Q : VK), 1 ≤ s.toks → Inv X pins σ H s → t σ H Q → wpAny (model X.prog X.w) X.A (eval e X.env) (EP X pins σ Q) X.xe s
def PEp (X : Cx) (e : Expr) (t : TE) : Prop :=
  ∀ (pins : List (Addr × Obj)) (s : Shared) (σ : St) (H : Hp) (Q : VK), Inv X pins σ H s → t σ H Q → wpAny (model X.prog X.w) X.A (eval e X.env) (fun u s' => 1 ≤ s'.toks ∧ EP X pins σ Q u s') X.xe s
def PAa (X : Cx) (es : List Expr) (t : TA) : Prop :=
  ∀ (pos : Pos) (pins : List (Addr × Obj)) (s : Shared) (σ : St) (H : Hp) (Q : List V → Hp → Prop), 1 ≤ s.toks → Inv X pins σ H s → t σ H Q → wpAny (model X.prog X.w) X.A (spliced (backTo pos (starEach es X.env))) (AP X pins σ Q) X.xe s
def PTp (X : Cx) (e : Expr) (t : TT) : Prop :=
  ∀ (pins : List (Addr × Obj)) (s : Shared) (σ : St) (H : Hp) (Q : Bool → Hp → Prop), Inv X pins σ H s → t σ H Q → wpAny (model X.prog X.w) X.A (isTrue e X.env (eval e X.env)) (fun b s' => 1 ≤ s'.toks ∧ TP X pins σ Q b s') X.xe s
def PSa (X : Cx) (st : Stmt) (t : TS) : Prop :=
  ∀ (pins : List (Addr × Obj)) (s : Shared) (σ : St) (H : Hp) (D : Ends), 1 ≤ s.toks → Inv X pins σ H s → t D σ H → wpAny (model X.prog X.w) X.A (exec st X.env) (SP X pins D) X.xe s
def PSsa (X : Cx) (st : List Stmt) (t : TS) : Prop :=
  ∀ (pins : List (Addr × Obj)) (s : Shared) (σ : St) (H : Hp) (D : Ends), 1 ≤ s.toks → Inv X pins σ H s → t D σ H → wpAny (model X.prog X.w) X.A (execs st X.env) (SP X pins D) X.xe s
theorem pea_of (h : PE X e te) : PEa X e te := fun pins s σ H Q _ I q => h pins s σ H Q I q
theorem tkp {α : Type} {M : Model} {A : Around} {c : Sem α} {Q : α → Shared → Prop} {E : Value → Shared → Prop} {s : Shared} (h : 1 ≤ s.toks) (w : wpAny M A c Q E s) : wpAny M A c (fun a s' => 1 ≤ s'.toks ∧ Q a s') E s := wpAny_mono (wpAny_toks_of h w) (fun _ _ x => x) (fun _ _ x => x.2)
def tStk (x : Str) : TE := fun _ H Q => ∀ t, t ≠ 0 → Q (.stk x t) H
theorem pea_stk {x : Str} {j p} : PEa X (.Constant (.str x) j p) (tStk x) := fun pins s σ H Q hs I h => Calls.Constant_str ⟨.stk x s.toks, H, I.tok _, ⟨rfl, Nat.ne_of_gt hs⟩, h _ (Nat.ne_of_gt hs)⟩
theorem paa_nil : PAa X [] tNil := fun pos pins s σ H Q _ I h => pa_nil pos pins s σ H Q I h
theorem paa_cons (ha : PEa X e te) (hr : PAa X es t) (hs : starEach (e :: es) X.env = (false, eval e X.env) :: starEach es X.env := by rfl) : PAa X (e :: es) (tCons te t) := by
  intro pos pins s σ H Q hk I h
  rw [hs]
  show wpAny _ _ (spliced ((false, eval e X.env) :: backTo pos (starEach es X.env))) _ _ s
  refine Calls.spliced_cons (thn (tkp hk (ha pins s σ H _ hk I h)) fun u s1 ⟨k1, x, H1, I1, r1, q1⟩ => ?_)
  exact thn (hr pos pins s1 σ H1 _ k1 I1 q1) fun us s2 ⟨xs, H2, I2, r2, q2⟩ => ⟨x :: xs, H2, I2, .cons r1 r2, q2⟩
theorem pea_tup {x1} (h : PAa X es t) : PEa X (.Tuple es x1 pos) (tTup t) := by
  intro pins s σ H Q hk I hq
  refine wpAny_Tuple_spliced (thn (h pos pins s σ H _ hk I hq) fun us s1 ⟨xs, H1, I1, r, z, q⟩ => ⟨by rw [← r.length]; exact z, ?_⟩)
  have hf : H1 s1.heap.objs.size = none := I1.hok.fresh (Nat.le_refl _)
  refine ⟨.ref s1.heap.objs.size, upd H1 s1.heap.objs.size (.tup xs), I1.laid (t' := s1.toks) (fun b u e => Heap.get?_push_of_some _ e) (Nat.le_refl _) ?_, rfl, q _ hf⟩
  exact ⟨z, us, r, ⟨_, Heap.get?_push_size _ rfl, rfl, _, rfl⟩⟩
theorem pea_ix {r : R2} (hr : IxR X r) (ha : PEa X a ta) (hb : PE X b tb) (hs : PlainIx b) : PEa X (.Subscript a b pos) (tOp r ta tb) := by
  intro pins s σ H Q hk I h
  refine Subscript_ (thn (ha pins s σ H _ hk I h) fun v s1 ⟨x, H1, I1, r1, q1⟩ => thn (hb pins s1 σ H1 _ I1 q1) fun u s2 ⟨y, H2, I2, r2, q2⟩ => ?_)
  exact hr a b pins s2 σ H2 x y v u Q I2 r1 r2 q2 (hs _ _)
theorem pep_strix {r : R2} {x : Str} {j p} (hr : IxR X r) (hb : PE X b tb) (hs : PlainIx b) : PEp X (.Subscript (.Constant (.str x) j p) b pos) (tOp r (tC (.str x)) tb) := by
  intro pins s σ H Q I h
  refine Subscript_ (Calls.Constant_str ?_)
  have h1 : 1 ≤ ({ s with toks := s.toks + 1 } : Shared).toks := by show 1 ≤ s.toks + 1; omega
  refine thn (tkp h1 (hb pins _ σ H _ (I.tok _) h)) fun u s2 ⟨k2, y, H2, I2, r2, q2⟩ => ?_
  exact tkp k2 (hr _ b pins s2 σ H2 (.str x) y _ u Q I2 ⟨_, rfl⟩ r2 q2 (hs _ _))
theorem pa_two (h1 : PEp X a ta) (h2 : PEa X b tb) (hs : starEach [a, b] X.env = (false, eval a X.env) :: starEach [b] X.env := by rfl) (hs2 : starEach [b] X.env = (false, eval b X.env) :: starEach [] X.env := by rfl) : PA X [a, b] (tCons ta (tCons tb tNil)) := by
  intro ps pins s σ H Q I h
  rw [hs]
  show wpAny _ _ (spliced ((false, eval a X.env) :: backTo ps (starEach [b] X.env))) _ _ s
  refine Calls.spliced_cons (thn (h1 pins s σ H _ I h) fun u s1 ⟨k1, x, H1, I1, r1, q1⟩ => ?_)
  exact thn (paa_cons h2 paa_nil hs2 ps pins s1 σ H1 _ k1 I1 q1) fun us s2 ⟨xs, H2, I2, r2, q2⟩ => ⟨x :: xs, H2, I2, .cons r1 r2, q2⟩
theorem pep_opI {op : Operator} {r : R2} {i : Int} {j p} (ho : OpR X (binaryOp op) r) (ha : PE X a ta) : PEp X (.BinOp a op (.Constant (.int i) j p) pos) (tOp r ta (tC (.int i))) := by
  intro pins s σ H Q I h
  refine wpAny_BinOp (thn (ha pins s σ H _ I h) fun v s1 ⟨x, H1, I1, r1, q1⟩ => wpAny_Constant_int ?_)
  exact tkp (by show 1 ≤ s1.toks + 1; omega) (ho pins _ σ H1 x (.int i) v _ Q (I1.tok _) r1 ⟨_, rfl⟩ q1)
theorem ptp_cmp {op : CmpOp} {r : R2} (ho : OpR X (compareOp op) r) (ha : PEp X a ta) (hb : PE X b tb) (hm : behindInMarks op b = false) : PTp X (.Compare a [op] [b] pos) (tTest (tOp r ta tb)) := by
  intro pins s σ H Q I h
  refine wpAny_isTrue_Compare1 (thn (ha pins s σ H _ I h) fun v s1 ⟨k1, x, H1, I1, r1, q1⟩ => thn (tkp k1 (hb pins s1 σ H1 _ I1 q1)) fun u s2 ⟨k2, y, H2, I2, r2, q2⟩ =>
    thn (tkp k2 (ho pins s2 σ H2 x y v u _ I2 r1 r2 q2)) fun d s3 ⟨k3, z, H3, I3, r3, k, e, q3⟩ => ?_) hm
  subst e
  cases r3
  exact wpAny_truthy_bool ⟨k3, H3, I3, q3⟩
theorem ptp_and {rest : List Expr} {tA tB' : TT} (ha : PTp X a tA) (hb : PW X (.BoolOp .And (b :: rest) pos) tB') : PTp X (.BoolOp .And (a :: b :: rest) pos) (tAnd tA tB') := by
  intro pins s σ H Q I h
  refine isTrue_and (thn (ha pins s σ H _ I h) fun c s1 ⟨k1, H1, I1, q1⟩ => ?_)
  cases c with
  | true => exact tkp k1 (hb _ pins s1 σ H1 Q I1 q1)
  | false => exact ⟨k1, H1, I1, q1⟩
theorem ps_ifp {c : Expr} {x y : List Stmt} {tc : TT} {tx ty : TS} (hc : PTp X c tc) (ha : PSsa X x tx) (hb : PSs X y ty) : PS X (.If c x y pos) (tIfS tc tx ty) := by
  intro pins s σ H D I h
  refine wpAny_If (thn (hc pins s σ H _ I h) fun d s1 ⟨k1, H1, I1, q1⟩ => ?_)
  cases d with
  | true => exact ha pins s1 σ H1 D k1 I1 q1
  | false => exact hb pins s1 σ H1 D I1 q1
theorem psa_set {i : Nat} {x : Str} {pos' : Pos} (hN : X.N.Nodup) (hi : X.N[i]? = some x) (hx : Loc X.env.scope x) (he : PEa X e te) (hs : swapsWith e (some (.Name x pos')) pos.line X.env = pure false := by rfl) (hf : X.fn x = true ∨ X.env.scope.names.lookup x = some .local := by first | exact .inl rfl | exact .inr rfl | assumption) :
    PSa X (.Assign [.Name x pos'] e pos) (tAsg te (gName i)) := by
  intro pins s σ H D hk I h
  refine wpAny_Assign_Name (thn (he pins s σ H _ hk I h) fun v s1 ⟨y, H1, I1, r1, q1⟩ => ?_) hs
  exact store_ok I1 hN hi hx r1 (fun s2 I2 => ⟨_, H1, I2, q1⟩) hf
theorem pssa_one {st : Stmt} {ts : TS} (h1 : PSa X st ts) : PSsa X [st] ts := by
  intro pins s σ H D hk I h
  refine wpAny_execs_cons (thn (h1 pins s σ H D hk I h) fun f s1 q => ?_)
  cases f with
  | next => exact wpAny_execs_nil q
  | ret v => exact q
  | brk => exact q
  | cont => exact q
theorem pea_bm {o : Expr} {to : TE} {name : Str} {apos cpos : Pos} {T id : String} {r : V → List V → Hp → VK → Prop} (pa : PlainAttrs T) (slot : Slot T name id) (hty : typeOf (.builtin id) = pure (.type "method_descriptor")) (hm : MtR X id r) (ho : PE X o to) (ha : PAa X (e :: es) t)
    (hbase : attributeBase o name X.env (eval o X.env) = eval o X.env := by rfl)
    (hfew : ((backTo cpos (starEach (e :: es) X.env)).all (fun x => !x.1) && (backToKw cpos (keywordEach [] X.env)).all (fun x => x.1.isSome)
      && decide ((e :: es).length + ([] : List Keyword).length + (if ([] : List Keyword).isEmpty then 0 else 1) < 30)) = true := by rfl)
    (hline : (apos.endLine == cpos.line) = true := by rfl) (hs : starEach (e :: es) X.env = (false, eval e X.env) :: starEach es X.env := by rfl) (hplain : (backTo cpos (starEach es X.env)).any (·.1) = false := by rfl) :
    PEa X (.Call (.Attribute o name apos) (e :: es) [] cpos) (tBM X.K T r to t) := by
  intro pins s σ H Q hk I h
  refine wpAny_Call_method_late hbase hfew hline rfl (thn (tkp hk (ho pins s σ H _ I h)) fun v s1 ⟨k1, x, H1, I1, r1, ty, q1⟩ => ?_)
  obtain ⟨h1, h2⟩ := tyV_is I1 r1 ty
  refine ⟨T, id, pa, slot, hty, h1, h2, ?_⟩
  have hA := ha cpos pins s1 σ H1 _ k1 I1 q1
  rw [hs] at hA ⊢
  refine Calls.callWith_builtin (by show (false || (backTo cpos (starEach es X.env)).any (·.1)) = false; rw [hplain] <;> rfl) (Calls.evalArgs_plain ?_)
  exact thn hA fun us s2 ⟨vs, H2, I2, r2, q2⟩ => hm pins s2 σ H2 x vs v us Q I2 r1 r2 q2
/-- a name whose text's token is known, read as a text -/
def tVarS (i : Nat) : TE := fun σ H Q => ∃ y t, σ[i]? = some (some (.stk y t)) ∧ Q (.str y) H
theorem pvS (i : Nat) {x : Str} {p : Pos} (hN : X.N[i]? = some x := by rfl) (hv : Vis X.env.scope x := by first | exact Or.inl rfl | exact Or.inr (Or.inl rfl) | exact Or.inr (Or.inr rfl)) (hd : (x == ("__debug__" : Str)) = false := by decide)
    (hcd : (x == ("__classdict__" : Str)) = false := by decide) : PE X (.Name x p) (tVarS i) := by
  intro pins s σ H Q I ⟨y, t, ev, q⟩
  refine thn (pe_var hN hv hd hcd pins s σ H (fun v H' => v = .stk y t ∧ Q (.str y) H') I ⟨_, ev, rfl, q⟩) fun u s1 ⟨v, H1, I1, r1, e1, q1⟩ => ?_
  subst e1
  obtain ⟨rfl, _⟩ := r1
  exact ⟨.str y, H1, I1, ⟨t, rfl⟩, q1⟩
end
end L2

set_option Elab.async false
set_option linter.all false
set_option maxRecDepth 100000
set_option maxHeartbeats 4000000
/-! texts as lists of codes, fractions as pairs: what the laws' proofs share -/
namespace TX
open PySem L2 TW
/-! ### texts as lists of codes -/
def S (w : List Nat) : Str := ⟨w.toArray⟩
theorem S_app (a b : List Nat) : S a ++ S b = S (a ++ b) := by
  show (⟨a.toArray ++ b.toArray⟩ : Str) = ⟨(a ++ b).toArray⟩
  simp
theorem S_len (w : List Nat) : (S w).length = w.length := by show w.toArray.size = w.length; simp
theorem S_inj {a b : List Nat} (h : S a = S b) : a = b := by
  have q := congrArg (fun x : Str => x.cps.toList) h
  simpa [S] using q
theorem S_eq (a b : List Nat) : (S a = S b) ↔ a = b := ⟨S_inj, fun h => by rw [h]⟩
theorem sg_S (w : List Nat) : sgV (S w) = w.map fun c => V.str (S [c]) := by unfold sgV S; simp
theorem small {n : Nat} (h : n ≤ 1000) : n ≤ sizeLine := Nat.le_of_lt (small1000 h)
/-! ### fractions -/
def fT (f : Fr) : HO := .tup [.int f.1, .int f.2]
def fD (f : Fr) : PyData := .tuple [.int f.1, .int f.2]
theorem fD_rd {K : PySem.W.Frag} {H : Hp} {p : Addr} {f : Fr} (h : H p = some (fT f)) : RdD K H (.ref p) (fD f) := by
  unfold fD RdD
  refine ⟨p, _, rfl, SqT.of h, ?_⟩
  unfold RdDs
  refine ⟨_, _, rfl, by unfold RdD; rfl, ?_⟩
  unfold RdDs
  refine ⟨_, _, rfl, by unfold RdD; rfl, ?_⟩
  unfold RdDs
  rfl
theorem fD_depth (f : Fr) : (fD f).depth ≤ 60 := by
  unfold fD
  simp [PyData.depth, PyData.depthAll]
theorem fD_eqv (f g : Fr) : PyData.eqv (fD f) (fD g) = decide (f = g) := by
  obtain ⟨a, b⟩ := f
  obtain ⟨c, d⟩ := g
  unfold fD
  simp only [PyData.eqv, PyData.eqvAll, Bool.and_true]
  rw [Bool.eq_iff_iff]
  simp
theorem same_new {H : Hp} {p : Addr} (h : H p = none) (o : HO) : Same H (upd H p o) := fun b u q => by rw [upd_ne (ne_of_none q h)]; exact q
theorem mv_r (f : Fr) : mv 114 f = if 0 < f.1 then (-f.2, f.1) else if f.1 < 0 then (f.2, -f.1) else (1, 0) := rfl

theorem kit_int_bool {K : PySem.W.Frag} : PySem.W.kitOne K (.type "int") (.type "bool") = some false := by
  unfold PySem.W.kitOne PySem.W.kitCls
  rfl
theorem in_tur {c : Nat} (h : IsL c) : inV (.str (S [c])) [.str (S [116]), .str (S [117]), .str (S [114])] = true := by
  rcases h with rfl | rfl | rfl <;> decide
theorem word_signs {u : List Nat} (h : IsW u) : (sgV (S u)).map (fun x => V.bl (inV x [.str (S [116]), .str (S [117]), .str (S [114])])) = (List.replicate u.length true).map V.bl := by
  rw [sg_S, List.map_map]
  induction u with
  | nil => rfl
  | cons c r ih =>
    rw [List.map_cons, List.length_cons, List.replicate_succ, List.map_cons, ih h.tail]
    show V.bl (inV (.str (S [c])) _) :: _ = _
    rw [in_tur h.head]
theorem all_true (n : Nat) : (List.replicate n true).all id = true := by simp
theorem two_ok : 2 ≤ sizeLine := by decide
theorem eq_sign (c d : Nat) (x : Str) (hx : x = S [d]) : (decide (V.str (S [c]) = V.str x)) = decide (c = d) := by
  subst hx
  rw [Bool.eq_iff_iff]
  simp only [decide_eq_true_eq, V.str.injEq, S_eq, List.cons.injEq, and_true]
theorem lit_t : ("t" : Str) = S [116] := by decide +kernel
theorem lit_u : ("u" : Str) = S [117] := by decide +kernel
theorem lit_r : ("r" : Str) = S [114] := by decide +kernel
theorem sg_at {u : List Nat} {i : Nat} {x : V} (h : (sgV (S u))[i]? = some x) : ∃ c, u[i]? = some c ∧ x = .str (S [c]) := by
  rw [sg_S, List.getElem?_map] at h
  cases e : u[i]? with
  | none => rw [e] at h; cases h
  | some c => rw [e] at h; cases h; exact ⟨c, rfl, rfl⟩
theorem take_snoc {u : List Nat} {i c : Nat} (h : u[i]? = some c) : u.take (i + 1) = u.take i ++ [c] := by
  rw [List.take_add_one, h]
  rfl
def letr (i : Int) : Nat := if i = 0 then 116 else if i = 1 then 117 else 114
theorem letr_L (i : Int) : IsL (letr i) := by
  unfold letr TW.IsL
  by_cases h1 : i = 0
  · rw [if_pos h1]; exact .inl rfl
  · rw [if_neg h1]
    by_cases h2 : i = 1
    · rw [if_pos h2]; exact .inr (.inl rfl)
    · rw [if_neg h2]; exact .inr (.inr rfl)
theorem three_ok : 3 ≤ sizeLine := by decide
theorem four_ok : 4 ≤ sizeLine := by decide
theorem S_tu : ("tu" : Str) = S [116, 117] := by decide +kernel
theorem S_ut : ("ut" : Str) = S [117, 116] := by decide +kernel
theorem S_rr : ("rr" : Str) = S [114, 114] := by decide +kernel
theorem S_tr : ("trtrtr" : Str) = S [116, 114, 116, 114, 116, 114] := by decide +kernel
theorem S_list (u : List Nat) : (S u).cps.toList = u := by simp [S]
/-! slices of a text that is written as a list -/
theorem S_to {u : List Nat} {i : Int} (h0 : 0 ≤ i) (h : i ≤ u.length) : Txt.slice (S u) none (some i) = S (u.take i.toNat) := by
  have e : i = ((i.toNat : Nat) : Int) := by omega
  rw [e, cut_to (S u) (by rw [S_len]; omega), S_list]
  rfl
theorem S_from {u : List Nat} {i : Int} (h0 : 0 ≤ i) (h : i ≤ u.length) : Txt.slice (S u) (some i) none = S (u.drop i.toNat) := by
  have e : i = ((i.toNat : Nat) : Int) := by omega
  rw [e, cut_from (S u) (by rw [S_len]; omega), S_list]
  rfl
theorem S_mid {u : List Nat} {i : Int} {m : Nat} (h0 : 0 ≤ i) (h : i ≤ u.length) : Txt.slice (S u) (some i) (some (i + (m : Int))) = S ((u.drop i.toNat).take m) := by
  have e : i = ((i.toNat : Nat) : Int) := by omega
  rw [e, cut_mid (S u) (by rw [S_len]; omega), S_list]
  rfl
theorem eqS (x y : Str) : decide (V.str x = V.str y) = decide (x = y) := by
  rw [Bool.eq_iff_iff]
  simp
theorem inV_str (x : Str) (ts : List Str) : inV (.str x) (ts.map V.str) = ts.contains x := by
  unfold inV
  rw [List.any_map, Bool.eq_iff_iff, List.any_eq_true, List.contains_iff_mem]
  constructor
  · rintro ⟨y, hy, e⟩
    have e' : (y == x) = true := e
    rw [← eq_of_beq e']
    exact hy
  · intro h
    exact ⟨x, h, (show (x == x) = true from beq_self_eq_true x)⟩
end TX

set_option Elab.async false
set_option linter.all false
set_option maxRecDepth 100000
set_option maxHeartbeats 4000000
/-! what the laws of stage 2 share: names of built-ins, constants, promises -/
namespace TX
open PySem L2 TW
structure Glo (mg : Str → Option Value) : Prop where
  n_len : mg "len" = none
  n_all : mg "all" = none
  n_any : mg "any" = none
  n_isinstance : mg "isinstance" = none
  n_abs : mg "abs" = none
  n_int : mg "int" = none
  n_bool : mg "bool" = none
  n_str : mg "str" = none
  n_tuple : mg "tuple" = none
  n_list : mg "list" = none
  n_reversed : mg "reversed" = none
  n_range : mg "range" = none
  n_max : mg "max" = none
def Letters (K : PySem.W.Frag) (mg : Str → Option Value) : Prop := ∃ a, mg "LETTERS" = some (.ref a) ∧ ∀ H, SqT K H a [.str (S [116]), .str (S [117]), .str (S [114])]
def Exch (K : PySem.W.Frag) (mg : Str → Option Value) (P : Params) : Prop := ∃ a es n, mg "EXCHANGED" = some (.ref a) ∧ K.lookup a = some ⟨.type "dict", none, .dict es n, #[]⟩ ∧ PySem.W.KeysLit P es.toList ∧
    ∀ c, IsL c → ∃ t, PySem.W.nsIn K a (S [c]) = some (some (.str (S [TW.exch c]) t))
theorem big {n : Nat} (h : n ≤ 1000000) : n ≤ sizeLine := by have := sizeLine_eq; omega
theorem len1 {α : Type} {us : List α} (h : us.length = 1) : ∃ a, us = [a] := List.length_eq_one_iff.mp h
theorem lenS {α : Type} {us : List α} {n : Nat} (h : us.length = n + 1) : ∃ a r, us = a :: r ∧ r.length = n := by
  cases us with
  | nil => cases h
  | cons a r => exact ⟨a, r, rfl, Nat.succ.inj h⟩
theorem len2 {α : Type} {us : List α} (h : us.length = 2) : ∃ a b, us = [a, b] := by
  obtain ⟨a, r, rfl, h'⟩ := lenS h
  obtain ⟨b, rfl⟩ := len1 h'
  exact ⟨a, b, rfl⟩
theorem len3 {α : Type} {us : List α} (h : us.length = 3) : ∃ a b c, us = [a, b, c] := by
  obtain ⟨a, r, rfl, h'⟩ := lenS h
  obtain ⟨b, c, rfl⟩ := len2 h'
  exact ⟨a, b, c, rfl⟩
theorem gcd_abs (a b : Int) : Int.gcd (if a < 0 then -a else a) b = Int.gcd a b := by
  split
  · rw [Int.neg_gcd]
  · rfl
theorem abs_nonneg (a : Int) : 0 ≤ (if a < 0 then -a else a) := by split <;> omega
theorem tur_at (n b : Int) : atI (("tur" : Str).cps.toList) (n / b % 3) = some (letr (n / b % 3)) := by
  have h0 := Int.emod_nonneg (n / b) (show (3 : Int) ≠ 0 by decide)
  have h1 := Int.emod_lt_of_pos (n / b) (show (0 : Int) < 3 by decide)
  generalize n / b % 3 = i at h0 h1
  have h : i = 0 ∨ i = 1 ∨ i = 2 := by omega
  rcases h with rfl | rfl | rfl <;> decide +kernel
theorem join_S : ∀ l : List Nat, Str.join ("" : Str) (l.map fun c => S [c]) = S l
  | [] => rfl
  | [c] => rfl
  | c :: d :: r => by
    have ih := join_S (d :: r)
    show S [c] ++ ("" : Str) ++ Str.join ("" : Str) ((d :: r).map fun c => S [c]) = _
    rw [ih, show ("" : Str) = S [] from rfl, S_app, S_app]
    rfl
theorem sum_ones (l : List Nat) : ((l.map fun c => S [c]).map (·.length)).sum = l.length := by
  induction l with
  | nil => rfl
  | cons c r ih =>
    rw [List.map_cons, List.map_cons, List.sum_cons, ih]
    show 1 + r.length = r.length + 1
    omega
/-! ### promises -/
def spWhole : Sp := fun vs H Q _ => ∃ i, vs = [.int i] ∧ Q (.bl true) H
def spWord : Sp := fun vs H Q _ => ∃ u, vs = [.str (S u)] ∧ IsW u ∧ u.length ≤ 100000 ∧ ∀ H', Same H H' → Q (.bl true) H'
def spGcd : Sp := fun vs H Q _ => ∃ a b : Int, vs = [.int a, .int b] ∧ 0 ≤ a ∧ 0 ≤ b ∧ Q (.int (Int.gcd a b)) H
def spFrac : Sp := fun vs H Q _ => ∃ p g, vs = [.ref p] ∧ H p = some (fT g) ∧ IsF g ∧ ∀ H', Same H H' → Q (.bl true) H'
def spChkW : Sp := fun vs H Q _ => ∃ u, vs = [.str (S u)] ∧ IsW u ∧ u.length ≤ 100000 ∧ ∀ H', Same H H' → Q .non H'
def spTurned : Sp := fun vs H Q _ => ∃ g : Fr, vs = [.int g.1, .int g.2] ∧ ∀ p H', Same H H' → H' p = some (fT (mv 114 g)) → Q (.ref p) H'
def spMoved : Sp := fun vs H Q _ => ∃ (c : Nat) (g : Fr), vs = [.str (S [c]), .int g.1, .int g.2] ∧ ∀ p H', Same H H' → H' p = some (fT (mv c g)) → Q (.ref p) H'
def spFollow : Sp := fun vs H Q _ => ∃ u p g, vs = [.str (S u), .ref p] ∧ H p = some (fT g) ∧ ∀ q H', Same H H' → H' q = some (fT (walk u g)) → Q (.ref q) H'
def spBack : Sp := fun vs H Q _ => ∃ u, vs = [.str (S u)] ∧ IsW u ∧ u.length ≤ 100000 ∧ ∀ H', Same H H' → Q (.str (S (bk u))) H'
def spLMoved : Sp := fun vs H Q _ => ∃ (c : Nat) (p : Addr) (g : Fr), vs = [.str (S [c]), .ref p] ∧ H p = some (fT g) ∧ ∀ q H', Same H H' → H' q = some (fT (mv c g)) → Q (.ref q) H'
def spLaw (K : PySem.W.Frag) : Sp := fun vs H Q _ => ∃ (a : Addr) (ns : List Int), vs = [.ref a] ∧ SqL K H a (ns.map V.int) ∧ ns.length ≤ 63 ∧ ∀ H', Q (.bl true) H'
end TX

set_option Elab.async false
set_option linter.all false
set_option maxRecDepth 100000
set_option maxHeartbeats 4000000
/-! runs: promises -/
namespace TX
open PySem L2 TW
theorem _root_.L2.Same.up {H H' : Hp} {p : Addr} {o : HO} (h : Same H H') (n : H p = none) : Same H (upd H' p o) := fun b u q => by rw [upd_ne (ne_of_none q n)]; exact h b u q
end TX

set_option Elab.async false
set_option linter.all false
set_option maxRecDepth 100000
set_option maxHeartbeats 4000000
/-! alike, quiet; answers that are objects: promises -/
namespace TX
open PySem L2 TW
def al (u v : List Nat) : Bool := decide (walk u (0, 1) = walk v (0, 1)) && (decide (walk u (1, 0) = walk v (1, 0)) && decide (walk u (1, 1) = walk v (1, 1)))
theorem al_iff (u v : List Nat) : al u v = true ↔ walk u (0, 1) = walk v (0, 1) ∧ walk u (1, 0) = walk v (1, 0) ∧ walk u (1, 1) = walk v (1, 1) := by
  unfold al
  rw [Bool.and_eq_true, Bool.and_eq_true, decide_eq_true_eq, decide_eq_true_eq, decide_eq_true_eq]
def Telling (K : PySem.W.Frag) (mg : Str → Option Value) : Prop := ∃ a a0 a1 a2, mg "TELLING_FRACTIONS" = some (.ref a) ∧ (∀ H, SqT K H a [.ref a0, .ref a1, .ref a2]) ∧ (∀ H, SqT K H a0 [.int 0, .int 1]) ∧ (∀ H, SqT K H a1 [.int 1, .int 0]) ∧ ∀ H, SqT K H a2 [.int 1, .int 1]
def tf (i : Nat) : Fr := if i = 0 then (0, 1) else if i = 1 then (1, 0) else (1, 1)
theorem tf_F (i : Nat) : IsF (tf i) := by
  unfold tf
  split
  · exact F_nought
  split
  · exact F_end
  · exact F_one
theorem three_at {K : PySem.W.Frag} {a0 a1 a2 : Addr} (h0 : ∀ H, SqT K H a0 [.int 0, .int 1]) (h1 : ∀ H, SqT K H a1 [.int 1, .int 0]) (h2 : ∀ H, SqT K H a2 [.int 1, .int 1]) {i : Nat} {x : V} (hx : [V.ref a0, V.ref a1, V.ref a2][i]? = some x) :
    ∃ p, x = .ref p ∧ ∀ H, SqT K H p [.int (tf i).1, .int (tf i).2] := by
  match i with
  | 0 => cases hx; exact ⟨a0, rfl, h0⟩
  | 1 => cases hx; exact ⟨a1, rfl, h1⟩
  | 2 => cases hx; exact ⟨a2, rfl, h2⟩
  | n + 3 => cases hx
def alI (u v : List Nat) (i : Nat) : Bool := decide (walk u (tf i) = walk v (tf i))
theorem al_three (u v : List Nat) : [alI u v 0, alI u v 1, alI u v 2].all id = al u v := by
  unfold al alI tf
  simp
def spFollowK (K : PySem.W.Frag) : Sp := fun vs H Q _ => ∃ u p g, vs = [.str (S u), .ref p] ∧ SqT K H p [.int g.1, .int g.2] ∧ ∀ q H', Same H H' → H' q = some (fT (walk u g)) → Q (.ref q) H'
def spLead : Sp := fun vs H Q _ => ∃ u v, vs = [.str (S u), .str (S v)] ∧ ∀ H', Same H H' → Q (.bl (al u v)) H'
/-- __init__ with one field -/
def spInit1 (C : Addr) (fld : Str) : Sp := fun vs H Q _ => ∃ o dx v, vs = [.ref o, v] ∧ H o = some (.ins C dx []) ∧ Q .non (upd H o (.ins C dx [(fld, v)]))
def spTelling : Sp := fun vs H Q _ => ∃ u v, vs = [.str (S u), .str (S v)] ∧ (al u v = true → ∀ H', Same H H' → Q .non H') ∧ (al u v = false → ∀ p g H', Same H H' → H' p = some (fT g) → IsF g → walk u g ≠ walk v g → Q (.ref p) H')
theorem made_same {H : Hp} {x dx : Addr} {o o' : HO} (hx : H x = none) (hd : H dx = none) : Same H (upd (upd H dx o) x o') := fun b u q => by
  rw [upd_ne (ne_of_none q hx), upd_ne (ne_of_none q hd)]
  exact q
end TX

set_option Elab.async false
set_option linter.all false
set_option maxRecDepth 100000
set_option maxHeartbeats 4000000
/-! beats, rounds, plain words: promises -/
namespace TX
open PySem L2 TW
open TW.Syl (wd)
/-! ### a module's dict that does not hold a key -/
theorem ns_none {K : PySem.W.Frag} {a : Addr} {es : Array DictEntry} {n : Nat} {k : Str} (lk : K.lookup a = some ⟨.type "dict", none, .dict es n, #[]⟩) (h : ∀ e ∈ es.toList, ∃ x t, e.key = .str x t ∧ x ≠ k) : PySem.W.nsIn K a k = some none := by
  unfold PySem.W.nsIn
  rw [lk]
  have h1 : es.toList.find? (fun e => e.key.isStr k) = none := by
    rw [List.find?_eq_none]
    intro e he
    obtain ⟨x, t, e1, e2⟩ := h e he
    rw [e1]
    show ¬ ((x == k) = true)
    rw [beq_iff_eq]
    exact e2
  have h2 : es.toList.any (fun e => e.refKey) = false := by
    rw [List.any_eq_false]
    intro e he
    obtain ⟨x, t, e1, e2⟩ := h e he
    unfold DictEntry.refKey
    rw [e1]
    simp
  simp only [h1, h2]
  simp
theorem keys_ne {es : Array DictEntry} {ks : List Value} {k : Str} (h : es.toList.map (·.key) = ks) (h2 : ∀ v ∈ ks, ∃ x t, v = .str x t ∧ x ≠ k) : ∀ e ∈ es.toList, ∃ x t, e.key = .str x t ∧ x ≠ k := fun e he => h2 _ (h ▸ List.mem_map_of_mem he)
theorem _root_.L2.op_inSq {X : Cx} {K : PySem.W.Frag} (e : X.K = K) : OpR X (compareOp .In) (rIn K false) := e ▸ op_in_seq
theorem _root_.L2.sl_lst {X : Cx} {K : PySem.W.Frag} (e : X.K = K) : SlR X (rSlL K) := e ▸ sl_list
theorem _root_.L2.ix_modK {X : Cx} {K : PySem.W.Frag} {Pm : Params} (e : X.K = K) (e2 : X.w.params = Pm) : IxR X (rIxM K Pm) := e ▸ e2 ▸ ix_mod
def exV (x : V) : V := match x with | .str y => V.str (S [TW.exch (y.cps.getD 0 0)]) | z => z
theorem back_signs2 {u : List Nat} (h : IsW u) : (sgV (S u)).reverse.map exV = ((bk u).map fun c => S [c]).map V.str := by
  rw [sg_S, ← List.map_reverse, List.map_map, bk, List.map_map, List.map_map]
  rfl
/-! ### lists of texts -/
def lv (x : List Nat) : List V := x.map fun c => V.str (S [c])
theorem lv_append (a b : List Nat) : lv (a ++ b) = lv a ++ lv b := by unfold lv; simp
theorem lv_len (a : List Nat) : (lv a).length = a.length := by unfold lv; simp
def sV (x : List (List Nat)) : List V := x.map fun c => V.str (S c)
theorem sV_strs (a : List (List Nat)) : sV a = (a.map S).map V.str := by unfold sV; simp
theorem inV_S (u : List Nat) (ls : List (List Nat)) : inV (.str (S u)) (sV ls) = ls.contains u := by
  rw [sV_strs, inV_str, Bool.eq_iff_iff, List.contains_iff_mem, List.contains_iff_mem]
  constructor
  · intro h
    obtain ⟨x, hx, e⟩ := List.mem_map.mp h
    rw [← S_inj e]; exact hx
  · intro h
    exact List.mem_map_of_mem h
theorem flat_sV (ls : List (List Nat)) : (sV ls).all flatV = true := by
  rw [List.all_eq_true]
  intro x hx
  unfold sV at hx
  obtain ⟨c, _, rfl⟩ := List.mem_map.mp hx
  rfl
theorem lv_sV (x : List Nat) : lv x = sV (x.map fun c => [c]) := by unfold lv sV; simp
theorem join_all : ∀ ls : List (List Nat), Str.join ("" : Str) (ls.map S) = S ls.flatten
  | [] => rfl
  | [c] => by show S c = _; simp
  | c :: d :: r => by
    have ih := join_all (d :: r)
    show S c ++ ("" : Str) ++ Str.join ("" : Str) ((d :: r).map S) = _
    rw [ih, show ("" : Str) = S [] from rfl, S_app, S_app]
    simp
theorem flat1 (x : List Nat) : (x.map fun c => [c]).flatten = x := by induction x <;> simp_all
theorem sum_len (ls : List (List Nat)) : ((ls.map S).map (·.length)).sum = ls.flatten.length := by
  induction ls with
  | nil => rfl
  | cons c r ih =>
    rw [List.map_cons, List.map_cons, List.sum_cons, ih, S_len]
    simp
theorem cut_last (xs : List V) (k : Nat) (hk : 0 < k) : cutV xs (some (-(k : Int))) none = xs.drop (xs.length - k) := by
  unfold cutV HT.sIx
  have h1 : (-(k : Int)) < 0 := by omega
  simp only [h1, if_true]
  have e : (max (-(k : Int) + (xs.length : Int)) 0).toNat = xs.length - k := by omega
  first
    | (rw [List.take_of_length_le] <;> simp <;> omega)
    | simp
theorem rJoin_sV {K : PySem.W.Frag} {H : Hp} {p : Addr} {ls : List (List Nat)} {Q : VK} (h : SqL K H p (sV ls)) (hl : ls.flatten.length ≤ 1000000) (q : Q (.str (S ls.flatten)) H) : rJoin K (.str "") [.ref p] H Q := by
  refine ⟨_, p, ls.map S, rfl, rfl, by rw [← sV_strs]; exact h, ?_, ?_⟩
  · rw [sum_len]
    show ls.flatten.length + _ * 0 ≤ _
    omega
  · rw [join_all]; exact q
theorem sz_all {ls : List (List Nat)} (h : ls.flatten.length ≤ 1000000) : ((ls.map S).map (·.length)).sum + (ls.map S).length * ("" : Str).length ≤ 16777216 := by
  rw [sum_len]
  show ls.flatten.length + _ * 0 ≤ _
  omega
theorem SqL_sV {K : PySem.W.Frag} {H : Hp} {p : Addr} {xs : List V} {ls : List (List Nat)} (h : H p = some (.lst xs)) (e : xs = sV ls) : SqL K H p ((ls.map S).map V.str) := by
  rw [← sV_strs, ← e]
  exact SqL.of h
theorem last_snoc (xs : List V) (v : V) : (xs ++ [v])[(xs ++ [v]).length - 1]? = some v := by simp
/-! ### a text in another one -/
/-! ### rounds, by their letters -/
/-! ### constants -/
def PairsOut (K : PySem.W.Frag) (mg : Str → Option Value) : Prop := ∃ a, mg "PAIRS_OUT" = some (.ref a) ∧ ∀ H, SqT K H a (sV prs)
/-- the four steps of a piece turned over, as they stand in the module -/
def stM (t : Stp) : List V := [.str (if t.1 = true then "in" else "out"), .int t.2.1, .str (S t.2.2)]
def Four (K : PySem.W.Frag) (b : Addr) (ts : List Stp) : Prop := ∃ p0 p1 p2 p3 t0 t1 t2 t3, ts = [t0, t1, t2, t3] ∧ (∀ H, SqT K H b [.ref p0, .ref p1, .ref p2, .ref p3]) ∧ (∀ H, SqT K H p0 (stM t0)) ∧ (∀ H, SqT K H p1 (stM t1)) ∧ (∀ H, SqT K H p2 (stM t2)) ∧ ∀ H, SqT K H p3 (stM t3)
def Over (K : PySem.W.Frag) (mg : Str → Option Value) (P : Params) : Prop := ∃ a es n bT bU, mg "OVER" = some (.ref a) ∧ K.lookup a = some ⟨.type "dict", none, .dict es n, #[]⟩ ∧ PySem.W.KeysLit P es.toList ∧ (a == sysModules) = false ∧
  PySem.W.nsIn K a (S [116, 114, 116]) = some (some (.ref bT)) ∧ PySem.W.nsIn K a (S [117, 114, 117]) = some (some (.ref bU)) ∧ Four K bT (ovT 0) ∧ Four K bU (ovU 0) ∧
  ∀ k, k ≠ [116, 114, 116] → k ≠ [117, 114, 117] → PySem.W.nsIn K a (S k) = some none
theorem lit_rr : ("rr" : Str) = S [114, 114] := S_rr
theorem lit_tu : ("tu" : Str) = S [116, 117] := S_tu
theorem lit_ut : ("ut" : Str) = S [117, 116] := S_ut
theorem lit_trt : ("trt" : Str) = S [116, 114, 116] := by decide +kernel
theorem lit_uru : ("uru" : Str) = S [117, 114, 117] := by decide +kernel
theorem over_mk {K : PySem.W.Frag} {mg : Str → Option Value} {P : Params} {a bT bU : Addr} {es : Array DictEntry} {n : Nat} {t1 t2 : Tok} (g : mg "OVER" = some (.ref a)) (lk : K.lookup a = some ⟨.type "dict", none, .dict es n, #[]⟩) (kl : PySem.W.KeysLit P es.toList) (sm : (a == sysModules) = false)
    (mk : es.toList.map (·.key) = [Value.str "trt" t1, Value.str "uru" t2]) (x1 : PySem.W.nsIn K a "trt" = some (some (.ref bT))) (x2 : PySem.W.nsIn K a "uru" = some (some (.ref bU))) (f1 : Four K bT (ovT 0)) (f2 : Four K bU (ovU 0)) : Over K mg P := by
  rw [lit_trt] at x1
  rw [lit_uru] at x2
  refine ⟨a, es, n, bT, bU, g, lk, kl, sm, x1, x2, f1, f2, fun k h1 h2 => ns_none lk (keys_ne mk fun v hv => ?_)⟩
  rcases List.mem_cons.mp hv with rfl | hv
  · exact ⟨_, _, rfl, by rw [lit_trt]; exact fun e => h1 (S_inj e).symm⟩
  · have := List.mem_singleton.mp hv
    subst this
    exact ⟨_, _, rfl, by rw [lit_uru]; exact fun e => h2 (S_inj e).symm⟩
/-! ### promises -/
def stV (t : Stp) : HO := .tup (stM t)
def StpAt (H : Hp) (v : V) (t : Stp) : Prop := ∃ p, v = .ref p ∧ H p = some (stV t)
def StpsAt (H : Hp) : List V → List Stp → Prop
  | [], [] => True
  | v :: vs, t :: ts => StpAt H v t ∧ StpsAt H vs ts
  | _, _ => False
theorem StpsAt.append {H : Hp} : ∀ {vs ws : List V} {ts us : List Stp}, StpsAt H vs ts → StpsAt H ws us → StpsAt H (vs ++ ws) (ts ++ us)
  | [], _, [], _, _, h => h
  | _ :: _, _, _ :: _, _, a, h => ⟨a.1, StpsAt.append a.2 h⟩
theorem StpsAt.map {H H' : Hp} (f : ∀ p t, H p = some (stV t) → H' p = some (stV t)) : ∀ {vs : List V} {ts : List Stp}, StpsAt H vs ts → StpsAt H' vs ts
  | [], [], _ => trivial
  | _ :: _, _ :: _, ⟨⟨p, e, h⟩, r⟩ => ⟨⟨p, e, f p _ h⟩, StpsAt.map f r⟩
theorem StpsAt.same {H H' : Hp} (s : Same H H') {vs : List V} {ts : List Stp} (h : StpsAt H vs ts) : StpsAt H' vs ts := h.map fun p _ e => s p _ e
theorem tup_ne {H : Hp} {p l : Addr} {xs ys : List V} (h : H p = some (.tup xs)) (h2 : H l = some (.lst ys)) : p ≠ l := by
  intro e
  subst e
  rw [h] at h2
  cases h2
theorem StpsAt.but {l m : Addr} {H H' : Hp} {xs ys : List V} (s : But l m H H') (hl : H l = some (.lst xs)) (hm : H m = some (.lst ys)) {vs : List V} {ts : List Stp} (h : StpsAt H vs ts) : StpsAt H' vs ts := h.map fun p t e => s p _ (tup_ne e hl) (tup_ne e hm) e
theorem StpsAt.len {H : Hp} : ∀ {vs : List V} {ts : List Stp}, StpsAt H vs ts → vs.length = ts.length
  | [], [], _ => rfl
  | _ :: _, _ :: _, ⟨_, r⟩ => by rw [List.length_cons, List.length_cons, StpsAt.len r]
def spTake : Sp := fun vs H Q _ => ∃ (l m : Addr) (a b : Nat) (y : List Nat) (zs : List V), vs = [.ref l, .ref m] ∧ l ≠ m ∧ H l = some (.lst (lv (y ++ [a, b]))) ∧ H m = some (.lst zs) ∧ y.length ≤ 1000000 ∧ zs.length ≤ 1000000 ∧
  ∀ p H', But l m H H' → H' l = some (.lst (lv y)) → H' p = some (stV (false, (y.length : Int), [a, b])) → H' m = some (.lst (zs ++ [.ref p])) → Q .non H'
/-- the two lists behind a settling -/
def Settled (l m : Addr) (x : List Nat) (zs : List V) (H H' : Hp) : Prop := ∃ ps, But l m H H' ∧ H' l = some (.lst (lv (sett x).reverse)) ∧ H' m = some (.lst (zs ++ ps)) ∧ StpsAt H' ps (stepsOf x)
def spSettle (R : List Nat → Prop) (N : Nat) : Sp := fun vs H Q _ => ∃ (l m : Addr) (x : List Nat) (zs : List V), vs = [.ref l, .ref m] ∧ l ≠ m ∧ R x ∧ H l = some (.lst (lv x.reverse)) ∧ H m = some (.lst zs) ∧ x.length ≤ 100000 ∧ zs.length ≤ N ∧ ∀ H', Settled l m x zs H H' → Q .non H'
def spTurn (R : List Nat → Prop) (N : Nat) : Sp := fun vs H Q _ => ∃ (l m : Addr) (x : List Nat) (zs : List V), vs = [.ref l, .ref m] ∧ l ≠ m ∧ R x ∧ (x.take 3 = [116, 114, 116] ∨ x.take 3 = [117, 114, 117]) ∧ H l = some (.lst (lv x.reverse)) ∧ H m = some (.lst zs) ∧ x.length ≤ 100000 ∧ zs.length ≤ N ∧ ∀ H', Settled l m x zs H H' → Q .non H'
theorem Settled.same {l m : Addr} {x : List Nat} {zs : List V} {H H1 H' : Hp} (s : Same H H1) (h : Settled l m x zs H1 H') : Settled l m x zs H H' :=
  let ⟨ps, b, e⟩ := h
  ⟨ps, ((But.refl l m H).same s).trans b, e⟩
theorem rev_drop (x : List Nat) (k : Nat) : x.reverse.drop (x.length - k) = (x.take k).reverse := (List.reverse_take ..).symm
theorem cut_lv (x : List Nat) (k : Nat) (hk : 0 < k) : cutV (lv x.reverse) (some (-(k : Int))) none = sV ((x.take k).reverse.map fun c => [c]) := by
  rw [cut_last _ _ hk, lv_len, List.length_reverse, ← lv_sV, ← rev_drop]
  unfold lv
  rw [List.map_drop]
theorem mem_prs {x : List Nat} (h : (x.take 2).reverse ∈ prs) : ∃ a b y, x = b :: a :: y := by
  have h2 : (x.take 2).length = 2 := by
    rw [← List.length_reverse]
    unfold prs at h
    simp only [List.mem_cons, List.not_mem_nil, or_false] at h
    rcases h with h | h | h <;> rw [h] <;> rfl
  match x, h2 with
  | b :: a :: y, _ => exact ⟨a, b, y, rfl⟩
theorem take3_ne {x : List Nat} {e : Nat} (h : x.take 3 ≠ [e, 114, e]) : (x.take 3).reverse ≠ [e, 114, e] := fun z => h (by
  have := congrArg List.reverse z
  rw [List.reverse_reverse] at this
  exact this)
theorem sett_no {x : List Nat} (h1 : ¬ (x.take 2).reverse ∈ prs) (h2 : x.take 3 ≠ [116, 114, 116]) (h3 : x.take 3 ≠ [117, 114, 117]) : sett x = x ∧ stepsOf x = [] := by
  unfold sett stepsOf
  rw [if_neg h1, if_neg h2, if_neg h3, if_neg h1, if_neg h2, if_neg h3]
  exact ⟨rfl, rfl⟩
/-- what turning over comes to, for either piece -/
structure TurnAs (K : PySem.W.Frag) (a : Addr) (x : List Nat) (e d : Nat) (ov : Nat → List Stp) (b : Addr) : Prop where
  tk : x.take 3 = [e, 114, e]
  ns : PySem.W.nsIn K a (S [e, 114, e]) = some (some (.ref b))
  four : Four K b (ov 0)
  W : IsL e
  bk : TW.bk [e] = [d]
  st : sett x = 114 :: d :: pr (x.drop 3)
  sp : stepsOf x = ov (x.length - 3) ++ prS (x.drop 3)
  at_ : ∀ (n j : Nat) (t : Stp), (ov 0)[j]? = some t → (ov n)[j]? = some (t.1, (n : Int) + t.2.1, t.2.2)
  len : ∀ n, (ov n).length = 4
theorem ov_at {f : Nat → List Stp} (h : f = ovT ∨ f = ovU) (n j : Nat) (t : Stp) (ht : (f 0)[j]? = some t) : (f n)[j]? = some (t.1, (n : Int) + t.2.1, t.2.2) := by
  rcases h with rfl | rfl
  · unfold ovT at ht ⊢
    match j, ht with
    | 0, ht => cases ht; simp
    | 1, ht => cases ht; simp
    | 2, ht => cases ht; simp
    | 3, ht => cases ht; simp
    | k + 4, ht => cases ht
  · unfold ovU at ht ⊢
    match j, ht with
    | 0, ht => cases ht; simp
    | 1, ht => cases ht; simp
    | 2, ht => cases ht; simp
    | 3, ht => cases ht; simp
    | k + 4, ht => cases ht
theorem take2_of {x : List Nat} {e : Nat} (h : x.take 3 = [e, 114, e]) : x.take 2 = [e, 114] := by
  have : x.take 2 = (x.take 3).take 2 := by rw [List.take_take]; rfl
  rw [this, h]
  rfl
theorem turn_as {K : PySem.W.Frag} {a bT bU : Addr} {x : List Nat} (h : x.take 3 = [116, 114, 116] ∨ x.take 3 = [117, 114, 117]) (x1 : PySem.W.nsIn K a (S [116, 114, 116]) = some (some (.ref bT))) (x2 : PySem.W.nsIn K a (S [117, 114, 117]) = some (some (.ref bU))) (f1 : Four K bT (ovT 0)) (f2 : Four K bU (ovU 0)) :
    ∃ e d ov b, TurnAs K a x e d ov b := by
  rcases h with h | h
  · have h2 := take2_of h
    refine ⟨116, 117, ovT, bT, h, x1, f1, .inl rfl, rfl, ?_, ?_, ov_at (.inl rfl), fun _ => rfl⟩
    · unfold sett
      rw [h2, if_neg (by decide), if_pos h]
    · unfold stepsOf
      rw [h2, if_neg (by decide), if_pos h]
  · have h2 := take2_of h
    refine ⟨117, 116, ovU, bU, h, x2, f2, .inr (.inl rfl), rfl, ?_, ?_, ov_at (.inr rfl), fun _ => rfl⟩
    · unfold sett
      rw [h2, if_neg (by decide), if_neg (by rw [h]; decide), if_pos h]
    · unfold stepsOf
      rw [h2, if_neg (by decide), if_neg (by rw [h]; decide), if_pos h]
theorem Four.at {K : PySem.W.Frag} {b : Addr} {ts : List Stp} (h : Four K b ts) : ∃ rs : List V, (∀ H, SqT K H b rs) ∧ rs.length = 4 ∧ ∀ (j : Nat) (v : V), rs[j]? = some v → ∃ p t, v = .ref p ∧ ts[j]? = some t ∧ ∀ H, SqT K H p (stM t) := by
  obtain ⟨p0, p1, p2, p3, t0, t1, t2, t3, rfl, hb, h0, h1, h2, h3⟩ := h
  refine ⟨_, hb, rfl, fun j v hj => ?_⟩
  match j, hj with
  | 0, hj => cases hj; exact ⟨p0, t0, rfl, rfl, h0⟩
  | 1, hj => cases hj; exact ⟨p1, t1, rfl, rfl, h1⟩
  | 2, hj => cases hj; exact ⟨p2, t2, rfl, rfl, h2⟩
  | 3, hj => cases hj; exact ⟨p3, t3, rfl, rfl, h3⟩
  | k + 4, hj => cases hj
theorem StpsAt.snoc {H : Hp} {vs : List V} {ts : List Stp} {p : Addr} {t : Stp} (h : StpsAt H vs ts) (e : H p = some (stV t)) : StpsAt H (vs ++ [.ref p]) (ts ++ [t]) := h.append ⟨⟨p, rfl, e⟩, trivial⟩
theorem StpsAt.upd {H : Hp} {l : Addr} {xs : List V} {o : HO} (hl : H l = some (.lst xs)) {vs : List V} {ts : List Stp} (h : StpsAt H vs ts) : StpsAt (L2.upd H l o) vs ts := h.map fun p t e => by rw [upd_ne (tup_ne e hl)]; exact e
def Rr (x : List Nat) : Prop := ∃ y, x = 114 :: y
def Rall (_ : List Nat) : Prop := True
theorem sett_r (y : List Nat) : sett (114 :: y) = pr y := by
  unfold sett pr prs
  cases y with
  | nil => simp
  | cons c y =>
    by_cases h : c = 114
    · subst h; simp
    · simp [h, Ne.symm h]
theorem steps_r (y : List Nat) : stepsOf (114 :: y) = prS y := by
  unfold stepsOf prS prs
  cases y with
  | nil => simp
  | cons c y =>
    by_cases h : c = 114
    · subst h; simp
    · simp [h, Ne.symm h]
def spPlain : Sp := fun vs H Q _ => ∃ u, vs = [.str (S u)] ∧ IsW u ∧ u.length ≤ 20000 ∧ ∀ t m ps H', H m = none → Same H H' → H' t = some (.tup [.str (S (plainW u)), .ref m]) → H' m = some (.lst ps) → StpsAt H' ps (mps u).1 → Q (.ref t) H'
end TX

set_option Elab.async false
set_option linter.all false
set_option maxRecDepth 100000
set_option maxHeartbeats 4000000
/-! alike: steps, promises -/
namespace L2
open PySem PySem.Spec PyProof.Rows
/-- a comprehension whose elements are told of by what stands in the memory -/
theorem lc_rel {J : It} {xs : List V} {Ok : Hp → Prop} (hJ : ItOn J xs Ok) {te : TE} {js : List Nat} {σ : St} {H : Hp} {Q : VK} (R : Hp → Nat → List V → Prop) (hok : ∀ H', Same H H' → Ok H') (hz : xs.length ≤ sizeLine) (h0 : R H 0 [])
    (he : ∀ (i : Nat) x H' acc (Q' : VK), xs[i]? = some x → Same H H' → R H' i acc → (∀ v H'', Same H' H'' → R H'' (i + 1) (acc ++ [v]) → Q' v H'') → te (some x :: seenV σ js) H' Q')
    (q : ∀ H' p acc, Same H H' → H' p = none → R H' xs.length acc → acc.length = xs.length → Q (.ref p) (upd H' p (.lst acc))) : LcW J tYes te js σ Q H := by
  refine ⟨fun i m acc H' => Same H H' ∧ i ≤ xs.length ∧ m = xs.length - i ∧ acc.length = i ∧ R H' i acc, ⟨xs.length, Same.refl _, Nat.zero_le _, by simp, rfl, h0⟩, ?_⟩
  rintro i m acc H' ⟨hs, hi, rfl, hlen, hR⟩
  refine ⟨by omega, ?_⟩
  by_cases hlt : i < xs.length
  · refine .inr ⟨hJ.go i _ (hok _ hs) hlt, by omega, fun x H'' y => ?_⟩
    obtain ⟨e, hx⟩ := hJ.yld i _ x H'' (hok _ hs) hlt y
    subst e
    unfold tYes
    dsimp only
    rw [if_pos rfl]
    refine he i x H'' acc _ hx hs hR fun v H4 s4 r4 => ⟨xs.length - (i + 1), by omega, hs.trans s4, hlt, rfl, ?_, r4⟩
    rw [List.length_append, hlen]
    rfl
  · have e : i = xs.length := by omega
    subst e
    exact .inl ⟨hJ.stop _ _ (hok _ hs) (Nat.le_refl _), fun p hp => q H' p acc hs hp hR hlen⟩
end L2
namespace TX
open PySem L2 TW
def dS (b : Bool) : Str := if b = true then "in" else "out"
def dS2 : List Str := ["out", "in"]
def pcS : List Str := ["tu", "ut", "rr", "trtrtr"]
theorem dS_in (b : Bool) : decide (V.str (dS b) = V.str "in") = b := by cases b <;> decide +kernel
theorem dS_out (b : Bool) : decide (V.str (dS b) = V.str "out") = !b := by cases b <;> decide +kernel
theorem flat_strs (ts : List Str) : (ts.map V.str).all flatV = true := by
  rw [List.all_map, List.all_eq_true]
  exact fun _ _ => rfl
theorem has_deed (b : Bool) : dS2.contains (dS b) = true := by cases b <;> decide +kernel
theorem has_piece {pc : List Nat} (h : pc ∈ pcs) : pcS.contains (S pc) = true := by
  have e : pc = [116, 117] ∨ pc = [117, 116] ∨ pc = [114, 114] ∨ pc = [116, 114, 116, 114, 116, 114] := by simpa [pcs] using h
  rcases e with rfl | rfl | rfl | rfl <;> decide +kernel
theorem in_pcs {pc : List Nat} (h : pc ∈ pcs) : inV (.str (S pc)) [.str "tu", .str "ut", .str "rr", .str "trtrtr"] = true := by
  have z := inV_str (S pc) pcS
  rw [has_piece h] at z
  exact z
theorem in_deeds (b : Bool) : inV (.str (dS b)) [.str "in", .str "out"] = true := by cases b <;> decide +kernel
theorem len_S {K : PySem.W.Frag} {H : Hp} {u : List Nat} (h : u.length ≤ 1000000) : LenV K (.str (S u)) H u.length := ⟨by rw [S_len]; exact big h, (S_len u).symm⟩
theorem sz2 {a c : List Nat} (h : a.length + c.length ≤ 1000000) : (S a).length + (S c).length ≤ sizeLine := by
  rw [S_len, S_len]
  exact big h
def Deeds (K : PySem.W.Frag) (mg : Str → Option Value) : Prop := ∃ a, mg "DEEDS" = some (.ref a) ∧ ∀ H, SqT K H a (dS2.map V.str)
def Pieces (K : PySem.W.Frag) (mg : Str → Option Value) : Prop := ∃ a, mg "PIECES" = some (.ref a) ∧ ∀ H, SqT K H a (pcS.map V.str)
/-! ### lists of steps -/
theorem StpsAt.at {H : Hp} : ∀ {vs : List V} {ts : List Stp}, StpsAt H vs ts → ∀ {i : Nat} {v : V}, vs[i]? = some v → ∃ p t, v = .ref p ∧ ts[i]? = some t ∧ H p = some (stV t)
  | [], [], _, _, _, h => by cases h
  | _ :: _, _ :: _, ⟨⟨p, e, h⟩, _⟩, 0, v, hv => by
    cases hv
    exact ⟨p, _, e, rfl, h⟩
  | _ :: _, _ :: _, ⟨_, r⟩, i + 1, v, hv => StpsAt.at r (i := i) hv
theorem StpsAt.rev {H : Hp} : ∀ {vs : List V} {ts : List Stp}, StpsAt H vs ts → StpsAt H vs.reverse ts.reverse
  | [], [], _ => trivial
  | _ :: _, _ :: _, ⟨a, r⟩ => by
    rw [List.reverse_cons, List.reverse_cons]
    exact (StpsAt.rev r).append ⟨a, trivial⟩
theorem rns_next {ts : List Stp} {i : Nat} {t : Stp} {x w v : List Nat} (h : rns (ts.take i) x = some w) (ht : ts[i]? = some t) (hd : due w t.1 t.2.1 t.2.2 = some v) : rns (ts.take (i + 1)) x = some v := by
  rw [List.take_add_one, ht, rns_append, h]
  show (due w t.1 t.2.1 t.2.2).bind (rns []) = some v
  rw [hd]
  rfl
theorem rns_stop {ts : List Stp} {i : Nat} {t : Stp} {x w : List Nat} (h : rns (ts.take i) x = some w) (ht : ts[i]? = some t) (hd : due w t.1 t.2.1 t.2.2 = none) : rns ts x = none := by
  have e : ts = ts.take i ++ t :: ts.drop (i + 1) := by
    obtain ⟨hi, e⟩ := List.getElem?_eq_some_iff.mp ht
    rw [← e, List.getElem_cons_drop, List.take_append_drop]
  rw [e, rns_append, h]
  show (due w t.1 t.2.1 t.2.2).bind _ = none
  rw [hd]
  rfl
theorem rns_room {ts : List Stp} {i : Nat} {x w : List Nat} (hp : ∀ t ∈ ts, t.2.2 ∈ pcs) (h : rns (ts.take i) x = some w) : w.length ≤ x.length + 6 * ts.length := by
  have := rns_len (sts := ts.take i) (fun t ht => hp t (List.mem_of_mem_take ht)) h
  rw [List.length_take] at this
  omega
/-- steps that may be run: few, with pieces of their own -/
structure StpsOk (x : List Nat) (ts : List Stp) : Prop where
  pc : ∀ t ∈ ts, t.2.2 ∈ pcs
  len : x.length + 6 * ts.length ≤ 100000
theorem StpsOk.room {x : List Nat} {ts : List Stp} (h : StpsOk x ts) {i : Nat} {w : List Nat} (e : rns (ts.take i) x = some w) : w.length ≤ 100000 := by
  have := rns_room h.pc e
  have := h.len
  omega
theorem steps2_ok {u v : List Nat} (hu : u.length ≤ 1000) (hv : v.length ≤ 1000) : StpsOk u (steps2 u v) := ⟨steps2_pcs u v, by have := steps2_len u v; omega⟩
theorem al_same {u v : List Nat} (h : al u v = true) : Same3 u v := fun f hf => by
  obtain ⟨a, b, c⟩ := (al_iff u v).mp h
  exact three_all a b c hf
theorem al_run {u v : List Nat} (hu : IsW u) (hv : IsW v) (h : al u v = true) : rns (steps2 u v) u = some v := steps2_run hu hv (al_same h)
/-- the steps, and one more that makes it longer -/
theorem steps_more {ts : List Stp} {u v : List Nat} (hv : rns ts u = some v) : rns (ts ++ [(true, 0, [114, 114])]) u ≠ some v := by
  rw [rns_append, hv]
  show (due v true 0 [114, 114]).bind (rns []) ≠ some v
  rw [due_in (by omega) (by omega)]
  intro e
  have := congrArg List.length (Option.some.inj (show some _ = some v from e))
  simp at this
  omega
/-! ### promises -/
def spAmong (K : PySem.W.Frag) : Sp := fun vs H Q _ => ∃ (x : Str) (a : Addr) (ts : List Str), vs = [.str x, .ref a] ∧ SqT K H a (ts.map V.str) ∧ Q (.bl (ts.contains x)) H
def spIsStep : Sp := fun vs H Q _ => ∃ p b i pc, vs = [.ref p] ∧ H p = some (stV (b, i, pc)) ∧ pc ∈ pcs ∧ Q (.bl true) H
def spCan : Sp := fun vs H Q _ => ∃ u p b i pc, vs = [.str (S u), .ref p] ∧ H p = some (stV (b, i, pc)) ∧ pc ∈ pcs ∧ u.length ≤ 100000 ∧ Q (.bl (due u b i pc).isSome) H
def spAfter : Sp := fun vs H Q _ => ∃ u p b i pc v, vs = [.str (S u), .ref p] ∧ H p = some (stV (b, i, pc)) ∧ pc ∈ pcs ∧ u.length ≤ 100000 ∧ due u b i pc = some v ∧ Q (.str (S v)) H
def dueV : Option (List Nat) → V
  | none => .non
  | some v => .str (S v)
def spDone : Sp := fun vs H Q _ => ∃ u p b i pc, vs = [.str (S u), .ref p] ∧ H p = some (stV (b, i, pc)) ∧ pc ∈ pcs ∧ u.length ≤ 100000 ∧ ∀ H', Same H H' → Q (dueV (due u b i pc)) H'
def AlikeAt (C : Addr) (H : Hp) (o : Addr) (ts : List Stp) : Prop := ∃ dx m ps, H o = some (.ins C dx [("steps", .ref m)]) ∧ H m = some (.lst ps) ∧ StpsAt H ps ts
theorem AlikeAt.same {C : Addr} {H H' : Hp} {o : Addr} {ts : List Stp} (s : Same H H') (h : AlikeAt C H o ts) : AlikeAt C H' o ts :=
  let ⟨dx, m, ps, a, b, c⟩ := h
  ⟨dx, m, ps, s _ _ a, s _ _ b, c.same s⟩
def UnlikeAt (C : Addr) (H : Hp) (o : Addr) (g : Fr) : Prop := ∃ dx p, H o = some (.ins C dx [("fraction", .ref p)]) ∧ H p = some (fT g)
/-- __init__ of Alike: the steps are taken over into a list of its own -/
def spInitA (C : Addr) : Sp := fun vs H Q _ => ∃ o dx m0 ps, vs = [.ref o, .ref m0] ∧ H o = some (.ins C dx []) ∧ H m0 = some (.lst ps) ∧ ∀ m, H m = none → Q .non (upd (upd H m (.lst ps)) o (.ins C dx [("steps", .ref m)]))
def spAlikeShows (C : Addr) : Sp := fun vs H Q _ => ∃ o x y ts, vs = [.ref o, .str (S x), .str (S y)] ∧ AlikeAt C H o ts ∧ StpsOk x ts ∧ ∀ H', Same H H' → Q (.bl (decide (rns ts x = some y))) H'
def spUnlikeShows (C : Addr) : Sp := fun vs H Q _ => ∃ o x y g, vs = [.ref o, .str (S x), .str (S y)] ∧ UnlikeAt C H o g ∧ ∀ H', Same H H' → Q (.bl (!decide (walk x g = walk y g))) H'
def spUndone : Sp := fun vs H Q _ => ∃ m ps ts, vs = [.ref m] ∧ H m = some (.lst ps) ∧ StpsAt H ps ts ∧ ts.length ≤ 1000000 ∧ ∀ p ps' H', Same H H' → H' p = some (.lst ps') → StpsAt H' ps' (ts.reverse.map undo1) → Q (.ref p) H'
def spAlike (CA CU : Addr) : Sp := fun vs H Q _ => ∃ x y, vs = [.str (S x), .str (S y)] ∧ IsW x ∧ IsW y ∧ x.length ≤ 1000 ∧ y.length ≤ 1000 ∧
  (al x y = true → ∀ o dx m ps H', Same H H' → H m = none → H' o = some (.ins CA dx [("steps", .ref m)]) → H' m = some (.lst ps) → StpsAt H' ps (steps2 x y) → Q (.ref o) H') ∧
  (al x y = false → ∀ o g H', Same H H' → UnlikeAt CU H' o g → IsF g → walk x g ≠ walk y g → Q (.ref o) H')
def spTwo (K : PySem.W.Frag) : Sp := fun vs H Q _ => ∃ (a : Addr) (ns : List Int), vs = [.ref a] ∧ SqL K H a (ns.map V.int) ∧ ns.length ≤ 63 ∧ ∀ p x y H', Same H H' → H' p = some (.tup [.str (S x), .str (S y)]) → IsW x → IsW y → x.length ≤ 400 → y.length ≤ 400 → Q (.ref p) H'
def spLed4 : Sp := fun vs H Q _ => ∃ x y m ps ts, vs = [.str (S x), .ref m, .str (S y)] ∧ H m = some (.lst ps) ∧ StpsAt H ps ts ∧ StpsOk x ts ∧ ∀ H', Same H H' → Q (.bl (decide (rns ts x = some y))) H'
def spRight4 (CA CU : Addr) : Sp := fun vs H Q _ => ∃ x y o, vs = [.str (S x), .str (S y), .ref o] ∧
  ((∃ ts, AlikeAt CA H o ts ∧ StpsOk x ts ∧ rns ts x = some y) ∨ ∃ g, UnlikeAt CU H o g ∧ IsF g ∧ walk x g ≠ walk y g) ∧ ∀ H', Same H H' → Q (.bl true) H'
/-! ### the words of a script -/
theorem pick4 (n b : Int) (t1 t2 t3 t4 : Tok) : ∃ pc t, pc ∈ pcs ∧ (t = t1 ∨ t = t2 ∨ t = t3 ∨ t = t4) ∧ atI [V.stk "tu" t1, V.stk "ut" t2, V.stk "rr" t3, V.stk "trtrtr" t4] (n / b % 4) = some (.stk (S pc) t) := by
  have h0 := Int.emod_nonneg (n / b) (show (4 : Int) ≠ 0 by decide)
  have h1 := Int.emod_lt_of_pos (n / b) (show (0 : Int) < 4 by decide)
  generalize n / b % 4 = i at h0 h1
  have h : i = ((0 : Nat) : Int) ∨ i = ((1 : Nat) : Int) ∨ i = ((2 : Nat) : Int) ∨ i = ((3 : Nat) : Int) := by omega
  rcases h with rfl | rfl | rfl | rfl
  · exact ⟨[116, 117], t1, by simp [pcs], .inl rfl, by rw [atI_nat rfl, lit_tu]⟩
  · exact ⟨[117, 116], t2, by simp [pcs], .inr (.inl rfl), by rw [atI_nat rfl, lit_ut]⟩
  · exact ⟨[114, 114], t3, by simp [pcs], .inr (.inr (.inl rfl)), by rw [atI_nat rfl, lit_rr]⟩
  · exact ⟨[116, 114, 116, 114, 116, 114], t4, by simp [pcs], .inr (.inr (.inr rfl)), by rw [atI_nat rfl, S_tr]⟩
theorem pcs_ne {pc : List Nat} (h : pc ∈ pcs) : (S pc == ("" : Str)) = false := by
  have e : pc = [116, 117] ∨ pc = [117, 116] ∨ pc = [114, 114] ∨ pc = [116, 114, 116, 114, 116, 114] := by simpa [pcs] using h
  rcases e with rfl | rfl | rfl | rfl <;> decide +kernel
theorem S_of (y : Str) : y = S y.cps.toList := by cases y; simp [S]
theorem repl_word {x : List Nat} (hx : IsW x) (y : Str) (n : Nat) : ∃ z, Builtin.Str.glued ("" : Str) (Builtin.Str.partsBetween (S x) (Builtin.Str.occurrences (S x) y 0 (S x).length 1) n) = S z ∧ IsW z ∧ z.length ≤ x.length := by
  have hl := StrLaws.occ_length_le (S x) y 0 (S x).length 1
  generalize Builtin.Str.occurrences (S x) y 0 (S x).length 1 = cs at hl
  have ex : ∀ i j, IsW ((Builtin.Str.strSub (S x) i j).cps.toList) ∧ ((Builtin.Str.strSub (S x) i j).cps.toList).length = min j x.length - i := fun i j => by
    have e : (Builtin.Str.strSub (S x) i j).cps.toList = (x.take j).drop i := by
      show ((x.toArray).extract i j).toList = _
      simp [List.extract_eq_take_drop, List.drop_take]
    rw [e]
    refine ⟨fun c hc => hx c (List.mem_of_mem_take (List.mem_of_mem_drop hc)), ?_⟩
    rw [List.length_drop, List.length_take]
  match cs, hl with
  | [], _ =>
    have e : Builtin.Str.glued ("" : Str) (Builtin.Str.partsBetween (S x) [] n) = Builtin.Str.strSub (S x) 0 (S x).length := rfl
    have := ex 0 (S x).length
    exact ⟨_, e.trans (S_of _), this.1, by rw [this.2]; omega⟩
  | [i], _ =>
    have a := ex 0 i
    have b := ex (i + n) (S x).length
    refine ⟨(Builtin.Str.strSub (S x) 0 i).cps.toList ++ (Builtin.Str.strSub (S x) (i + n) (S x).length).cps.toList, ?_, a.1.append b.1, by rw [List.length_append, a.2, b.2, S_len]; omega⟩
    show (⟨(Builtin.Str.strSub (S x) 0 i).cps ++ ("" : Str).cps ++ (Builtin.Str.strSub (S x) (i + n) (S x).length).cps⟩ : Str) = _
    unfold S
    congr 1
    rw [show ("" : Str).cps = #[] from rfl]
    simp
  | _ :: _ :: _, h => exact absurd h (by simp)
theorem slice_word {x : List Nat} (hx : IsW x) (l u : Option Int) : ∃ z, Txt.slice (S x) l u = S z ∧ IsW z ∧ z.length ≤ x.length := by
  refine ⟨(Txt.slice (S x) l u).cps.toList, S_of _, fun c hc => ?_, ?_⟩
  · unfold Txt.slice at hc
    split at hc
    · rw [S_list] at hc
      exact hx c hc
    · rw [List.toList_toArray] at hc
      obtain ⟨i, _, hi⟩ := List.mem_filterMap.mp hc
      have h2 : x[i]? = some c := by
        have e : (S x).cps[i]? = x[i]? := by show x.toArray[i]? = _; simp
        rw [← e]; exact hi
      exact hx c (List.mem_of_getElem? h2)
  · have := Txt.slice_le (S x) l u
    rw [S_len] at this
    have e : (Txt.slice (S x) l u).cps.toList.length = (Txt.slice (S x) l u).length := by rw [Array.length_toList]; rfl
    omega
theorem _root_.L2.Same.non {H H' : Hp} {p : Addr} (s : Same H H') (n : H' p = none) : H p = none := by
  cases e : H p with
  | none => rfl
  | some o => rw [s _ _ e] at n; cases n
end TX

set_option Elab.async false
set_option linter.all false
set_option maxRecDepth 100000
set_option maxHeartbeats 4000000
namespace K04
open PySem L2 TW TX
seal L2.PE L2.PT L2.PA L2.PS L2.PSs L2.PI L2.PG L2.PGs L2.PW L2.PTs L2.PO
def top (i : Nat) : Stmt := PySem.Challenge.pw_twistturn_k04_whole_alike.main.body.getD i (.Pass ⟨0, 0, 0, 0⟩)
def meth (i j : Nat) : Stmt := match top i with | .ClassDef _ _ _ b _ _ _ _ _ _ _ => b.getD j (.Pass ⟨0, 0, 0, 0⟩) | s => s
section
variable {P : Program} {w : World} {K : PySem.W.Frag} {mg : Str → Option Value} {base : Heap} {f : Addr} {fd : FuncData} {k : Nat}
abbrev s_is_whole : Stmt := top 11
theorem sc_is_whole : FnScope ["value"] ["value"] (defScope s_is_whole) := ⟨rfl, rfl, rfl, by decide +kernel, rfl, by decide +kernel, by decide +kernel⟩
theorem ok_is_whole (G : Glo mg) (F : Fun K "is_whole" "is_whole" s_is_whole f fd) : FnOk P w K mg base CX0 (k + 1) f fd ["value"] spWhole := by
  refine F.ok sc_is_whole (fun vs H Q E h => ?_) (fun cdv A outer s H vs Q E hr h => ?_)
  · obtain ⟨i, rfl, _⟩ := h; rfl
  obtain ⟨i, rfl, q⟩ := h
  refine ⟨_, (pss_one (ps_ret (pe_and (pe_callB (call_isiK (K := K) rfl) rfl G.n_isinstance bt_isinstance (pa_cons (pv 0) (pa_cons (pe_bltn (v := .ty "int") rfl G.n_int bt_int rfl) pa_nil))) (pe_one (pe_not (pe_callB (call_isiK (K := K) rfl) rfl G.n_isinstance bt_isinstance (pa_cons (pv 0) (pa_cons (pe_bltn (v := .ty "bool") rfl G.n_bool bt_bool rfl) pa_nil)))))))), ?_⟩
  refine ⟨_, rfl, _, _, _, _, rfl, .int i, kit_same "int", _, rfl, ?_⟩
  refine iteT ?_
  exact ⟨_, rfl, _, _, _, _, rfl, .int i, kit_int_bool, _, rfl, q⟩

abbrev s_is_word : Stmt := top 12
theorem sc_is_word : FnScope ["value"] ["value"] (defScope s_is_word) := ⟨rfl, rfl, rfl, by decide +kernel, rfl, by decide +kernel, by decide +kernel⟩
theorem ok_is_word (G : Glo mg) (cLETTERS : Letters K mg) (F : Fun K "is_word" "is_word" s_is_word f fd) : FnOk P w K mg base CX0 (k + 1) f fd ["value"] spWord := by
  refine F.ok sc_is_word (fun vs H Q E h => ?_) (fun cdv A outer s H vs Q E hr h => ?_)
  · obtain ⟨u, rfl, _⟩ := h; rfl
  obtain ⟨u, rfl, hw, hl, q⟩ := h
  obtain ⟨aL, gL, hL⟩ := cLETTERS
  refine ⟨_, (pss_one (ps_ret (pe_and (pe_callB (call_isiK (K := K) rfl) rfl G.n_isinstance bt_isinstance (pa_cons (pv 0) (pa_cons (pe_bltn (v := .ty "str") rfl G.n_str bt_str rfl) pa_nil))) (pe_one (pe_callB (call_allK (K := K) rfl rfl) rfl G.n_all bt_all (pa_cons (pe_lc (ys := []) (js := []) rfl (LcS.to (os := defScope s_is_word) ⟨rfl, by decide +kernel, by decide +kernel, rfl, by decide +kernel, by decide +kernel, by decide +kernel⟩ rfl rfl) (pi_str (pv 0)) (fun _ _ _ _ => pts_none) (fun _ _ _ _ => (pe_cmpR (op_innK (K := K) rfl) (pv 0) (pe_glob (v := .ref aL) rfl gL rfl) rfl))) pa_nil)))))), ?_⟩
  refine ⟨_, rfl, _, _, _, _, rfl, .str _, kit_same "str", _, rfl, ?_⟩
  refine iteT ?_
  refine ⟨_, rfl, _, rfl, ?_⟩
  refine lc_y (Ok := fun _ => True) ItOn.str (fun x => V.bl (inV x [.str (S [116]), .str (S [117]), .str (S [114])])) trivial (by rw [sgV_length]; show (S u).length ≤ _; rw [S_len]; exact big (by omega)) (fun i x Q' hx hq => ?_) (fun p hp => ?_)
  · refine ⟨_, rfl, ?_⟩
    have hf : flatV x = true := by
      rw [sg_S, List.getElem?_map] at hx
      cases e : u[i]? with
      | none => rw [e] at hx; cases hx
      | some c => rw [e] at hx; cases hx; rfl
    exact .inl ⟨aL, _, rfl, .inr (hL _), hf, rfl, hq⟩
  · rw [word_signs hw]
    refine ⟨p, _, rfl, SqL.of upd_same, ?_⟩
    show Q (V.bl ((List.replicate u.length true).all id)) _
    rw [all_true]
    exact q _ (same_new hp _)

abbrev s_is_text_among : Stmt := top 13
theorem sc_is_text_among : FnScope ["value", "texts"] ["value", "texts"] (defScope s_is_text_among) := ⟨rfl, rfl, rfl, by decide +kernel, rfl, by decide +kernel, by decide +kernel⟩
theorem ok_is_text_among (G : Glo mg) (F : Fun K "is_text_among" "is_text_among" s_is_text_among f fd) : FnOk P w K mg base CX0 (k + 1) f fd ["value", "texts"] (spAmong K) := by
  refine F.ok sc_is_text_among (fun vs H Q E h => ?_) (fun cdv A outer s H vs Q E hr h => ?_)
  · obtain ⟨x, a, ts, rfl, _⟩ := h; rfl
  obtain ⟨x, a, ts, rfl, hS, q⟩ := h
  refine ⟨_, (pss_one (ps_ret (pe_and (pe_callB (call_isiK (K := K) rfl) rfl G.n_isinstance bt_isinstance (pa_cons (pv 0) (pa_cons (pe_bltn (v := .ty "str") rfl G.n_str bt_str rfl) pa_nil))) (pe_one (pe_cmpR (op_innK (K := K) rfl) (pv 0) (pv 1) rfl))))), ?_⟩
  refine ⟨_, rfl, _, _, _, _, rfl, .str _, kit_same "str", _, rfl, ?_⟩
  refine iteT ?_
  refine ⟨_, rfl, _, rfl, .inl ⟨a, _, rfl, .inr hS, rfl, flat_strs _, ?_⟩⟩
  show Q (V.bl (inV (.str x) (ts.map V.str))) H
  rw [inV_str]
  exact q

abbrev s_is_step : Stmt := top 14
theorem sc_is_step : FnScope ["value"] ["value"] (defScope s_is_step) := ⟨rfl, rfl, rfl, by decide +kernel, rfl, by decide +kernel, by decide +kernel⟩
theorem ok_is_step (G : Glo mg) (cD : Deeds K mg) (cP : Pieces K mg) (F : Fun K "is_step" "is_step" s_is_step f fd) (c_is_whole : Callee P w K mg base k "is_whole" ["value"] spWhole) (c_is_text_among : Callee P w K mg base k "is_text_among" ["value", "texts"] (spAmong K)) : FnOk P w K mg base CX0 (k + 1) f fd ["value"] spIsStep := by
  refine F.ok sc_is_step (fun vs H Q E h => ?_) (fun cdv A outer s H vs Q E hr h => ?_)
  · obtain ⟨p, b, i, pc, rfl, _⟩ := h; rfl
  obtain ⟨p, b, i, pc, rfl, hp, hpc, q⟩ := h
  have hu := hr.units
  obtain ⟨aD, gD, hD⟩ := cD
  obtain ⟨aP, gP, hP⟩ := cP
  have hp' : H p = some (.tup [.str (dS b), .int i, .str (S pc)]) := hp
  refine ⟨_, (pss_cons (ps_if (PW.pt (pw_or (pt_not (pt_val (pe_callB (call_isiK (K := K) rfl) rfl G.n_isinstance bt_isinstance (pa_cons (pv 0) (pa_cons (pe_bltn (v := .ty "tuple") rfl G.n_tuple bt_tuple rfl) pa_nil))))) (pw_or1 (pt_cmpR (op_neeK (K := K) hu rfl) (pe_callB (call_lenK (K := K) rfl) rfl G.n_len bt_len (pa_cons (pv 0) pa_nil)) pe_int (nomark _))))) (pss_one (ps_ret pe_bl)) pss_nil)
      (pss_one (ps_ret (pe_and (pe_calls c_is_text_among hr rfl (pa_cons (pe_ix (ix_anyK (K := K) (Pm := w.params) rfl rfl) (pv 0) pe_int (fun _ _ => rfl)) (pa_cons (pe_glob (v := .ref aD) rfl gD rfl) pa_nil))) (pe_and (pe_calls c_is_whole hr rfl (pa_cons (pe_ix (ix_anyK (K := K) (Pm := w.params) rfl rfl) (pv 0) pe_int (fun _ _ => rfl)) pa_nil)) (pe_one (pe_calls c_is_text_among hr rfl (pa_cons (pe_ix (ix_anyK (K := K) (Pm := w.params) rfl rfl) (pv 0) pe_int (fun _ _ => rfl)) (pa_cons (pe_glob (v := .ref aP) rfl gP rfl) pa_nil))))))))), ?_⟩
  refine ⟨_, rfl, _, _, _, _, rfl, .tup hp', kit_same "tuple", _, rfl, ?_⟩
  refine iteF ?_
  refine ⟨_, rfl, .ref p, 3, rfl, ?len, .inl ⟨rfl, _, rfl, ?_⟩⟩
  case len => exact .inr ⟨_, SqT.of hp', rfl⟩
  refine iteF ?_
  refine ⟨_, rfl, .inl (.inr (.inl ⟨p, _, 0, .str (dS b), rfl, rfl, SqT.of hp', rfl, ?_⟩))⟩
  refine ⟨_, aD, _, rfl, hD H, _, rfl, ?_⟩
  rw [has_deed]
  refine iteT ?_
  refine ⟨_, rfl, .inl (.inr (.inl ⟨p, _, 1, .int i, rfl, rfl, SqT.of hp', rfl, ?_⟩))⟩
  refine ⟨_, rfl, _, rfl, ?_⟩
  refine iteT ?_
  refine ⟨_, rfl, .inl (.inr (.inl ⟨p, _, 2, .str (S pc), rfl, rfl, SqT.of hp', rfl, ?_⟩))⟩
  refine ⟨_, aP, _, rfl, hP H, ?_⟩
  rw [has_piece hpc]
  exact q

abbrev s_check_word : Stmt := top 15
theorem sc_check_word : FnScope ["word"] ["word"] (defScope s_check_word) := ⟨rfl, rfl, rfl, by decide +kernel, rfl, by decide +kernel, by decide +kernel⟩
theorem ok_check_word (F : Fun K "check_word" "check_word" s_check_word f fd) (c_is_word : Callee P w K mg base k "is_word" ["value"] spWord) : FnOk P w K mg base CX0 (k + 1) f fd ["word"] spChkW := by
  refine F.ok sc_check_word (fun vs H Q E h => ?_) (fun cdv A outer s H vs Q E hr h => ?_)
  · obtain ⟨u, rfl, _⟩ := h; rfl
  obtain ⟨u, rfl, hw, hl, q⟩ := h
  refine ⟨_, (pss_one (ps_if (pt_not (pt_val (pe_calls c_is_word hr rfl (pa_cons (pv 0) pa_nil)))) (pss_one ps_never) pss_nil)), ?_⟩
  refine ⟨_, rfl, u, rfl, hw, hl, fun H' hs => ⟨_, rfl, ?_⟩⟩
  exact iteF (q _ hs)

abbrev s_turned : Stmt := top 16
theorem sc_turned : FnScope ["a", "b"] ["a", "b"] (defScope s_turned) := ⟨rfl, rfl, rfl, by decide +kernel, rfl, by decide +kernel, by decide +kernel⟩
theorem ok_turned (F : Fun K "turned" "turned" s_turned f fd) : FnOk P w K mg base CX0 (k + 1) f fd ["a", "b"] spTurned := by
  refine F.ok sc_turned (fun vs H Q E h => ?_) (fun cdv A outer s H vs Q E hr h => ?_)
  · obtain ⟨g, rfl, _⟩ := h; rfl
  obtain ⟨g, rfl, q⟩ := h
  refine ⟨_, (pss_cons (ps_if (pt_cmpR op_gt (pv 0) pe_int (nomark _)) (pss_one (ps_ret (pe_tup (pa_cons (pe_un un_neg (pv 1)) (pa_cons (pv 0) pa_nil))))) pss_nil)
      (pss_cons (ps_if (pt_cmpR op_lt (pv 0) pe_int (nomark _)) (pss_one (ps_ret (pe_tup (pa_cons (pv 1) (pa_cons (pe_un un_neg (pv 0)) pa_nil))))) pss_nil)
      (pss_one (ps_ret (pe_tup (pa_cons pe_int (pa_cons pe_int pa_nil))))))), ?_⟩
  refine ⟨_, rfl, _, _, rfl, rfl, _, rfl, ?_⟩
  refine ite2 (fun c => ?_) (fun c => ?_)
  · have c' : 0 < g.1 := of_decide_eq_true c
    refine ⟨_, rfl, _, rfl, _, rfl, two_ok, fun p hp => q p _ (same_new hp _) ?_⟩
    rw [upd_same, mv_r, if_pos c']
    rfl
  · have c' : ¬ 0 < g.1 := of_decide_eq_false (Bool.eq_false_iff.mpr c)
    refine ⟨_, rfl, _, _, rfl, rfl, _, rfl, ?_⟩
    refine ite2 (fun d => ?_) (fun d => ?_)
    · have d' : g.1 < 0 := of_decide_eq_true d
      refine ⟨_, rfl, _, rfl, _, rfl, two_ok, fun p hp => q p _ (same_new hp _) ?_⟩
      rw [upd_same, mv_r, if_neg c', if_pos d']
      rfl
    · have d' : ¬ g.1 < 0 := of_decide_eq_false (Bool.eq_false_iff.mpr d)
      refine ⟨two_ok, fun p hp => q p _ (same_new hp _) ?_⟩
      rw [upd_same, mv_r, if_neg c', if_neg d']
      rfl

abbrev s_moved : Stmt := top 17
theorem sc_moved : FnScope ["letter", "a", "b"] ["letter", "a", "b"] (defScope s_moved) := ⟨rfl, rfl, rfl, by decide +kernel, rfl, by decide +kernel, by decide +kernel⟩
theorem ok_moved (F : Fun K "moved" "moved" s_moved f fd) (c_turned : Callee P w K mg base k "turned" ["a", "b"] spTurned) : FnOk P w K mg base CX0 (k + 1) f fd ["letter", "a", "b"] spMoved := by
  refine F.ok sc_moved (fun vs H Q E h => ?_) (fun cdv A outer s H vs Q E hr h => ?_)
  · obtain ⟨c, g, rfl, _⟩ := h; rfl
  obtain ⟨c, g, rfl, q⟩ := h
  have hu := hr.units
  refine ⟨_, (pss_cons (ps_if (pt_cmpR op_eq (pv 0) pe_str (nomark _)) (pss_one (ps_ret (pe_tup (pa_cons (pe_op op_plus (pv 1) (pv 2)) (pa_cons (pv 2) pa_nil))))) pss_nil)
      (pss_cons (ps_if (pt_cmpR op_eq (pv 0) pe_str (nomark _)) (pss_one (ps_ret (pe_tup (pa_cons (pe_op op_sub (pv 1) (pv 2)) (pa_cons (pv 2) pa_nil))))) pss_nil)
      (pss_one (ps_ret (pe_calls c_turned hr rfl (pa_cons (pv 1) (pa_cons (pv 2) pa_nil))))))), ?_⟩
  refine ⟨_, rfl, ⟨rfl, _, rfl, ?_⟩⟩
  rw [eq_sign c 116 _ lit_t]
  refine ite2 (fun e => ?_) (fun e => ?_)
  · have e' : c = 116 := of_decide_eq_true e
    refine ⟨_, rfl, _, rfl, .inl ⟨_, _, rfl, rfl, _, rfl, two_ok, fun p hp => q p _ (same_new hp _) ?_⟩⟩
    rw [upd_same, mv, if_pos e']
    rfl
  · have e' : ¬ c = 116 := of_decide_eq_false (Bool.eq_false_iff.mpr e)
    refine ⟨_, rfl, ⟨rfl, _, rfl, ?_⟩⟩
    rw [eq_sign c 117 _ lit_u]
    refine ite2 (fun d => ?_) (fun d => ?_)
    · have d' : c = 117 := of_decide_eq_true d
      refine ⟨_, rfl, _, rfl, _, _, rfl, rfl, _, rfl, two_ok, fun p hp => q p _ (same_new hp _) ?_⟩
      rw [upd_same, mv, if_neg e', if_pos d']
      rfl
    · have d' : ¬ c = 117 := of_decide_eq_false (Bool.eq_false_iff.mpr d)
      refine ⟨_, rfl, _, rfl, g, rfl, fun p H' hs hp => q p H' hs ?_⟩
      rw [hp, mv_r, mv, if_neg e', if_neg d']

abbrev s_follow : Stmt := top 18
theorem sc_follow : FnScope ["word", "fraction", "here", "letter"] ["word", "fraction"] (defScope s_follow) := ⟨rfl, rfl, rfl, by decide +kernel, rfl, by decide +kernel, by decide +kernel⟩
theorem ok_follow (F : Fun K "follow" "follow" s_follow f fd) (c_moved : Callee P w K mg base k "moved" ["letter", "a", "b"] spMoved) : FnOk P w K mg base CX0 (k + 1) f fd ["word", "fraction"] (spFollowK K) := by
  refine F.ok sc_follow (fun vs H Q E h => ?_) (fun cdv A outer s H vs Q E hr h => ?_)
  · obtain ⟨u, p, g, rfl, _⟩ := h; rfl
  obtain ⟨u, p, g, rfl, hp, q⟩ := h
  have nd := sc_follow.nd
  refine ⟨_, (pss_cons (ps_set (i := 2) nd rfl (Or.inl rfl) (pe_tup (pa_cons (pe_ix (ix_tupK (K := K) rfl) (pv 1) pe_int (fun _ _ => rfl)) (pa_cons (pe_ix (ix_tupK (K := K) rfl) (pv 1) pe_int (fun _ _ => rfl)) pa_nil))))
      (pss_cons (ps_for PassesOwn.never rfl (pi_str (pv 0)) (pg_name (i := 3) nd rfl (Or.inl rfl)) (pss_one (ps_set (i := 2) nd rfl (Or.inl rfl) (pe_calls c_moved hr rfl (pa_cons (pv 3) (pa_cons (pe_ix (ix_tupK (K := K) rfl) (pv 2) pe_int (fun _ _ => rfl)) (pa_cons (pe_ix (ix_tupK (K := K) rfl) (pv 2) pe_int (fun _ _ => rfl)) pa_nil)))))))
      (pss_one (ps_ret (pv 2))))), ?_⟩
  refine ⟨_, rfl, ⟨p, _, 0, .int g.1, rfl, rfl, hp, rfl, ?_⟩⟩
  refine ⟨_, rfl, ⟨p, _, 1, .int g.2, rfl, rfl, hp, rfl, ?_⟩⟩
  refine ⟨two_ok, fun r hr' => ?_⟩
  refine ⟨_, rfl, _, rfl, ?_⟩
  refine for_on (Ok := fun _ => True) ItOn.str (fun i σ' H' => Same H H' ∧ ∃ t l, σ' = [some (.str (S u)), some (.ref p), some (.ref t), l] ∧ H' t = some (fT (walk (u.take i) g))) ⟨same_new hr' _, r, _, rfl, upd_same⟩ (fun _ _ _ _ _ => trivial) ?_ ?_
  · rintro i x σ' H' hx ⟨hs, t, l, rfl, ht⟩
    obtain ⟨c, hc, rfl⟩ := sg_at hx
    have ht' : H' t = some (.tup [.int (walk (u.take i) g).1, .int (walk (u.take i) g).2]) := ht
    refine ⟨_, rfl, _, rfl, ⟨t, _, 0, _, rfl, rfl, SqT.of ht', rfl, ?_⟩⟩
    refine ⟨_, rfl, ⟨t, _, 1, _, rfl, rfl, SqT.of ht', rfl, ?_⟩⟩
    refine ⟨c, walk (u.take i) g, rfl, fun p2 H2 hs2 hp2 => ⟨hs.trans hs2, p2, _, rfl, ?_⟩⟩
    rw [take_snoc hc, walk_snoc]
    exact hp2
  · rintro σ' H' ⟨hs, t, l, rfl, ht⟩
    refine ⟨_, rfl, q t H' hs ?_⟩
    rw [ht, sg_S, List.length_map, List.take_length]

abbrev s_back : Stmt := top 21
theorem sc_back : FnScope ["word"] ["word"] (defScope s_back) := ⟨rfl, rfl, rfl, by decide +kernel, rfl, by decide +kernel, by decide +kernel⟩
theorem ok_back (G : Glo mg) (cEXCHANGED : Exch K mg w.params) (F : Fun K "back" "back" s_back f fd) (c_check_word : Callee P w K mg base k "check_word" ["word"] spChkW) : FnOk P w K mg base CX0 (k + 1) f fd ["word"] spBack := by
  refine F.ok sc_back (fun vs H Q E h => ?_) (fun cdv A outer s H vs Q E hr h => ?_)
  · obtain ⟨u, rfl, _⟩ := h; rfl
  obtain ⟨u, rfl, hw, hl, q⟩ := h
  obtain ⟨aE, es, n, gE, lk, kl, hE⟩ := cEXCHANGED
  refine ⟨_, (pss_cons (ps_expr (pe_calls c_check_word hr rfl (pa_cons (pv 0) pa_nil)))
      (pss_one (ps_ret (pe_bm PySem.F.plainAttrs_str PySem.F.slot_str_join PySem.F.type_str_join mt_join pe_str (pa_cons (pe_lc (ys := []) (js := []) rfl (LcS.to (os := defScope s_back) ⟨rfl, by decide +kernel, by decide +kernel, rfl, by decide +kernel, by decide +kernel, by decide +kernel⟩ rfl rfl) (pi_rev rfl G.n_reversed (pa_cons (pv 0) pa_nil)) (fun _ _ _ _ => pts_none) (fun _ _ _ _ => (pe_ix (ix_anyK (K := K) (Pm := w.params) rfl rfl) (pe_glob (v := .ref aE) rfl gE rfl) (pv 0) (fun _ _ => rfl)))) pa_nil))))), ?_⟩
  refine ⟨_, rfl, u, rfl, hw, hl, fun H1 s1 => ?_⟩
  refine ⟨rfl, _, rfl, _, rfl, by rw [S_len]; exact big (by omega), ?_⟩
  refine lc_y (Ok := fun _ => True) ItOn.rev exV trivial (by rw [List.length_reverse, sgV_length]; show (S u).length ≤ _; rw [S_len]; exact big (by omega)) (fun i x Q' hx hq => ?_) (fun p hp => ?_)
  · have hm : x ∈ sgV (S u) := List.mem_reverse.mp (List.mem_of_getElem? hx)
    rw [sg_S] at hm
    obtain ⟨c, hc, rfl⟩ := List.mem_map.mp hm
    obtain ⟨t, ht⟩ := hE c (hw c hc)
    exact ⟨_, rfl, .inr ⟨aE, es, n, S [c], .str (S [TW.exch c]), _, rfl, rfl, lk, kl, ht, ⟨t, rfl⟩, hq⟩⟩
  · rw [back_signs2 hw]
    refine ⟨_, p, _, rfl, rfl, SqL.of upd_same, ?_, ?_⟩
    · rw [sum_ones, bk_length]
      show u.length + _ * 0 ≤ _
      omega
    · rw [join_S]
      exact q _ (s1.trans (same_new hp _))

abbrev s_can_step : Stmt := top 22
theorem sc_can_step : FnScope ["word", "step", "at", "piece"] ["word", "step"] (defScope s_can_step) := ⟨rfl, rfl, rfl, by decide +kernel, rfl, by decide +kernel, by decide +kernel⟩
theorem ok_can_step (G : Glo mg) (F : Fun K "can_step" "can_step" s_can_step f fd) (c_is_step : Callee P w K mg base k "is_step" ["value"] spIsStep) : FnOk P w K mg base CX0 (k + 1) f fd ["word", "step"] spCan := by
  refine F.ok sc_can_step (fun vs H Q E h => ?_) (fun cdv A outer s H vs Q E hr h => ?_)
  · obtain ⟨u, p, b, i, pc, rfl, _⟩ := h; rfl
  obtain ⟨u, p, b, i, pc, rfl, hp, hpc, hl, q⟩ := h
  have nd := sc_can_step.nd
  have hu := hr.units
  have hz : (S u).length ≤ sizeLine := by rw [S_len]; exact big (by omega)
  have hp' : H p = some (.tup [.str (dS b), .int i, .str (S pc)]) := hp
  have lp := (pcs_len hpc).1
  refine ⟨_, (pss_cons (ps_if (pt_not (pt_val (pe_calls c_is_step hr rfl (pa_cons (pv 1) pa_nil)))) (pss_one (ps_ret pe_bl)) pss_nil)
      (pss_cons (ps_set (i := 2) nd rfl (Or.inl rfl) (pe_ix (ix_anyK (K := K) (Pm := w.params) rfl rfl) (pv 1) pe_int (fun _ _ => rfl)))
      (pss_cons (ps_set (i := 3) nd rfl (Or.inl rfl) (pe_ix (ix_anyK (K := K) (Pm := w.params) rfl rfl) (pv 1) pe_int (fun _ _ => rfl)))
      (pss_cons (ps_if (PW.pt (pw_or (pt_cmpR op_lt (pv 2) pe_int (nomark _)) (pw_or1 (pt_cmpR op_gt (pv 2) (pe_callB (call_lenK (K := K) rfl) rfl G.n_len bt_len (pa_cons (pv 0) pa_nil)) (nomark _))))) (pss_one (ps_ret pe_bl)) pss_nil)
      (pss_one (ps_ret (pe_or (pe_cmpR (op_eqqK (K := K) hu rfl) (pe_ix (ix_anyK (K := K) (Pm := w.params) rfl rfl) (pv 1) pe_int (fun _ _ => rfl)) pe_str (nomark _)) (pe_one (pe_cmpR (op_eqqK (K := K) hu rfl) (pe_slice (sl_any (K := K) rfl) (pv 0) (po_some (pv 2)) (po_some (pe_op op_plus (pv 2) (pe_callB (call_lenK (K := K) rfl) rfl G.n_len bt_len (pa_cons (pv 3) pa_nil))))) (pv 3) (nomark _)))))))))), ?_⟩
  refine ⟨_, rfl, p, b, i, pc, rfl, hp, hpc, _, rfl, ?_⟩
  refine iteF ?_
  refine ⟨_, rfl, .inl (.inr (.inl ⟨p, _, 1, .int i, rfl, rfl, SqT.of hp', rfl, ?_⟩))⟩
  refine ⟨_, rfl, .inl (.inr (.inl ⟨p, _, 2, .str (S pc), rfl, rfl, SqT.of hp', rfl, ?_⟩))⟩
  refine ⟨_, rfl, _, _, rfl, rfl, _, rfl, ?_⟩
  refine ite2 (fun c => ?_) (fun c => ?_)
  · have c' : i < 0 := of_decide_eq_true c
    rw [due_off (.inl c')] at q
    exact q
  have c0 : ¬ i < 0 := of_decide_eq_false (Bool.eq_false_iff.mpr c)
  refine ⟨_, rfl, _, rfl, .str (S u), u.length, rfl, len_S (by omega), _, _, rfl, rfl, _, rfl, ?_⟩
  refine ite2 (fun d => ?_) (fun d => ?_)
  · have d' : (u.length : Int) < i := of_decide_eq_true d
    rw [due_off (.inr d')] at q
    exact q
  have d0 : ¬ (u.length : Int) < i := of_decide_eq_false (Bool.eq_false_iff.mpr d)
  refine ⟨_, rfl, .inl (.inr (.inl ⟨p, _, 0, .str (dS b), rfl, rfl, SqT.of hp', rfl, .inl ⟨rfl, _, rfl, ?_⟩⟩))⟩
  rw [dS_in]
  cases b with
  | true =>
    rw [due_in (by omega) (by omega)] at q
    exact iteT q
  | false =>
    refine iteF ?_
    refine ⟨_, rfl, _, rfl, i, rfl, _, rfl, _, rfl, .str (S pc), pc.length, rfl, len_S (by omega), .inl ⟨_, _, rfl, rfl, _, rfl, .inl ⟨_, rfl, hz, _, rfl, .inl ⟨rfl, ?_⟩⟩⟩⟩
    rw [S_mid (by omega) (by omega), eqS]
    rw [due_out (by omega) (by omega)] at q
    by_cases e : (u.drop i.toNat).take pc.length = pc
    · rw [if_pos e] at q
      rw [e, decide_eq_true rfl]
      exact q
    · rw [if_neg e] at q
      rw [decide_eq_false (fun z => e (S_inj z))]
      exact q

abbrev s_after_step : Stmt := top 23
theorem sc_after_step : FnScope ["word", "step", "at", "piece"] ["word", "step"] (defScope s_after_step) := ⟨rfl, rfl, rfl, by decide +kernel, rfl, by decide +kernel, by decide +kernel⟩
theorem ok_after_step (G : Glo mg) (F : Fun K "after_step" "after_step" s_after_step f fd) : FnOk P w K mg base CX0 (k + 1) f fd ["word", "step"] spAfter := by
  refine F.ok sc_after_step (fun vs H Q E h => ?_) (fun cdv A outer s H vs Q E hr h => ?_)
  · obtain ⟨u, p, b, i, pc, v, rfl, _⟩ := h; rfl
  obtain ⟨u, p, b, i, pc, v, rfl, hp, hpc, hl, hd, q⟩ := h
  have nd := sc_after_step.nd
  have hu := hr.units
  have hz : (S u).length ≤ sizeLine := by rw [S_len]; exact big (by omega)
  have hp' : H p = some (.tup [.str (dS b), .int i, .str (S pc)]) := hp
  have lp := (pcs_len hpc).1
  have i0 : 0 ≤ i := by
    by_cases h : i < 0
    · rw [due_off (.inl h)] at hd; cases hd
    · omega
  have i1 : i ≤ u.length := by
    by_cases h : (u.length : Int) < i
    · rw [due_off (.inr h)] at hd; cases hd
    · omega
  refine ⟨_, (pss_cons (ps_set (i := 2) nd rfl (Or.inl rfl) (pe_ix (ix_anyK (K := K) (Pm := w.params) rfl rfl) (pv 1) pe_int (fun _ _ => rfl)))
      (pss_cons (ps_set (i := 3) nd rfl (Or.inl rfl) (pe_ix (ix_anyK (K := K) (Pm := w.params) rfl rfl) (pv 1) pe_int (fun _ _ => rfl)))
      (pss_cons (ps_if (pt_cmpR (op_eqqK (K := K) hu rfl) (pe_ix (ix_anyK (K := K) (Pm := w.params) rfl rfl) (pv 1) pe_int (fun _ _ => rfl)) pe_str (nomark _)) (pss_one (ps_ret (pe_op op_plus (pe_op op_plus (pe_slice (sl_any (K := K) rfl) (pv 0) po_none (po_some (pv 2))) (pv 3)) (pe_slice (sl_any (K := K) rfl) (pv 0) (po_some (pv 2)) po_none)))) pss_nil)
      (pss_one (ps_ret (pe_op op_plus (pe_slice (sl_any (K := K) rfl) (pv 0) po_none (po_some (pv 2))) (pe_slice (sl_any (K := K) rfl) (pv 0) (po_some (pe_op op_plus (pv 2) (pe_callB (call_lenK (K := K) rfl) rfl G.n_len bt_len (pa_cons (pv 3) pa_nil)))) po_none))))))), ?_⟩
  refine ⟨_, rfl, .inl (.inr (.inl ⟨p, _, 1, .int i, rfl, rfl, SqT.of hp', rfl, ?_⟩))⟩
  refine ⟨_, rfl, .inl (.inr (.inl ⟨p, _, 2, .str (S pc), rfl, rfl, SqT.of hp', rfl, ?_⟩))⟩
  refine ⟨_, rfl, .inl (.inr (.inl ⟨p, _, 0, .str (dS b), rfl, rfl, SqT.of hp', rfl, .inl ⟨rfl, _, rfl, ?_⟩⟩))⟩
  rw [dS_in]
  cases b with
  | true =>
    rw [due_in i0 i1] at hd
    cases hd
    refine iteT ?_
    refine ⟨_, rfl, _, rfl, i, rfl, .inl ⟨_, rfl, hz, ?_⟩⟩
    rw [S_to i0 i1]
    refine ⟨_, rfl, .inr ⟨_, _, rfl, rfl, sz2 (by rw [List.length_take]; omega), ?_⟩⟩
    refine ⟨_, rfl, _, rfl, i, rfl, .inl ⟨_, rfl, hz, ?_⟩⟩
    rw [S_from i0 i1, S_app]
    refine .inr ⟨_, _, rfl, rfl, sz2 (by rw [List.length_append, List.length_take, List.length_drop]; omega), ?_⟩
    rw [S_app]
    exact q
  | false =>
    rw [due_out i0 i1] at hd
    by_cases e : (u.drop i.toNat).take pc.length = pc
    · rw [if_pos e] at hd
      cases hd
      have room := out_room i0 i1 e
      refine iteF ?_
      refine ⟨_, rfl, _, rfl, i, rfl, .inl ⟨_, rfl, hz, ?_⟩⟩
      rw [S_to i0 i1]
      refine ⟨_, rfl, _, rfl, _, rfl, .str (S pc), pc.length, rfl, len_S (by omega), .inl ⟨_, _, rfl, rfl, _, rfl, .inl ⟨_, rfl, hz, ?_⟩⟩⟩
      rw [S_from (by omega) room, show (i + (pc.length : Int)).toNat = i.toNat + pc.length by omega]
      refine .inr ⟨_, _, rfl, rfl, sz2 (by rw [List.length_take, List.length_drop]; omega), ?_⟩
      rw [S_app]
      exact q
    · rw [if_neg e] at hd
      cases hd

end
end K04

set_option Elab.async false
set_option linter.all false
set_option maxRecDepth 100000
set_option maxHeartbeats 4000000
namespace K04
open PySem L2 TW TX
seal L2.PE L2.PT L2.PA L2.PS L2.PSs L2.PI L2.PG L2.PGs L2.PW L2.PTs L2.PO
section
variable {P : Program} {w : World} {K : PySem.W.Frag} {mg : Str → Option Value} {base : Heap} {f : Addr} {fd : FuncData} {k : Nat}
abbrev s_Alike_init : Stmt := meth 29 0
theorem sc_Alike_init : FnScope ["self", "steps"] ["self", "steps"] (defScope s_Alike_init) := ⟨rfl, rfl, rfl, by decide +kernel, rfl, by decide +kernel, by decide +kernel⟩
theorem ok_Alike_init {C : Addr} (G : Glo mg) (kC : KCls K C) (nf : PySem.W.findIn K (.ref C) "steps" = some none) (F : Fun K "__init__" "Alike.__init__" s_Alike_init f fd) : FnOk P w K mg base CX0 (k + 1) f fd ["self", "steps"] (spInitA C) := by
  refine F.ok sc_Alike_init (fun vs H Q E h => ?_) (fun cdv A outer s H vs Q E hr h => ?_)
  · obtain ⟨o, dx, m0, ps, rfl, _⟩ := h; rfl
  obtain ⟨o, dx, m0, ps, rfl, ho, hm, q⟩ := h
  refine ⟨_, (pss_one (ps_fld (pv 0) (pe_callTy call_list_of rfl G.n_list bt_list (pa_cons (pv 1) pa_nil)) rfl)), ?_⟩
  refine ⟨_, rfl, m0, ps, rfl, .inl (SqL.of hm), fun l hl => ?_⟩
  refine ⟨_, rfl, o, C, dx, [], rfl, ?_, kC.cl, nf, by decide, q l hl⟩
  rw [upd_ne (ne_of_none ho hl)]
  exact ho

abbrev s_Alike_shows : Stmt := meth 29 1
theorem sc_Alike_shows : FnScope ["self", "one", "other", "word", "step"] ["self", "one", "other"] (defScope s_Alike_shows) := ⟨rfl, rfl, rfl, by decide +kernel, rfl, by decide +kernel, by decide +kernel⟩
theorem ok_Alike_shows {C : Addr} (kC : KCls K C) (nf : PySem.W.findIn K (.ref C) "steps" = some none) (F : Fun K "shows" "Alike.shows" s_Alike_shows f fd) (c_can_step : Callee P w K mg base k "can_step" ["word", "step"] spCan) (c_after_step : Callee P w K mg base k "after_step" ["word", "step"] spAfter) : FnOk P w K mg base CX0 (k + 1) f fd ["self", "one", "other"] (spAlikeShows C) := by
  refine F.ok sc_Alike_shows (fun vs H Q E h => ?_) (fun cdv A outer s H vs Q E hr h => ?_)
  · obtain ⟨o, x, y, ts, rfl, _⟩ := h; rfl
  obtain ⟨o, x, y, ts, rfl, ⟨dx, m, ps, ho, hm, hps⟩, ok, q⟩ := h
  have nd := sc_Alike_shows.nd
  have hu := hr.units
  refine ⟨_, (pss_cons (ps_set (i := 3) nd rfl (Or.inl rfl) (pv 1))
      (pss_cons (ps_for PassesOwn.never rfl (pi_list (pe_fld (pv 0) rfl)) (pg_name (i := 4) nd rfl (Or.inl rfl)) (pss_cons (ps_if (pt_not (pt_val (pe_calls c_can_step hr rfl (pa_cons (pv 3) (pa_cons (pv 4) pa_nil))))) (pss_one (ps_ret pe_bl)) pss_nil)
      (pss_one (ps_set (i := 3) nd rfl (Or.inl rfl) (pe_calls c_after_step hr rfl (pa_cons (pv 3) (pa_cons (pv 4) pa_nil)))))))
      (pss_one (ps_ret (pe_cmpR op_eq (pv 3) (pv 2) (nomark _)))))), ?_⟩
  refine ⟨_, rfl, ?_⟩
  refine ⟨_, rfl, o, C, dx, _, _, rfl, ho, kC.cl, nf, rfl, m, rfl, ⟨_, SqL.of hm⟩, ?_⟩
  refine for_on (ItOn.list (xs := ps)) (fun i σ' H' => H' = H ∧ ∃ z l, σ' = [some (.ref o), some (.str (S x)), some (.str (S y)), some (.str (S z)), l] ∧ rns (ts.take i) x = some z) ⟨rfl, x, _, rfl, by rw [List.take_zero]; rfl⟩ (fun i σ' H' _ h => by rw [h.1]; exact SqL.of hm) ?_ ?_
  · rintro i v σ' H' hv ⟨rfl, z, l, rfl, hz⟩
    obtain ⟨p, t, rfl, ht, hp⟩ := hps.at hv
    obtain ⟨b, j, pc⟩ := t
    have hpc := ok.pc _ (List.mem_of_getElem? ht)
    refine ⟨_, rfl, _, rfl, z, p, b, j, pc, rfl, hp, hpc, ok.room hz, _, rfl, ?_⟩
    cases e : due z b j pc with
    | none =>
      refine iteT ?_
      have q2 := q _ (Same.refl _)
      rw [decide_eq_false (by rw [rns_stop hz ht e]; exact fun z => by cases z)] at q2
      exact q2
    | some v => exact iteF ⟨_, rfl, _, rfl, z, p, b, j, pc, v, rfl, hp, hpc, ok.room hz, e, rfl, v, _, rfl, rns_next hz ht e⟩
  · rintro σ' H' ⟨rfl, z, l, rfl, hz⟩
    have e : ts.take ps.length = ts := by rw [hps.len, List.take_length]
    rw [e] at hz
    refine ⟨_, rfl, _, rfl, rfl, ?_⟩
    have q2 := q _ (Same.refl _)
    have e2 : decide (V.str (S z) = V.str (S y)) = decide (rns ts x = some y) := by
      rw [eqS, hz, decide_eq_decide, S_eq]
      simp
    rw [e2]
    exact q2

abbrev s_Unlike_init : Stmt := meth 30 0
theorem sc_Unlike_init : FnScope ["self", "fraction"] ["self", "fraction"] (defScope s_Unlike_init) := ⟨rfl, rfl, rfl, by decide +kernel, rfl, by decide +kernel, by decide +kernel⟩
theorem ok_Unlike_init {C : Addr} (kC : KCls K C) (nf : PySem.W.findIn K (.ref C) "fraction" = some none) (F : Fun K "__init__" "Unlike.__init__" s_Unlike_init f fd) : FnOk P w K mg base CX0 (k + 1) f fd ["self", "fraction"] (spInit1 C "fraction") := by
  refine F.ok sc_Unlike_init (fun vs H Q E h => ?_) (fun cdv A outer s H vs Q E hr h => ?_)
  · obtain ⟨o, dx, v, rfl, _⟩ := h; rfl
  obtain ⟨o, dx, v, rfl, ho, q⟩ := h
  refine ⟨_, (pss_one (ps_fld (pv 0) (pv 1) rfl)), ?_⟩
  exact ⟨_, rfl, _, rfl, o, C, dx, [], rfl, ho, kC.cl, nf, by decide, q⟩

abbrev s_Unlike_shows : Stmt := meth 30 1
theorem sc_Unlike_shows : FnScope ["self", "one", "other"] ["self", "one", "other"] (defScope s_Unlike_shows) := ⟨rfl, rfl, rfl, by decide +kernel, rfl, by decide +kernel, by decide +kernel⟩
theorem ok_Unlike_shows {C : Addr} (kC : KCls K C) (nf : PySem.W.findIn K (.ref C) "fraction" = some none) (F : Fun K "shows" "Unlike.shows" s_Unlike_shows f fd) (c_follow : Callee P w K mg base k "follow" ["word", "fraction"] (spFollowK K)) : FnOk P w K mg base CX0 (k + 1) f fd ["self", "one", "other"] (spUnlikeShows C) := by
  refine F.ok sc_Unlike_shows (fun vs H Q E h => ?_) (fun cdv A outer s H vs Q E hr h => ?_)
  · obtain ⟨o, x, y, g, rfl, _⟩ := h; rfl
  obtain ⟨o, x, y, g, rfl, ⟨dx, p, ho, hp⟩, q⟩ := h
  have hu := hr.units
  refine ⟨_, (pss_one (ps_ret (pe_cmpR (op_neDK (K := K) hu rfl) (pe_calls c_follow hr rfl (pa_cons (pv 1) (pa_cons (pe_fld (pv 0) rfl) pa_nil))) (pe_calls c_follow hr rfl (pa_cons (pv 2) (pa_cons (pe_fld (pv 0) rfl) pa_nil))) (nomark _)))), ?_⟩
  refine ⟨_, rfl, _, rfl, o, C, dx, _, _, rfl, ho, kC.cl, nf, rfl, x, p, g, rfl, SqT.of hp, fun r1 H1 s1 e1 => ?_⟩
  refine ⟨_, rfl, _, rfl, o, C, dx, _, _, rfl, s1 _ _ ho, kC.cl, nf, rfl, y, p, g, rfl, SqT.of (s1 _ _ hp), fun r2 H2 s2 e2 => ?_⟩
  refine ⟨fD (walk x g), fD (walk y g), fD_rd (s2 _ _ e1), fD_rd e2, fD_depth _, ?_⟩
  rw [if_pos rfl, fD_eqv]
  exact q _ (s1.trans s2)

abbrev s_telling_fraction : Stmt := top 47
theorem sc_telling_fraction : FnScope ["one", "other", "fraction"] ["one", "other"] (defScope s_telling_fraction) := ⟨rfl, rfl, rfl, by decide +kernel, rfl, by decide +kernel, by decide +kernel⟩
theorem ok_telling_fraction (cT : Telling K mg) (F : Fun K "telling_fraction" "telling_fraction" s_telling_fraction f fd) (c_follow : Callee P w K mg base k "follow" ["word", "fraction"] (spFollowK K)) : FnOk P w K mg base CX0 (k + 1) f fd ["one", "other"] spTelling := by
  refine F.ok sc_telling_fraction (fun vs H Q E h => ?_) (fun cdv A outer s H vs Q E hr h => ?_)
  · obtain ⟨u, v, rfl, _⟩ := h; rfl
  obtain ⟨u, v, rfl, qy, qn⟩ := h
  obtain ⟨aT, a0, a1, a2, gT, hT, h0, h1, h2⟩ := cT
  have nd := sc_telling_fraction.nd
  have hu := hr.units
  refine ⟨_, (pss_cons (ps_for PassesOwn.never rfl (pi_tup (pe_glob (v := .ref aT) rfl gT rfl)) (pg_name (i := 2) nd rfl (Or.inl rfl)) (pss_one (ps_if (pt_cmpR (op_neeK (K := K) hu rfl) (pe_calls c_follow hr rfl (pa_cons (pv 0) (pa_cons (pv 2) pa_nil))) (pe_calls c_follow hr rfl (pa_cons (pv 1) (pa_cons (pv 2) pa_nil))) (nomark _)) (pss_one (ps_ret (pe_tup (pa_cons (pe_ix (ix_anyK (K := K) (Pm := w.params) rfl rfl) (pv 2) pe_int (fun _ _ => rfl)) (pa_cons (pe_ix (ix_anyK (K := K) (Pm := w.params) rfl rfl) (pv 2) pe_int (fun _ _ => rfl)) pa_nil))))) pss_nil)))
      (pss_one (ps_ret pe_non))), ?_⟩
  refine ⟨aT, rfl, ⟨_, hT _⟩, ?_⟩
  refine for_on (ItOn.tup (xs := [.ref a0, .ref a1, .ref a2])) (fun i σ' H' => Same H H' ∧ (∃ l, σ' = [some (.str (S u)), some (.str (S v)), l]) ∧ ∀ j, j < i → alI u v j = true) ⟨Same.refl _, ⟨_, rfl⟩, fun j hj => by omega⟩ (fun _ _ H' _ _ => hT H') ?_ ?_
  · rintro i x σ' H' hx ⟨hs, ⟨l, rfl⟩, hi⟩
    obtain ⟨t, rfl, ht⟩ := three_at h0 h1 h2 hx
    have hi3 : i < 3 := (List.getElem?_eq_some_iff.mp hx).1
    refine ⟨_, rfl, _, rfl, u, t, tf i, rfl, ht _, fun p1 H1 s1 e1 => ?_⟩
    refine ⟨_, rfl, _, rfl, v, t, tf i, rfl, ht _, fun p2 H2 s2 e2 => ?_⟩
    refine .inr ⟨fD (walk u (tf i)), fD (walk v (tf i)), fD_rd (s2 _ _ e1), fD_rd e2, fD_depth _, _, rfl, ?_⟩
    have e : (if true = true then !PyData.eqv (fD (walk u (tf i))) (fD (walk v (tf i))) else PyData.eqv (fD (walk u (tf i))) (fD (walk v (tf i)))) = !alI u v i := by
      rw [if_pos rfl, fD_eqv]
      rfl
    rw [e]
    have T := hs.trans (s1.trans s2)
    by_cases c : alI u v i = true
    · rw [c]
      refine iteF ⟨T, ⟨_, rfl⟩, fun j hj => ?_⟩
      by_cases e : j = i
      · rw [e]; exact c
      · exact hi j (by omega)
    · have c' : alI u v i = false := Bool.eq_false_iff.mpr c
      rw [c']
      refine iteT ?_
      refine ⟨_, rfl, .inl (.inr (.inl ⟨t, _, 0, _, rfl, rfl, ht _, rfl, ?_⟩))⟩
      refine ⟨_, rfl, .inl (.inr (.inl ⟨t, _, 1, _, rfl, rfl, ht _, rfl, ?_⟩))⟩
      refine ⟨two_ok, fun r hr' => ?_⟩
      refine qn ?_ r (tf i) _ (T.trans (same_new hr' _)) upd_same (tf_F i) (of_decide_eq_false c')
      rw [← al_three]
      match i, hi3, c' with
      | 0, _, c' => simp [c']
      | 1, _, c' => simp [c']
      | 2, _, c' => simp [c']
  · rintro σ' H' ⟨hs, ⟨l, rfl⟩, hi⟩
    refine qy ?_ _ hs
    rw [← al_three]
    have e0 := hi 0 (by simp)
    have e1 := hi 1 (by simp)
    have e2 := hi 2 (by simp)
    simp [e0, e1, e2]

end
end K04

set_option Elab.async false
set_option linter.all false
set_option maxRecDepth 100000
set_option maxHeartbeats 4000000
namespace K04
open PySem L2 TW TX
seal L2.PE L2.PT L2.PA L2.PS L2.PSs L2.PI L2.PG L2.PGs L2.PW L2.PTs L2.PO
section
variable {P : Program} {w : World} {K : PySem.W.Frag} {mg : Str → Option Value} {base : Heap} {f : Addr} {fd : FuncData} {k : Nat}
abbrev s_take_pair : Stmt := top 43
theorem sc_take_pair : FnScope ["letters", "steps", "second", "first"] ["letters", "steps"] (defScope s_take_pair) := ⟨rfl, rfl, rfl, by decide +kernel, rfl, by decide +kernel, by decide +kernel⟩
theorem ok_take_pair (G : Glo mg) (F : Fun K "take_pair" "take_pair" s_take_pair f fd) : FnOk P w K mg base CX0 (k + 1) f fd ["letters", "steps"] spTake := by
  refine F.ok sc_take_pair (fun vs H Q E h => ?_) (fun cdv A outer s H vs Q E hr h => ?_)
  · obtain ⟨l, m, a, b, y, zs, rfl, _⟩ := h; rfl
  obtain ⟨l, m, a, b, y, zs, rfl, ne, hl, hm, ly, lz, q⟩ := h
  have nd := sc_take_pair.nd
  refine ⟨_, (pss_cons (ps_set (i := 2) nd rfl (Or.inl rfl) (pe_bm0 PySem.F.plainAttrs_list PySem.F.slot_list_pop PySem.F.type_list_pop mt_pop (pv 0)))
      (pss_cons (ps_set (i := 3) nd rfl (Or.inl rfl) (pe_bm0 PySem.F.plainAttrs_list PySem.F.slot_list_pop PySem.F.type_list_pop mt_pop (pv 0)))
      (pss_one (ps_expr (pe_bm PySem.F.plainAttrs_list PySem.F.slot_list_append PySem.F.type_list_append mt_append (pv 1) (pa_cons (pe_tup (pa_cons pe_str (pa_cons (pe_callB (call_lenK (K := K) rfl) rfl G.n_len bt_len (pa_cons (pv 0) pa_nil)) (pa_cons (pe_op op_add_str (pv 3) (pv 2)) pa_nil)))) pa_nil)))))), ?_⟩
  have e1 : lv (y ++ [a, b]) = (lv y ++ [.str (S [a])]) ++ [.str (S [b])] := by
    rw [lv_append, List.append_assoc]
    rfl
  refine ⟨_, rfl, .inl ⟨rfl, _, SqL.of hl⟩, l, _, .str (S [b]), rfl, rfl, hl, by rw [e1]; exact last_snoc _ _, ?_⟩
  rw [e1, List.dropLast_concat]
  refine ⟨_, rfl, .inl ⟨rfl, _, SqL.of upd_same⟩, l, _, .str (S [a]), rfl, rfl, upd_same, last_snoc _ _, ?_⟩
  rw [upd_upd, List.dropLast_concat]
  have hm2 : upd H l (.lst (lv y)) m = some (.lst zs) := by rw [upd_ne (Ne.symm ne)]; exact hm
  have b1 : But l m H (upd H l (.lst (lv y))) := (But.refl l m H).updL
  have hl2 := @upd_same H l (.lst (lv y))
  generalize upd H l (.lst (lv y)) = H2 at *
  refine ⟨_, rfl, .inl ⟨rfl, _, SqL.of hm2⟩, _, rfl, _, _, rfl, .inl ⟨_, SqL.of hl2, rfl⟩, _, rfl, _, rfl, _, _, rfl, rfl, by rw [S_len, S_len]; exact big (show 1 + 1 ≤ 1000000 by decide), three_ok, fun p hp => ?_⟩
  have pl : l ≠ p := ne_of_none hl2 hp
  have pm : m ≠ p := ne_of_none hm2 hp
  refine ⟨m, zs, .ref p, rfl, rfl, by rw [upd_ne pm]; exact hm2, by have := sizeLine_eq; omega, ?_⟩
  refine q p _ (b1.same (same_new hp _)).updM ?_ ?_ upd_same
  · rw [upd_ne ne, upd_ne pl]
    exact hl2
  · rw [upd_ne (Ne.symm pm), upd_same, lv_len, S_app]
    rfl

abbrev s_turn_over : Stmt := top 44
theorem sc_turn_over : FnScope ["letters", "steps", "three", "letter", "at", "step"] ["letters", "steps"] (defScope s_turn_over) := ⟨rfl, rfl, rfl, by decide +kernel, rfl, by decide +kernel, by decide +kernel⟩
theorem never_r {x : List Nat} (h : Rr x) (h2 : x.take 3 = [116, 114, 116] ∨ x.take 3 = [117, 114, 117]) : False := by
  obtain ⟨y, rfl⟩ := h
  rcases h2 with h2 | h2 <;> cases h2
/-- a word that ends in r is never turned over -/
theorem ok_turn_over_n (F : Fun K "turn_over" "turn_over" s_turn_over f fd) : FnOk P w K mg base CX0 (k + 1) f fd ["letters", "steps"] (spTurn Rr 600000) := by
  refine F.ok sc_turn_over (fun vs H Q E h => ?_) (fun cdv A outer s H vs Q E hr h => ?_)
  · obtain ⟨l, m, x, zs, rfl, _⟩ := h; rfl
  · obtain ⟨l, m, x, zs, rfl, ne, hR, h3, _⟩ := h
    exact (never_r hR h3).elim

abbrev s_settle : Stmt := top 42
theorem sc_settle : FnScope ["letters", "steps"] ["letters", "steps"] (defScope s_settle) := ⟨rfl, rfl, rfl, by decide +kernel, rfl, by decide +kernel, by decide +kernel⟩
theorem ok_settle {R : List Nat → Prop} {N : Nat} (hN : N ≤ 1000000) (cP : PairsOut K mg) (cO : Over K mg w.params) (F : Fun K "settle" "settle" s_settle f fd) (c_take_pair : Callee P w K mg base k "take_pair" ["letters", "steps"] spTake) (c_turn_over : Callee P w K mg base k "turn_over" ["letters", "steps"] (spTurn R N)) : FnOk P w K mg base CX0 (k + 1) f fd ["letters", "steps"] (spSettle R N) := by
  refine F.ok sc_settle (fun vs H Q E h => ?_) (fun cdv A outer s H vs Q E hr h => ?_)
  · obtain ⟨l, m, x, zs, rfl, _⟩ := h; rfl
  obtain ⟨l, m, x, zs, rfl, ne, hR, hl, hm, lx, lz, q⟩ := h
  obtain ⟨aP, gP, hP⟩ := cP
  obtain ⟨aO, es, n, bT, bU, gO, lk, kl, sm, x1, x2, f1, f2, hno⟩ := cO
  refine ⟨_, (pss_one (ps_if (pt_cmpR (op_inSq (K := K) rfl) (pe_bm PySem.F.plainAttrs_str PySem.F.slot_str_join PySem.F.type_str_join mt_join pe_str (pa_cons (pe_slice (sl_lst (K := K) rfl) (pv 0) (po_some (pe_un un_neg pe_int)) po_none) pa_nil)) (pe_glob (v := .ref aP) rfl gP rfl) rfl) (pss_one (ps_expr (pe_calls c_take_pair hr rfl (pa_cons (pv 0) (pa_cons (pv 1) pa_nil))))) (pss_one (ps_if (pt_cmpR (op_inMK (K := K) (Pm := w.params) rfl rfl) (pe_bm PySem.F.plainAttrs_str PySem.F.slot_str_join PySem.F.type_str_join mt_join pe_str (pa_cons (pe_slice (sl_lst (K := K) rfl) (pv 0) (po_some (pe_un un_neg pe_int)) po_none) pa_nil)) (pe_glob (v := .ref aO) rfl gO rfl) rfl) (pss_one (ps_expr (pe_calls c_turn_over hr rfl (pa_cons (pv 0) (pa_cons (pv 1) pa_nil))))) pss_nil)))), ?_⟩
  have c2 := cut_lv x 2 (by decide)
  have c3 := cut_lv x 3 (by decide)
  have l2 : ((x.take 2).reverse.map fun c => [c]).flatten.length ≤ 1000000 := by rw [flat1, List.length_reverse, List.length_take]; omega
  have l3 : ((x.take 3).reverse.map fun c => [c]).flatten.length ≤ 1000000 := by rw [flat1, List.length_reverse, List.length_take]; omega
  refine ⟨rfl, _, rfl, _, rfl, _, rfl, l, _, rfl, SqL.of hl, fun p hp => ?_⟩
  refine ⟨_, p, _, rfl, rfl, SqL_sV upd_same c2, sz_all l2, ?_⟩
  rw [join_all, flat1]
  have s1 := same_new hp (.lst (cutV (lv x.reverse) (some (-(2 : Nat) : Int)) none))
  have hl1 := s1 _ _ hl
  have hm1 := s1 _ _ hm
  refine ⟨aP, _, rfl, .inr (hP _), rfl, flat_sV _, _, rfl, ?_⟩
  rw [if_neg Bool.false_ne_true, inV_S]
  refine ite2 (fun c => ?_) (fun c => ?_)
  · have hmem : (x.take 2).reverse ∈ prs := List.contains_iff_mem.mp c
    have es : sett x = x.drop 2 ∧ stepsOf x = [(false, ((x.length - 2 : Nat) : Int), (x.take 2).reverse)] := by
      unfold sett stepsOf
      rw [if_pos hmem, if_pos hmem]
      exact ⟨rfl, rfl⟩
    obtain ⟨a, b, y, rfl⟩ := mem_prs hmem
    have er : (b :: a :: y).reverse = y.reverse ++ [a, b] := by simp
    refine ⟨_, rfl, _, rfl, l, m, a, b, y.reverse, zs, rfl, ne, (by rw [← er]; exact hl1), hm1, ?_, by omega, fun p2 H2 b2 e1 e2 e3 => ?_⟩
    · rw [List.length_reverse]
      simp only [List.length_cons] at lx
      omega
    refine q H2 (Settled.same s1 ⟨[.ref p2], b2, ?_, e3, ?_⟩)
    · rw [es.1]; exact e1
    · rw [es.2]
      refine ⟨⟨p2, rfl, ?_⟩, trivial⟩
      rw [e2, List.length_reverse]
      rfl
  · have hnot : ¬ (x.take 2).reverse ∈ prs := fun z => c (List.contains_iff_mem.mpr z)
    refine ⟨rfl, _, rfl, _, rfl, _, rfl, l, _, rfl, SqL.of hl1, fun p3 hp3 => ?_⟩
    refine ⟨_, p3, _, rfl, rfl, SqL_sV upd_same c3, sz_all l3, ?_⟩
    rw [join_all, flat1]
    have s2 := same_new hp3 (.lst (cutV (lv x.reverse) (some (-(3 : Nat) : Int)) none))
    have hl2 := s2 _ _ hl1
    have hm2 := s2 _ _ hm1
    by_cases hk : x.take 3 = [116, 114, 116] ∨ x.take 3 = [117, 114, 117]
    · have hns : ∃ b, PySem.W.nsIn K aO (S (x.take 3).reverse) = some (some (.ref b)) := by
        rcases hk with hk | hk
        · rw [hk]; exact ⟨_, x1⟩
        · rw [hk]; exact ⟨_, x2⟩
      obtain ⟨b, hb⟩ := hns
      refine ⟨aO, es, n, _, _, rfl, rfl, lk, kl, hb, sm, _, rfl, ite2 (fun _ => ?_) (fun c => absurd rfl c)⟩
      exact ⟨_, rfl, _, rfl, l, m, x, zs, rfl, ne, hR, hk, hl2, hm2, lx, lz, fun H' st => q H' (Settled.same (s1.trans s2) st)⟩
    · have h1 : x.take 3 ≠ [116, 114, 116] := fun z => hk (.inl z)
      have h2 : x.take 3 ≠ [117, 114, 117] := fun z => hk (.inr z)
      refine ⟨aO, es, n, _, _, rfl, rfl, lk, kl, hno _ (take3_ne h1) (take3_ne h2), sm, _, rfl, ite2 (fun c => by cases c) (fun _ => ?_)⟩
      obtain ⟨e1, e2⟩ := sett_no hnot h1 h2
      refine q _ (Settled.same (s1.trans s2) ⟨[], But.refl _ _ _, ?_, ?_, ?_⟩)
      · rw [e1]; exact hl2
      · rw [List.append_nil]; exact hm2
      · rw [e2]; trivial

theorem ok_turn_over (G : Glo mg) (cO : Over K mg w.params) (F : Fun K "turn_over" "turn_over" s_turn_over f fd) (c_settle : Callee P w K mg base k "settle" ["letters", "steps"] (spSettle Rr 600000)) (c_back : Callee P w K mg base k "back" ["word"] spBack) : FnOk P w K mg base CX0 (k + 1) f fd ["letters", "steps"] (spTurn Rall 500000) := by
  refine F.ok sc_turn_over (fun vs H Q E h => ?_) (fun cdv A outer s H vs Q E hr h => ?_)
  · obtain ⟨l, m, x, zs, rfl, _⟩ := h; rfl
  obtain ⟨l, m, x, zs, rfl, ne, _, hk, hl, hm, lx, lz, q⟩ := h
  obtain ⟨aO, es, n, bT, bU, gO, lk, kl, sm, x1, x2, f1, f2, hno⟩ := cO
  obtain ⟨e, d, ov, b4, TA⟩ := turn_as hk x1 x2 f1 f2
  have nd := sc_turn_over.nd
  refine ⟨_, (pss_cons (ps_set (i := 2) nd rfl (Or.inl rfl) (pe_bm PySem.F.plainAttrs_str PySem.F.slot_str_join PySem.F.type_str_join mt_join pe_str (pa_cons (pe_slice (sl_lst (K := K) rfl) (pv 0) (po_some (pe_un un_neg pe_int)) po_none) pa_nil)))
      (pss_cons (ps_for PassesOwn.never rfl (pi_str (pv 2)) (pg_name (i := 3) nd rfl (Or.inl rfl)) (pss_one (ps_expr (pe_bm0 PySem.F.plainAttrs_list PySem.F.slot_list_pop PySem.F.type_list_pop mt_pop (pv 0)))))
      (pss_cons (ps_set (i := 4) nd rfl (Or.inl rfl) (pe_callB (call_lenK (K := K) rfl) rfl G.n_len bt_len (pa_cons (pv 0) pa_nil)))
      (pss_cons (ps_for PassesOwn.never rfl (pi_tup (pe_ix (ix_modK (K := K) (Pm := w.params) rfl rfl) (pe_glob (v := .ref aO) rfl gO rfl) (pv 2) (fun _ _ => rfl))) (pg_name (i := 5) nd rfl (Or.inl rfl)) (pss_one (ps_expr (pe_bm PySem.F.plainAttrs_list PySem.F.slot_list_append PySem.F.type_list_append mt_append (pv 1) (pa_cons (pe_tup (pa_cons (pe_ix (ix_tupK (K := K) rfl) (pv 5) pe_int (fun _ _ => rfl)) (pa_cons (pe_op op_add (pv 4) (pe_ix (ix_tupK (K := K) rfl) (pv 5) pe_int (fun _ _ => rfl))) (pa_cons (pe_ix (ix_tupK (K := K) rfl) (pv 5) pe_int (fun _ _ => rfl)) pa_nil)))) pa_nil)))))
      (pss_cons (ps_expr (pe_bm PySem.F.plainAttrs_list PySem.F.slot_list_append PySem.F.type_list_append mt_append (pv 0) (pa_cons pe_str pa_nil)))
      (pss_cons (ps_expr (pe_calls c_settle hr rfl (pa_cons (pv 0) (pa_cons (pv 1) pa_nil))))
      (pss_cons (ps_expr (pe_bm PySem.F.plainAttrs_list PySem.F.slot_list_append PySem.F.type_list_append mt_append (pv 0) (pa_cons (pe_calls c_back hr rfl (pa_cons (pe_ix ix_str (pv 2) pe_int (fun _ _ => rfl)) pa_nil)) pa_nil)))
      (pss_one (ps_expr (pe_bm PySem.F.plainAttrs_list PySem.F.slot_list_append PySem.F.type_list_append mt_append (pv 0) (pa_cons pe_str pa_nil))))))))))), ?_⟩
  have c3 := cut_lv x 3 (by decide)
  have l3 : ((x.take 3).reverse.map fun c => [c]).flatten.length ≤ 1000000 := by rw [flat1, List.length_reverse, List.length_take]; omega
  have e3 : (x.take 3).reverse = [e, 114, e] := by rw [TA.tk]; rfl
  have hx3 : 3 ≤ x.length := by
    have := congrArg List.length TA.tk
    rw [List.length_take] at this
    simp only [List.length_cons, List.length_nil] at this
    omega
  refine ⟨rfl, _, rfl, _, rfl, _, rfl, l, _, rfl, SqL.of hl, fun p hp => ?_⟩
  refine ⟨_, p, _, rfl, rfl, SqL_sV upd_same c3, sz_all l3, ?_⟩
  rw [join_all, flat1, e3]
  have s1 := same_new hp (.lst (cutV (lv x.reverse) (some (-(3 : Nat) : Int)) none))
  have hl1 := s1 _ _ hl
  have hm1 := s1 _ _ hm
  refine ⟨_, rfl, _, rfl, ?_⟩
  refine for_on (Ok := fun _ => True) ItOn.str (fun i σ' H' => (∃ l3, σ' = [some (.ref l), some (.ref m), some (.str (S [e, 114, e])), l3, none, none]) ∧ But l m H H' ∧ H' l = some (.lst (lv (x.drop i).reverse)) ∧ H' m = some (.lst zs)) ⟨⟨_, rfl⟩, (But.refl l m H).same s1, hl1, hm1⟩ (fun _ _ _ _ _ => trivial) ?_ ?_
  · rintro i y σ' H2 hy ⟨⟨l3, rfl⟩, b2, hl2, hm2⟩
    have hi : i < 3 := by
      have := (List.getElem?_eq_some_iff.mp hy).1
      rwa [sgV_length] at this
    have ed : x.drop i = x[i]'(by omega) :: x.drop (i + 1) := List.drop_eq_getElem_cons (by omega)
    have ev : lv (x.drop i).reverse = lv (x.drop (i + 1)).reverse ++ [.str (S [x[i]'(by omega)])] := by
      rw [ed, List.reverse_cons, lv_append]
      rfl
    refine ⟨_, rfl, .inl ⟨rfl, _, SqL.of hl2⟩, l, _, .str (S [x[i]'(by omega)]), rfl, rfl, hl2, by rw [ev]; exact last_snoc _ _, ⟨_, rfl⟩, b2.updL, ?_, ?_⟩
    · rw [upd_same, ev, List.dropLast_concat]
    · rw [upd_ne (Ne.symm ne)]; exact hm2
  rintro σ' H2 ⟨⟨l3, rfl⟩, b2, hl2, hm2⟩
  have hl2 : H2 l = some (.lst (lv (x.drop 3).reverse)) := hl2
  have en : (lv (x.drop 3).reverse).length = x.length - 3 := by rw [lv_len, List.length_reverse, List.length_drop]
  refine ⟨_, rfl, _, _, rfl, .inl ⟨_, SqL.of hl2, rfl⟩, ?_⟩
  rw [en]
  obtain ⟨rs, hrs, lrs, har⟩ := TA.four.at
  refine ⟨_, rfl, aO, es, n, _, .ref b4, _, rfl, rfl, lk, kl, TA.ns, rfl, b4, rfl, ⟨_, hrs _⟩, ?_⟩
  refine for_on ItOn.tup (fun j σ' H' => (∃ l3 l5, σ' = [some (.ref l), some (.ref m), some (.str (S [e, 114, e])), l3, some (.int ((x.length - 3 : Nat) : Int)), l5]) ∧ But l m H H' ∧ H' l = some (.lst (lv (x.drop 3).reverse)) ∧ ∃ ps, H' m = some (.lst (zs ++ ps)) ∧ StpsAt H' ps ((ov (x.length - 3)).take j)) ⟨⟨_, _, rfl⟩, b2, hl2, [], by rw [List.append_nil]; exact hm2, trivial⟩ (fun _ _ _ _ _ => hrs _) ?_ ?_
  · rintro j y σ' H3 hy ⟨⟨l4, l5, rfl⟩, b3, hl3, ps, hm3, hps⟩
    obtain ⟨pj, t, rfl, ht, hT⟩ := har j y hy
    have hlen := hps.len
    have hp4 : ps.length ≤ 4 := by
      rw [hlen, List.length_take, TA.len]
      omega
    refine ⟨_, rfl, .inl ⟨rfl, _, SqL.of hm3⟩, _, rfl, pj, _, _, _, rfl, rfl, hT _, rfl, _, rfl, _, rfl, pj, _, _, _, rfl, rfl, hT _, rfl, _, _, rfl, rfl, _, rfl, pj, _, _, _, rfl, rfl, hT _, rfl, three_ok, fun p3 hp3 => ?_⟩
    have pl : l ≠ p3 := ne_of_none hl3 hp3
    have pm : m ≠ p3 := ne_of_none hm3 hp3
    refine ⟨m, zs ++ ps, .ref p3, rfl, rfl, by rw [upd_ne pm]; exact hm3, by rw [List.length_append]; have := sizeLine_eq; omega, ⟨_, _, rfl⟩, (b3.same (same_new hp3 _)).updM, ?_, ps ++ [.ref p3], ?_, ?_⟩
    · rw [upd_ne ne, upd_ne pl]; exact hl3
    · rw [upd_same, List.append_assoc]
    · have a1 := TA.at_ (x.length - 3) j t ht
      rw [List.take_add_one, a1]
      refine StpsAt.snoc (StpsAt.upd (by rw [upd_ne pm]; exact hm3) (hps.same (same_new hp3 _))) ?_
      rw [upd_ne (Ne.symm pm), upd_same]
      rfl
  rintro σ' H3 ⟨⟨l4, l5, rfl⟩, b3, hl3, ps, hm3, hps⟩
  rw [lrs, List.take_of_length_le (by rw [TA.len]; omega)] at hps
  have hp4 : ps.length = 4 := by rw [hps.len, TA.len]
  have ld : (lv (x.drop 3).reverse).length < sizeLine := by
    rw [en]
    have := sizeLine_eq
    omega
  refine ⟨_, rfl, .inl ⟨rfl, _, SqL.of hl3⟩, l, _, _, rfl, rfl, hl3, ld, ?_⟩
  have er : lv (x.drop 3).reverse ++ [V.str "r"] = lv (114 :: x.drop 3).reverse := by
    rw [List.reverse_cons, lv_append, lit_r]
    rfl
  rw [er]
  have hm4 : upd H3 l (.lst (lv (114 :: x.drop 3).reverse)) m = some (.lst (zs ++ ps)) := by rw [upd_ne (Ne.symm ne)]; exact hm3
  refine ⟨_, rfl, _, rfl, l, m, 114 :: x.drop 3, zs ++ ps, rfl, ne, ⟨_, rfl⟩, upd_same, hm4, by rw [List.length_cons, List.length_drop]; omega, by rw [List.length_append]; omega, fun H5 st => ?_⟩
  obtain ⟨ps2, b5, hl5, hm5, hs5⟩ := st
  rw [sett_r] at hl5
  rw [steps_r] at hs5
  have hps4 : StpsAt (upd H3 l (.lst (lv (114 :: x.drop 3).reverse))) ps (ov (x.length - 3)) := StpsAt.upd hl3 hps
  have hps5 := StpsAt.but b5 upd_same hm4 hps4
  have B5 : But l m H H5 := b3.updL.trans b5
  have lp : (lv (pr (x.drop 3)).reverse).length + 10 < sizeLine := by
    rw [lv_len, List.length_reverse]
    have h1 := pr_len (x.drop 3)
    rw [List.length_drop] at h1
    have := sizeLine_eq
    omega
  refine ⟨_, rfl, .inl ⟨rfl, _, SqL.of hl5⟩, _, rfl, S [e, 114, e], 0, e, rfl, rfl, by rw [S_len]; exact big (show 3 ≤ 1000000 by decide), rfl, [e], rfl, (fun c hc => by rw [List.mem_singleton.mp hc]; exact TA.W), by simp, fun H6 s6 => ?_⟩
  rw [TA.bk]
  refine ⟨l, _, _, rfl, rfl, s6 _ _ hl5, by omega, ?_⟩
  refine ⟨_, rfl, .inl ⟨rfl, _, SqL.of upd_same⟩, l, _, _, rfl, rfl, upd_same, by rw [List.length_append]; simp only [List.length_cons, List.length_nil]; omega, ?_⟩
  rw [upd_upd]
  have hl6 := s6 _ _ hl5
  refine q _ ⟨ps ++ ps2, (B5.same s6).updL, ?_, ?_, ?_⟩
  · rw [upd_same, TA.st, List.reverse_cons, List.reverse_cons, lv_append, lv_append, lit_r]
    rfl
  · rw [upd_ne (Ne.symm ne), s6 _ _ hm5, List.append_assoc]
  · rw [TA.sp]
    exact StpsAt.upd hl6 ((hps5.append hs5).same s6)

abbrev s_made_plain : Stmt := top 41
theorem sc_made_plain : FnScope ["word", "letters", "steps", "letter"] ["word"] (defScope s_made_plain) := ⟨rfl, rfl, rfl, by decide +kernel, rfl, by decide +kernel, by decide +kernel⟩
theorem ok_made_plain (F : Fun K "made_plain" "made_plain" s_made_plain f fd) (c_settle : Callee P w K mg base k "settle" ["letters", "steps"] (spSettle Rall 500000)) : FnOk P w K mg base CX0 (k + 1) f fd ["word"] spPlain := by
  refine F.ok sc_made_plain (fun vs H Q E h => ?_) (fun cdv A outer s H vs Q E hr h => ?_)
  · obtain ⟨u, rfl, _⟩ := h; rfl
  obtain ⟨u, rfl, hw, lu, q⟩ := h
  have nd := sc_made_plain.nd
  refine ⟨_, (pss_cons (ps_set (i := 1) nd rfl (Or.inl rfl) (pe_lst pa_nil))
      (pss_cons (ps_set (i := 2) nd rfl (Or.inl rfl) (pe_lst pa_nil))
      (pss_cons (ps_for PassesOwn.never rfl (pi_str (pv 0)) (pg_name (i := 3) nd rfl (Or.inl rfl)) (pss_cons (ps_expr (pe_bm PySem.F.plainAttrs_list PySem.F.slot_list_append PySem.F.type_list_append mt_append (pv 1) (pa_cons (pv 3) pa_nil)))
      (pss_one (ps_expr (pe_calls c_settle hr rfl (pa_cons (pv 1) (pa_cons (pv 2) pa_nil)))))))
      (pss_one (ps_ret (pe_tup (pa_cons (pe_bm PySem.F.plainAttrs_str PySem.F.slot_str_join PySem.F.type_str_join mt_join pe_str (pa_cons (pv 1) pa_nil)) (pa_cons (pv 2) pa_nil)))))))), ?_⟩
  refine ⟨Nat.zero_le _, fun l hl => ⟨Nat.zero_le _, fun m hm => ?_⟩⟩
  have ne : l ≠ m := ne_of_none upd_same hm
  have hm0 : H m = none := by rw [upd_ne (Ne.symm ne)] at hm; exact hm
  refine ⟨_, rfl, _, rfl, ?_⟩
  refine for_on (Ok := fun _ => True) ItOn.str (fun i σ' H' => (∃ l3, σ' = [some (.str (S u)), some (.ref l), some (.ref m), l3]) ∧ Same H H' ∧ H' l = some (.lst (lv (mps (u.take i)).2.reverse)) ∧ ∃ ps, H' m = some (.lst ps) ∧ StpsAt H' ps (mps (u.take i)).1) ⟨⟨_, rfl⟩, (same_new hl _).trans (same_new hm _), by rw [upd_ne ne, upd_same]; rfl, [], upd_same, trivial⟩ (fun _ _ _ _ _ => trivial) ?_ ?_
  · rintro i y σ' H1 hy ⟨⟨l3, rfl⟩, s1, hl1, ps, hm1, hps⟩
    obtain ⟨c, hc, rfl⟩ := sg_at hy
    obtain ⟨a1, a2⟩ := mps_len (u.take i)
    have a3 : (u.take i).length ≤ u.length := by rw [List.length_take]; omega
    have hlen : ps.length ≤ 500000 := by rw [hps.len]; omega
    refine ⟨_, rfl, .inl ⟨rfl, _, SqL.of hl1⟩, _, rfl, l, _, _, rfl, rfl, hl1, by rw [lv_len, List.length_reverse]; have := sizeLine_eq; omega, ?_⟩
    have er : lv (mps (u.take i)).2.reverse ++ [V.str (S [c])] = lv (c :: (mps (u.take i)).2).reverse := by
      rw [List.reverse_cons, lv_append]
      rfl
    rw [er]
    have hm2 : upd H1 l (.lst (lv (c :: (mps (u.take i)).2).reverse)) m = some (.lst ps) := by rw [upd_ne (Ne.symm ne)]; exact hm1
    refine ⟨_, rfl, _, rfl, l, m, c :: (mps (u.take i)).2, ps, rfl, ne, trivial, upd_same, hm2, by rw [List.length_cons]; omega, hlen, fun H2 st => ?_⟩
    obtain ⟨ps2, b2, hl3, hm3, hs3⟩ := st
    have h4 := StpsAt.but b2 upd_same hm2 (StpsAt.upd hl1 hps)
    have eu : mps (u.take (i + 1)) = ((mps (u.take i)).1 ++ stepsOf (c :: (mps (u.take i)).2), sett (c :: (mps (u.take i)).2)) := by rw [take_snoc hc, mps_snoc]
    refine ⟨⟨_, rfl⟩, But.out b2 (s1.up hl) hl hm0, ?_, ps ++ ps2, hm3, ?_⟩
    · rw [eu]; exact hl3
    · rw [eu]; exact h4.append hs3
  · rintro σ' H1 ⟨⟨l3, rfl⟩, s1, hl1, ps, hm1, hps⟩
    have eu : u.take (sgV (S u)).length = u := by
      rw [sgV_length]
      show u.take (S u).length = u
      rw [S_len, List.take_length]
    rw [eu] at hl1 hps
    refine ⟨rfl, _, rfl, _, l, ((mps u).2.reverse.map fun c => [c]).map S, rfl, rfl, SqL_sV hl1 (lv_sV _), sz_all (by rw [flat1, List.length_reverse]; have := (mps_len u).2; omega), ?_⟩
    rw [join_all, flat1]
    refine ⟨_, rfl, two_ok, fun t ht => ?_⟩
    have st := same_new ht (.tup [V.str (S (mps u).2.reverse), .ref m])
    exact q t m ps _ hm0 (s1.trans st) upd_same (st _ _ hm1) (hps.same st)

end
end K04

set_option Elab.async false
set_option linter.all false
set_option maxRecDepth 100000
set_option maxHeartbeats 4000000
namespace K04
open PySem L2 TW TX
seal L2.PE L2.PT L2.PA L2.PS L2.PSs L2.PI L2.PG L2.PGs L2.PW L2.PTs L2.PO
section
variable {P : Program} {w : World} {K : PySem.W.Frag} {mg : Str → Option Value} {base : Heap} {f : Addr} {fd : FuncData} {k : Nat}
abbrev s_undone : Stmt := top 45
theorem sc_undone : FnScope ["steps"] ["steps"] (defScope s_undone) := ⟨rfl, rfl, rfl, by decide +kernel, rfl, by decide +kernel, by decide +kernel⟩
theorem ok_undone (G : Glo mg) (F : Fun K "undone" "undone" s_undone f fd) : FnOk P w K mg base CX0 (k + 1) f fd ["steps"] spUndone := by
  refine F.ok sc_undone (fun vs H Q E h => ?_) (fun cdv A outer s H vs Q E hr h => ?_)
  · obtain ⟨m, ps, ts, rfl, _⟩ := h; rfl
  obtain ⟨m, ps, ts, rfl, hm, hps, hl, q⟩ := h
  have hu := hr.units
  refine ⟨_, (pss_one (ps_ret (pe_lc (ys := []) (js := []) rfl (LcS.to (os := defScope s_undone) ⟨rfl, by decide +kernel, by decide +kernel, rfl, by decide +kernel, by decide +kernel, by decide +kernel⟩ rfl rfl) (pi_revl rfl G.n_reversed (pa_cons (pv 0) pa_nil)) (fun _ _ _ _ => pts_none) (fun _ _ _ _ => (pe_tup (pa_cons (pe_ifExp (pt_cmpR op_eq (pe_ix (ix_tupK (K := K) rfl) (pv 0) pe_int (fun _ _ => rfl)) pe_str (nomark _)) pe_str pe_str) (pa_cons (pe_ix (ix_tupK (K := K) rfl) (pv 0) pe_int (fun _ _ => rfl)) (pa_cons (pe_ix (ix_tupK (K := K) rfl) (pv 0) pe_int (fun _ _ => rfl)) pa_nil)))))))), ?_⟩
  refine ⟨_, rfl, m, _, rfl, SqL.of hm, ?_⟩
  refine lc_rel ItOn.revl (fun H' i acc => StpsAt H' acc ((ts.reverse.map undo1).take i)) (fun H' hs => SqL.of (hs _ _ hm)) (by rw [List.length_reverse, hps.len]; exact big hl) (by rw [List.take_zero]; trivial) (fun i x H' acc Q' hx hs hR hq => ?_) (fun H' p acc hs hp hR hla => ?_)
  · obtain ⟨p, t, rfl, ht, hp⟩ := (hps.same hs).rev.at hx
    obtain ⟨b, j, pc⟩ := t
    have hp' : H' p = some (.tup [.str (dS b), .int j, .str (S pc)]) := hp
    have et : (ts.reverse.map undo1).take (i + 1) = (ts.reverse.map undo1).take i ++ [undo1 (b, j, pc)] := by
      rw [List.take_add_one, List.getElem?_map, ht]
      rfl
    refine ⟨_, rfl, p, _, 0, .str (dS b), rfl, rfl, SqT.of hp', rfl, rfl, _, rfl, ?_⟩
    rw [dS_out]
    cases b with
    | true =>
      refine iteF ⟨_, rfl, p, _, 1, .int j, rfl, rfl, SqT.of hp', rfl, _, rfl, p, _, 2, .str (S pc), rfl, rfl, SqT.of hp', rfl, three_ok, fun r hr' => hq _ _ (same_new hr' _) ?_⟩
      rw [et]
      exact (hR.same (same_new hr' _)).snoc upd_same
    | false =>
      refine iteT ⟨_, rfl, p, _, 1, .int j, rfl, rfl, SqT.of hp', rfl, _, rfl, p, _, 2, .str (S pc), rfl, rfl, SqT.of hp', rfl, three_ok, fun r hr' => hq _ _ (same_new hr' _) ?_⟩
      rw [et]
      exact (hR.same (same_new hr' _)).snoc upd_same
  · refine q p acc _ (hs.trans (same_new hp _)) upd_same ?_
    have e : (ts.reverse.map undo1).take ps.reverse.length = ts.reverse.map undo1 := List.take_of_length_le (by rw [List.length_map, List.length_reverse, List.length_reverse, hps.len]; exact Nat.le_refl _)
    rw [e] at hR
    exact hR.same (same_new hp _)

abbrev s_alike : Stmt := top 48
theorem sc_alike : FnScope ["one", "other", "fraction"] ["one", "other"] (defScope s_alike) := ⟨rfl, rfl, rfl, by decide +kernel, rfl, by decide +kernel, by decide +kernel⟩
theorem ok_alike {CA CU : Addr} (F : Fun K "alike" "alike" s_alike f fd) (c_check_word : Callee P w K mg base (k + 1) "check_word" ["word"] spChkW) (c_telling_fraction : Callee P w K mg base (k + 1) "telling_fraction" ["one", "other"] spTelling) (c_made_plain : Callee P w K mg base (k + 1) "made_plain" ["word"] spPlain) (c_undone : Callee P w K mg base (k + 1) "undone" ["steps"] spUndone)
    (c_Unlike : Maker P w K mg base k "Unlike" CU ["self", "fraction"] (spInit1 CU "fraction")) (c_Alike : Maker P w K mg base k "Alike" CA ["self", "steps"] (spInitA CA)) : FnOk P w K mg base CX0 (k + 2) f fd ["one", "other"] (spAlike CA CU) := by
  refine F.ok sc_alike (fun vs H Q E h => ?_) (fun cdv A outer s H vs Q E hr h => ?_)
  · obtain ⟨x, y, rfl, _⟩ := h; rfl
  obtain ⟨x, y, rfl, wx, wy, lx, ly, qa, qu⟩ := h
  have nd := sc_alike.nd
  refine ⟨_, (pss_cons (ps_expr (pe_calls c_check_word hr rfl (pa_cons (pv 0) pa_nil)))
      (pss_cons (ps_expr (pe_calls c_check_word hr rfl (pa_cons (pv 1) pa_nil)))
      (pss_cons (ps_set (i := 2) nd rfl (Or.inl rfl) (pe_calls c_telling_fraction hr rfl (pa_cons (pv 0) (pa_cons (pv 1) pa_nil))))
      (pss_cons (ps_if (pt_cmpR op_notN (pv 2) pe_non (nomark _)) (pss_one (ps_ret (pe_makes c_Unlike hr rfl (pa_cons (pv 2) pa_nil)))) pss_nil)
      (pss_one (ps_ret (pe_makes c_Alike hr rfl (pa_cons (pe_op op_cat (pe_ix (ix_tupK (K := K) rfl) (pe_calls c_made_plain hr rfl (pa_cons (pv 0) pa_nil)) pe_int (fun _ _ => rfl)) (pe_calls c_undone hr rfl (pa_cons (pe_ix (ix_tupK (K := K) rfl) (pe_calls c_made_plain hr rfl (pa_cons (pv 1) pa_nil)) pe_int (fun _ _ => rfl)) pa_nil))) pa_nil)))))))), ?_⟩
  refine ⟨_, rfl, x, rfl, wx, by omega, fun H1 s1 => ⟨_, rfl, y, rfl, wy, by omega, fun H2 s2 => ?_⟩⟩
  refine ⟨_, rfl, _, rfl, x, y, rfl, fun ea H3 s3 => ?_, fun ea p g H3 s3 hp hg hne => ?_⟩
  · refine ⟨_, rfl, rfl, _, rfl, iteF ?_⟩
    refine ⟨_, rfl, x, rfl, wx, by omega, fun t1 m1 ps1 H4 n1 s4 h4 hm4 st4 => ?_⟩
    refine ⟨t1, _, 1, _, rfl, rfl, SqT.of h4, rfl, ?_⟩
    refine ⟨_, rfl, y, rfl, wy, by omega, fun t2 m2 ps2 H5 n2 s5 h5 hm5 st5 => ?_⟩
    refine ⟨t2, _, 1, _, rfl, rfl, SqT.of h5, rfl, ?_⟩
    have l1 := (mps_len x).1
    have l2 := (mps_len y).1
    refine ⟨m2, ps2, (mps y).1, rfl, hm5, st5, by omega, fun m3 ps3 H6 s6 hm6 st6 => ?_⟩
    have z1 := st4.len
    have z3 := st6.len
    rw [List.length_map, List.length_reverse] at z3
    refine ⟨m1, m3, ps1, ps3, rfl, rfl, s6 _ _ (s5 _ _ hm4), hm6, big (by omega), fun m4 n4 => ?_⟩
    intro o dx no ndx _
    have N4 := same_new n4 (.lst (ps1 ++ ps3))
    have M := made_same (o := .own o) (o' := .ins CA dx []) no ndx
    refine ⟨o, dx, m4, ps1 ++ ps3, rfl, upd_same, M _ _ upd_same, fun m nm => ⟨rfl, ?_⟩⟩
    have o6 := N4.non no
    have ne : o ≠ m := ne_of_none upd_same nm
    have S6 := (N4.trans (M.trans (same_new nm (.lst (ps1 ++ ps3))))).up (o := .ins CA dx [("steps", .ref m)]) o6
    have T6 := s1.trans (s2.trans (s3.trans (s4.trans (s5.trans s6))))
    refine qa ea o dx m (ps1 ++ ps3) _ (T6.trans S6) ((T6.trans (N4.trans M)).non nm) upd_same (by rw [upd_ne (Ne.symm ne), upd_same]) ?_
    exact ((st4.same (s5.trans s6)).same S6).append (st6.same S6)
  · refine ⟨_, rfl, rfl, _, rfl, iteT ?_⟩
    refine ⟨_, rfl, fun o dx no ndx _ => ⟨o, dx, _, rfl, upd_same, rfl, ?_⟩⟩
    rw [upd_upd]
    have M := made_same (o := .own o) (o' := .ins CU dx [("fraction", .ref p)]) no ndx
    exact qu ea o g _ ((s1.trans (s2.trans s3)).trans M) ⟨dx, p, upd_same, M _ _ hp⟩ hg hne

end
end K04

set_option Elab.async false
set_option linter.all false
set_option maxRecDepth 100000
set_option maxHeartbeats 4000000
namespace K04
open PySem L2 TW TX
seal L2.PE L2.PT L2.PA L2.PS L2.PSs L2.PI L2.PG L2.PGs L2.PW L2.PTs L2.PO
section
variable {P : Program} {w : World} {K : PySem.W.Frag} {mg : Str → Option Value} {base : Heap} {f : Addr} {fd : FuncData} {k : Nat}
abbrev s_law_two : Stmt := top 50
theorem sc_law_two : FnScope ["_law_script", "_law_one", "_law_other", "_law_cell", "_law_letter", "_law_piece", "_law_at"] ["_law_script"] (defScope s_law_two) := ⟨rfl, rfl, rfl, by decide +kernel, rfl, by decide +kernel, by decide +kernel⟩
theorem ok_law_two (G : Glo mg) (F : Fun K "_law_two" "_law_two" s_law_two f fd) : FnOk P w K mg base CX0 (k + 1) f fd ["_law_script"] (spTwo K) := by
  refine F.ok sc_law_two (fun vs H Q E h => ?_) (fun cdv A outer s H vs Q E hr h => ?_)
  · obtain ⟨a, ns, rfl, _⟩ := h; rfl
  obtain ⟨a, ns, rfl, hS, h63, q⟩ := h
  have nd := sc_law_two.nd
  refine ⟨_, (pss_cons (ps_asg (pe_tup (pa_cons pe_str (pa_cons pe_str pa_nil))) (pg_tup rfl (pgs_cons (pg_name (i := 1) nd rfl (Or.inl rfl)) (pgs_cons (pg_name (i := 2) nd rfl (Or.inl rfl)) pgs_nil))))
      (pss_cons (ps_for PassesOwn.never rfl (pi_list (pv 0)) (pg_name (i := 3) nd rfl (Or.inl rfl)) (pss_cons (ps_par (i := 4) (j := 5) rfl nd rfl rfl (by decide) rfl rfl (pa_two (pep_strix ix_str (pe_op op_mod (pe_op op_fdivL (pv 3) pe_int) pe_int) (fun _ _ => rfl)) (pea_ix ix_tup (pea_tup (paa_cons pea_stk (paa_cons pea_stk (paa_cons pea_stk (paa_cons pea_stk paa_nil))))) (pe_op op_mod (pe_op op_fdivL (pv 3) pe_int) pe_int) (fun _ _ => rfl))) rfl)
      (pss_cons (ps_set (i := 6) nd rfl (Or.inl rfl) (pe_op op_mod (pe_op op_fdivL (pv 3) pe_int) (pe_op op_plus (pe_callB (call_lenK (K := K) rfl) rfl G.n_len bt_len (pa_cons (pv 2) pa_nil)) pe_int)))
      (pss_one (ps_if (pt_cmpR op_lt (pe_op op_mod (pv 3) pe_int) pe_int (nomark _)) (pss_one (ps_par (i := 1) (j := 2) rfl nd rfl rfl (by decide) rfl rfl (pa_cons (pe_op op_add_str (pv 1) (pv 4)) (pa_cons (pe_op op_add_str (pv 2) (pv 4)) pa_nil)) rfl)) (pss_one (ps_if (pt_cmpR op_lt (pe_op op_mod (pv 3) pe_int) pe_int (nomark _)) (pss_one (ps_set (i := 2) nd rfl (Or.inl rfl) (pe_op op_add_str (pe_op op_add_str (pe_slice sl_str (pv 2) po_none (po_some (pv 6))) (pvS 5)) (pe_slice sl_str (pv 2) (po_some (pv 6)) po_none)))) (pss_one (ps_ifp (ptp_and (ptp_cmp op_lt (pep_opI op_mod (pv 3)) pe_int (nomark _)) (pw_and1 (pt_cmpR op_in_str (pvS 5) (pv 1) rfl))) (pssa_one (psa_set (i := 1) nd rfl (Or.inl rfl) (pea_bm PySem.F.plainAttrs_str PySem.F.slot_str_replace PySem.F.type_str_replace mt_repl (pv 1) (paa_cons (pea_of (pv 5)) (paa_cons pea_stk (paa_cons (pea_of pe_int) paa_nil)))))) (pss_one (ps_if (pt_cmpR op_lt (pe_op op_mod (pv 3) pe_int) pe_int (nomark _)) (pss_one (ps_set (i := 1) nd rfl (Or.inl rfl) (pe_op op_add_str (pv 1) (pvS 5)))) (pss_one (ps_if (pt_cmpR op_eq (pe_op op_mod (pe_op op_fdivL (pv 3) pe_int) pe_int) pe_int (nomark _)) (pss_one (ps_set (i := 1) nd rfl (Or.inl rfl) (pe_op op_add_str (pv 1) (pv 4)))) pss_nil)))))))))))))
      (pss_one (ps_ret (pe_tup (pa_cons (pv 1) (pa_cons (pv 2) pa_nil))))))), ?_⟩
  refine ⟨two_ok, fun t0 ht0 => ⟨t0, _, rfl, SqT.of upd_same, rfl, _, _, rfl, _, _, rfl, rfl, ?_⟩⟩
  refine ⟨_, rfl, a, rfl, ⟨_, (same_new ht0 _).seq hS⟩, ?_⟩
  refine for_on (ItOn.list (xs := ns.map V.int)) (fun i σ' H' => Same H H' ∧ ∃ x y c l p j, σ' = [some (.ref a), some (.str (S x)), some (.str (S y)), c, l, p, j] ∧ IsW x ∧ IsW y ∧ x.length ≤ 6 * i ∧ y.length ≤ 6 * i) ⟨same_new ht0 _, [], [], _, _, _, _, rfl, IsW.nil, IsW.nil, by decide, by decide⟩ (fun i σ' H' _ h => h.1.seq hS) ?_ ?_
  · rintro i e0 σ' H' hx ⟨hs, x, y, c, l, p, j, rfl, wx, wy, lx, ly⟩
    rw [List.getElem?_map] at hx
    cases e : ns[i]? with
    | none => rw [e] at hx; cases hx
    | some n =>
      rw [e] at hx
      cases hx
      have hi : i < 63 := Nat.lt_of_lt_of_le (List.getElem?_eq_some_iff.mp e).1 h63
      refine ⟨_, rfl, _, _, rfl, rfl, ⟨by decide, by decide⟩, _, _, rfl, rfl, by show (0 : Int) < 3; decide, _, _, _, rfl, rfl, by decide, tur_at n 12, ?_⟩
      intro t1 k1 t2 k2 t3 k3 t4 k4
      obtain ⟨pc, t, hpc, ht, hat⟩ := pick4 n 36 t1 t2 t3 t4
      have tn : t ≠ 0 := by rcases ht with rfl | rfl | rfl | rfl <;> assumption
      refine ⟨four_ok, fun pt hpt => ⟨_, rfl, _, _, rfl, rfl, ⟨by decide, by decide⟩, _, _, rfl, rfl, by show (0 : Int) < 4; decide, pt, _, _, _, rfl, rfl, SqT.of upd_same, hat, _, _, rfl, ?_⟩⟩
      have T := hs.trans (same_new hpt (.tup [V.stk "tu" t1, V.stk "ut" t2, V.stk "rr" t3, V.stk "trtrtr" t4]))
      generalize upd H' pt (.tup [V.stk "tu" t1, V.stk "ut" t2, V.stk "rr" t3, V.stk "trtrtr" t4]) = H1 at *
      have L := letr_L (n / 12 % 3)
      generalize letr (n / 12 % 3) = c at L
      refine ⟨_, rfl, _, _, rfl, rfl, ⟨by decide, by decide⟩, _, rfl, .str (S y), y.length, rfl, len_S (by omega), .inl ⟨_, _, rfl, rfl, _, _, rfl, rfl, by show (0 : Int) < (y.length : Int) + 1; omega, ?_⟩⟩
      have j0 := Int.emod_nonneg (n / 144) (show (y.length : Int) + 1 ≠ 0 by omega)
      have j1 := Int.emod_lt_of_pos (n / 144) (show (0 : Int) < (y.length : Int) + 1 by omega)
      obtain ⟨j, hj⟩ : ∃ j, j = n / 144 % ((y.length : Int) + 1) := ⟨_, rfl⟩
      rw [← hj] at j0 j1
      have lp := (pcs_len hpc).1
      have wl : IsW [c] := IsW.cons L IsW.nil
      refine ⟨_, rfl, _, _, rfl, rfl, by show (0 : Int) < 12; decide, _, _, rfl, rfl, _, rfl, ite2 (fun _ => ?_) (fun _ => ?_)⟩
      · refine ⟨_, rfl, _, rfl, _, _, rfl, rfl, sz2 (c := [c]) (by show _ + 1 ≤ _; omega), _, rfl, _, rfl, _, _, rfl, rfl, sz2 (c := [c]) (by show _ + 1 ≤ _; omega), _, _, rfl, T, x ++ [c], y ++ [c], some (.int n), some (.str (S [c])), some (.stk (S pc) t), some (.int (n / 144 % ((y.length : Int) + 1))), ?_, wx.append wl, wy.append wl, by rw [List.length_append, List.length_singleton]; omega, by rw [List.length_append, List.length_singleton]; omega⟩
        rw [← S_app, ← S_app]
        rfl
      refine ⟨_, rfl, _, _, rfl, rfl, by show (0 : Int) < 12; decide, _, _, rfl, rfl, _, rfl, ite2 (fun _ => ?_) (fun _ => ?_)⟩
      · have hz : (S y).length ≤ sizeLine := by rw [S_len]; exact big (by omega)
        refine ⟨_, rfl, _, rfl, n / 144 % ((y.length : Int) + 1), rfl, _, rfl, hz, ?_⟩
        rw [← hj, S_to (by omega) (by omega)]
        refine ⟨_, _, rfl, _, _, rfl, rfl, sz2 (by rw [List.length_take]; omega), _, rfl, _, rfl, n / 144 % ((y.length : Int) + 1), rfl, _, rfl, hz, ?_⟩
        rw [← hj, S_from (by omega) (by omega), S_app]
        refine ⟨_, _, rfl, rfl, sz2 (by rw [List.length_append, List.length_take, List.length_drop]; omega), T, x, y.take j.toNat ++ pc ++ y.drop j.toNat, some (.int n), some (.str (S [c])), some (.stk (S pc) t), some (.int (n / 144 % ((y.length : Int) + 1))), ?_, wx, ?_, by omega, ?_⟩
        · rw [S_app]
          rfl
        · exact (IsW.append (fun d hd => wy d (List.mem_of_mem_take hd)) (pcs_W hpc)).append fun d hd => wy d (List.mem_of_mem_drop hd)
        · rw [List.length_append, List.length_append, List.length_take, List.length_drop]
          omega
      refine ⟨_, rfl, _, _, rfl, rfl, by show (0 : Int) < 12; decide, _, _, rfl, rfl, _, rfl, ite2 (fun _ => ?_) (fun _ => ?_)⟩
      · refine ⟨_, _, rfl, _, rfl, _, _, rfl, rfl, _, rfl, ite2 (fun _ => ?_) (fun _ => ?_)⟩
        · obtain ⟨z, ez, wz, lz⟩ := repl_word wx (S pc) (S pc).length
          refine ⟨_, rfl, rfl, _, rfl, fun t5 k5 => ⟨_, _, _, _, _, rfl, rfl, pcs_ne hpc, by rw [S_len]; omega, by decide, ?_, ?_⟩⟩
          · exact ⟨T, x, y, _, _, _, _, rfl, wx, wy, by omega, by omega⟩
          · rw [ez]
            exact ⟨T, z, y, _, _, _, _, rfl, wz, wy, by omega, by omega⟩
        · refine ⟨_, rfl, _, _, rfl, rfl, by show (0 : Int) < 12; decide, _, _, rfl, rfl, _, rfl, ite2 (fun _ => ?_) (fun _ => ?_)⟩
          · refine ⟨_, rfl, _, _, rfl, _, _, rfl, rfl, sz2 (by omega), T, x ++ pc, y, some (.int n), some (.str (S [c])), some (.stk (S pc) t), some (.int (n / 144 % ((y.length : Int) + 1))), ?_, wx.append (pcs_W hpc), wy, by rw [List.length_append]; omega, by omega⟩
            rw [← S_app]
            rfl
          · refine ⟨_, rfl, _, _, rfl, rfl, ⟨by decide, by decide⟩, _, _, rfl, rfl, by show (0 : Int) < 4; decide, rfl, _, rfl, ite2 (fun _ => ?_) (fun _ => ?_)⟩
            · refine ⟨_, rfl, _, rfl, _, _, rfl, rfl, sz2 (c := [c]) (by show _ + 1 ≤ _; omega), T, x ++ [c], y, some (.int n), some (.str (S [c])), some (.stk (S pc) t), some (.int (n / 144 % ((y.length : Int) + 1))), ?_, wx.append wl, wy, by rw [List.length_append, List.length_singleton]; omega, by omega⟩
              rw [← S_app]
              rfl
            · exact ⟨T, x, y, _, _, _, _, rfl, wx, wy, by omega, by omega⟩
      · refine ⟨_, rfl, _, _, rfl, rfl, by show (0 : Int) < 12; decide, _, _, rfl, rfl, _, rfl, ite2 (fun _ => ?_) (fun _ => ?_)⟩
        · refine ⟨_, rfl, _, _, rfl, _, _, rfl, rfl, sz2 (by omega), T, x ++ pc, y, some (.int n), some (.str (S [c])), some (.stk (S pc) t), some (.int (n / 144 % ((y.length : Int) + 1))), ?_, wx.append (pcs_W hpc), wy, by rw [List.length_append]; omega, by omega⟩
          rw [← S_app]
          rfl
        · refine ⟨_, rfl, _, _, rfl, rfl, ⟨by decide, by decide⟩, _, _, rfl, rfl, by show (0 : Int) < 4; decide, rfl, _, rfl, ite2 (fun _ => ?_) (fun _ => ?_)⟩
          · refine ⟨_, rfl, _, rfl, _, _, rfl, rfl, sz2 (c := [c]) (by show _ + 1 ≤ _; omega), T, x ++ [c], y, some (.int n), some (.str (S [c])), some (.stk (S pc) t), some (.int (n / 144 % ((y.length : Int) + 1))), ?_, wx.append wl, wy, by rw [List.length_append, List.length_singleton]; omega, by omega⟩
            rw [← S_app]
            rfl
          · exact ⟨T, x, y, _, _, _, _, rfl, wx, wy, by omega, by omega⟩
  · rintro σ' H' ⟨hs, x, y, c, l, p, j, rfl, wx, wy, lx, ly⟩
    rw [List.length_map] at lx ly
    refine ⟨_, rfl, _, rfl, two_ok, fun r hr' => ?_⟩
    exact q r x y _ (hs.trans (same_new hr' _)) upd_same wx wy (by omega) (by omega)

end
end K04

set_option Elab.async false
set_option linter.all false
set_option maxRecDepth 100000
set_option maxHeartbeats 4000000
namespace K04
open PySem L2 TW TX
seal L2.PE L2.PT L2.PA L2.PS L2.PSs L2.PI L2.PG L2.PGs L2.PW L2.PTs L2.PO
section
variable {P : Program} {w : World} {K : PySem.W.Frag} {mg : Str → Option Value} {base : Heap} {f : Addr} {fd : FuncData} {k : Nat}
abbrev s_law_moved : Stmt := top 51
theorem sc_law_moved : FnScope ["_law_letter", "_law_fraction", "_law_above", "_law_below"] ["_law_letter", "_law_fraction"] (defScope s_law_moved) := ⟨rfl, rfl, rfl, by decide +kernel, rfl, by decide +kernel, by decide +kernel⟩
theorem ok_law_moved (F : Fun K "_law_moved" "_law_moved" s_law_moved f fd) : FnOk P w K mg base CX0 (k + 1) f fd ["_law_letter", "_law_fraction"] spLMoved := by
  refine F.ok sc_law_moved (fun vs H Q E h => ?_) (fun cdv A outer s H vs Q E hr h => ?_)
  · obtain ⟨c, p, g, rfl, _⟩ := h; rfl
  obtain ⟨c, p, g, rfl, hp, q⟩ := h
  have nd := sc_law_moved.nd
  have hu := hr.units
  have hp' : H p = some (.tup [.int g.1, .int g.2]) := hp
  refine ⟨_, (pss_cons (ps_asg (pv 1) (pg_tup rfl (pgs_cons (pg_name (i := 2) nd rfl (Or.inl rfl)) (pgs_cons (pg_name (i := 3) nd rfl (Or.inl rfl)) pgs_nil))))
      (pss_cons (ps_if (pt_cmpR op_eq (pv 0) pe_str (nomark _)) (pss_one (ps_ret (pe_tup (pa_cons (pe_op op_plus (pv 2) (pv 3)) (pa_cons (pv 3) pa_nil))))) pss_nil)
      (pss_cons (ps_if (pt_cmpR op_eq (pv 0) pe_str (nomark _)) (pss_one (ps_ret (pe_tup (pa_cons (pe_op op_sub (pv 2) (pv 3)) (pa_cons (pv 3) pa_nil))))) pss_nil)
      (pss_cons (ps_if (pt_cmpR op_eq (pv 2) pe_int (nomark _)) (pss_one (ps_ret (pe_tup (pa_cons pe_int (pa_cons pe_int pa_nil))))) pss_nil)
      (pss_one (ps_ret (pe_ifExp (pt_cmpR op_gt (pv 2) pe_int (nomark _)) (pe_tup (pa_cons (pe_un un_neg (pv 3)) (pa_cons (pv 2) pa_nil))) (pe_tup (pa_cons (pv 3) (pa_cons (pe_un un_neg (pv 2)) pa_nil)))))))))), ?_⟩
  refine ⟨_, rfl, p, _, rfl, SqT.of hp', rfl, _, _, rfl, _, _, rfl, rfl, ?_⟩
  refine ⟨_, rfl, ⟨rfl, _, rfl, ?_⟩⟩
  rw [eq_sign c 116 _ lit_t]
  refine ite2 (fun e => ?_) (fun e => ?_)
  · have e' : c = 116 := of_decide_eq_true e
    refine ⟨_, rfl, _, rfl, .inl ⟨_, _, rfl, rfl, _, rfl, two_ok, fun r hr' => q r _ (same_new hr' _) ?_⟩⟩
    rw [upd_same, mv, if_pos e']
    rfl
  · have e' : ¬ c = 116 := of_decide_eq_false (Bool.eq_false_iff.mpr e)
    refine ⟨_, rfl, ⟨rfl, _, rfl, ?_⟩⟩
    rw [eq_sign c 117 _ lit_u]
    refine ite2 (fun d => ?_) (fun d => ?_)
    · have d' : c = 117 := of_decide_eq_true d
      refine ⟨_, rfl, _, rfl, _, _, rfl, rfl, _, rfl, two_ok, fun r hr' => q r _ (same_new hr' _) ?_⟩
      rw [upd_same, mv, if_neg e', if_pos d']
      rfl
    · have d' : ¬ c = 117 := of_decide_eq_false (Bool.eq_false_iff.mpr d)
      refine ⟨_, rfl, ⟨rfl, _, rfl, ?_⟩⟩
      refine ite2 (fun z => ?_) (fun z => ?_)
      · have z' : g.1 = 0 := by simpa using z
        refine ⟨two_ok, fun r hr' => q r _ (same_new hr' _) ?_⟩
        rw [upd_same, mv, if_neg e', if_neg d', if_neg (by omega), if_neg (by omega)]
        rfl
      · have z' : ¬ g.1 = 0 := by simpa using z
        refine ⟨_, rfl, _, _, rfl, rfl, _, rfl, ?_⟩
        refine ite2 (fun y => ?_) (fun y => ?_)
        · have y' : 0 < g.1 := of_decide_eq_true y
          refine ⟨_, rfl, _, rfl, _, rfl, two_ok, fun r hr' => q r _ (same_new hr' _) ?_⟩
          rw [upd_same, mv, if_neg e', if_neg d', if_pos y']
          rfl
        · have y' : ¬ 0 < g.1 := of_decide_eq_false (Bool.eq_false_iff.mpr y)
          refine ⟨_, rfl, _, rfl, _, rfl, two_ok, fun r hr' => q r _ (same_new hr' _) ?_⟩
          rw [upd_same, mv, if_neg e', if_neg d', if_neg y', if_pos (by omega)]
          rfl

abbrev s_law_walked : Stmt := top 52
theorem sc_law_walked : FnScope ["_law_word", "_law_fraction", "_law_letter"] ["_law_word", "_law_fraction"] (defScope s_law_walked) := ⟨rfl, rfl, rfl, by decide +kernel, rfl, by decide +kernel, by decide +kernel⟩
theorem ok_law_walked (F : Fun K "_law_walked" "_law_walked" s_law_walked f fd) (c_law_moved : Callee P w K mg base k "_law_moved" ["_law_letter", "_law_fraction"] spLMoved) : FnOk P w K mg base CX0 (k + 1) f fd ["_law_word", "_law_fraction"] spFollow := by
  refine F.ok sc_law_walked (fun vs H Q E h => ?_) (fun cdv A outer s H vs Q E hr h => ?_)
  · obtain ⟨u, p, g, rfl, _⟩ := h; rfl
  obtain ⟨u, p, g, rfl, hp, q⟩ := h
  have nd := sc_law_walked.nd
  refine ⟨_, (pss_cons (ps_for PassesOwn.never rfl (pi_str (pv 0)) (pg_name (i := 2) nd rfl (Or.inl rfl)) (pss_one (ps_set (i := 1) nd rfl (Or.inl rfl) (pe_calls c_law_moved hr rfl (pa_cons (pv 2) (pa_cons (pv 1) pa_nil))))))
      (pss_one (ps_ret (pv 1)))), ?_⟩
  refine ⟨_, rfl, _, rfl, ?_⟩
  refine for_on (Ok := fun _ => True) ItOn.str (fun i σ' H' => Same H H' ∧ ∃ t l, σ' = [some (.str (S u)), some (.ref t), l] ∧ H' t = some (fT (walk (u.take i) g))) ⟨Same.refl _, p, _, rfl, hp⟩ (fun _ _ _ _ _ => trivial) ?_ ?_
  · rintro i x σ' H' hx ⟨hs, t, l, rfl, ht⟩
    obtain ⟨c, hc, rfl⟩ := sg_at hx
    refine ⟨_, rfl, _, rfl, c, t, walk (u.take i) g, rfl, ht, fun p2 H2 hs2 hp2 => ⟨hs.trans hs2, p2, _, rfl, ?_⟩⟩
    rw [take_snoc hc, walk_snoc]
    exact hp2
  · rintro σ' H' ⟨hs, t, l, rfl, ht⟩
    refine ⟨_, rfl, q t H' hs ?_⟩
    rw [ht, sg_S, List.length_map, List.take_length]

abbrev s_law_same : Stmt := top 53
theorem sc_law_same : FnScope ["_law_one", "_law_other"] ["_law_one", "_law_other"] (defScope s_law_same) := ⟨rfl, rfl, rfl, by decide +kernel, rfl, by decide +kernel, by decide +kernel⟩
theorem ok_law_same (G : Glo mg) (F : Fun K "_law_same" "_law_same" s_law_same f fd) (c_law_walked : Callee P w K mg base k "_law_walked" ["_law_word", "_law_fraction"] spFollow) : FnOk P w K mg base CX0 (k + 1) f fd ["_law_one", "_law_other"] spLead := by
  refine F.ok sc_law_same (fun vs H Q E h => ?_) (fun cdv A outer s H vs Q E hr h => ?_)
  · obtain ⟨u, v, rfl, _⟩ := h; rfl
  obtain ⟨u, v, rfl, q⟩ := h
  have hu := hr.units
  refine ⟨_, (pss_one (ps_ret (pe_callB (call_allK (K := K) rfl rfl) rfl G.n_all bt_all (pa_cons (pe_lc (ys := ["_law_one", "_law_other"]) (js := [0, 1]) rfl (LcS.to (os := defScope s_law_same) ⟨rfl, by decide +kernel, by decide +kernel, rfl, by decide +kernel, by decide +kernel, by decide +kernel⟩ rfl rfl) (pi_list (pe_lst (pa_cons (pe_tup (pa_cons pe_int (pa_cons pe_int pa_nil))) (pa_cons (pe_tup (pa_cons pe_int (pa_cons pe_int pa_nil))) (pa_cons (pe_tup (pa_cons pe_int (pa_cons pe_int pa_nil))) pa_nil))))) (fun _ _ _ _ => pts_none) (fun _ _ _ _ => (pe_cmpR (op_eqqK (K := K) hu rfl) (pe_calls c_law_walked hr rfl (pa_cons (pv 1) (pa_cons (pv 0) pa_nil))) (pe_calls c_law_walked hr rfl (pa_cons (pv 2) (pa_cons (pv 0) pa_nil))) (nomark _)))) pa_nil)))), ?_⟩
  refine ⟨two_ok, fun p1 k1 => ⟨two_ok, fun p2 k2 => ⟨two_ok, fun p3 k3 => ⟨three_ok, fun pl kl => ⟨pl, rfl, ⟨_, SqL.of upd_same⟩, ?_⟩⟩⟩⟩⟩
  have S1 := same_new k1 (.tup [.int 0, .int 1])
  have S2 := same_new k2 (.tup [.int 1, .int 0])
  have S3 := same_new k3 (.tup [.int 1, .int 1])
  have S4 := same_new kl (.lst [.ref p1, .ref p2, .ref p3])
  have E1 := (S2.trans (S3.trans S4)) p1 _ upd_same
  have E2 := (S3.trans S4) p2 _ upd_same
  have E3 := S4 p3 _ upd_same
  have S0 := S1.trans (S2.trans (S3.trans S4))
  have EL := @upd_same (upd (upd (upd H p1 (.tup [.int 0, .int 1])) p2 (.tup [.int 1, .int 0])) p3 (.tup [.int 1, .int 1])) pl (.lst [.ref p1, .ref p2, .ref p3])
  generalize upd (upd (upd (upd H p1 (.tup [.int 0, .int 1])) p2 (.tup [.int 1, .int 0])) p3 (.tup [.int 1, .int 1])) pl (.lst [.ref p1, .ref p2, .ref p3]) = H9 at *
  refine lc_growI (ItOn.list (xs := [.ref p1, .ref p2, .ref p3])) (fun i => V.bl (alI u v i)) (fun H' hs => SqL.of (hs _ _ EL)) three_ok (fun i x H' Q' hx hs hq => ?_) (fun H' p hs hp => ?_)
  · have hg : ∃ t, x = .ref t ∧ H9 t = some (fT (tf i)) := by
      match i with
      | 0 => cases hx; exact ⟨p1, rfl, E1⟩
      | 1 => cases hx; exact ⟨p2, rfl, E2⟩
      | 2 => cases hx; exact ⟨p3, rfl, E3⟩
      | n + 3 => cases hx
    obtain ⟨t, rfl, ht⟩ := hg
    refine ⟨_, rfl, _, rfl, u, t, tf i, rfl, hs _ _ ht, fun q1 H1 s1 e1 => ?_⟩
    refine ⟨_, rfl, _, rfl, v, t, tf i, rfl, s1 _ _ (hs _ _ ht), fun q2 H2 s2 e2 => ?_⟩
    refine .inr ⟨fD (walk u (tf i)), fD (walk v (tf i)), fD_rd (s2 _ _ e1), fD_rd e2, fD_depth _, ?_⟩
    have e : (if false = true then !PyData.eqv (fD (walk u (tf i))) (fD (walk v (tf i))) else PyData.eqv (fD (walk u (tf i))) (fD (walk v (tf i)))) = alI u v i := by
      rw [if_neg Bool.false_ne_true, fD_eqv]
      rfl
    rw [e]
    exact hq _ (s1.trans s2)
  · refine ⟨p, [alI u v 0, alI u v 1, alI u v 2], rfl, SqL.of upd_same, ?_⟩
    show Q (V.bl ([alI u v 0, alI u v 1, alI u v 2].all id)) _
    rw [al_three]
    exact q _ (S0.trans (hs.trans (same_new hp _)))

abbrev s_law_common : Stmt := top 54
theorem sc_law_common : FnScope ["_law_one", "_law_other"] ["_law_one", "_law_other"] (defScope s_law_common) := ⟨rfl, rfl, rfl, by decide +kernel, rfl, by decide +kernel, by decide +kernel⟩
theorem ok_law_common (F : Fun K "_law_common" "_law_common" s_law_common f fd) : FnOk P w K mg base CX0 (k + 1) f fd ["_law_one", "_law_other"] spGcd := by
  refine F.ok sc_law_common (fun vs H Q E h => ?_) (fun cdv A outer s H vs Q E hr h => ?_)
  · obtain ⟨a, b, rfl, _⟩ := h; rfl
  obtain ⟨a, b, rfl, ha, hb, q⟩ := h
  have nd := sc_law_common.nd
  refine ⟨_, (pss_cons (ps_while PassesOwn.never (pt_cmpR op_gt (pv 1) pe_int (nomark _)) (pss_one (ps_par (i := 0) (j := 1) rfl nd rfl rfl (by decide) rfl rfl (pa_cons (pv 1) (pa_cons (pe_op op_mod (pv 0) (pv 1)) pa_nil)) rfl)))
      (pss_one (ps_ret (pv 0)))), ?_⟩
  refine while_by (fun σ' H' => H' = H ∧ ∃ (x y : Int), σ' = [some (.int x), some (.int y)] ∧ 0 ≤ x ∧ 0 ≤ y ∧ Int.gcd x y = Int.gcd a b) (fun σ' _ => match σ' with | [_, some (.int y)] => y.toNat | _ => 0) ⟨rfl, a, b, rfl, ha, hb, rfl⟩ ?_ ?_
  · rintro σ' H' ⟨rfl, x, y, rfl, hx, hy, hg⟩
    refine ⟨_, rfl, _, _, rfl, rfl, _, rfl, ?_⟩
    refine ite2 (fun c => ?_) (fun c => ?_)
    · have c' : 0 < y := of_decide_eq_true c
      refine ⟨_, rfl, _, rfl, _, rfl, _, _, rfl, rfl, c', _, _, rfl, ⟨rfl, y, x % y, rfl, hy, Int.emod_nonneg _ (by omega), ?_⟩, ?_⟩
      · rw [gcd_turn hx c']; exact hg
      · have := Int.emod_lt_of_pos x c'
        have := Int.emod_nonneg x (show y ≠ 0 by omega)
        show (x % y).toNat < y.toNat
        omega
    · have c' : ¬ 0 < y := of_decide_eq_false (Bool.eq_false_iff.mpr c)
      have hy0 : y = 0 := by omega
      subst hy0
      refine ⟨_, rfl, ?_⟩
      have e : x = ((Int.gcd a b : Nat) : Int) := by
        rw [← hg, Int.gcd_zero_right]
        omega
      rw [e]
      exact q
  · intro σ' H' R R' hR z
    obtain ⟨v, e, i, j, z1, z2, k, z3, z4⟩ := z
    exact ⟨v, e, i, j, z1, z2, k, z3, hR _ _ z4⟩

abbrev s_law_is_fraction : Stmt := top 55
theorem sc_law_is_fraction : FnScope ["_law_thing"] ["_law_thing"] (defScope s_law_is_fraction) := ⟨rfl, rfl, rfl, by decide +kernel, rfl, by decide +kernel, by decide +kernel⟩
theorem ok_law_is_fraction (G : Glo mg) (F : Fun K "_law_is_fraction" "_law_is_fraction" s_law_is_fraction f fd) (c_law_common : Callee P w K mg base k "_law_common" ["_law_one", "_law_other"] spGcd) : FnOk P w K mg base CX0 (k + 1) f fd ["_law_thing"] spFrac := by
  refine F.ok sc_law_is_fraction (fun vs H Q E h => ?_) (fun cdv A outer s H vs Q E hr h => ?_)
  · obtain ⟨p, g, rfl, _⟩ := h; rfl
  obtain ⟨p, g, rfl, hp, hg, q⟩ := h
  have hu := hr.units
  have hp' : H p = some (.tup [.int g.1, .int g.2]) := hp
  refine ⟨_, (pss_cons (ps_if (PW.pt (pw_or (pt_not (pt_val (pe_callB (call_isiK (K := K) rfl) rfl G.n_isinstance bt_isinstance (pa_cons (pv 0) (pa_cons (pe_bltn (v := .ty "tuple") rfl G.n_tuple bt_tuple rfl) pa_nil))))) (pw_or1 (pt_cmpR (op_neeK (K := K) hu rfl) (pe_callB (call_lenK (K := K) rfl) rfl G.n_len bt_len (pa_cons (pv 0) pa_nil)) pe_int (nomark _))))) (pss_one (ps_ret pe_bl)) pss_nil)
      (pss_cons (ps_if (pt_val (pe_callB (call_anyK (K := K) rfl rfl) rfl G.n_any bt_any (pa_cons (pe_lc (ys := []) (js := []) rfl (LcS.to (os := defScope s_law_is_fraction) ⟨rfl, by decide +kernel, by decide +kernel, rfl, by decide +kernel, by decide +kernel, by decide +kernel⟩ rfl rfl) (pi_tup (pv 0)) (fun _ _ _ _ => pts_none) (fun _ _ _ _ => (pe_or (pe_callB (call_isiK (K := K) rfl) rfl G.n_isinstance bt_isinstance (pa_cons (pv 0) (pa_cons (pe_bltn (v := .ty "bool") rfl G.n_bool bt_bool rfl) pa_nil))) (pe_one (pe_not (pe_callB (call_isiK (K := K) rfl) rfl G.n_isinstance bt_isinstance (pa_cons (pv 0) (pa_cons (pe_bltn (v := .ty "int") rfl G.n_int bt_int rfl) pa_nil)))))))) pa_nil))) (pss_one (ps_ret pe_bl)) pss_nil)
      (pss_one (ps_ret (pe_or (pe_cmpR (op_eqqK (K := K) hu rfl) (pv 0) (pe_tup (pa_cons pe_int (pa_cons pe_int pa_nil))) (nomark _)) (pe_one (pe_and (pe_cmpR op_gt (pe_ix (ix_anyK (K := K) (Pm := w.params) rfl rfl) (pv 0) pe_int (fun _ _ => rfl)) pe_int (nomark _)) (pe_one (pe_cmpR (op_eqqK (K := K) hu rfl) (pe_calls c_law_common hr rfl (pa_cons (pe_callB call_abs rfl G.n_abs bt_abs (pa_cons (pe_ix (ix_anyK (K := K) (Pm := w.params) rfl rfl) (pv 0) pe_int (fun _ _ => rfl)) pa_nil)) (pa_cons (pe_ix (ix_anyK (K := K) (Pm := w.params) rfl rfl) (pv 0) pe_int (fun _ _ => rfl)) pa_nil))) pe_int (nomark _)))))))))), ?_⟩
  refine ⟨_, rfl, _, _, _, _, rfl, .tup hp', kit_same "tuple", _, rfl, ?_⟩
  refine iteF ?_
  refine ⟨_, rfl, .ref p, 2, rfl, ?len, .inl ⟨rfl, _, rfl, ?_⟩⟩
  case len => exact .inr ⟨_, SqT.of hp', rfl⟩
  refine iteF ?_
  refine ⟨_, rfl, p, rfl, ⟨_, SqT.of hp'⟩, ?_⟩
  refine lc_y ItOn.tup (fun _ => V.bl false) (SqT.of hp') two_ok (fun i x Q' hx hq => ?_) (fun r hr' => ?_)
  · have hi : ∃ n, x = .int n := by
      have := List.mem_of_getElem? hx
      rcases List.mem_cons.mp this with h | h
      · exact ⟨_, h⟩
      · rcases List.mem_cons.mp h with h | h
        · exact ⟨_, h⟩
        · cases h
    obtain ⟨n, rfl⟩ := hi
    refine ⟨_, rfl, _, _, _, _, rfl, .int n, kit_int_bool, _, rfl, ?_⟩
    refine iteF ?_
    exact ⟨_, rfl, _, _, _, _, rfl, .int n, kit_same "int", _, rfl, hq⟩
  · have s1 : Same H (upd H r (.lst [.bl false, .bl false])) := same_new hr' _
    refine ⟨r, [false, false], rfl, SqL.of upd_same, _, rfl, ?_⟩
    refine iteF ?_
    refine ⟨_, rfl, two_ok, fun t ht => ?_⟩
    have s2 := s1.trans (same_new ht (.tup [.int 1, .int 0]))
    have hp2 := s2 _ _ hp
    have hp2' := s2 _ _ hp'
    refine .inr ⟨fD g, fD (1, 0), fD_rd hp2, fD_rd upd_same, fD_depth _, _, rfl, ?_⟩
    show if PyData.eqv (fD g) (fD (1, 0)) = true then _ else _
    rw [fD_eqv]
    refine ite2 (fun c => q _ s2) (fun c => ?_)
    have c' : ¬ g = (1, 0) := of_decide_eq_false (Bool.eq_false_iff.mpr c)
    rcases hg with ⟨h1, h2⟩ | ⟨h1, h2⟩
    · exact absurd (Prod.ext h1 h2) c'
    · refine ⟨_, rfl, .inl (.inr (.inl ⟨p, _, 1, .int g.2, rfl, rfl, SqT.of hp2', rfl, _, _, rfl, rfl, _, rfl, ?_⟩))⟩
      have c2 : decide ((0 : Int) < g.2) = true := decide_eq_true h1
      show if decide ((0 : Int) < g.2) = true then _ else _
      rw [if_pos c2]
      refine ⟨_, rfl, .inl (.inr (.inl ⟨p, _, 0, .int g.1, rfl, rfl, SqT.of hp2', rfl, _, rfl, _, rfl, .inl (.inr (.inl ⟨p, _, 1, .int g.2, rfl, rfl, SqT.of hp2', rfl, _, _, rfl, abs_nonneg _, by omega, .inl ⟨rfl, ?_⟩⟩))⟩))⟩
      rw [gcd_abs, h2]
      exact q _ s2

abbrev s_law_done : Stmt := top 56
theorem sc_law_done : FnScope ["_law_word", "_law_step", "_law_deed", "_law_at", "_law_piece"] ["_law_word", "_law_step"] (defScope s_law_done) := ⟨rfl, rfl, rfl, by decide +kernel, rfl, by decide +kernel, by decide +kernel⟩
theorem ok_law_done (G : Glo mg) (F : Fun K "_law_done" "_law_done" s_law_done f fd) : FnOk P w K mg base CX0 (k + 1) f fd ["_law_word", "_law_step"] spDone := by
  refine F.ok sc_law_done (fun vs H Q E h => ?_) (fun cdv A outer s H vs Q E hr h => ?_)
  · obtain ⟨u, p, b, i, pc, rfl, _⟩ := h; rfl
  obtain ⟨u, p, b, i, pc, rfl, hp, hpc, hl, q⟩ := h
  have nd := sc_law_done.nd
  have hu := hr.units
  have hz : (S u).length ≤ sizeLine := by rw [S_len]; exact big (by omega)
  have hp' : H p = some (.tup [.str (dS b), .int i, .str (S pc)]) := hp
  have lp := (pcs_len hpc).1
  refine ⟨_, (pss_cons (ps_if (PW.pt (pw_or (pt_not (pt_val (pe_callB (call_isiK (K := K) rfl) rfl G.n_isinstance bt_isinstance (pa_cons (pv 1) (pa_cons (pe_bltn (v := .ty "tuple") rfl G.n_tuple bt_tuple rfl) pa_nil))))) (pw_or1 (pt_cmpR (op_neeK (K := K) hu rfl) (pe_callB (call_lenK (K := K) rfl) rfl G.n_len bt_len (pa_cons (pv 1) pa_nil)) pe_int (nomark _))))) (pss_one (ps_ret pe_non)) pss_nil)
      (pss_cons (ps_asg (pv 1) (pg_tup rfl (pgs_cons (pg_name (i := 2) nd rfl (Or.inl rfl)) (pgs_cons (pg_name (i := 3) nd rfl (Or.inl rfl)) (pgs_cons (pg_name (i := 4) nd rfl (Or.inl rfl)) pgs_nil)))))
      (pss_cons (ps_if (PW.pt (pw_or (pt_not (pt_val (pe_callB (call_isiK (K := K) rfl) rfl G.n_isinstance bt_isinstance (pa_cons (pv 3) (pa_cons (pe_bltn (v := .ty "int") rfl G.n_int bt_int rfl) pa_nil))))) (pw_or (pt_val (pe_callB (call_isiK (K := K) rfl) rfl G.n_isinstance bt_isinstance (pa_cons (pv 3) (pa_cons (pe_bltn (v := .ty "bool") rfl G.n_bool bt_bool rfl) pa_nil)))) (pw_or1 (pt_not (pt_chain op_le op_le pe_int (pv 3) (pe_callB (call_lenK (K := K) rfl) rfl G.n_len bt_len (pa_cons (pv 0) pa_nil)))))))) (pss_one (ps_ret pe_non)) pss_nil)
      (pss_cons (ps_if (PW.pt (pw_or (pt_cmpR (op_notinnK (K := K) rfl) (pv 4) (pe_lst (pa_cons pe_str (pa_cons pe_str (pa_cons pe_str (pa_cons pe_str pa_nil))))) rfl) (pw_or1 (pt_cmpR (op_notinnK (K := K) rfl) (pv 2) (pe_lst (pa_cons pe_str (pa_cons pe_str pa_nil))) rfl)))) (pss_one (ps_ret pe_non)) pss_nil)
      (pss_cons (ps_if (pt_cmpR (op_eqqK (K := K) hu rfl) (pv 2) pe_str (nomark _)) (pss_one (ps_ret (pe_op op_plus (pe_op op_plus (pe_slice (sl_any (K := K) rfl) (pv 0) po_none (po_some (pv 3))) (pv 4)) (pe_slice (sl_any (K := K) rfl) (pv 0) (po_some (pv 3)) po_none)))) pss_nil)
      (pss_one (ps_ret (pe_ifExp (pt_cmpR (op_eqqK (K := K) hu rfl) (pe_slice (sl_any (K := K) rfl) (pv 0) (po_some (pv 3)) (po_some (pe_op op_plus (pv 3) (pe_callB (call_lenK (K := K) rfl) rfl G.n_len bt_len (pa_cons (pv 4) pa_nil))))) (pv 4) (nomark _)) (pe_op op_plus (pe_slice (sl_any (K := K) rfl) (pv 0) po_none (po_some (pv 3))) (pe_slice (sl_any (K := K) rfl) (pv 0) (po_some (pe_op op_plus (pv 3) (pe_callB (call_lenK (K := K) rfl) rfl G.n_len bt_len (pa_cons (pv 4) pa_nil)))) po_none)) pe_non)))))))), ?_⟩
  refine ⟨_, rfl, _, _, _, _, rfl, .tup hp', kit_same "tuple", _, rfl, ?_⟩
  refine iteF ?_
  refine ⟨_, rfl, .ref p, 3, rfl, ?len, .inl ⟨rfl, _, rfl, ?_⟩⟩
  case len => exact .inr ⟨_, SqT.of hp', rfl⟩
  refine iteF ?_
  refine ⟨_, rfl, p, _, rfl, SqT.of hp', rfl, _, _, rfl, _, _, rfl, _, _, rfl, rfl, ?_⟩
  refine ⟨_, rfl, _, _, _, _, rfl, .int i, kit_same "int", _, rfl, ?_⟩
  refine iteF ?_
  refine ⟨_, rfl, _, _, _, _, rfl, .int i, kit_int_bool, _, rfl, ?_⟩
  refine iteF ?_
  refine ⟨_, rfl, _, _, rfl, rfl, _, rfl, ?_⟩
  have off : (i < 0 ∨ (u.length : Int) < i) → Q .non H := fun h => by
    have z := q H (Same.refl _)
    rw [due_off h] at z
    exact z
  refine ite2 (fun c => ?_) (fun c => ?_)
  · have c0 : 0 ≤ i := of_decide_eq_true c
    refine ⟨_, rfl, .str (S u), u.length, rfl, len_S (by omega), _, _, rfl, rfl, _, rfl, ?_⟩
    by_cases c1 : i ≤ (u.length : Int)
    · rw [decide_eq_true c1]
      refine iteF ?_
      refine ⟨_, rfl, four_ok, fun t ht => .inl ⟨t, _, rfl, .inl (SqL.of upd_same), rfl, rfl, _, rfl, ?_⟩⟩
      rw [in_pcs hpc]
      refine iteF ?_
      refine ⟨_, rfl, two_ok, fun t2 ht2 => .inl ⟨t2, _, rfl, .inl (SqL.of upd_same), rfl, rfl, _, rfl, ?_⟩⟩
      rw [in_deeds]
      refine iteF ?_
      generalize hH2 : upd _ t2 _ = H2
      have sH : Same H H2 := by rw [← hH2]; exact (same_new ht _).trans (same_new ht2 _)
      have q2 := q H2 sH
      clear hH2 ht ht2
      refine ⟨_, rfl, .inl ⟨rfl, _, rfl, ?_⟩⟩
      rw [dS_in]
      cases b with
      | true =>
        rw [due_in c0 c1] at q2
        refine iteT ?_
        refine ⟨_, rfl, _, rfl, i, rfl, .inl ⟨_, rfl, hz, ?_⟩⟩
        rw [S_to c0 c1]
        refine ⟨_, rfl, .inr ⟨_, _, rfl, rfl, sz2 (by rw [List.length_take]; omega), ?_⟩⟩
        refine ⟨_, rfl, _, rfl, i, rfl, .inl ⟨_, rfl, hz, ?_⟩⟩
        rw [S_from c0 c1, S_app]
        refine .inr ⟨_, _, rfl, rfl, sz2 (by rw [List.length_append, List.length_take, List.length_drop]; omega), ?_⟩
        rw [S_app]
        exact q2
      | false =>
        refine iteF ?_
        rw [due_out c0 c1] at q2
        refine ⟨_, rfl, _, rfl, i, rfl, _, rfl, _, rfl, .str (S pc), pc.length, rfl, len_S (by omega), .inl ⟨_, _, rfl, rfl, _, rfl, .inl ⟨_, rfl, hz, _, rfl, .inl ⟨rfl, _, rfl, ?_⟩⟩⟩⟩
        rw [S_mid c0 c1, eqS]
        by_cases e : (u.drop i.toNat).take pc.length = pc
        · rw [if_pos e] at q2
          have room := out_room c0 c1 e
          rw [e, decide_eq_true rfl]
          refine iteT ?_
          refine ⟨_, rfl, _, rfl, i, rfl, .inl ⟨_, rfl, hz, ?_⟩⟩
          rw [S_to c0 c1]
          refine ⟨_, rfl, _, rfl, _, rfl, .str (S pc), pc.length, rfl, len_S (by omega), .inl ⟨_, _, rfl, rfl, _, rfl, .inl ⟨_, rfl, hz, ?_⟩⟩⟩
          rw [S_from (by omega) room, show (i + (pc.length : Int)).toNat = i.toNat + pc.length by omega]
          refine .inr ⟨_, _, rfl, rfl, sz2 (by rw [List.length_take, List.length_drop]; omega), ?_⟩
          rw [S_app]
          exact q2
        · rw [if_neg e] at q2
          rw [decide_eq_false (fun z => e (S_inj z))]
          exact iteF q2
    · rw [decide_eq_false c1]
      exact iteT (off (.inr (by omega)))
  · have c0 : ¬ 0 ≤ i := of_decide_eq_false (Bool.eq_false_iff.mpr c)
    exact ⟨_, rfl, iteT (off (.inl (by omega)))⟩

abbrev s_law_led : Stmt := top 57
theorem sc_law_led : FnScope ["_law_word", "_law_steps", "_law_other", "_law_step"] ["_law_word", "_law_steps", "_law_other"] (defScope s_law_led) := ⟨rfl, rfl, rfl, by decide +kernel, rfl, by decide +kernel, by decide +kernel⟩
theorem ok_law_led (G : Glo mg) (F : Fun K "_law_led" "_law_led" s_law_led f fd) (c_law_done : Callee P w K mg base k "_law_done" ["_law_word", "_law_step"] spDone) : FnOk P w K mg base CX0 (k + 1) f fd ["_law_word", "_law_steps", "_law_other"] spLed4 := by
  refine F.ok sc_law_led (fun vs H Q E h => ?_) (fun cdv A outer s H vs Q E hr h => ?_)
  · obtain ⟨x, y, m, ps, ts, rfl, _⟩ := h; rfl
  obtain ⟨x, y, m, ps, ts, rfl, hm, hps, ok, q⟩ := h
  have nd := sc_law_led.nd
  refine ⟨_, (pss_cons (ps_if (pt_not (pt_val (pe_callB (call_isiK (K := K) rfl) rfl G.n_isinstance bt_isinstance (pa_cons (pv 1) (pa_cons (pe_bltn (v := .ty "list") rfl G.n_list bt_list rfl) pa_nil))))) (pss_one (ps_ret pe_bl)) pss_nil)
      (pss_cons (ps_for PassesOwn.never rfl (pi_list (pv 1)) (pg_name (i := 3) nd rfl (Or.inl rfl)) (pss_cons (ps_set (i := 0) nd rfl (Or.inl rfl) (pe_calls c_law_done hr rfl (pa_cons (pv 0) (pa_cons (pv 3) pa_nil))))
      (pss_one (ps_if (pt_cmpR op_isN (pv 0) pe_non (nomark _)) (pss_one (ps_ret pe_bl)) pss_nil))))
      (pss_one (ps_ret (pe_cmpR op_eq (pv 0) (pv 2) (nomark _)))))), ?_⟩
  refine ⟨_, rfl, _, _, _, _, rfl, .lst hm, kit_same "list", _, rfl, iteF ?_⟩
  refine ⟨_, rfl, m, rfl, ⟨_, SqL.of hm⟩, ?_⟩
  refine for_on (ItOn.list (xs := ps)) (fun i σ' H' => Same H H' ∧ ∃ z l, σ' = [some (.str (S z)), some (.ref m), some (.str (S y)), l] ∧ rns (ts.take i) x = some z) ⟨Same.refl _, x, _, rfl, by rw [List.take_zero]; rfl⟩ (fun i σ' H' _ h => SqL.of (h.1 _ _ hm)) ?_ ?_
  · rintro i v σ' H' hv ⟨hs, z, l, rfl, hz⟩
    obtain ⟨p, t, rfl, ht, hp⟩ := hps.at hv
    obtain ⟨b, j, pc⟩ := t
    have hpc := ok.pc _ (List.mem_of_getElem? ht)
    refine ⟨_, rfl, _, rfl, z, p, b, j, pc, rfl, hs _ _ hp, hpc, ok.room hz, fun H1 s1 => ?_⟩
    refine ⟨_, rfl, rfl, _, rfl, ?_⟩
    cases e : due z b j pc with
    | none =>
      refine iteT ?_
      have q2 := q _ (hs.trans s1)
      rw [decide_eq_false (by rw [rns_stop hz ht e]; exact fun z => by cases z)] at q2
      exact q2
    | some v => exact iteF ⟨hs.trans s1, v, _, rfl, rns_next hz ht e⟩
  · rintro σ' H' ⟨hs, z, l, rfl, hz⟩
    have e : ts.take ps.length = ts := by rw [hps.len, List.take_length]
    rw [e] at hz
    refine ⟨_, rfl, _, rfl, rfl, ?_⟩
    have q2 := q _ hs
    have e2 : decide (V.str (S z) = V.str (S y)) = decide (rns ts x = some y) := by
      rw [eqS, hz, decide_eq_decide, S_eq]
      simp
    rw [e2]
    exact q2

end
end K04

set_option Elab.async false
set_option linter.all false
set_option maxRecDepth 100000
set_option maxHeartbeats 4000000
namespace K04
open PySem L2 TW TX
seal L2.PE L2.PT L2.PA L2.PS L2.PSs L2.PI L2.PG L2.PGs L2.PW L2.PTs L2.PO
section
variable {P : Program} {w : World} {K : PySem.W.Frag} {mg : Str → Option Value} {base : Heap} {f : Addr} {fd : FuncData} {k : Nat}
abbrev s_law_right : Stmt := top 58
theorem sc_law_right : FnScope ["_law_one", "_law_other", "_law_found"] ["_law_one", "_law_other", "_law_found"] (defScope s_law_right) := ⟨rfl, rfl, rfl, by decide +kernel, rfl, by decide +kernel, by decide +kernel⟩
theorem ok_law_right {CAnswer CAlike CUnlike CQuiet COnward CLed CParts CElsewhere CRounds : Addr} (G : Glo mg) (mAnswer : mg "Answer" = some (.ref CAnswer)) (mAlike : mg "Alike" = some (.ref CAlike)) (mUnlike : mg "Unlike" = some (.ref CUnlike)) (mQuiet : mg "Quiet" = some (.ref CQuiet)) (mOnward : mg "Onward" = some (.ref COnward)) (mLed : mg "Led" = some (.ref CLed)) (mParts : mg "Parts" = some (.ref CParts)) (mElsewhere : mg "Elsewhere" = some (.ref CElsewhere)) (mRounds : mg "Rounds" = some (.ref CRounds))
    (kA : KCls K CAlike) (kU : KCls K CUnlike) (nA : PySem.W.findIn K (.ref CAlike) "steps" = some none) (nU : PySem.W.findIn K (.ref CUnlike) "fraction" = some none)
    (a1 : PySem.W.kitOne K (.ref CAlike) (.ref CAnswer) = some true) (a2 : PySem.W.kitOne K (.ref CAlike) (.ref CAlike) = some true) (a3 : PySem.W.kitOne K (.ref CAlike) (.ref CUnlike) = some false) (a4 : PySem.W.kitOne K (.ref CAlike) (.ref CQuiet) = some false) (a5 : PySem.W.kitOne K (.ref CAlike) (.ref COnward) = some false) (a6 : PySem.W.kitOne K (.ref CAlike) (.ref CLed) = some false) (a7 : PySem.W.kitOne K (.ref CAlike) (.ref CParts) = some false) (a8 : PySem.W.kitOne K (.ref CAlike) (.ref CElsewhere) = some false) (a9 : PySem.W.kitOne K (.ref CAlike) (.ref CRounds) = some false)
    (u1 : PySem.W.kitOne K (.ref CUnlike) (.ref CAnswer) = some true) (u2 : PySem.W.kitOne K (.ref CUnlike) (.ref CAlike) = some false) (u3 : PySem.W.kitOne K (.ref CUnlike) (.ref CUnlike) = some true) (u4 : PySem.W.kitOne K (.ref CUnlike) (.ref CQuiet) = some false) (u5 : PySem.W.kitOne K (.ref CUnlike) (.ref COnward) = some false) (u6 : PySem.W.kitOne K (.ref CUnlike) (.ref CLed) = some false) (u7 : PySem.W.kitOne K (.ref CUnlike) (.ref CParts) = some false) (u8 : PySem.W.kitOne K (.ref CUnlike) (.ref CElsewhere) = some false) (u9 : PySem.W.kitOne K (.ref CUnlike) (.ref CRounds) = some false)
    (F : Fun K "_law_right" "_law_right" s_law_right f fd) (c_A_shows : Method P w K mg base k CAlike "shows" ["self", "one", "other"] (spAlikeShows CAlike)) (c_B_shows : Method P w K mg base k CUnlike "shows" ["self", "one", "other"] (spUnlikeShows CUnlike)) (c_law_led : Callee P w K mg base k "_law_led" ["_law_word", "_law_steps", "_law_other"] spLed4) (c_law_is_fraction : Callee P w K mg base k "_law_is_fraction" ["_law_thing"] spFrac) (c_law_walked : Callee P w K mg base k "_law_walked" ["_law_word", "_law_fraction"] spFollow) :
    FnOk P w K mg base CX0 (k + 1) f fd ["_law_one", "_law_other", "_law_found"] (spRight4 CAlike CUnlike) := by
  refine F.ok sc_law_right (fun vs H Q E h => ?_) (fun cdv A outer s H vs Q E hr h => ?_)
  · obtain ⟨x, y, o, rfl, _⟩ := h; rfl
  obtain ⟨x, y, o, rfl, hf, q⟩ := h
  have nd := sc_law_right.nd
  have hu := hr.units
  refine ⟨_, (pss_cons (ps_if (PW.pt (pw_or (pt_not (pt_val (pe_callB (call_isiAK (K := K) rfl) rfl G.n_isinstance bt_isinstance (pa_cons (pv 2) (pa_cons (pe_glob (v := .ref CAnswer) rfl mAnswer rfl) pa_nil))))) (pw_or1 (pt_cmpR op_eq (pe_callB (call_isiAK (K := K) rfl) rfl G.n_isinstance bt_isinstance (pa_cons (pv 2) (pa_cons (pe_glob (v := .ref CAlike) rfl mAlike rfl) pa_nil))) (pe_callB (call_isiAK (K := K) rfl) rfl G.n_isinstance bt_isinstance (pa_cons (pv 2) (pa_cons (pe_glob (v := .ref CUnlike) rfl mUnlike rfl) pa_nil))) (nomark _))))) (pss_one (ps_ret pe_bl)) pss_nil)
      (pss_cons (ps_if (pt_val (pe_callB (call_anyK (K := K) rfl rfl) rfl G.n_any bt_any (pa_cons (pe_lst (pa_cons (pe_callB (call_isiAK (K := K) rfl) rfl G.n_isinstance bt_isinstance (pa_cons (pv 2) (pa_cons (pe_glob (v := .ref CQuiet) rfl mQuiet rfl) pa_nil))) (pa_cons (pe_callB (call_isiAK (K := K) rfl) rfl G.n_isinstance bt_isinstance (pa_cons (pv 2) (pa_cons (pe_glob (v := .ref COnward) rfl mOnward rfl) pa_nil))) (pa_cons (pe_callB (call_isiAK (K := K) rfl) rfl G.n_isinstance bt_isinstance (pa_cons (pv 2) (pa_cons (pe_glob (v := .ref CLed) rfl mLed rfl) pa_nil))) (pa_cons (pe_callB (call_isiAK (K := K) rfl) rfl G.n_isinstance bt_isinstance (pa_cons (pv 2) (pa_cons (pe_glob (v := .ref CParts) rfl mParts rfl) pa_nil))) pa_nil))))) pa_nil))) (pss_one (ps_ret pe_bl)) pss_nil)
      (pss_cons (ps_if (PW.pt (pw_or (pt_val (pe_callB (call_isiAK (K := K) rfl) rfl G.n_isinstance bt_isinstance (pa_cons (pv 2) (pa_cons (pe_glob (v := .ref CElsewhere) rfl mElsewhere rfl) pa_nil)))) (pw_or (pt_val (pe_callB (call_isiAK (K := K) rfl) rfl G.n_isinstance bt_isinstance (pa_cons (pv 2) (pa_cons (pe_glob (v := .ref CRounds) rfl mRounds rfl) pa_nil)))) (pw_or1 (pt_cmpR op_isntA (PE.or (pe_meths (pl := _) (pv 2) kA.cl c_A_shows hr (pa_cons (pv 0) (pa_cons (pv 1) pa_nil))) (pe_meths (pl := _) (pv 2) kU.cl c_B_shows hr (pa_cons (pv 0) (pa_cons (pv 1) pa_nil)))) pe_bl (nomark _)))))) (pss_one (ps_ret pe_bl)) pss_nil)
      (pss_cons (ps_if (pt_val (pe_callB (call_isiAK (K := K) rfl) rfl G.n_isinstance bt_isinstance (pa_cons (pv 2) (pa_cons (pe_glob (v := .ref CAlike) rfl mAlike rfl) pa_nil)))) (pss_one (ps_ret (pe_calls c_law_led hr rfl (pa_cons (pv 0) (pa_cons (pe_fld (pv 2) rfl) (pa_cons (pv 1) pa_nil)))))) pss_nil)
      (pss_cons (ps_if (pt_not (pt_val (pe_calls c_law_is_fraction hr rfl (pa_cons (pe_fld (pv 2) rfl) pa_nil)))) (pss_one (ps_ret pe_bl)) pss_nil)
      (pss_one (ps_ret (pe_cmpR (op_neDK (K := K) hu rfl) (pe_calls c_law_walked hr rfl (pa_cons (pv 0) (pa_cons (pe_fld (pv 2) rfl) pa_nil))) (pe_calls c_law_walked hr rfl (pa_cons (pv 1) (pa_cons (pe_fld (pv 2) rfl) pa_nil))) (nomark _))))))))), ?_⟩
  rcases hf with ⟨ts, hA, ok, run⟩ | ⟨g, ⟨dx, p, ho, hp⟩, hg, hne⟩
  · obtain ⟨dx, m, ps, ho, hm, hps⟩ := id hA
    have ty := kA.ty ho
    refine ⟨_, rfl, .inr ⟨_, _, _, _, rfl, ty, a1, _, rfl, iteF ?_⟩⟩
    refine ⟨_, rfl, .inr ⟨_, _, _, _, rfl, ty, a2, _, rfl, .inr ⟨_, _, _, _, rfl, ty, a3, ⟨rfl, _, rfl, iteF ?_⟩⟩⟩⟩
    refine ⟨_, rfl, .inr ⟨_, _, _, _, rfl, ty, a4, _, rfl, .inr ⟨_, _, _, _, rfl, ty, a5, _, rfl, .inr ⟨_, _, _, _, rfl, ty, a6, _, rfl, .inr ⟨_, _, _, _, rfl, ty, a7, four_ok, fun l hl => ?_⟩⟩⟩⟩⟩
    refine ⟨l, [false, false, false, false], rfl, SqL.of upd_same, _, rfl, iteF ?_⟩
    have s1 := same_new hl (.lst [V.bl false, V.bl false, V.bl false, V.bl false])
    generalize upd H l (.lst [V.bl false, V.bl false, V.bl false, V.bl false]) = H1 at *
    have hA1 := hA.same s1
    have ho1 := s1 _ _ ho
    have ty1 := kA.ty ho1
    refine ⟨_, rfl, .inr ⟨_, _, _, _, rfl, ty1, a8, _, rfl, iteF ?_⟩⟩
    refine ⟨_, rfl, .inr ⟨_, _, _, _, rfl, ty1, a9, _, rfl, iteF ?_⟩⟩
    refine .inl ⟨_, rfl, o, dx, _, rfl, ho1, rfl, _, rfl, _, rfl, ?_⟩
    refine ⟨o, x, y, ts, rfl, hA1, ok, fun H2 s2 => ?_⟩
    rw [decide_eq_true run]
    refine .inr ⟨true, true, rfl, rfl, _, rfl, iteF ?_⟩
    have ho2 := s2 _ _ ho1
    refine ⟨_, rfl, .inr ⟨_, _, _, _, rfl, kA.ty ho2, a2, _, rfl, iteT ?_⟩⟩
    have T := s1.trans s2
    refine ⟨_, rfl, _, rfl, o, CAlike, dx, _, _, rfl, ho2, kA.cl, nA, rfl, _, rfl, x, y, m, ps, ts, rfl, T _ _ hm, hps.same T, ok, fun H3 s3 => ?_⟩
    rw [decide_eq_true run]
    exact q _ (T.trans s3)
  · have ty := kU.ty ho
    refine ⟨_, rfl, .inr ⟨_, _, _, _, rfl, ty, u1, _, rfl, iteF ?_⟩⟩
    refine ⟨_, rfl, .inr ⟨_, _, _, _, rfl, ty, u2, _, rfl, .inr ⟨_, _, _, _, rfl, ty, u3, ⟨rfl, _, rfl, iteF ?_⟩⟩⟩⟩
    refine ⟨_, rfl, .inr ⟨_, _, _, _, rfl, ty, u4, _, rfl, .inr ⟨_, _, _, _, rfl, ty, u5, _, rfl, .inr ⟨_, _, _, _, rfl, ty, u6, _, rfl, .inr ⟨_, _, _, _, rfl, ty, u7, four_ok, fun l hl => ?_⟩⟩⟩⟩⟩
    refine ⟨l, [false, false, false, false], rfl, SqL.of upd_same, _, rfl, iteF ?_⟩
    have s1 := same_new hl (.lst [V.bl false, V.bl false, V.bl false, V.bl false])
    generalize upd H l (.lst [V.bl false, V.bl false, V.bl false, V.bl false]) = H1 at *
    have ho1 := s1 _ _ ho
    have hp1 := s1 _ _ hp
    have ty1 := kU.ty ho1
    refine ⟨_, rfl, .inr ⟨_, _, _, _, rfl, ty1, u8, _, rfl, iteF ?_⟩⟩
    refine ⟨_, rfl, .inr ⟨_, _, _, _, rfl, ty1, u9, _, rfl, iteF ?_⟩⟩
    refine .inr ⟨_, rfl, o, dx, _, rfl, ho1, rfl, _, rfl, _, rfl, ?_⟩
    refine ⟨o, x, y, g, rfl, ⟨dx, p, ho1, hp1⟩, fun H2 s2 => ?_⟩
    rw [decide_eq_false hne]
    refine .inr ⟨true, true, rfl, rfl, _, rfl, iteF ?_⟩
    have ho2 := s2 _ _ ho1
    have hp2 := s2 _ _ hp1
    refine ⟨_, rfl, .inr ⟨_, _, _, _, rfl, kU.ty ho2, u2, _, rfl, iteF ?_⟩⟩
    refine ⟨_, rfl, o, CUnlike, dx, _, _, rfl, ho2, kU.cl, nU, rfl, p, g, rfl, hp2, hg, fun H3 s3 => ⟨_, rfl, iteF ?_⟩⟩
    have ho3 := s3 _ _ ho2
    have hp3 := s3 _ _ hp2
    refine ⟨_, rfl, _, rfl, o, CUnlike, dx, _, _, rfl, ho3, kU.cl, nU, rfl, x, p, g, rfl, hp3, fun r1 H4 s4 e4 => ?_⟩
    refine ⟨_, rfl, _, rfl, o, CUnlike, dx, _, _, rfl, s4 _ _ ho3, kU.cl, nU, rfl, y, p, g, rfl, s4 _ _ hp3, fun r2 H5 s5 e5 => ?_⟩
    refine ⟨fD (walk x g), fD (walk y g), fD_rd (s5 _ _ e4), fD_rd e5, fD_depth _, ?_⟩
    rw [if_pos rfl, fD_eqv, decide_eq_false hne]
    exact q _ (s1.trans (s2.trans (s3.trans (s4.trans s5))))

end
end K04

set_option Elab.async false
set_option linter.all false
set_option maxRecDepth 100000
set_option maxHeartbeats 4000000
namespace K04
open PySem L2 TW TX
seal L2.PE L2.PT L2.PA L2.PS L2.PSs L2.PI L2.PG L2.PGs L2.PW L2.PTs L2.PO
section
variable {P : Program} {w : World} {K : PySem.W.Frag} {mg : Str → Option Value} {base : Heap} {f : Addr} {fd : FuncData} {k : Nat}
abbrev s_law : Stmt := top 59
theorem sc_law : FnScope ["_law_script", "_law_one", "_law_other", "_law_first", "_law_second", "_law_found"] ["_law_script"] (defScope s_law) := ⟨rfl, rfl, rfl, by decide +kernel, rfl, by decide +kernel, by decide +kernel⟩
theorem ok_law {CAlike CUnlike : Addr} (G : Glo mg) (mAlike : mg "Alike" = some (.ref CAlike)) (kA : KCls K CAlike) (kU : KCls K CUnlike) (nA : PySem.W.findIn K (.ref CAlike) "steps" = some none)
    (a2 : PySem.W.kitOne K (.ref CAlike) (.ref CAlike) = some true) (u2 : PySem.W.kitOne K (.ref CUnlike) (.ref CAlike) = some false) (F : Fun K "law" "law" s_law f fd) (c_law_two : Callee P w K mg base k "_law_two" ["_law_script"] (spTwo K)) (c_alike : Callee P w K mg base k "alike" ["one", "other"] (spAlike CAlike CUnlike))
    (c_law_right : Callee P w K mg base k "_law_right" ["_law_one", "_law_other", "_law_found"] (spRight4 CAlike CUnlike)) (c_law_same : Callee P w K mg base k "_law_same" ["_law_one", "_law_other"] spLead) (c_A_shows : Method P w K mg base k CAlike "shows" ["self", "one", "other"] (spAlikeShows CAlike)) : FnOk P w K mg base CX0 (k + 1) f fd ["_law_script"] (spLaw K) := by
  refine F.ok sc_law (fun vs H Q E h => ?_) (fun cdv A outer s H vs Q E hr h => ?_)
  · obtain ⟨a, ns, rfl, _⟩ := h; rfl
  obtain ⟨a, ns, rfl, hS, h63, q⟩ := h
  have nd := sc_law.nd
  refine ⟨_, (pss_cons (ps_asg (pe_calls c_law_two hr rfl (pa_cons (pv 0) pa_nil)) (pg_tup rfl (pgs_cons (pg_name (i := 1) nd rfl (Or.inl rfl)) (pgs_cons (pg_name (i := 2) nd rfl (Or.inl rfl)) pgs_nil))))
      (pss_cons (ps_for PassesOwn.never rfl (pi_list (pe_lst (pa_cons (pe_tup (pa_cons (pv 1) (pa_cons (pv 2) pa_nil))) (pa_cons (pe_tup (pa_cons (pv 2) (pa_cons (pe_slice sl_str (pv 1) po_none (po_some (pe_un un_neg pe_int))) pa_nil))) pa_nil)))) (pg_tup rfl (pgs_cons (pg_name (i := 3) nd rfl (Or.inl rfl)) (pgs_cons (pg_name (i := 4) nd rfl (Or.inl rfl)) pgs_nil))) (pss_cons (ps_set (i := 5) nd rfl (Or.inl rfl) (pe_calls c_alike hr rfl (pa_cons (pv 3) (pa_cons (pv 4) pa_nil))))
      (pss_cons (ps_if (PW.pt (pw_or (pt_not (pt_val (pe_calls c_law_right hr rfl (pa_cons (pv 3) (pa_cons (pv 4) (pa_cons (pv 5) pa_nil)))))) (pw_or1 (pt_cmpR op_ne (pe_callB (call_isiAK (K := K) rfl) rfl G.n_isinstance bt_isinstance (pa_cons (pv 5) (pa_cons (pe_glob (v := .ref CAlike) rfl mAlike rfl) pa_nil))) (pe_calls c_law_same hr rfl (pa_cons (pv 3) (pa_cons (pv 4) pa_nil))) (nomark _))))) (pss_one (ps_ret pe_bl)) pss_nil)
      (pss_one (ps_if (pt_val (pe_callB (call_isiAK (K := K) rfl) rfl G.n_isinstance bt_isinstance (pa_cons (pv 5) (pa_cons (pe_glob (v := .ref CAlike) rfl mAlike rfl) pa_nil)))) (pss_cons (ps_expr (pe_bm PySem.F.plainAttrs_list PySem.F.slot_list_append PySem.F.type_list_append mt_append (pe_fld (pv 5) rfl) (pa_cons (pe_tup (pa_cons pe_str (pa_cons pe_int (pa_cons pe_str pa_nil)))) pa_nil)))
      (pss_one (ps_if (pt_cmpR op_isntA (pe_meths (pl := _) (pv 5) kA.cl c_A_shows hr (pa_cons (pv 3) (pa_cons (pv 4) pa_nil))) pe_bl (nomark _)) (pss_one (ps_ret pe_bl)) pss_nil))) pss_nil))))) 
      (pss_one (ps_ret (pe_cmpR op_eq (pe_callB (call_isiAK (K := K) rfl) rfl G.n_isinstance bt_isinstance (pa_cons (pe_calls c_alike hr rfl (pa_cons (pv 1) (pa_cons (pv 2) pa_nil))) (pa_cons (pe_glob (v := .ref CAlike) rfl mAlike rfl) pa_nil))) (pe_calls c_law_same hr rfl (pa_cons (pv 1) (pa_cons (pv 2) pa_nil))) (nomark _)))))), ?_⟩
  refine ⟨_, rfl, a, ns, rfl, hS, h63, fun p x y H1 s1 hp wx wy lx ly => ?_⟩
  refine ⟨p, _, rfl, SqT.of hp, rfl, _, _, rfl, _, _, rfl, rfl, ?_⟩
  obtain ⟨z, ez, wz, lz⟩ := slice_word wx none (some (-1))
  have hz : (S x).length ≤ sizeLine := by rw [S_len]; exact big (by omega)
  refine ⟨_, rfl, _, rfl, two_ok, fun p1 k1 => ?_⟩
  have S1 := same_new k1 (.tup [.str (S x), .str (S y)])
  have E1 := @upd_same H1 p1 (.tup [.str (S x), .str (S y)])
  generalize upd H1 p1 (.tup [.str (S x), .str (S y)]) = G1 at *
  refine ⟨_, rfl, _, rfl, _, rfl, _, rfl, _, rfl, hz, ?_⟩
  show tNil _ _ _
  refine ⟨two_ok, fun p2 k2 => ?_⟩
  have ez' : Txt.slice (S x) none (some (-1)) = S z := ez
  rw [ez']
  have S2 := same_new k2 (.tup [.str (S y), .str (S z)])
  have E2 := @upd_same G1 p2 (.tup [.str (S y), .str (S z)])
  have E1' := S2 _ _ E1
  generalize upd G1 p2 (.tup [.str (S y), .str (S z)]) = G2 at *
  refine ⟨two_ok, fun l kl => ⟨l, rfl, ⟨_, SqL.of upd_same⟩, ?_⟩⟩
  have S3 := same_new kl (.lst [.ref p1, .ref p2])
  have E3 := @upd_same G2 l (.lst [.ref p1, .ref p2])
  have E1'' := S3 _ _ E1'
  have E2' := S3 _ _ E2
  generalize upd G2 l (.lst [.ref p1, .ref p2]) = G3 at *
  refine for_on (ItOn.list (xs := [.ref p1, .ref p2])) (fun i σ' H' => Same G3 H' ∧ ∃ l3 l4 l5, σ' = [some (.ref a), some (.str (S x)), some (.str (S y)), l3, l4, l5]) ⟨Same.refl _, _, _, _, rfl⟩ (fun i σ' H' _ h => SqL.of (h.1 _ _ E3)) ?_ ?_
  · rintro i v σ' H' hv ⟨hs, l3, l4, l5, rfl⟩
    obtain ⟨pp, u, v', rfl, hpp, wu, wv, lu, lv⟩ : ∃ pp u v', v = .ref pp ∧ H' pp = some (.tup [.str (S u), .str (S v')]) ∧ IsW u ∧ IsW v' ∧ u.length ≤ 1000 ∧ v'.length ≤ 1000 := by
      match i, hv with
      | 0, hv => cases hv; exact ⟨p1, x, y, rfl, hs _ _ E1'', wx, wy, by omega, by omega⟩
      | 1, hv => cases hv; exact ⟨p2, y, z, rfl, hs _ _ E2', wy, wz, by omega, by omega⟩
      | n + 2, hv => cases hv
    refine ⟨pp, _, rfl, SqT.of hpp, rfl, _, _, rfl, _, _, rfl, rfl, ?_⟩
    refine ⟨_, rfl, _, rfl, u, v', rfl, wu, wv, lu, lv, fun ea o dx m ps H2 s2 nm ho hm hps => ?_, fun ea o g H2 s2 hU hg hne => ?_⟩
    · have ok := steps2_ok lu lv
      have run := al_run wu wv ea
      refine ⟨_, rfl, _, rfl, _, rfl, u, v', o, rfl, .inl ⟨_, ⟨dx, m, ps, ho, hm, hps⟩, ok, run⟩, fun H3 s3 => ⟨_, rfl, iteF ?_⟩⟩
      have ho3 := s3 _ _ ho
      refine ⟨_, rfl, .inr ⟨_, _, _, _, rfl, kA.ty ho3, a2, _, rfl, _, rfl, u, v', rfl, fun H4 s4 => ?_⟩⟩
      rw [ea]
      refine ⟨rfl, _, rfl, iteF ?_⟩
      have ho4 := s4 _ _ ho3
      have hm4 := s4 _ _ (s3 _ _ hm)
      refine ⟨_, rfl, .inr ⟨_, _, _, _, rfl, kA.ty ho4, a2, _, rfl, iteT ?_⟩⟩
      refine ⟨_, rfl, o, CAlike, dx, _, _, rfl, ho4, kA.cl, nA, rfl, .inl ⟨rfl, _, SqL.of hm4⟩, three_ok, fun r kr => ?_⟩
      have S5 := same_new kr (.tup [.str "in", .int 0, .str "rr"])
      have E5 := @upd_same H4 r (.tup [.str "in", .int 0, .str "rr"])
      have hm5 := S5 _ _ hm4
      have ho5 := S5 _ _ ho4
      have hps5 := ((hps.same s3).same s4).same S5
      generalize upd H4 r (.tup [.str "in", .int 0, .str "rr"]) = H5 at *
      have hE5 : H5 r = some (stV (true, 0, [114, 114])) := by
        rw [E5, lit_rr]
        rfl
      have lps : ps.length ≤ 100000 := by rw [hps.len]; have := ok.len; omega
      refine ⟨m, ps, _, rfl, rfl, hm5, by have := sizeLine_eq; omega, ?_⟩
      have ne : o ≠ m := fun z => by subst z; rw [hm5] at ho5; cases ho5
      have ho6 : upd H5 m (.lst (ps ++ [.ref r])) o = some (.ins CAlike dx [("steps", .ref m)]) := by rw [upd_ne ne]; exact ho5
      have T5 : Same H' H5 := s2.trans (s3.trans (s4.trans S5))
      have T6 : Same H' (upd H5 m (.lst (ps ++ [.ref r]))) := T5.up nm
      refine ⟨_, rfl, o, dx, _, rfl, ho6, rfl, _, rfl, _, rfl, ?_⟩
      refine ⟨o, u, v', steps2 u v' ++ [(true, 0, [114, 114])], rfl, ⟨dx, m, _, ho6, upd_same, ?_⟩, ⟨?_, ?_⟩, fun H7 s7 => ?_⟩
      · exact StpsAt.upd hm5 (hps5.snoc hE5)
      · intro t ht
        rcases List.mem_append.mp ht with h | h
        · exact ok.pc t h
        · rw [List.mem_singleton.mp h]
          simp [pcs]
      · have := steps2_len u v'
        rw [List.length_append, List.length_singleton]
        omega
      · rw [decide_eq_false (steps_more run)]
        refine .inr ⟨false, false, rfl, rfl, _, rfl, iteF ?_⟩
        exact ⟨hs.trans (T6.trans s7), _, _, _, rfl⟩
    · obtain ⟨dx, p0, ho, hp0⟩ := id hU
      refine ⟨_, rfl, _, rfl, _, rfl, u, v', o, rfl, .inr ⟨g, hU, hg, hne⟩, fun H3 s3 => ⟨_, rfl, iteF ?_⟩⟩
      have ho3 := s3 _ _ ho
      refine ⟨_, rfl, .inr ⟨_, _, _, _, rfl, kU.ty ho3, u2, _, rfl, _, rfl, u, v', rfl, fun H4 s4 => ?_⟩⟩
      rw [ea]
      refine ⟨rfl, _, rfl, iteF ?_⟩
      have ho4 := s4 _ _ ho3
      refine ⟨_, rfl, .inr ⟨_, _, _, _, rfl, kU.ty ho4, u2, _, rfl, iteF ?_⟩⟩
      exact ⟨hs.trans (s2.trans (s3.trans s4)), _, _, _, rfl⟩
  · rintro σ' H' ⟨hs, l3, l4, l5, rfl⟩
    refine ⟨_, rfl, _, rfl, x, y, rfl, wx, wy, by omega, by omega, fun ea o dx m ps H2 s2 nm ho hm hps => ?_, fun ea o g H2 s2 hU hg hne => ?_⟩
    · refine .inr ⟨_, _, _, _, rfl, kA.ty ho, a2, _, rfl, _, rfl, x, y, rfl, fun H4 s4 => ?_⟩
      rw [ea]
      exact ⟨rfl, q _⟩
    · obtain ⟨dx, p0, ho, hp0⟩ := id hU
      refine .inr ⟨_, _, _, _, rfl, kU.ty ho, u2, _, rfl, _, rfl, x, y, rfl, fun H4 s4 => ?_⟩
      rw [ea]
      exact ⟨rfl, q _⟩

end
end K04

set_option Elab.async false
set_option linter.all false
set_option maxRecDepth 100000
set_option maxHeartbeats 4000000
namespace K04
open PySem L2 TW TX
theorem all_mk {l : PySem.W.OpenLaw} {w : World} {K : PySem.W.Frag} {h : Heap} {mg : Str → Option Value} {fa : Addr} (X : K.In h) (G : h.Ns mainGlobals mg) (hfa : mg "law" = some (.ref fa))
    {f0 : Addr} {od0 an0 : Option Addr} {sl0 : Array (Option Value)} {oc0 kV0 dc0 pm0 cd0 ct0 : Value}
    {f1 : Addr} {od1 an1 : Option Addr} {sl1 : Array (Option Value)} {oc1 kV1 dc1 pm1 cd1 ct1 : Value}
    {f2 : Addr} {od2 an2 : Option Addr} {sl2 : Array (Option Value)} {oc2 kV2 dc2 pm2 cd2 ct2 : Value}
    {f3 : Addr} {od3 an3 : Option Addr} {sl3 : Array (Option Value)} {oc3 kV3 dc3 pm3 cd3 ct3 : Value}
    {f4 : Addr} {od4 an4 : Option Addr} {sl4 : Array (Option Value)} {oc4 kV4 dc4 pm4 cd4 ct4 : Value}
    {f5 : Addr} {od5 an5 : Option Addr} {sl5 : Array (Option Value)} {oc5 kV5 dc5 pm5 cd5 ct5 : Value}
    {f6 : Addr} {od6 an6 : Option Addr} {sl6 : Array (Option Value)} {oc6 kV6 dc6 pm6 cd6 ct6 : Value}
    {f7 : Addr} {od7 an7 : Option Addr} {sl7 : Array (Option Value)} {oc7 kV7 dc7 pm7 cd7 ct7 : Value}
    {f8 : Addr} {od8 an8 : Option Addr} {sl8 : Array (Option Value)} {oc8 kV8 dc8 pm8 cd8 ct8 : Value}
    {f9 : Addr} {od9 an9 : Option Addr} {sl9 : Array (Option Value)} {oc9 kV9 dc9 pm9 cd9 ct9 : Value}
    {f10 : Addr} {od10 an10 : Option Addr} {sl10 : Array (Option Value)} {oc10 kV10 dc10 pm10 cd10 ct10 : Value}
    {f11 : Addr} {od11 an11 : Option Addr} {sl11 : Array (Option Value)} {oc11 kV11 dc11 pm11 cd11 ct11 : Value}
    {f12 : Addr} {od12 an12 : Option Addr} {sl12 : Array (Option Value)} {oc12 kV12 dc12 pm12 cd12 ct12 : Value}
    {f13 : Addr} {od13 an13 : Option Addr} {sl13 : Array (Option Value)} {oc13 kV13 dc13 pm13 cd13 ct13 : Value}
    {f14 : Addr} {od14 an14 : Option Addr} {sl14 : Array (Option Value)} {oc14 kV14 dc14 pm14 cd14 ct14 : Value}
    {f15 : Addr} {od15 an15 : Option Addr} {sl15 : Array (Option Value)} {oc15 kV15 dc15 pm15 cd15 ct15 : Value}
    {f16 : Addr} {od16 an16 : Option Addr} {sl16 : Array (Option Value)} {oc16 kV16 dc16 pm16 cd16 ct16 : Value}
    {f17 : Addr} {od17 an17 : Option Addr} {sl17 : Array (Option Value)} {oc17 kV17 dc17 pm17 cd17 ct17 : Value}
    {f18 : Addr} {od18 an18 : Option Addr} {sl18 : Array (Option Value)} {oc18 kV18 dc18 pm18 cd18 ct18 : Value}
    {f19 : Addr} {od19 an19 : Option Addr} {sl19 : Array (Option Value)} {oc19 kV19 dc19 pm19 cd19 ct19 : Value}
    {f20 : Addr} {od20 an20 : Option Addr} {sl20 : Array (Option Value)} {oc20 kV20 dc20 pm20 cd20 ct20 : Value}
    {f21 : Addr} {od21 an21 : Option Addr} {sl21 : Array (Option Value)} {oc21 kV21 dc21 pm21 cd21 ct21 : Value}
    {f22 : Addr} {od22 an22 : Option Addr} {sl22 : Array (Option Value)} {oc22 kV22 dc22 pm22 cd22 ct22 : Value}
    {f23 : Addr} {od23 an23 : Option Addr} {sl23 : Array (Option Value)} {oc23 kV23 dc23 pm23 cd23 ct23 : Value}
    {f24 : Addr} {od24 an24 : Option Addr} {sl24 : Array (Option Value)} {oc24 kV24 dc24 pm24 cd24 ct24 : Value}
    {f25 : Addr} {od25 an25 : Option Addr} {sl25 : Array (Option Value)} {oc25 kV25 dc25 pm25 cd25 ct25 : Value}
    {f26 : Addr} {od26 an26 : Option Addr} {sl26 : Array (Option Value)} {oc26 kV26 dc26 pm26 cd26 ct26 : Value}
    {f27 : Addr} {od27 an27 : Option Addr} {sl27 : Array (Option Value)} {oc27 kV27 dc27 pm27 cd27 ct27 : Value}
    {f28 : Addr} {od28 an28 : Option Addr} {sl28 : Array (Option Value)} {oc28 kV28 dc28 pm28 cd28 ct28 : Value}
    {f29 : Addr} {od29 an29 : Option Addr} {sl29 : Array (Option Value)} {oc29 kV29 dc29 pm29 cd29 ct29 : Value}
    {f30 : Addr} {od30 an30 : Option Addr} {sl30 : Array (Option Value)} {oc30 kV30 dc30 pm30 cd30 ct30 : Value}
    {f31 : Addr} {od31 an31 : Option Addr} {sl31 : Array (Option Value)} {oc31 kV31 dc31 pm31 cd31 ct31 : Value}
    {aLETTERS : Addr} {odL : Option Addr} {slL : Array (Option Value)} {nL : Nat} {t1 t2 t3 : Tok}
    {aEX : Addr} {nE : Nat} {e1 e2 e3 : Tok} {es : Array DictEntry}
    {aTF atf0 atf1 atf2 : Addr} {odT odt01 odt10 odt11 : Option Addr} {slT slt01 slt10 slt11 : Array (Option Value)} {nT nt01 nt10 nt11 : Nat} {u1 u2 u3 u4 u5 u6 : Tok}
    {aDE : Addr} {odDE : Option Addr} {slDE : Array (Option Value)} {nDE : Nat} {tDE0 tDE1 : Tok}
    {aPC : Addr} {odPC : Option Addr} {slPC : Array (Option Value)} {nPC : Nat} {tPC0 tPC1 tPC2 tPC3 : Tok}
    {aPO : Addr} {odPO : Option Addr} {slPO : Array (Option Value)} {nPO : Nat} {tPO0 tPO1 tPO2 : Tok}
    {aOV : Addr} {nOV : Nat} {esOV : Array DictEntry} {ov1 ov2 : Tok} {bT pT0 pT1 pT2 pT3 : Addr} {odOT odOT0 odOT1 odOT2 odOT3 : Option Addr} {slOT slOT0 slOT1 slOT2 slOT3 : Array (Option Value)} {nOT nOT0 nOT1 nOT2 nOT3 : Nat} {qT00 qT01 qT02 qT10 qT11 qT12 qT20 qT21 qT22 qT30 qT31 qT32 : Tok} {bU pU0 pU1 pU2 pU3 : Addr} {odOU odOU0 odOU1 odOU2 odOU3 : Option Addr} {slOU slOU0 slOU1 slOU2 slOU3 : Array (Option Value)} {nOU nOU0 nOU1 nOU2 nOU3 : Nat} {qU00 qU01 qU02 qU10 qU11 qU12 qU20 qU21 qU22 qU30 qU31 qU32 : Tok}
    {CAnswer : Addr}
    {CQuiet : Addr}
    {COnward : Addr}
    {CLed : Addr}
    {CParts : Addr}
    {CElsewhere : Addr}
    {CRounds : Addr}
    {CAlike : Addr}
    {CUnlike : Addr}
    (q_Answer : PySem.W.nsIn K mainGlobals "Answer" = some (some (.ref CAnswer)))
    (q_Quiet : PySem.W.nsIn K mainGlobals "Quiet" = some (some (.ref CQuiet)))
    (q_Onward : PySem.W.nsIn K mainGlobals "Onward" = some (some (.ref COnward)))
    (q_Led : PySem.W.nsIn K mainGlobals "Led" = some (some (.ref CLed)))
    (q_Parts : PySem.W.nsIn K mainGlobals "Parts" = some (some (.ref CParts)))
    (q_Elsewhere : PySem.W.nsIn K mainGlobals "Elsewhere" = some (some (.ref CElsewhere)))
    (q_Rounds : PySem.W.nsIn K mainGlobals "Rounds" = some (some (.ref CRounds)))
    (q_Alike : PySem.W.nsIn K mainGlobals "Alike" = some (some (.ref CAlike)))
    (mi_Alike : PySem.W.findIn K (.ref CAlike) "__init__" = some (some (.ref f11)))
    (ma_Alike_shows : PySem.W.findIn K (.ref CAlike) "shows" = some (some (.ref f12)))
    (q_Unlike : PySem.W.nsIn K mainGlobals "Unlike" = some (some (.ref CUnlike)))
    (mi_Unlike : PySem.W.findIn K (.ref CUnlike) "__init__" = some (some (.ref f13)))
    (ma_Unlike_shows : PySem.W.findIn K (.ref CUnlike) "shows" = some (some (.ref f14)))
    (a0 : PySem.W.nsIn K mainGlobals "is_whole" = some (some (.ref f0)))
    (l0 : K.lookup f0 = some ⟨oc0, od0, .func (PySem.W.fnOf "is_whole" "is_whole" (defArgs s_is_whole) (defBody s_is_whole) (defScope s_is_whole) .none kV0 dc0 pm0 an0 cd0 ct0), sl0⟩)
    (c0 : PySem.W.codeIn K cd0 "is_whole" = true)
    (k0 : PySem.W.keepIn K (.ref f0) = true)
    (a1 : PySem.W.nsIn K mainGlobals "is_word" = some (some (.ref f1)))
    (l1 : K.lookup f1 = some ⟨oc1, od1, .func (PySem.W.fnOf "is_word" "is_word" (defArgs s_is_word) (defBody s_is_word) (defScope s_is_word) .none kV1 dc1 pm1 an1 cd1 ct1), sl1⟩)
    (c1 : PySem.W.codeIn K cd1 "is_word" = true)
    (k1 : PySem.W.keepIn K (.ref f1) = true)
    (a2 : PySem.W.nsIn K mainGlobals "is_text_among" = some (some (.ref f2)))
    (l2 : K.lookup f2 = some ⟨oc2, od2, .func (PySem.W.fnOf "is_text_among" "is_text_among" (defArgs s_is_text_among) (defBody s_is_text_among) (defScope s_is_text_among) .none kV2 dc2 pm2 an2 cd2 ct2), sl2⟩)
    (c2 : PySem.W.codeIn K cd2 "is_text_among" = true)
    (k2 : PySem.W.keepIn K (.ref f2) = true)
    (a3 : PySem.W.nsIn K mainGlobals "is_step" = some (some (.ref f3)))
    (l3 : K.lookup f3 = some ⟨oc3, od3, .func (PySem.W.fnOf "is_step" "is_step" (defArgs s_is_step) (defBody s_is_step) (defScope s_is_step) .none kV3 dc3 pm3 an3 cd3 ct3), sl3⟩)
    (c3 : PySem.W.codeIn K cd3 "is_step" = true)
    (k3 : PySem.W.keepIn K (.ref f3) = true)
    (a4 : PySem.W.nsIn K mainGlobals "check_word" = some (some (.ref f4)))
    (l4 : K.lookup f4 = some ⟨oc4, od4, .func (PySem.W.fnOf "check_word" "check_word" (defArgs s_check_word) (defBody s_check_word) (defScope s_check_word) .none kV4 dc4 pm4 an4 cd4 ct4), sl4⟩)
    (c4 : PySem.W.codeIn K cd4 "check_word" = true)
    (k4 : PySem.W.keepIn K (.ref f4) = true)
    (a5 : PySem.W.nsIn K mainGlobals "turned" = some (some (.ref f5)))
    (l5 : K.lookup f5 = some ⟨oc5, od5, .func (PySem.W.fnOf "turned" "turned" (defArgs s_turned) (defBody s_turned) (defScope s_turned) .none kV5 dc5 pm5 an5 cd5 ct5), sl5⟩)
    (c5 : PySem.W.codeIn K cd5 "turned" = true)
    (k5 : PySem.W.keepIn K (.ref f5) = true)
    (a6 : PySem.W.nsIn K mainGlobals "moved" = some (some (.ref f6)))
    (l6 : K.lookup f6 = some ⟨oc6, od6, .func (PySem.W.fnOf "moved" "moved" (defArgs s_moved) (defBody s_moved) (defScope s_moved) .none kV6 dc6 pm6 an6 cd6 ct6), sl6⟩)
    (c6 : PySem.W.codeIn K cd6 "moved" = true)
    (k6 : PySem.W.keepIn K (.ref f6) = true)
    (a7 : PySem.W.nsIn K mainGlobals "follow" = some (some (.ref f7)))
    (l7 : K.lookup f7 = some ⟨oc7, od7, .func (PySem.W.fnOf "follow" "follow" (defArgs s_follow) (defBody s_follow) (defScope s_follow) .none kV7 dc7 pm7 an7 cd7 ct7), sl7⟩)
    (c7 : PySem.W.codeIn K cd7 "follow" = true)
    (k7 : PySem.W.keepIn K (.ref f7) = true)
    (a8 : PySem.W.nsIn K mainGlobals "back" = some (some (.ref f8)))
    (l8 : K.lookup f8 = some ⟨oc8, od8, .func (PySem.W.fnOf "back" "back" (defArgs s_back) (defBody s_back) (defScope s_back) .none kV8 dc8 pm8 an8 cd8 ct8), sl8⟩)
    (c8 : PySem.W.codeIn K cd8 "back" = true)
    (k8 : PySem.W.keepIn K (.ref f8) = true)
    (a9 : PySem.W.nsIn K mainGlobals "can_step" = some (some (.ref f9)))
    (l9 : K.lookup f9 = some ⟨oc9, od9, .func (PySem.W.fnOf "can_step" "can_step" (defArgs s_can_step) (defBody s_can_step) (defScope s_can_step) .none kV9 dc9 pm9 an9 cd9 ct9), sl9⟩)
    (c9 : PySem.W.codeIn K cd9 "can_step" = true)
    (k9 : PySem.W.keepIn K (.ref f9) = true)
    (a10 : PySem.W.nsIn K mainGlobals "after_step" = some (some (.ref f10)))
    (l10 : K.lookup f10 = some ⟨oc10, od10, .func (PySem.W.fnOf "after_step" "after_step" (defArgs s_after_step) (defBody s_after_step) (defScope s_after_step) .none kV10 dc10 pm10 an10 cd10 ct10), sl10⟩)
    (c10 : PySem.W.codeIn K cd10 "after_step" = true)
    (k10 : PySem.W.keepIn K (.ref f10) = true)
    (l11 : K.lookup f11 = some ⟨oc11, od11, .func (PySem.W.fnOf "__init__" "Alike.__init__" (defArgs s_Alike_init) (defBody s_Alike_init) (defScope s_Alike_init) .none kV11 dc11 pm11 an11 cd11 ct11), sl11⟩)
    (c11 : PySem.W.codeIn K cd11 "Alike.__init__" = true)
    (k11 : PySem.W.keepIn K (.ref f11) = true)
    (l12 : K.lookup f12 = some ⟨oc12, od12, .func (PySem.W.fnOf "shows" "Alike.shows" (defArgs s_Alike_shows) (defBody s_Alike_shows) (defScope s_Alike_shows) .none kV12 dc12 pm12 an12 cd12 ct12), sl12⟩)
    (c12 : PySem.W.codeIn K cd12 "Alike.shows" = true)
    (k12 : PySem.W.keepIn K (.ref f12) = true)
    (l13 : K.lookup f13 = some ⟨oc13, od13, .func (PySem.W.fnOf "__init__" "Unlike.__init__" (defArgs s_Unlike_init) (defBody s_Unlike_init) (defScope s_Unlike_init) .none kV13 dc13 pm13 an13 cd13 ct13), sl13⟩)
    (c13 : PySem.W.codeIn K cd13 "Unlike.__init__" = true)
    (k13 : PySem.W.keepIn K (.ref f13) = true)
    (l14 : K.lookup f14 = some ⟨oc14, od14, .func (PySem.W.fnOf "shows" "Unlike.shows" (defArgs s_Unlike_shows) (defBody s_Unlike_shows) (defScope s_Unlike_shows) .none kV14 dc14 pm14 an14 cd14 ct14), sl14⟩)
    (c14 : PySem.W.codeIn K cd14 "Unlike.shows" = true)
    (k14 : PySem.W.keepIn K (.ref f14) = true)
    (a15 : PySem.W.nsIn K mainGlobals "telling_fraction" = some (some (.ref f15)))
    (l15 : K.lookup f15 = some ⟨oc15, od15, .func (PySem.W.fnOf "telling_fraction" "telling_fraction" (defArgs s_telling_fraction) (defBody s_telling_fraction) (defScope s_telling_fraction) .none kV15 dc15 pm15 an15 cd15 ct15), sl15⟩)
    (c15 : PySem.W.codeIn K cd15 "telling_fraction" = true)
    (k15 : PySem.W.keepIn K (.ref f15) = true)
    (a16 : PySem.W.nsIn K mainGlobals "take_pair" = some (some (.ref f16)))
    (l16 : K.lookup f16 = some ⟨oc16, od16, .func (PySem.W.fnOf "take_pair" "take_pair" (defArgs s_take_pair) (defBody s_take_pair) (defScope s_take_pair) .none kV16 dc16 pm16 an16 cd16 ct16), sl16⟩)
    (c16 : PySem.W.codeIn K cd16 "take_pair" = true)
    (k16 : PySem.W.keepIn K (.ref f16) = true)
    (a17 : PySem.W.nsIn K mainGlobals "turn_over" = some (some (.ref f17)))
    (l17 : K.lookup f17 = some ⟨oc17, od17, .func (PySem.W.fnOf "turn_over" "turn_over" (defArgs s_turn_over) (defBody s_turn_over) (defScope s_turn_over) .none kV17 dc17 pm17 an17 cd17 ct17), sl17⟩)
    (c17 : PySem.W.codeIn K cd17 "turn_over" = true)
    (k17 : PySem.W.keepIn K (.ref f17) = true)
    (a18 : PySem.W.nsIn K mainGlobals "settle" = some (some (.ref f18)))
    (l18 : K.lookup f18 = some ⟨oc18, od18, .func (PySem.W.fnOf "settle" "settle" (defArgs s_settle) (defBody s_settle) (defScope s_settle) .none kV18 dc18 pm18 an18 cd18 ct18), sl18⟩)
    (c18 : PySem.W.codeIn K cd18 "settle" = true)
    (k18 : PySem.W.keepIn K (.ref f18) = true)
    (a19 : PySem.W.nsIn K mainGlobals "made_plain" = some (some (.ref f19)))
    (l19 : K.lookup f19 = some ⟨oc19, od19, .func (PySem.W.fnOf "made_plain" "made_plain" (defArgs s_made_plain) (defBody s_made_plain) (defScope s_made_plain) .none kV19 dc19 pm19 an19 cd19 ct19), sl19⟩)
    (c19 : PySem.W.codeIn K cd19 "made_plain" = true)
    (k19 : PySem.W.keepIn K (.ref f19) = true)
    (a20 : PySem.W.nsIn K mainGlobals "undone" = some (some (.ref f20)))
    (l20 : K.lookup f20 = some ⟨oc20, od20, .func (PySem.W.fnOf "undone" "undone" (defArgs s_undone) (defBody s_undone) (defScope s_undone) .none kV20 dc20 pm20 an20 cd20 ct20), sl20⟩)
    (c20 : PySem.W.codeIn K cd20 "undone" = true)
    (k20 : PySem.W.keepIn K (.ref f20) = true)
    (a21 : PySem.W.nsIn K mainGlobals "alike" = some (some (.ref f21)))
    (l21 : K.lookup f21 = some ⟨oc21, od21, .func (PySem.W.fnOf "alike" "alike" (defArgs s_alike) (defBody s_alike) (defScope s_alike) .none kV21 dc21 pm21 an21 cd21 ct21), sl21⟩)
    (c21 : PySem.W.codeIn K cd21 "alike" = true)
    (k21 : PySem.W.keepIn K (.ref f21) = true)
    (a22 : PySem.W.nsIn K mainGlobals "_law_two" = some (some (.ref f22)))
    (l22 : K.lookup f22 = some ⟨oc22, od22, .func (PySem.W.fnOf "_law_two" "_law_two" (defArgs s_law_two) (defBody s_law_two) (defScope s_law_two) .none kV22 dc22 pm22 an22 cd22 ct22), sl22⟩)
    (c22 : PySem.W.codeIn K cd22 "_law_two" = true)
    (k22 : PySem.W.keepIn K (.ref f22) = true)
    (a23 : PySem.W.nsIn K mainGlobals "_law_moved" = some (some (.ref f23)))
    (l23 : K.lookup f23 = some ⟨oc23, od23, .func (PySem.W.fnOf "_law_moved" "_law_moved" (defArgs s_law_moved) (defBody s_law_moved) (defScope s_law_moved) .none kV23 dc23 pm23 an23 cd23 ct23), sl23⟩)
    (c23 : PySem.W.codeIn K cd23 "_law_moved" = true)
    (k23 : PySem.W.keepIn K (.ref f23) = true)
    (a24 : PySem.W.nsIn K mainGlobals "_law_walked" = some (some (.ref f24)))
    (l24 : K.lookup f24 = some ⟨oc24, od24, .func (PySem.W.fnOf "_law_walked" "_law_walked" (defArgs s_law_walked) (defBody s_law_walked) (defScope s_law_walked) .none kV24 dc24 pm24 an24 cd24 ct24), sl24⟩)
    (c24 : PySem.W.codeIn K cd24 "_law_walked" = true)
    (k24 : PySem.W.keepIn K (.ref f24) = true)
    (a25 : PySem.W.nsIn K mainGlobals "_law_same" = some (some (.ref f25)))
    (l25 : K.lookup f25 = some ⟨oc25, od25, .func (PySem.W.fnOf "_law_same" "_law_same" (defArgs s_law_same) (defBody s_law_same) (defScope s_law_same) .none kV25 dc25 pm25 an25 cd25 ct25), sl25⟩)
    (c25 : PySem.W.codeIn K cd25 "_law_same" = true)
    (k25 : PySem.W.keepIn K (.ref f25) = true)
    (a26 : PySem.W.nsIn K mainGlobals "_law_common" = some (some (.ref f26)))
    (l26 : K.lookup f26 = some ⟨oc26, od26, .func (PySem.W.fnOf "_law_common" "_law_common" (defArgs s_law_common) (defBody s_law_common) (defScope s_law_common) .none kV26 dc26 pm26 an26 cd26 ct26), sl26⟩)
    (c26 : PySem.W.codeIn K cd26 "_law_common" = true)
    (k26 : PySem.W.keepIn K (.ref f26) = true)
    (a27 : PySem.W.nsIn K mainGlobals "_law_is_fraction" = some (some (.ref f27)))
    (l27 : K.lookup f27 = some ⟨oc27, od27, .func (PySem.W.fnOf "_law_is_fraction" "_law_is_fraction" (defArgs s_law_is_fraction) (defBody s_law_is_fraction) (defScope s_law_is_fraction) .none kV27 dc27 pm27 an27 cd27 ct27), sl27⟩)
    (c27 : PySem.W.codeIn K cd27 "_law_is_fraction" = true)
    (k27 : PySem.W.keepIn K (.ref f27) = true)
    (a28 : PySem.W.nsIn K mainGlobals "_law_done" = some (some (.ref f28)))
    (l28 : K.lookup f28 = some ⟨oc28, od28, .func (PySem.W.fnOf "_law_done" "_law_done" (defArgs s_law_done) (defBody s_law_done) (defScope s_law_done) .none kV28 dc28 pm28 an28 cd28 ct28), sl28⟩)
    (c28 : PySem.W.codeIn K cd28 "_law_done" = true)
    (k28 : PySem.W.keepIn K (.ref f28) = true)
    (a29 : PySem.W.nsIn K mainGlobals "_law_led" = some (some (.ref f29)))
    (l29 : K.lookup f29 = some ⟨oc29, od29, .func (PySem.W.fnOf "_law_led" "_law_led" (defArgs s_law_led) (defBody s_law_led) (defScope s_law_led) .none kV29 dc29 pm29 an29 cd29 ct29), sl29⟩)
    (c29 : PySem.W.codeIn K cd29 "_law_led" = true)
    (k29 : PySem.W.keepIn K (.ref f29) = true)
    (a30 : PySem.W.nsIn K mainGlobals "_law_right" = some (some (.ref f30)))
    (l30 : K.lookup f30 = some ⟨oc30, od30, .func (PySem.W.fnOf "_law_right" "_law_right" (defArgs s_law_right) (defBody s_law_right) (defScope s_law_right) .none kV30 dc30 pm30 an30 cd30 ct30), sl30⟩)
    (c30 : PySem.W.codeIn K cd30 "_law_right" = true)
    (k30 : PySem.W.keepIn K (.ref f30) = true)
    (a31 : PySem.W.nsIn K mainGlobals "law" = some (some (.ref f31)))
    (l31 : K.lookup f31 = some ⟨oc31, od31, .func (PySem.W.fnOf "law" "law" (defArgs s_law) (defBody s_law) (defScope s_law) .none kV31 dc31 pm31 an31 cd31 ct31), sl31⟩)
    (c31 : PySem.W.codeIn K cd31 "law" = true)
    (k31 : PySem.W.keepIn K (.ref f31) = true)
    (z_len : PySem.W.nsIn K mainGlobals "len" = some none)
    (z_all : PySem.W.nsIn K mainGlobals "all" = some none)
    (z_any : PySem.W.nsIn K mainGlobals "any" = some none)
    (z_isinstance : PySem.W.nsIn K mainGlobals "isinstance" = some none)
    (z_abs : PySem.W.nsIn K mainGlobals "abs" = some none)
    (z_int : PySem.W.nsIn K mainGlobals "int" = some none)
    (z_bool : PySem.W.nsIn K mainGlobals "bool" = some none)
    (z_str : PySem.W.nsIn K mainGlobals "str" = some none)
    (z_tuple : PySem.W.nsIn K mainGlobals "tuple" = some none)
    (z_list : PySem.W.nsIn K mainGlobals "list" = some none)
    (z_reversed : PySem.W.nsIn K mainGlobals "reversed" = some none)
    (z_range : PySem.W.nsIn K mainGlobals "range" = some none)
    (z_max : PySem.W.nsIn K mainGlobals "max" = some none)
    (gL : PySem.W.nsIn K mainGlobals "LETTERS" = some (some (.ref aLETTERS)))
    (lL : K.lookup aLETTERS = some ⟨.type "tuple", odL, .seq [Value.str "t" t1, Value.str "u" t2, Value.str "r" t3].toArray nL, slL⟩)
    (gE : PySem.W.nsIn K mainGlobals "EXCHANGED" = some (some (.ref aEX)))
    (lE : K.lookup aEX = some ⟨.type "dict", none, .dict es nE, #[]⟩)
    (kE : PySem.W.KeysLit w.params es.toList)
    (x1 : PySem.W.nsIn K aEX "t" = some (some (.str "u" e1)))
    (x2 : PySem.W.nsIn K aEX "u" = some (some (.str "t" e2)))
    (x3 : PySem.W.nsIn K aEX "r" = some (some (.str "r" e3)))
    (gT : PySem.W.nsIn K mainGlobals "TELLING_FRACTIONS" = some (some (.ref aTF)))
    (lT : K.lookup aTF = some ⟨.type "tuple", odT, .seq [Value.ref atf0, Value.ref atf1, Value.ref atf2].toArray nT, slT⟩)
    (lt01 : K.lookup atf0 = some ⟨.type "tuple", odt01, .seq [Value.int 0 u1, Value.int 1 u2].toArray nt01, slt01⟩)
    (lt10 : K.lookup atf1 = some ⟨.type "tuple", odt10, .seq [Value.int 1 u3, Value.int 0 u4].toArray nt10, slt10⟩)
    (lt11 : K.lookup atf2 = some ⟨.type "tuple", odt11, .seq [Value.int 1 u5, Value.int 1 u6].toArray nt11, slt11⟩)
    (gDE : PySem.W.nsIn K mainGlobals "DEEDS" = some (some (.ref aDE)))
    (lDE : K.lookup aDE = some ⟨.type "tuple", odDE, .seq [Value.str "out" tDE0, Value.str "in" tDE1].toArray nDE, slDE⟩)
    (gPC : PySem.W.nsIn K mainGlobals "PIECES" = some (some (.ref aPC)))
    (lPC : K.lookup aPC = some ⟨.type "tuple", odPC, .seq [Value.str "tu" tPC0, Value.str "ut" tPC1, Value.str "rr" tPC2, Value.str "trtrtr" tPC3].toArray nPC, slPC⟩)
    (gPO : PySem.W.nsIn K mainGlobals "PAIRS_OUT" = some (some (.ref aPO)))
    (lPO : K.lookup aPO = some ⟨.type "tuple", odPO, .seq [Value.str "tu" tPO0, Value.str "ut" tPO1, Value.str "rr" tPO2].toArray nPO, slPO⟩)
    (gOV : PySem.W.nsIn K mainGlobals "OVER" = some (some (.ref aOV)))
    (lOV : K.lookup aOV = some ⟨.type "dict", none, .dict esOV nOV, #[]⟩)
    (kOV : PySem.W.KeysLit w.params esOV.toList)
    (sOV : (aOV == sysModules) = false)
    (mOV : esOV.toList.map (·.key) = [Value.str "trt" ov1, Value.str "uru" ov2])
    (oxT : PySem.W.nsIn K aOV "trt" = some (some (.ref bT)))
    (lOT : K.lookup bT = some ⟨.type "tuple", odOT, .seq [Value.ref pT0, Value.ref pT1, Value.ref pT2, Value.ref pT3].toArray nOT, slOT⟩)
    (lOT0 : K.lookup pT0 = some ⟨.type "tuple", odOT0, .seq [Value.str "in" qT00, Value.int 3 qT01, Value.str "rr" qT02].toArray nOT0, slOT0⟩)
    (lOT1 : K.lookup pT1 = some ⟨.type "tuple", odOT1, .seq [Value.str "in" qT10, Value.int 4 qT11, Value.str "tu" qT12].toArray nOT1, slOT1⟩)
    (lOT2 : K.lookup pT2 = some ⟨.type "tuple", odOT2, .seq [Value.str "in" qT20, Value.int 5 qT21, Value.str "rr" qT22].toArray nOT2, slOT2⟩)
    (lOT3 : K.lookup pT3 = some ⟨.type "tuple", odOT3, .seq [Value.str "out" qT30, Value.int 0 qT31, Value.str "trtrtr" qT32].toArray nOT3, slOT3⟩)
    (oxU : PySem.W.nsIn K aOV "uru" = some (some (.ref bU)))
    (lOU : K.lookup bU = some ⟨.type "tuple", odOU, .seq [Value.ref pU0, Value.ref pU1, Value.ref pU2, Value.ref pU3].toArray nOU, slOU⟩)
    (lOU0 : K.lookup pU0 = some ⟨.type "tuple", odOU0, .seq [Value.str "in" qU00, Value.int 1 qU01, Value.str "trtrtr" qU02].toArray nOU0, slOU0⟩)
    (lOU1 : K.lookup pU1 = some ⟨.type "tuple", odOU1, .seq [Value.str "out" qU10, Value.int 0 qU11, Value.str "ut" qU12].toArray nOU1, slOU1⟩)
    (lOU2 : K.lookup pU2 = some ⟨.type "tuple", odOU2, .seq [Value.str "out" qU20, Value.int 4 qU21, Value.str "rr" qU22].toArray nOU2, slOU2⟩)
    (lOU3 : K.lookup pU3 = some ⟨.type "tuple", odOU3, .seq [Value.str "out" qU30, Value.int 3 qU31, Value.str "tu" qU32].toArray nOU3, slOU3⟩)
    (pg_Alike : PySem.W.plainGet K CAlike Str.empty = true)
    (hd_Alike : PySem.W.hasDictIn K CAlike = true)
    (po_Alike : PySem.W.plainOver K CAlike = true)
    (sa_Alike : PySem.W.findIn K (.ref CAlike) "__setattr__" = some (some (.builtin "object.__setattr__")))
    (ha_Alike : PySem.W.findIn K (.ref CAlike) "__class__" = some (some (.builtin "object.__class__")))
    (hm_Alike : PySem.W.mroIn K CAlike (.type "object") = some true)
    (nf_Alike_steps : PySem.W.findIn K (.ref CAlike) "steps" = some none)
    (mk_Alike : PySem.W.makesIn K CAlike = true)
    (mf_Alike : PySem.W.isFn K (.ref f11) = true)
    (mp_Alike : PySem.W.keepIn K (.ref CAlike) = true)
    (mn_Alike_shows : PySem.W.isFn K (.ref f12) = true)
    (pg_Unlike : PySem.W.plainGet K CUnlike Str.empty = true)
    (hd_Unlike : PySem.W.hasDictIn K CUnlike = true)
    (po_Unlike : PySem.W.plainOver K CUnlike = true)
    (sa_Unlike : PySem.W.findIn K (.ref CUnlike) "__setattr__" = some (some (.builtin "object.__setattr__")))
    (ha_Unlike : PySem.W.findIn K (.ref CUnlike) "__class__" = some (some (.builtin "object.__class__")))
    (hm_Unlike : PySem.W.mroIn K CUnlike (.type "object") = some true)
    (nf_Unlike_fraction : PySem.W.findIn K (.ref CUnlike) "fraction" = some none)
    (mk_Unlike : PySem.W.makesIn K CUnlike = true)
    (mf_Unlike : PySem.W.isFn K (.ref f13) = true)
    (mp_Unlike : PySem.W.keepIn K (.ref CUnlike) = true)
    (mn_Unlike_shows : PySem.W.isFn K (.ref f14) = true)
    (hnC : PySem.W.specialIn K (.builtin "object.__class__") "__get__" = some (some (.builtin "getset_descriptor.__get__")))
    (htkC : PySem.W.takesIn K (.builtin "object.__class__") = some true)
    (kt_Alike_Answer : PySem.W.kitOne K (.ref CAlike) (.ref CAnswer) = some true)
    (kt_Alike_Alike : PySem.W.kitOne K (.ref CAlike) (.ref CAlike) = some true)
    (kt_Alike_Unlike : PySem.W.kitOne K (.ref CAlike) (.ref CUnlike) = some false)
    (kt_Alike_Quiet : PySem.W.kitOne K (.ref CAlike) (.ref CQuiet) = some false)
    (kt_Alike_Onward : PySem.W.kitOne K (.ref CAlike) (.ref COnward) = some false)
    (kt_Alike_Led : PySem.W.kitOne K (.ref CAlike) (.ref CLed) = some false)
    (kt_Alike_Parts : PySem.W.kitOne K (.ref CAlike) (.ref CParts) = some false)
    (kt_Alike_Elsewhere : PySem.W.kitOne K (.ref CAlike) (.ref CElsewhere) = some false)
    (kt_Alike_Rounds : PySem.W.kitOne K (.ref CAlike) (.ref CRounds) = some false)
    (kt_Unlike_Answer : PySem.W.kitOne K (.ref CUnlike) (.ref CAnswer) = some true)
    (kt_Unlike_Alike : PySem.W.kitOne K (.ref CUnlike) (.ref CAlike) = some false)
    (kt_Unlike_Unlike : PySem.W.kitOne K (.ref CUnlike) (.ref CUnlike) = some true)
    (kt_Unlike_Quiet : PySem.W.kitOne K (.ref CUnlike) (.ref CQuiet) = some false)
    (kt_Unlike_Onward : PySem.W.kitOne K (.ref CUnlike) (.ref COnward) = some false)
    (kt_Unlike_Led : PySem.W.kitOne K (.ref CUnlike) (.ref CLed) = some false)
    (kt_Unlike_Parts : PySem.W.kitOne K (.ref CUnlike) (.ref CParts) = some false)
    (kt_Unlike_Elsewhere : PySem.W.kitOne K (.ref CUnlike) (.ref CElsewhere) = some false)
    (kt_Unlike_Rounds : PySem.W.kitOne K (.ref CUnlike) (.ref CRounds) = some false) :
    ∃ fd : FuncData, (∀ (s : Shared) (v : Value), BindsTo s fd ⟨[v], []⟩ [("_law_script", v)]) ∧ ∀ base : Heap, K.In base → base.Ns mainGlobals mg → FnOk l.prog w K mg base CX0 8 fa fd ["_law_script"] (spLaw K) := by
  have e := hfa.symm.trans (PySem.W.mg_of X G a31)
  cases e
  have GL : Glo mg := ⟨PySem.W.mg_none_of X G z_len, PySem.W.mg_none_of X G z_all, PySem.W.mg_none_of X G z_any, PySem.W.mg_none_of X G z_isinstance, PySem.W.mg_none_of X G z_abs, PySem.W.mg_none_of X G z_int, PySem.W.mg_none_of X G z_bool, PySem.W.mg_none_of X G z_str, PySem.W.mg_none_of X G z_tuple, PySem.W.mg_none_of X G z_list, PySem.W.mg_none_of X G z_reversed, PySem.W.mg_none_of X G z_range, PySem.W.mg_none_of X G z_max⟩
  have cLETTERS : Letters K mg := ⟨aLETTERS, PySem.W.mg_of X G gL, fun H => .inr ⟨_, _, _, lL, rfl, rfl, three_ok, .cons ⟨t1, by rw [lit_t]⟩ (.cons ⟨t2, by rw [lit_u]⟩ (.cons ⟨t3, by rw [lit_r]⟩ .nil))⟩⟩
  have cEXCHANGED : Exch K mg w.params := by
    refine ⟨aEX, es, nE, PySem.W.mg_of X G gE, lE, kE, fun c hc => ?_⟩
    rcases hc with rfl | rfl | rfl
    · exact ⟨e1, by rw [← lit_t, x1, lit_u]; rfl⟩
    · exact ⟨e2, by rw [← lit_u, x2, lit_t]; rfl⟩
    · exact ⟨e3, by rw [← lit_r, x3, lit_r]; rfl⟩
  have cTELLING_FRACTIONS : Telling K mg := ⟨aTF, atf0, atf1, atf2, PySem.W.mg_of X G gT, fun H => .inr ⟨_, _, _, lT, rfl, rfl, three_ok, .cons rfl (.cons rfl (.cons rfl .nil))⟩, fun H => .inr ⟨_, _, _, lt01, rfl, rfl, two_ok, .cons ⟨u1, rfl⟩ (.cons ⟨u2, rfl⟩ .nil)⟩, fun H => .inr ⟨_, _, _, lt10, rfl, rfl, two_ok, .cons ⟨u3, rfl⟩ (.cons ⟨u4, rfl⟩ .nil)⟩, fun H => .inr ⟨_, _, _, lt11, rfl, rfl, two_ok, .cons ⟨u5, rfl⟩ (.cons ⟨u6, rfl⟩ .nil)⟩⟩
  have cDEEDS : Deeds K mg := ⟨aDE, PySem.W.mg_of X G gDE, fun H => .inr ⟨_, _, _, lDE, rfl, rfl, small (show 2 ≤ 1000 by decide), (.cons ⟨tDE0, rfl⟩ (.cons ⟨tDE1, rfl⟩ .nil))⟩⟩
  have cPIECES : Pieces K mg := ⟨aPC, PySem.W.mg_of X G gPC, fun H => .inr ⟨_, _, _, lPC, rfl, rfl, small (show 4 ≤ 1000 by decide), (.cons ⟨tPC0, rfl⟩ (.cons ⟨tPC1, rfl⟩ (.cons ⟨tPC2, rfl⟩ (.cons ⟨tPC3, rfl⟩ .nil))))⟩⟩
  have cPAIRS_OUT : PairsOut K mg := ⟨aPO, PySem.W.mg_of X G gPO, fun H => .inr ⟨_, _, _, lPO, rfl, rfl, small (show 3 ≤ 1000 by decide), (.cons ⟨tPO0, by rw [lit_tu]⟩ (.cons ⟨tPO1, by rw [lit_ut]⟩ (.cons ⟨tPO2, by rw [lit_rr]⟩ .nil)))⟩⟩
  have fT : Four K bT (ovT 0) := ⟨pT0, pT1, pT2, pT3, _, _, _, _, rfl, fun H => .inr ⟨_, _, _, lOT, rfl, rfl, four_ok, .cons rfl (.cons rfl (.cons rfl (.cons rfl .nil)))⟩, fun H => .inr ⟨_, _, _, lOT0, rfl, rfl, three_ok, .cons ⟨qT00, rfl⟩ (.cons ⟨qT01, rfl⟩ (.cons ⟨qT02, by rw [S_rr]⟩ .nil))⟩, fun H => .inr ⟨_, _, _, lOT1, rfl, rfl, three_ok, .cons ⟨qT10, rfl⟩ (.cons ⟨qT11, rfl⟩ (.cons ⟨qT12, by rw [S_tu]⟩ .nil))⟩, fun H => .inr ⟨_, _, _, lOT2, rfl, rfl, three_ok, .cons ⟨qT20, rfl⟩ (.cons ⟨qT21, rfl⟩ (.cons ⟨qT22, by rw [S_rr]⟩ .nil))⟩, fun H => .inr ⟨_, _, _, lOT3, rfl, rfl, three_ok, .cons ⟨qT30, rfl⟩ (.cons ⟨qT31, rfl⟩ (.cons ⟨qT32, by rw [S_tr]⟩ .nil))⟩⟩
  have fU : Four K bU (ovU 0) := ⟨pU0, pU1, pU2, pU3, _, _, _, _, rfl, fun H => .inr ⟨_, _, _, lOU, rfl, rfl, four_ok, .cons rfl (.cons rfl (.cons rfl (.cons rfl .nil)))⟩, fun H => .inr ⟨_, _, _, lOU0, rfl, rfl, three_ok, .cons ⟨qU00, rfl⟩ (.cons ⟨qU01, rfl⟩ (.cons ⟨qU02, by rw [S_tr]⟩ .nil))⟩, fun H => .inr ⟨_, _, _, lOU1, rfl, rfl, three_ok, .cons ⟨qU10, rfl⟩ (.cons ⟨qU11, rfl⟩ (.cons ⟨qU12, by rw [S_ut]⟩ .nil))⟩, fun H => .inr ⟨_, _, _, lOU2, rfl, rfl, three_ok, .cons ⟨qU20, rfl⟩ (.cons ⟨qU21, rfl⟩ (.cons ⟨qU22, by rw [S_rr]⟩ .nil))⟩, fun H => .inr ⟨_, _, _, lOU3, rfl, rfl, three_ok, .cons ⟨qU30, rfl⟩ (.cons ⟨qU31, rfl⟩ (.cons ⟨qU32, by rw [S_tu]⟩ .nil))⟩⟩
  have cOVER : Over K mg w.params := over_mk (PySem.W.mg_of X G gOV) lOV kOV sOV mOV oxT oxU fT fU
  have m_Answer := PySem.W.mg_of X G q_Answer
  have m_Quiet := PySem.W.mg_of X G q_Quiet
  have m_Onward := PySem.W.mg_of X G q_Onward
  have m_Led := PySem.W.mg_of X G q_Led
  have m_Parts := PySem.W.mg_of X G q_Parts
  have m_Elsewhere := PySem.W.mg_of X G q_Elsewhere
  have m_Rounds := PySem.W.mg_of X G q_Rounds
  have m_Alike := PySem.W.mg_of X G q_Alike
  have kc_Alike : KCls K CAlike := ⟨⟨pg_Alike, hd_Alike, po_Alike, sa_Alike⟩, ha_Alike, hnC, htkC, hm_Alike⟩
  have m_Unlike := PySem.W.mg_of X G q_Unlike
  have kc_Unlike : KCls K CUnlike := ⟨⟨pg_Unlike, hd_Unlike, po_Unlike, sa_Unlike⟩, ha_Unlike, hnC, htkC, hm_Unlike⟩
  have F0 := fun_mk (st := s_is_whole) l0 c0 k0
  have F1 := fun_mk (st := s_is_word) l1 c1 k1
  have F2 := fun_mk (st := s_is_text_among) l2 c2 k2
  have F3 := fun_mk (st := s_is_step) l3 c3 k3
  have F4 := fun_mk (st := s_check_word) l4 c4 k4
  have F5 := fun_mk (st := s_turned) l5 c5 k5
  have F6 := fun_mk (st := s_moved) l6 c6 k6
  have F7 := fun_mk (st := s_follow) l7 c7 k7
  have F8 := fun_mk (st := s_back) l8 c8 k8
  have F9 := fun_mk (st := s_can_step) l9 c9 k9
  have F10 := fun_mk (st := s_after_step) l10 c10 k10
  have F11 := fun_mk (st := s_Alike_init) l11 c11 k11
  have F12 := fun_mk (st := s_Alike_shows) l12 c12 k12
  have F13 := fun_mk (st := s_Unlike_init) l13 c13 k13
  have F14 := fun_mk (st := s_Unlike_shows) l14 c14 k14
  have F15 := fun_mk (st := s_telling_fraction) l15 c15 k15
  have F16 := fun_mk (st := s_take_pair) l16 c16 k16
  have F17 := fun_mk (st := s_turn_over) l17 c17 k17
  have F18 := fun_mk (st := s_settle) l18 c18 k18
  have F19 := fun_mk (st := s_made_plain) l19 c19 k19
  have F20 := fun_mk (st := s_undone) l20 c20 k20
  have F21 := fun_mk (st := s_alike) l21 c21 k21
  have F22 := fun_mk (st := s_law_two) l22 c22 k22
  have F23 := fun_mk (st := s_law_moved) l23 c23 k23
  have F24 := fun_mk (st := s_law_walked) l24 c24 k24
  have F25 := fun_mk (st := s_law_same) l25 c25 k25
  have F26 := fun_mk (st := s_law_common) l26 c26 k26
  have F27 := fun_mk (st := s_law_is_fraction) l27 c27 k27
  have F28 := fun_mk (st := s_law_done) l28 c28 k28
  have F29 := fun_mk (st := s_law_led) l29 c29 k29
  have F30 := fun_mk (st := s_law_right) l30 c30 k30
  have F31 := fun_mk (st := s_law) l31 c31 k31
  refine ⟨PySem.W.fnOf "law" "law" (defArgs s_law) (defBody s_law) (defScope s_law) .none kV31 dc31 pm31 an31 cd31 ct31, fun s v => .of_eq rfl, fun base _ _ => ?_⟩
  have C0 := callee_of F0 (ok_is_whole (P := l.prog) (w := w) (base := base) (mg := mg) (k := 0) GL F0) (PySem.W.mg_of X G a0) fun _ _ _ _ _ _ us hl => by obtain ⟨_, rfl⟩ := len1 hl; rfl
  have C1 := callee_of F1 (ok_is_word (P := l.prog) (w := w) (base := base) (mg := mg) (k := 0) GL cLETTERS F1) (PySem.W.mg_of X G a1) fun _ _ _ _ _ _ us hl => by obtain ⟨_, rfl⟩ := len1 hl; rfl
  have C2 := callee_of F2 (ok_is_text_among (P := l.prog) (w := w) (base := base) (mg := mg) (k := 0) GL F2) (PySem.W.mg_of X G a2) fun _ _ _ _ _ _ us hl => by obtain ⟨_, _, rfl⟩ := len2 hl; rfl
  have C3 := callee_of F3 (ok_is_step (P := l.prog) (w := w) (base := base) (mg := mg) (k := 1) GL cDEEDS cPIECES F3 (C0.mono (by decide)) (C2.mono (by decide))) (PySem.W.mg_of X G a3) fun _ _ _ _ _ _ us hl => by obtain ⟨_, rfl⟩ := len1 hl; rfl
  have C4 := callee_of F4 (ok_check_word (P := l.prog) (w := w) (base := base) (mg := mg) (k := 1) F4 (C1.mono (by decide))) (PySem.W.mg_of X G a4) fun _ _ _ _ _ _ us hl => by obtain ⟨_, rfl⟩ := len1 hl; rfl
  have C5 := callee_of F5 (ok_turned (P := l.prog) (w := w) (base := base) (mg := mg) (k := 0) F5) (PySem.W.mg_of X G a5) fun _ _ _ _ _ _ us hl => by obtain ⟨_, _, rfl⟩ := len2 hl; rfl
  have C6 := callee_of F6 (ok_moved (P := l.prog) (w := w) (base := base) (mg := mg) (k := 1) F6 (C5.mono (by decide))) (PySem.W.mg_of X G a6) fun _ _ _ _ _ _ us hl => by obtain ⟨_, _, _, rfl⟩ := len3 hl; rfl
  have C7 := callee_of F7 (ok_follow (P := l.prog) (w := w) (base := base) (mg := mg) (k := 2) F7 (C6.mono (by decide))) (PySem.W.mg_of X G a7) fun _ _ _ _ _ _ us hl => by obtain ⟨_, _, rfl⟩ := len2 hl; rfl
  have C8 := callee_of F8 (ok_back (P := l.prog) (w := w) (base := base) (mg := mg) (k := 2) GL cEXCHANGED F8 (C4.mono (by decide))) (PySem.W.mg_of X G a8) fun _ _ _ _ _ _ us hl => by obtain ⟨_, rfl⟩ := len1 hl; rfl
  have C9 := callee_of F9 (ok_can_step (P := l.prog) (w := w) (base := base) (mg := mg) (k := 2) GL F9 (C3.mono (by decide))) (PySem.W.mg_of X G a9) fun _ _ _ _ _ _ us hl => by obtain ⟨_, _, rfl⟩ := len2 hl; rfl
  have C10 := callee_of F10 (ok_after_step (P := l.prog) (w := w) (base := base) (mg := mg) (k := 0) GL F10) (PySem.W.mg_of X G a10) fun _ _ _ _ _ _ us hl => by obtain ⟨_, _, rfl⟩ := len2 hl; rfl
  have C11 := maker_of ⟨mk_Alike, mi_Alike, mf_Alike, mp_Alike⟩ F11 (ok_Alike_init (P := l.prog) (w := w) (base := base) (mg := mg) (k := 0) GL kc_Alike nf_Alike_steps F11) m_Alike fun _ _ _ _ _ _ us hl => by obtain ⟨_, _, rfl⟩ := len2 hl; rfl
  have C12 := method_of ⟨ma_Alike_shows, mn_Alike_shows, k12⟩ F12 (ok_Alike_shows (P := l.prog) (w := w) (base := base) (mg := mg) (k := 3) kc_Alike nf_Alike_steps F12 (C9.mono (by decide)) (C10.mono (by decide))) fun _ _ _ _ _ _ us hl => by obtain ⟨_, _, _, rfl⟩ := len3 hl; rfl
  have C13 := maker_of ⟨mk_Unlike, mi_Unlike, mf_Unlike, mp_Unlike⟩ F13 (ok_Unlike_init (P := l.prog) (w := w) (base := base) (mg := mg) (k := 0) kc_Unlike nf_Unlike_fraction F13) m_Unlike fun _ _ _ _ _ _ us hl => by obtain ⟨_, _, rfl⟩ := len2 hl; rfl
  have C14 := method_of ⟨ma_Unlike_shows, mn_Unlike_shows, k14⟩ F14 (ok_Unlike_shows (P := l.prog) (w := w) (base := base) (mg := mg) (k := 3) kc_Unlike nf_Unlike_fraction F14 (C7.mono (by decide))) fun _ _ _ _ _ _ us hl => by obtain ⟨_, _, _, rfl⟩ := len3 hl; rfl
  have C15 := callee_of F15 (ok_telling_fraction (P := l.prog) (w := w) (base := base) (mg := mg) (k := 3) cTELLING_FRACTIONS F15 (C7.mono (by decide))) (PySem.W.mg_of X G a15) fun _ _ _ _ _ _ us hl => by obtain ⟨_, _, rfl⟩ := len2 hl; rfl
  have C16 := callee_of F16 (ok_take_pair (P := l.prog) (w := w) (base := base) (mg := mg) (k := 0) GL F16) (PySem.W.mg_of X G a16) fun _ _ _ _ _ _ us hl => by obtain ⟨_, _, rfl⟩ := len2 hl; rfl
  have C17 := callee_of F17 (ok_turn_over_n (P := l.prog) (w := w) (base := base) (mg := mg) (k := 0) F17) (PySem.W.mg_of X G a17) fun _ _ _ _ _ _ us hl => by obtain ⟨_, _, rfl⟩ := len2 hl; rfl
  have C18 := callee_of F18 (ok_settle (R := Rr) (N := 600000) (by decide) (P := l.prog) (w := w) (base := base) (mg := mg) (k := 1) cPAIRS_OUT cOVER F18 (C16.mono (by decide)) (C17.mono (by decide))) (PySem.W.mg_of X G a18) fun _ _ _ _ _ _ us hl => by obtain ⟨_, _, rfl⟩ := len2 hl; rfl
  have C19 := callee_of F17 (ok_turn_over (P := l.prog) (w := w) (base := base) (mg := mg) (k := 3) GL cOVER F17 (C18.mono (by decide)) (C8.mono (by decide))) (PySem.W.mg_of X G a17) fun _ _ _ _ _ _ us hl => by obtain ⟨_, _, rfl⟩ := len2 hl; rfl
  have C20 := callee_of F18 (ok_settle (R := Rall) (N := 500000) (by decide) (P := l.prog) (w := w) (base := base) (mg := mg) (k := 4) cPAIRS_OUT cOVER F18 (C16.mono (by decide)) (C19.mono (by decide))) (PySem.W.mg_of X G a18) fun _ _ _ _ _ _ us hl => by obtain ⟨_, _, rfl⟩ := len2 hl; rfl
  have C21 := callee_of F19 (ok_made_plain (P := l.prog) (w := w) (base := base) (mg := mg) (k := 5) F19 (C20.mono (by decide))) (PySem.W.mg_of X G a19) fun _ _ _ _ _ _ us hl => by obtain ⟨_, rfl⟩ := len1 hl; rfl
  have C22 := callee_of F20 (ok_undone (P := l.prog) (w := w) (base := base) (mg := mg) (k := 0) GL F20) (PySem.W.mg_of X G a20) fun _ _ _ _ _ _ us hl => by obtain ⟨_, rfl⟩ := len1 hl; rfl
  have C23 := callee_of F21 (ok_alike (P := l.prog) (w := w) (base := base) (mg := mg) (k := 5) F21 (C4.mono (by decide)) (C15.mono (by decide)) (C21.mono (by decide)) (C22.mono (by decide)) (C13.mono (by decide)) (C11.mono (by decide))) (PySem.W.mg_of X G a21) fun _ _ _ _ _ _ us hl => by obtain ⟨_, _, rfl⟩ := len2 hl; rfl
  have C24 := callee_of F22 (ok_law_two (P := l.prog) (w := w) (base := base) (mg := mg) (k := 0) GL F22) (PySem.W.mg_of X G a22) fun _ _ _ _ _ _ us hl => by obtain ⟨_, rfl⟩ := len1 hl; rfl
  have C25 := callee_of F23 (ok_law_moved (P := l.prog) (w := w) (base := base) (mg := mg) (k := 0) F23) (PySem.W.mg_of X G a23) fun _ _ _ _ _ _ us hl => by obtain ⟨_, _, rfl⟩ := len2 hl; rfl
  have C26 := callee_of F24 (ok_law_walked (P := l.prog) (w := w) (base := base) (mg := mg) (k := 1) F24 (C25.mono (by decide))) (PySem.W.mg_of X G a24) fun _ _ _ _ _ _ us hl => by obtain ⟨_, _, rfl⟩ := len2 hl; rfl
  have C27 := callee_of F25 (ok_law_same (P := l.prog) (w := w) (base := base) (mg := mg) (k := 2) GL F25 (C26.mono (by decide))) (PySem.W.mg_of X G a25) fun _ _ _ _ _ _ us hl => by obtain ⟨_, _, rfl⟩ := len2 hl; rfl
  have C28 := callee_of F26 (ok_law_common (P := l.prog) (w := w) (base := base) (mg := mg) (k := 0) F26) (PySem.W.mg_of X G a26) fun _ _ _ _ _ _ us hl => by obtain ⟨_, _, rfl⟩ := len2 hl; rfl
  have C29 := callee_of F27 (ok_law_is_fraction (P := l.prog) (w := w) (base := base) (mg := mg) (k := 1) GL F27 (C28.mono (by decide))) (PySem.W.mg_of X G a27) fun _ _ _ _ _ _ us hl => by obtain ⟨_, rfl⟩ := len1 hl; rfl
  have C30 := callee_of F28 (ok_law_done (P := l.prog) (w := w) (base := base) (mg := mg) (k := 0) GL F28) (PySem.W.mg_of X G a28) fun _ _ _ _ _ _ us hl => by obtain ⟨_, _, rfl⟩ := len2 hl; rfl
  have C31 := callee_of F29 (ok_law_led (P := l.prog) (w := w) (base := base) (mg := mg) (k := 1) GL F29 (C30.mono (by decide))) (PySem.W.mg_of X G a29) fun _ _ _ _ _ _ us hl => by obtain ⟨_, _, _, rfl⟩ := len3 hl; rfl
  have C32 := callee_of F30 (ok_law_right (P := l.prog) (w := w) (base := base) (mg := mg) (k := 4) GL m_Answer m_Alike m_Unlike m_Quiet m_Onward m_Led m_Parts m_Elsewhere m_Rounds kc_Alike kc_Unlike nf_Alike_steps nf_Unlike_fraction kt_Alike_Answer kt_Alike_Alike kt_Alike_Unlike kt_Alike_Quiet kt_Alike_Onward kt_Alike_Led kt_Alike_Parts kt_Alike_Elsewhere kt_Alike_Rounds kt_Unlike_Answer kt_Unlike_Alike kt_Unlike_Unlike kt_Unlike_Quiet kt_Unlike_Onward kt_Unlike_Led kt_Unlike_Parts kt_Unlike_Elsewhere kt_Unlike_Rounds F30 (C12.mono (by decide)) (C14.mono (by decide)) (C31.mono (by decide)) (C29.mono (by decide)) (C26.mono (by decide))) (PySem.W.mg_of X G a30) fun _ _ _ _ _ _ us hl => by obtain ⟨_, _, _, rfl⟩ := len3 hl; rfl
  exact ok_law (k := 7) GL m_Alike kc_Alike kc_Unlike nf_Alike_steps kt_Alike_Alike kt_Unlike_Alike F31 (C24.mono (by decide)) (C23.mono (by decide)) (C32.mono (by decide)) (C27.mono (by decide)) (C12.mono (by decide))
theorem walk {l : PySem.W.OpenLaw} {q : Program} {loose : List Str} {XP : (Str → Option Value) → Heap → Prop} {YP : World → Heap → Prop} {d : DefRec} {K : Params → PySem.W.Frag} (hn : l.most = some 63) (hdf : d.params.defaults = [])
    (hY : ∀ (w : World) (h : Heap), YP w h → (K w.params).In h)
    (F : ∀ (w : World) (mg : Str → Option Value) (fa : Addr) (h : Heap), (K w.params).In h → h.Ns mainGlobals mg → mg d.name = some (.ref fa) →
      ∃ fd : FuncData, (∀ (s : Shared) (u : Value), BindsTo s fd ⟨[u], []⟩ [("_law_script", u)]) ∧ ∀ base : Heap, (K w.params).In base → base.Ns mainGlobals mg → FnOk l.prog w (K w.params) mg base CX0 8 fa fd ["_law_script"] (spLaw (K w.params))) :
    PySem.W.WalkO q loose XP YP l.row.toRowW d [] (fun f vs => PySem.call f vs) :=
  L2.walk_of (n := 63) (k := 8) (x := "_law_script") (CX := fun _ => CX0) (sp := fun w => spLaw (K w.params)) hn (by decide) hdf ⟨rfl, by decide, by decide⟩ hY F (fun _ _ a ns hl _ hS => ⟨a, ns, rfl, hS, hl, fun _ => rfl⟩) fun _ _ _ _ _ z => z
open PySem.W PySem.W.X in
theorem walkX {l : PySem.W.OpenLaw} {q : Program} {loose : List Str} {XP : (Str → Option Value) → Heap → Prop} {d : DefRec} {K : Params → PySem.W.Frag} {as : List Addr} {n t : Nat} (hn : l.most = some 63) (hdf : d.params.defaults = []) (hk : ∀ P, as = (K P).map (·.1))
    (F : ∀ (w : World) (mg : Str → Option Value) (fa : Addr) (h : Heap), (K w.params).In h → h.Ns mainGlobals mg → mg d.name = some (.ref fa) →
      ∃ fd : FuncData, (∀ (s : Shared) (u : Value), BindsTo s fd ⟨[u], []⟩ [("_law_script", u)]) ∧ ∀ base : Heap, (K w.params).In base → base.Ns mainGlobals mg → FnOk l.prog w (K w.params) mg base CX0 8 fa fd ["_law_script"] (spLaw (K w.params))) :
    WalkX q loose XP (obsZ as) (valZ K n t) l.row.toRowW d [] (fun f vs => PySem.call f vs) :=
  fun w s₀ s₁ mg mb G y a o pm cd doc dV kV h2 h3 h4 h5 h6 h7 args vals as' L hpre hlay hrd hwl hlo =>
    walk (K := K) (YP := fun w h => (K w.params).In h) hn hdf (fun w h Y => Y) F w s₀ s₁ mg mb G (InK.keeps w s₀.heap s₁.heap (z_facts hk y).2.1 L.keeps) a o pm cd doc dV kV h2 h3 h4 h5 h6 h7 args vals as' hpre hlay hrd hwl hlo
end K04
/-! the text's own twin is the text itself (the head's twins of a long text are great) -/
def PySem.W.Fast.tw3671245947798797827 : PySem.Program := PySem.Challenge.pw_twistturn_k04_whole_alike
theorem PySem.W.Fast.te3671245947798797827 : PySem.Challenge.pw_twistturn_k04_whole_alike = PySem.W.Fast.tw3671245947798797827 := rfl
/-! names that the head's great twins would bear: taken, so that it goes without them -/
def PySem.W.Fast.tw11873702896692009287 : Nat := 0
def PySem.W.Fast.tw12947370607827240684 : Nat := 0
def PySem.W.Fast.tw17408203584853215599 : Nat := 0
def PySem.W.Fast.tw3878392652705805096 : Nat := 0
def PySem.W.Fast.tw3766590754507403280 : Nat := 0
def PySem.W.Fast.tw14255790270965662427 : Nat := 0
def PySem.W.Fast.tw17784906879111010919 : Nat := 0
def PySem.W.Fast.tw3844865089504380083 : Nat := 0
def PySem.W.Fast.tw15382079834537358185 : Nat := 0
def PySem.W.Fast.tw13694301369163668326 : Nat := 0
def PySem.W.Fast.tw17284790324523134597 : Nat := 0
def PySem.W.Fast.tw987745411212371783 : Nat := 0
def PySem.W.Fast.tw18087548841290956457 : Nat := 0
def PySem.W.Fast.tw11788836932213857067 : Nat := 0
/-! names that the head's great twins would bear: taken, so that it goes without them -/
open PySem PySem.W PyProof.Rows
set_option maxRecDepth 100000 in
set_option maxHeartbeats 0 in
theorem PySem.Challenge.cw_twistturn_k04_whole_alike_holds : PySem.Challenge.rw_twistturn_k04_whole_alike.Holds := by
  w_on; o_law; z_head; (case hw => w_witness2)
  refine K04.walkX (l := PySem.Challenge.rw_twistturn_k04_whole_alike) rfl rfl (fun P => rfl) ?F
  case F =>
    intro w mg fa h KX G hmg
    refine' K04.all_mk KX G hmg ?q_Answer ?q_Quiet ?q_Onward ?q_Led ?q_Parts ?q_Elsewhere ?q_Rounds ?q_Alike ?mi_Alike ?ma_Alike_shows ?q_Unlike ?mi_Unlike ?ma_Unlike_shows ?a0 ?l0 ?c0 ?k0 ?a1 ?l1 ?c1 ?k1 ?a2 ?l2 ?c2 ?k2 ?a3 ?l3 ?c3 ?k3 ?a4 ?l4 ?c4 ?k4 ?a5 ?l5 ?c5 ?k5 ?a6 ?l6 ?c6 ?k6 ?a7 ?l7 ?c7 ?k7 ?a8 ?l8 ?c8 ?k8 ?a9 ?l9 ?c9 ?k9 ?a10 ?l10 ?c10 ?k10 ?l11 ?c11 ?k11 ?l12 ?c12 ?k12 ?l13 ?c13 ?k13 ?l14 ?c14 ?k14 ?a15 ?l15 ?c15 ?k15 ?a16 ?l16 ?c16 ?k16 ?a17 ?l17 ?c17 ?k17 ?a18 ?l18 ?c18 ?k18 ?a19 ?l19 ?c19 ?k19 ?a20 ?l20 ?c20 ?k20 ?a21 ?l21 ?c21 ?k21 ?a22 ?l22 ?c22 ?k22 ?a23 ?l23 ?c23 ?k23 ?a24 ?l24 ?c24 ?k24 ?a25 ?l25 ?c25 ?k25 ?a26 ?l26 ?c26 ?k26 ?a27 ?l27 ?c27 ?k27 ?a28 ?l28 ?c28 ?k28 ?a29 ?l29 ?c29 ?k29 ?a30 ?l30 ?c30 ?k30 ?a31 ?l31 ?c31 ?k31 ?z_len ?z_all ?z_any ?z_isinstance ?z_abs ?z_int ?z_bool ?z_str ?z_tuple ?z_list ?z_reversed ?z_range ?z_max ?gL ?lL ?gE ?lE ?kE ?x1 ?x2 ?x3 ?gT ?lT ?lt01 ?lt10 ?lt11 ?gDE ?lDE ?gPC ?lPC ?gPO ?lPO ?gOV ?lOV ?kOV ?sOV ?mOV ?oxT ?lOT ?lOT0 ?lOT1 ?lOT2 ?lOT3 ?oxU ?lOU ?lOU0 ?lOU1 ?lOU2 ?lOU3 ?pg_Alike ?hd_Alike ?po_Alike ?sa_Alike ?ha_Alike ?hm_Alike ?nf_Alike_steps ?mk_Alike ?mf_Alike ?mp_Alike ?mn_Alike_shows ?pg_Unlike ?hd_Unlike ?po_Unlike ?sa_Unlike ?ha_Unlike ?hm_Unlike ?nf_Unlike_fraction ?mk_Unlike ?mf_Unlike ?mp_Unlike ?mn_Unlike_shows ?hnC ?htkC ?kt_Alike_Answer ?kt_Alike_Alike ?kt_Alike_Unlike ?kt_Alike_Quiet ?kt_Alike_Onward ?kt_Alike_Led ?kt_Alike_Parts ?kt_Alike_Elsewhere ?kt_Alike_Rounds ?kt_Unlike_Answer ?kt_Unlike_Alike ?kt_Unlike_Unlike ?kt_Unlike_Quiet ?kt_Unlike_Onward ?kt_Unlike_Led ?kt_Unlike_Parts ?kt_Unlike_Elsewhere ?kt_Unlike_Rounds
    (case q_Answer => k_is)
    (case q_Quiet => k_is)
    (case q_Onward => k_is)
    (case q_Led => k_is)
    (case q_Parts => k_is)
    (case q_Elsewhere => k_is)
    (case q_Rounds => k_is)
    (case q_Alike => k_is)
    (case mi_Alike => k_is)
    (case ma_Alike_shows => k_is)
    (case q_Unlike => k_is)
    (case mi_Unlike => k_is)
    (case ma_Unlike_shows => k_is)
    (case a0 => k_is)
    (case l0 => k_is)
    (case c0 => k_is)
    (case k0 => k_is)
    (case a1 => k_is)
    (case l1 => k_is)
    (case c1 => k_is)
    (case k1 => k_is)
    (case a2 => k_is)
    (case l2 => k_is)
    (case c2 => k_is)
    (case k2 => k_is)
    (case a3 => k_is)
    (case l3 => k_is)
    (case c3 => k_is)
    (case k3 => k_is)
    (case a4 => k_is)
    (case l4 => k_is)
    (case c4 => k_is)
    (case k4 => k_is)
    (case a5 => k_is)
    (case l5 => k_is)
    (case c5 => k_is)
    (case k5 => k_is)
    (case a6 => k_is)
    (case l6 => k_is)
    (case c6 => k_is)
    (case k6 => k_is)
    (case a7 => k_is)
    (case l7 => k_is)
    (case c7 => k_is)
    (case k7 => k_is)
    (case a8 => k_is)
    (case l8 => k_is)
    (case c8 => k_is)
    (case k8 => k_is)
    (case a9 => k_is)
    (case l9 => k_is)
    (case c9 => k_is)
    (case k9 => k_is)
    (case a10 => k_is)
    (case l10 => k_is)
    (case c10 => k_is)
    (case k10 => k_is)
    (case l11 => k_is)
    (case c11 => k_is)
    (case k11 => k_is)
    (case l12 => k_is)
    (case c12 => k_is)
    (case k12 => k_is)
    (case l13 => k_is)
    (case c13 => k_is)
    (case k13 => k_is)
    (case l14 => k_is)
    (case c14 => k_is)
    (case k14 => k_is)
    (case a15 => k_is)
    (case l15 => k_is)
    (case c15 => k_is)
    (case k15 => k_is)
    (case a16 => k_is)
    (case l16 => k_is)
    (case c16 => k_is)
    (case k16 => k_is)
    (case a17 => k_is)
    (case l17 => k_is)
    (case c17 => k_is)
    (case k17 => k_is)
    (case a18 => k_is)
    (case l18 => k_is)
    (case c18 => k_is)
    (case k18 => k_is)
    (case a19 => k_is)
    (case l19 => k_is)
    (case c19 => k_is)
    (case k19 => k_is)
    (case a20 => k_is)
    (case l20 => k_is)
    (case c20 => k_is)
    (case k20 => k_is)
    (case a21 => k_is)
    (case l21 => k_is)
    (case c21 => k_is)
    (case k21 => k_is)
    (case a22 => k_is)
    (case l22 => k_is)
    (case c22 => k_is)
    (case k22 => k_is)
    (case a23 => k_is)
    (case l23 => k_is)
    (case c23 => k_is)
    (case k23 => k_is)
    (case a24 => k_is)
    (case l24 => k_is)
    (case c24 => k_is)
    (case k24 => k_is)
    (case a25 => k_is)
    (case l25 => k_is)
    (case c25 => k_is)
    (case k25 => k_is)
    (case a26 => k_is)
    (case l26 => k_is)
    (case c26 => k_is)
    (case k26 => k_is)
    (case a27 => k_is)
    (case l27 => k_is)
    (case c27 => k_is)
    (case k27 => k_is)
    (case a28 => k_is)
    (case l28 => k_is)
    (case c28 => k_is)
    (case k28 => k_is)
    (case a29 => k_is)
    (case l29 => k_is)
    (case c29 => k_is)
    (case k29 => k_is)
    (case a30 => k_is)
    (case l30 => k_is)
    (case c30 => k_is)
    (case k30 => k_is)
    (case a31 => k_is)
    (case l31 => k_is)
    (case c31 => k_is)
    (case k31 => k_is)
    (case z_len => k_is)
    (case z_all => k_is)
    (case z_any => k_is)
    (case z_isinstance => k_is)
    (case z_abs => k_is)
    (case z_int => k_is)
    (case z_bool => k_is)
    (case z_str => k_is)
    (case z_tuple => k_is)
    (case z_list => k_is)
    (case z_reversed => k_is)
    (case z_range => k_is)
    (case z_max => k_is)
    (case gL => k_is)
    (case lL => k_is)
    (case gE => k_is)
    (case lE => k_is)
    (case kE => k_keys)
    (case x1 => k_is)
    (case x2 => k_is)
    (case x3 => k_is)
    (case gT => k_is)
    (case lT => k_is)
    (case lt01 => k_is)
    (case lt10 => k_is)
    (case lt11 => k_is)
    (case gDE => k_is)
    (case lDE => k_is)
    (case gPC => k_is)
    (case lPC => k_is)
    (case gPO => k_is)
    (case lPO => k_is)
    (case gOV => k_is)
    (case lOV => k_is)
    (case kOV => k_keys)
    (case sOV => rfl)
    (case mOV => rfl)
    (case oxT => k_is)
    (case lOT => k_is)
    (case lOT0 => k_is)
    (case lOT1 => k_is)
    (case lOT2 => k_is)
    (case lOT3 => k_is)
    (case oxU => k_is)
    (case lOU => k_is)
    (case lOU0 => k_is)
    (case lOU1 => k_is)
    (case lOU2 => k_is)
    (case lOU3 => k_is)
    (case pg_Alike => k_is)
    (case hd_Alike => k_is)
    (case po_Alike => k_is)
    (case sa_Alike => k_is)
    (case ha_Alike => k_is)
    (case hm_Alike => k_is)
    (case nf_Alike_steps => k_is)
    (case mk_Alike => k_is)
    (case mf_Alike => k_is)
    (case mp_Alike => k_is)
    (case mn_Alike_shows => k_is)
    (case pg_Unlike => k_is)
    (case hd_Unlike => k_is)
    (case po_Unlike => k_is)
    (case sa_Unlike => k_is)
    (case ha_Unlike => k_is)
    (case hm_Unlike => k_is)
    (case nf_Unlike_fraction => k_is)
    (case mk_Unlike => k_is)
    (case mf_Unlike => k_is)
    (case mp_Unlike => k_is)
    (case mn_Unlike_shows => k_is)
    (case hnC => k_is)
    (case htkC => k_is)
    (case kt_Alike_Answer => kit_is)
    (case kt_Alike_Alike => kit_is)
    (case kt_Alike_Unlike => kit_is)
    (case kt_Alike_Quiet => kit_is)
    (case kt_Alike_Onward => kit_is)
    (case kt_Alike_Led => kit_is)
    (case kt_Alike_Parts => kit_is)
    (case kt_Alike_Elsewhere => kit_is)
    (case kt_Alike_Rounds => kit_is)
    (case kt_Unlike_Answer => kit_is)
    (case kt_Unlike_Alike => kit_is)
    (case kt_Unlike_Unlike => kit_is)
    (case kt_Unlike_Quiet => kit_is)
    (case kt_Unlike_Onward => kit_is)
    (case kt_Unlike_Led => kit_is)
    (case kt_Unlike_Parts => kit_is)
    (case kt_Unlike_Elsewhere => kit_is)
    (case kt_Unlike_Rounds => kit_is)
#print axioms PySem.Challenge.cw_twistturn_k04_whole_alike_holds

