import PyProof.Rows.All
import Wide.All
import OpenK.AllK
import Wide.FinOn
import Lean
import PyProof.EqAt
import PyProof.EqKinds
import PyProof.TupleCall
import PyProof.StrWalks
import PyProof.StrOps
import PyProof.CallType
import PyProof.ReprLoop
import PyProof.WalksMore
import PyProof.FactsAll.str
import PyProof.FactsAll.object
import PyProof.StrLawsIn
import PyProof.StrCalls6
import PyProof.ToksMono
import KE.KIntText
import PyProof.MeetsStr
import PyProof.MeetsStr2
import PyProof.StrLawsTight
import PyProof.StrLawsChain
import PyProof.StrLawsFirst
import PyProof.StrBlockI
import PyProof.Rows.StrSplitCount
import PyProof.CallStr
import PySem.Challenge.RW_twistturn_k10_refused
-- CHANGE: your row's module here, as the last of these rows
set_option Elab.async false
set_option linter.all false
set_option maxRecDepth 100000
/-! the hand layer, lists and dicts together -/
namespace L2
open PySem PySem.Spec PyProof.Rows
/-- a key: an int or a str -/
abbrev Key := Sum Int Str
def keyIs : Key → Value → Bool
  | .inl k, v => Value.isInt k v
  | .inr x, v => Value.isStrOf x v
def keyH (w : World) : Key → Int
  | .inl k => hashInt k
  | .inr x => hashStr w x
theorem keyIs_shape : ∀ {k : Key} {v : Value}, keyIs k v = true → (∃ i t, k = Sum.inl i ∧ v = Value.int i t) ∨ (∃ x t, k = Sum.inr x ∧ v = Value.str x t)
  | .inl i, v, h => by
    obtain ⟨t, e⟩ := Value.isInt_shape (k := i) (v := v) h
    exact .inl ⟨i, t, rfl, e⟩
  | .inr x, v, h => by
    obtain ⟨t, e⟩ := Value.isStrOf_shape (x := x) (v := v) h
    exact .inr ⟨x, t, rfl, e⟩
theorem key_ll (a b : Int) : decide ((Sum.inl a : Key) = Sum.inl b) = (a == b) := by
  by_cases e : a = b
  · subst e; simp
  · have h : ¬ (Sum.inl a : Key) = Sum.inl b := fun q => e (Sum.inl.inj q)
    rw [decide_eq_false h]
    exact (beq_eq_false_iff_ne.mpr e).symm
theorem key_rr (a b : Str) : decide ((Sum.inr a : Key) = Sum.inr b) = decide (a = b) := by
  by_cases e : a = b
  · subst e; simp
  · have h : ¬ (Sum.inr a : Key) = Sum.inr b := fun q => e (Sum.inr.inj q)
    rw [decide_eq_false h, decide_eq_false e]
theorem key_lr (a : Int) (b : Str) : decide ((Sum.inl a : Key) = Sum.inr b) = false := decide_eq_false (fun q => nomatch q)
theorem key_rl (a : Str) (b : Int) : decide ((Sum.inr a : Key) = Sum.inl b) = false := decide_eq_false (fun q => nomatch q)
def mixKind (prog : Program) (w : World) : PySem.KeyKind prog w Key where
  is := keyIs
  hash := keyH w
  inj := fun v a b ha hb => by
    rcases keyIs_shape ha with ⟨i, t, rfl, rfl⟩ | ⟨x, t, rfl, rfl⟩
    · rcases keyIs_shape hb with ⟨j, u, rfl, e⟩ | ⟨y, u, rfl, e⟩
      · injection e with e1 _; rw [e1]
      · exact nomatch e
    · rcases keyIs_shape hb with ⟨j, u, rfl, e⟩ | ⟨y, u, rfl, e⟩
      · exact nomatch e
      · injection e with e1 _; rw [e1]
  byValue := fun k v h => by
    rcases keyIs_shape h with ⟨i, t, rfl, rfl⟩ | ⟨x, t, rfl, rfl⟩ <;> rfl
  pyHash := fun hv h => by
    rcases keyIs_shape hv with ⟨i, t, rfl, rfl⟩ | ⟨x, t, rfl, rfl⟩
    · exact wpAny_pyHash_int h
    · exact wpAny_pyHash_str h
  eqBool := fun hu hv h => by
    rcases keyIs_shape hu with ⟨i, t, rfl, rfl⟩ | ⟨x, t, rfl, rfl⟩
    · rcases keyIs_shape hv with ⟨j, u, rfl, rfl⟩ | ⟨y, u, rfl, rfl⟩
      · rw [key_ll] at h; exact wpAny_eqBool_int h
      · rw [key_lr] at h; exact SeqAt.EqAt.int_str i t y u _ _ _ _ h
    · rcases keyIs_shape hv with ⟨j, u, rfl, rfl⟩ | ⟨y, u, rfl, rfl⟩
      · rw [key_rl] at h; exact SeqAt.EqAt.str_int x t j u _ _ _ _ h
      · rw [key_rr] at h; exact wpAny_eqBool_str h
  «strs» := fun k x t v h => by
    rcases keyIs_shape h with ⟨i, u, rfl, e⟩ | ⟨y, u, rfl, e⟩
    · exact nomatch e
    · injection e with e1 _
      subst e1
      cases v <;> rfl
end L2
namespace L2
open PySem PySem.Spec PyProof.Rows
/-- a value, without the heap -/
inductive V where
  | non | bl (b : Bool) | int (i : Int) | str (x : Str) | byt (b : Array UInt8) | flt (b : UInt64) | ref (a : Addr) | ty (n : String) | stk (x : Str) (t : Tok)
  deriving DecidableEq
def RelV : V → Value → Prop
  | .non, u => u = Value.none
  | .bl b, u => u = Value.bool b
  | .int i, u => ∃ t, u = Value.int i t
  | .str x, u => ∃ t, u = Value.str x t
  | .byt b, u => ∃ t, u = Value.bytes b t
  | .flt b, u => ∃ t, u = Value.float b t
  | .ref a, u => u = Value.ref a
  | .ty n, u => u = Value.type n
  | .stk x t, u => u = Value.str x t ∧ t ≠ 0
/-- without tokens -/
def RelV0 (x : V) (u : Value) : Prop := match x with
  | .stk _ _ => False
  | x => RelV x u
theorem RelV0.rel {x : V} {u : Value} (h : RelV0 x u) : RelV x u := by
  cases x <;> first | exact h | exact h.elim
abbrev Vals0 : List V → List Value → Prop := Paired RelV0
abbrev Vals : List V → List Value → Prop := Paired RelV
theorem Vals.length {xs : List V} {us : List Value} (r : Vals xs us) : xs.length = us.length := Paired.length r
theorem Vals.get : ∀ {xs : List V} {us : List Value} {i : Nat} {x : V}, Vals xs us → xs[i]? = some x → ∃ u, us[i]? = some u ∧ RelV x u
  | _, _, _, _, .nil, e => by simp at e
  | _, _, 0, _, .cons r _, e => by simp at e; subst e; exact ⟨_, rfl, r⟩
  | _, _, i + 1, x, .cons _ t, e => by
    obtain ⟨u, h1, h2⟩ := Vals.get (i := i) (x := x) t (by simpa using e)
    exact ⟨u, by simpa using h1, h2⟩
theorem Vals.append : ∀ {xs ys : List V} {us ws : List Value}, Vals xs us → Vals ys ws → Vals (xs ++ ys) (us ++ ws)
  | _, _, _, _, .nil, s => s
  | _, _, _, _, .cons r t, s => .cons r (Vals.append t s)
theorem Vals.take : ∀ {xs : List V} {us : List Value} (n : Nat), Vals xs us → Vals (xs.take n) (us.take n)
  | _, _, 0, _ => .nil
  | _, _, _ + 1, .nil => .nil
  | _, _, n + 1, .cons r t => .cons r (Vals.take n t)
theorem Vals.drop : ∀ {xs : List V} {us : List Value} (n : Nat), Vals xs us → Vals (xs.drop n) (us.drop n)
  | _, _, 0, r => r
  | _, _, _ + 1, .nil => .nil
  | _, _, n + 1, .cons _ t => Vals.drop n t
def RelO : Option V → Option Value → Prop
  | some v, some u => RelV v u
  | none, none => True
  | _, _ => False
def KV {κ : Type} : List (κ × V) → List (κ × Value) → Prop := Paired fun (p : κ × V) (q : κ × Value) => p.1 = q.1 ∧ RelV p.2 q.2
/-- a key of a dict (00_mix): an int or a text -/
def kV : Key → V
  | .inl i => .int i
  | .inr x => .str x
/-- what stands at a tracked address -/
inductive HO where
  /-- a list -/
  | lst (xs : List V)
  /-- a tuple (never changes) -/
  | tup (xs : List V)
  /-- a dict whose keys are ints and texts; one whose keys are tuples of ints and texts (the empty one is both) -/
  | dK (kvs : List (Key × V)) | dT (kvs : List (List Key × V))
  /-- a set of ints: its members, its size -/
  | set (S : Int → Bool) (n : Nat)
  /-- an instance of the class at C, its dict at dx, its attributes -/
  | ins (C dx : Addr) (fs : List (Str × V))
  /-- the dict of the instance at x -/
  | own (x : Addr)
  /-- the dict of an exception -/
  | xd (fs : List (Str × V))
  /-- a bound method, f of x -/
  | met (f x : Addr)
  /-- a range object lo, lo + 1, .. below hi -/
  | rng (lo hi : Int)
  /-- a thing that is known to the object (the script; a dict while a loop walks it): read, never written while it is so -/
  | frz (o : Obj) (u : HO)
  /-- a code object's table -/
  | tbl (ps : Array Value)
  /-- any other thing, by what is true of its one object (a def of one's own: SetO a S n := HO.ext fun h => ..) -/
  | ext (φ : Heap → Prop)
abbrev Hp := Addr → Option HO
def upd (H : Hp) (a : Addr) (o : HO) : Hp := fun b => if b = a then some o else H b
theorem upd_same {H : Hp} {a : Addr} {o : HO} : upd H a o a = some o := by unfold upd; rw [if_pos rfl]
theorem upd_ne {H : Hp} {a b : Addr} {o : HO} (h : b ≠ a) : upd H a o b = H b := by unfold upd; rw [if_neg h]
theorem ne_of_none {H : Hp} {a b : Addr} {o : HO} (h : H a = some o) (h' : H b = none) : a ≠ b := by
  intro e; subst e; rw [h] at h'; cases h'
section
variable (P : Program) (w : World)
def ObjOk (H : Hp) (h : Heap) (a : Addr) : HO → Prop
  | .lst xs => xs.length ≤ sizeLine ∧ ∃ (its : List Value) (n : Nat), Vals xs its ∧ h.get? a = some { cls := .type "list", data := .seq its.toArray n }
  | .tup xs => xs.length ≤ sizeLine ∧ ∃ its : List Value, Vals xs its ∧ IsTup h a its.toArray
  | .dK kvs => kvs.length ≤ sizeLine ∧ (a == sysModules) = false ∧ ∃ vs, KV kvs vs ∧ h.DictOf (mixKind P w) a vs
  | .dT kvs => kvs.length ≤ sizeLine ∧ (a == sysModules) = false ∧ ∃ xs : List (List Key × Addr × Value),
      Paired (fun (p : List Key × V) (q : List Key × Addr × Value) => p.1 = q.1 ∧ H q.2.1 = some (.tup (p.1.map kV)) ∧ RelV p.2 q.2.2) kvs xs ∧
      ∃ o es ep, h.get? a = some o ∧ o.ExactDict ∧ o.data = .dict es ep ∧ es.toList = xs.map (entryOfKey (tupleKind (mixKind P w))) ∧ (xs.map (·.1)).Nodup
  | .set S n => h.SetOf (intKind P w) a S n
  | .ins C dx fs => H dx = some (.own a) ∧ fs.length ≤ 1000 ∧ dx ≠ a ∧ h.get? a = some (PySem.W.instObj C dx) ∧
      ∃ mA, h.Ns1 dx mA ∧ (∀ f, RelO (fs.lookup f) (mA f)) ∧ PySem.Within mA (fs.map (·.1))
  | .own _ => ∃ o, h.get? a = some o
  | .xd fs => ∃ mA, h.Ns1 a mA ∧ ∀ f, RelO (fs.lookup f) (mA f)
  | .rng lo hi => ∃ t u v, h.get? a = some { cls := .type "range", data := .fields #[.int lo t, .int hi u, .int 1 v] }
  | .frz o u => h.get? a = some o ∧ ObjOk H h a u
  | .tbl ps => h.get? a = some { cls := .none, data := .fields ps }
  | .met f x => h.get? a = some (PySem.W.methodObj (.ref f) (.ref x))
  | .ext φ => φ h ∧ (∃ o, h.get? a = some o) ∧ ∀ h1 h2 : Heap, φ h1 → (∀ o, h1.get? a = some o → h2.get? a = some o) → φ h2
/-- the abstract heap is held -/
def HOk (H : Hp) (h : Heap) : Prop := ∀ a o, H a = some o → ObjOk P w H h a o
end
section
variable {P : Program} {w : World} {H H' : Hp} {h h' : Heap} {a : Addr} {o : HO}
theorem ObjOk.lt (x : ObjOk P w H h a o) : a < h.objs.size := by
  cases o with
  | lst xs => obtain ⟨_, _, _, _, e⟩ := x; exact Heap.lt_size e
  | tup xs => obtain ⟨_, _, _, p⟩ := x; exact p.lt
  | dK kvs => obtain ⟨_, _, _, _, o, _, _, e, _⟩ := x; exact Heap.lt_size e
  | dT kvs => obtain ⟨_, _, _, _, o, _, _, e, _⟩ := x; exact Heap.lt_size e
  | set S n => obtain ⟨o, _, _, _, e, _⟩ := x; exact Heap.lt_size e
  | ins C dx fs => obtain ⟨_, _, _, e, _⟩ := x; exact Heap.lt_size e
  | own y => obtain ⟨_, e⟩ := x; exact Heap.lt_size e
  | xd fs => obtain ⟨_, ⟨_, _, _, e, _⟩, _⟩ := x; exact Heap.lt_size e
  | rng lo hi => obtain ⟨_, _, _, e⟩ := x; exact Heap.lt_size e
  | frz ob u => obtain ⟨e, _⟩ := x; exact Heap.lt_size e
  | tbl ps => exact Heap.lt_size (show h.get? a = some _ from x)
  | met f y => exact Heap.lt_size (show h.get? a = some _ from x)
  | ext φ => obtain ⟨_, ⟨_, e⟩, _⟩ := x; exact Heap.lt_size e
theorem Paired.mapP {α β : Type} {F G : α → β → Prop} : ∀ {l₁ : List α} {l₂ : List β}, Paired F l₁ l₂ → (∀ a b, F a b → G a b) → Paired G l₁ l₂
  | _, _, .nil, _ => .nil
  | _, _, .cons r t, f => .cons (f _ _ r) (Paired.mapP t f)
/-- what an object's description leans on: its own object, its own dict, the tuples -/
theorem ObjOk.stay (x : ObjOk P w H h a o) (k : ∀ b u, (b = a ∨ H b = some (.own a)) → h.get? b = some u → h'.get? b = some u)
    (ho : ∀ b, H b = some (.own a) → H' b = some (.own a)) (ht : ∀ b xs, H b = some (.tup xs) → H' b = some (.tup xs)) : ObjOk P w H' h' a o := by
  induction o with
  | lst xs => obtain ⟨z, its, n, r, e⟩ := x; exact ⟨z, its, n, r, k _ _ (.inl rfl) e⟩
  | tup xs => obtain ⟨z, its, r, ob, e, c⟩ := x; exact ⟨z, its, r, ob, k _ _ (.inl rfl) e, c⟩
  | dK kvs => obtain ⟨z, y, vs, r, ob, es, ep, e, c⟩ := x; exact ⟨z, y, vs, r, ob, es, ep, k _ _ (.inl rfl) e, c⟩
  | dT kvs =>
    obtain ⟨z, y, xs, r, ob, es, ep, e, c⟩ := x
    exact ⟨z, y, xs, Paired.mapP r fun p q z => ⟨z.1, ht _ _ z.2.1, z.2.2⟩, ob, es, ep, k _ _ (.inl rfl) e, c⟩
  | set S n => obtain ⟨ob, es, ep, t, e, c⟩ := x; exact ⟨ob, es, ep, t, k _ _ (.inl rfl) e, c⟩
  | ins C dx fs =>
    obtain ⟨d, z, ne, e, mA, ⟨od, es, ep, e2, c⟩, r⟩ := x
    exact ⟨ho _ d, z, ne, k _ _ (.inl rfl) e, mA, ⟨od, es, ep, k _ _ (.inr d) e2, c⟩, r⟩
  | own y => obtain ⟨ob, e⟩ := x; exact ⟨ob, k _ _ (.inl rfl) e⟩
  | xd fs => obtain ⟨mA, ⟨od, es, ep, e, c⟩, r⟩ := x; exact ⟨mA, ⟨od, es, ep, k _ _ (.inl rfl) e, c⟩, r⟩
  | rng lo hi => obtain ⟨t, u, v, e⟩ := x; exact ⟨t, u, v, k _ _ (.inl rfl) e⟩
  | frz ob u ih => obtain ⟨e, q⟩ := x; exact ⟨k _ _ (.inl rfl) e, ih q⟩
  | tbl ps =>
    have e : h.get? a = some { cls := .none, data := .fields ps } := x
    show h'.get? a = some { cls := .none, data := .fields ps }
    exact k a _ (.inl rfl) e
  | met f y =>
    have e : h.get? a = some (PySem.W.methodObj (.ref f) (.ref y)) := x
    show h'.get? a = some (PySem.W.methodObj (.ref f) (.ref y))
    exact k a _ (.inl rfl) e
  | ext φ => obtain ⟨p, ⟨o, e⟩, st⟩ := x; exact ⟨st _ _ p fun o q => k _ _ (.inl rfl) q, ⟨o, k _ _ (.inl rfl) e⟩, st⟩
theorem HOk.lt (x : HOk P w H h) (e : H a = some o) : a < h.objs.size := (x a o e).lt
theorem HOk.fresh (x : HOk P w H h) (e : h.objs.size ≤ a) : H a = none := by
  cases q : H a with
  | none => rfl
  | some u => exact absurd (Nat.lt_of_lt_of_le (x.lt q) e) (Nat.lt_irrefl _)
/-- every object of the heap is kept -/
theorem HOk.kept (x : HOk P w H h) (k : ∀ b u, h.get? b = some u → h'.get? b = some u) : HOk P w H h' := fun a o e =>
  (x a o e).stay (fun b u _ q => k b u q) (fun _ q => q) fun _ _ q => q
/-- a new object is laid and tracked -/
theorem HOk.laid (x : HOk P w H h) (k : ∀ b u, h.get? b = some u → h'.get? b = some u) (hp : h.objs.size ≤ a) (new : ObjOk P w (upd H a o) h' a o) : HOk P w (upd H a o) h' := fun b u e => by
  have hn := x.fresh hp
  by_cases hb : b = a
  · subst hb; rw [upd_same] at e; cases e; exact new
  · rw [upd_ne hb] at e
    exact (x b u e).stay (fun c v _ q => k c v q) (fun c q => by rw [upd_ne (ne_of_none q hn)]; exact q) fun c xs q => by rw [upd_ne (ne_of_none q hn)]; exact q
end
/-- what may be read as u: it is u, or a known u -/
def Rd (H : Hp) (a : Addr) (u : HO) : Prop := H a = some u ∨ ∃ o, H a = some (.frz o u)
theorem Rd.ok {P : Program} {w : World} {H : Hp} {h : Heap} {a : Addr} {u : HO} (r : Rd H a u) (x : HOk P w H h) : ObjOk P w H h a u := by
  rcases r with r | ⟨o, r⟩
  · exact x a u r
  · obtain ⟨_, q⟩ := x a _ r
    exact q
section
variable {P : Program} {w : World} {H : Hp} {h h' : Heap} {x e : Addr} {o' : HO}
end
/-! ### kept unless tracked; of the frames at fs (the callers') the slots may change (an exception that passes writes there); of the records at ex (iterators) nothing is said -/
structure Un (fs ex : List Addr) (H H' : Hp) (h h' : Heap) : Prop where
  keep : ∀ b o, h.get? b = some o → H b = none → b ∉ fs → b ∉ ex → h'.get? b = some o
  slot : ∀ b o, h.get? b = some o → H b = none → b ∈ fs → b ∉ ex → ∃ sl, h'.get? b = some { o with slots := sl }
  free : ∀ b o, h.get? b = some o → H b = none → b ∉ ex → H' b = none
  there : ∀ b o, h.get? b = some o → b ∉ ex → ∃ o', h'.get? b = some o'
  tups : ∀ b xs, H b = some (.tup xs) → H' b = some (.tup xs)
  frzs : ∀ b o u, H b = some (.frz o u) → H' b = some (.frz o u)
  tbls : ∀ b ps, H b = some (.tbl ps) → ∃ more, H' b = some (.tbl (ps ++ more))
section
variable {fs fs' ex ex' : List Addr} {H H1 H2 : Hp} {h h1 h2 h' : Heap} {a x e : Addr} {o : HO}
theorem Un.any (u : Un fs ex H H1 h h1) {b : Addr} {ob : Obj} (q : h.get? b = some ob) (n : H b = none) (hx : b ∉ ex) : ∃ sl, h1.get? b = some { ob with slots := sl } := by
  by_cases hb : b ∈ fs
  · exact u.slot b ob q n hb hx
  · exact ⟨ob.slots, u.keep b ob q n hb hx⟩
theorem Un.kept (k : ∀ b u, h.get? b = some u → h'.get? b = some u) : Un fs ex H H h h' :=
  ⟨fun b ob q _ _ _ => k b ob q, fun b ob q _ _ _ => ⟨ob.slots, k b ob q⟩, fun _ _ _ n _ => n, fun b ob q _ => ⟨ob, k b ob q⟩, fun _ _ q => q, fun _ _ _ q => q, fun _ ps q => ⟨#[], by rw [q]; simp⟩⟩
theorem Un.refl : Un fs ex H H h h := Un.kept fun _ _ q => q
theorem Un.laid (k : ∀ b u, h.get? b = some u → h'.get? b = some u) (hp : h.objs.size ≤ a) (hn : H a = none) : Un fs ex H (upd H a o) h h' where
  keep := fun b u q _ _ _ => k b u q
  slot := fun b u q _ _ _ => ⟨u.slots, k b u q⟩
  free := fun b u q n _ => by rw [upd_ne (Nat.ne_of_lt (Nat.lt_of_lt_of_le (Heap.lt_size q) hp))]; exact n
  there := fun b u q _ => ⟨u, k b u q⟩
  tups := fun b xs q => by rw [upd_ne (ne_of_none q hn)]; exact q
  frzs := fun b u xs q => by rw [upd_ne (ne_of_none q hn)]; exact q
  tbls := fun b ps q => ⟨#[], by rw [upd_ne (ne_of_none q hn), q]; simp⟩
end
/-! ### the heap without what is tracked -/
def trk (h : Heap) (H : Hp) : List Addr := (List.range h.objs.size).filter fun a => (H a).isSome
def hidT (h : Heap) (H : Hp) : Heap := PySem.W.hideAll h (trk h H)
theorem hidT_size (h : Heap) (H : Hp) : (hidT h H).objs.size = h.objs.size := PySem.W.hideAll_size _ _
theorem hidT_get {h : Heap} {H : Hp} {b : Addr} {o : Obj} (e : h.get? b = some o) (n : H b = none) : (hidT h H).get? b = some o :=
  PySem.W.hideAll_get _ e fun hm => by
    have q : (H b).isSome = true := (List.mem_filter.mp hm).2
    rw [n] at q; simp at q
theorem of_hidT {h : Heap} {H : Hp} {b : Addr} {o : Obj} (e : (hidT h H).get? b = some o) : h.get? b = some o ∧ H b = none := by
  have e' : h.get? b = some o := PySem.W.of_hideAll (trk h H) e
  refine ⟨e', ?_⟩
  cases q : H b with
  | none => rfl
  | some x =>
    have hm : b ∈ trk h H := List.mem_filter.mpr ⟨List.mem_range.mpr (Heap.lt_size e'), by simp [q]⟩
    have z : (hidT h H).get? b = none := PySem.W.hideAll_none (trk h H) hm
    rw [z] at e; cases e
/-! ### OpenK's ledger, filled with every new object but one -/
end L2
namespace L2
open PySem PySem.Spec PyProof.Rows
/-- the module's facts, over the base: the heap at the law's entry without what is tracked there -/
structure Mod (K : PySem.W.Frag) (mg : Str → Option Value) (base : Heap) : Prop where
  kin : K.In base
  glob : base.Ns mainGlobals mg
  blt : ∃ mb, base.Ns builtinsNs mb ∧ ∀ x : Str, x ≠ "__name__" → mb x = bootBuiltins x
  nolimit : base.NoLimit
/-- the context: a def's body (or a comprehension's block) running. base: fixed through the whole law; s₀, H₀: the entry; outer: the frames whose slots others may change (a def's callers); stack: all frames that run;
   ex: iterators that were made ahead of the entry and are walked here (a comprehension's); fn: the names whose cells were made at the entry (a def: all; a comprehension's block: its own); calm: not within an except suite; pn: pins that every state bears; xe: what is wanted of an exception that leaves the code -/
structure Cx where
  prog : Program
  w : World
  K : PySem.W.Frag
  mg : Str → Option Value
  base : Heap
  A : Around
  N : List Str
  s₀ : Shared
  H₀ : Hp
  env : Env
  outer : List Env
  stack : List Env
  ex : List Addr
  fn : Str → Bool
  calm : Bool
  pn : List (Addr × Obj)
  xe : Value → Shared → Prop
/-- the callers' frames -/
def frs (l : List Env) : List Addr := l.filterMap (·.frame)
abbrev Cx.fs (X : Cx) : List Addr := frs X.outer
def Vis (sc : Scope) (x : Str) : Prop := sc.names.lookup x = some .local ∨ sc.names.lookup x = some .cell ∨ sc.names.lookup x = some .free
def Loc (sc : Scope) (x : Str) : Prop := sc.names.lookup x = some .local ∨ sc.names.lookup x = some .cell
def Look (env : Env) (h : Heap) (m : Str → Option Value) (x : Str) (u : Value) : Prop :=
  (env.kindOf x = some .local ∧ m x = some u) ∨ ((env.kindOf x = some .cell ∨ env.kindOf x = some .free) ∧ ∃ c, env.cells.lookup x = some c ∧ h.IsCell c (some u))
structure Cx.Ok (X : Cx) : Prop where
  mod : Mod X.K X.mg X.base
  kind : X.env.scope.kind = .function
  glob : X.env.globals = mainGlobals
  blt : X.env.builtins = builtinsNs
  above : X.s₀.heap.objs.size ≤ X.env.locals
  inj : ∀ x y c, X.env.cells.lookup x = some c → X.env.cells.lookup y = some c → x = y
  has : ∀ x, (X.env.kindOf x = some .cell ∨ X.env.kindOf x = some .free) → ∃ c, X.env.cells.lookup x = some c
  cab : ∀ x c, X.fn x = true → X.env.cells.lookup x = some c → X.s₀.heap.objs.size ≤ c
  hd : X.calm = true → X.A.handled = none
  frames : X.A.frames = some X.stack
  stk : X.stack = X.outer ∨ (X.stack = X.env :: X.outer ∧ X.env.frame = some X.env.locals)
  exf : ∀ b ∈ X.ex, b ≠ X.env.locals ∧ ∀ x c, X.env.cells.lookup x = some c → c ≠ b
  bs : ∀ b o, X.base.get? b = some o → X.s₀.heap.get? b = some o ∧ X.H₀ b = none
  bsz : X.base.objs.size ≤ X.s₀.heap.objs.size
  noex : ∀ b o, X.base.get? b = some o → b ∉ X.ex
  exfs : ∀ b ∈ X.ex, b ∉ X.fs
  funs : X.s₀.heap.FunFrames X.base X.outer
  frf : ∀ b ∈ X.fs, X.H₀ b = none
structure Inv (X : Cx) (pins : List (Addr × Obj)) (σ : List (Option V)) (H : Hp) (s : Shared) : Prop where
  ok : X.Ok
  os : s.os = X.s₀.os
  bare : AllBare s.gens
  base : Un X.fs X.ex X.H₀ H X.s₀.heap s.heap
  loc : ∃ m, s.heap.Ns X.env.locals m ∧ ∀ (i : Nat) (x : Str) (v : V), X.N[i]? = some x → σ[i]? = some (some v) → Vis X.env.scope x → ∃ u, RelV v u ∧ Look X.env s.heap m x u
  cell : ∀ x c, X.env.cells.lookup x = some c → ∃ v, s.heap.IsCell c v
  free : H X.env.locals = none
  freeC : ∀ x c, X.env.cells.lookup x = some c → H c = none
  pin : ∀ p ∈ X.pn ++ pins, s.heap.get? p.1 = some p.2 ∧ H p.1 = none ∧ p.1 ≠ X.env.locals ∧ p.1 ∉ X.fs ∧ ∀ v, p.2.data ≠ .cell v
  hok : HOk X.prog X.w H s.heap
  len : σ.length = X.N.length
section
variable {X : Cx} {pins : List (Addr × Obj)} {σ : List (Option V)} {H H' : Hp} {s : Shared} {h' : Heap}
theorem Cx.Ok.nofr (ok : X.Ok) {b : Addr} {o : Obj} (e : X.base.get? b = some o) : b ∉ X.fs := fun hb => by
  have := (ok.funs.mem hb).1
  rw [e] at this; cases this
theorem Inv.bs (I : Inv X pins σ H s) : ∀ b o, X.base.get? b = some o → s.heap.get? b = some o ∧ H b = none := fun b o e =>
  ⟨I.base.keep b o (I.ok.bs b o e).1 (I.ok.bs b o e).2 (I.ok.nofr e) (I.ok.noex b o e), I.base.free b o (I.ok.bs b o e).1 (I.ok.bs b o e).2 (I.ok.noex b o e)⟩
theorem Inv.bk (I : Inv X pins σ H s) : ∀ b o, X.base.get? b = some o → s.heap.get? b = some o := fun b o e => (I.bs b o e).1
theorem Inv.mod (I : Inv X pins σ H s) : Mod X.K X.mg X.base := I.ok.mod
theorem Inv.kIn (I : Inv X pins σ H s) : X.K.In s.heap := I.ok.mod.kin.keeps I.bk
/-- the frame over the base: for OpenK's rules (K.In X.base is I.mod.kin) -/
theorem Inv.fr (I : Inv X pins σ H s) : ∃ m, Fr X.base X.env.locals s.heap m :=
  let ⟨m, hn, _⟩ := I.loc
  ⟨m, hn, I.bk, Nat.le_trans I.ok.bsz I.ok.above⟩
theorem Inv.lt (I : Inv X pins σ H s) : X.env.locals < s.heap.objs.size := let ⟨_, hn, _⟩ := I.loc; hn.lt
theorem Inv.sz (I : Inv X pins σ H s) : X.s₀.heap.objs.size ≤ s.heap.objs.size := Nat.le_trans I.ok.above (Nat.le_of_lt I.lt)
theorem Inv.nofs (I : Inv X pins σ H s) {a : Addr} (h : s.heap.objs.size ≤ a) : a ∉ X.fs := fun hb => by
  obtain ⟨_, o, ho, _⟩ := I.ok.funs.mem hb
  exact absurd (Nat.lt_of_lt_of_le (Heap.lt_size ho) (Nat.le_trans I.sz h)) (Nat.lt_irrefl _)
theorem Inv.cne (I : Inv X pins σ H s) : ∀ x c, X.env.cells.lookup x = some c → c ≠ X.env.locals := fun x c e z => by
  obtain ⟨v, o, ho, hd⟩ := I.cell x c e
  obtain ⟨m, ⟨o', es, ep, ho', hd', _⟩, _⟩ := I.loc
  rw [z, ho'] at ho; cases ho; rw [hd'] at hd; cases hd
theorem Inv.funs (I : Inv X pins σ H s) : s.heap.FunFrames X.base X.outer := by
  have all : ∀ (l : List Env), (∀ b ∈ frs l, b ∈ X.fs) → X.s₀.heap.FunFrames X.base l → s.heap.FunFrames X.base l := by
    intro l
    induction l with
    | nil => intro _ _; trivial
    | cons env r ih =>
      intro hs hl
      obtain ⟨hk, ⟨L, o, hf, hn, ho, hd⟩, hr⟩ := hl
      have hL : L ∈ X.fs := hs L (by unfold frs; rw [List.filterMap_cons, hf]; exact List.mem_cons_self)
      obtain ⟨sl, e⟩ := I.base.slot L o ho (I.ok.frf L hL) hL fun z => I.ok.exfs L z hL
      exact ⟨hk, ⟨L, _, hf, hn, e, hd⟩, ih (fun b hb => hs b (by unfold frs; rw [List.filterMap_cons, hf]; exact List.mem_cons_of_mem _ hb)) hr⟩
  exact all X.outer (fun _ hb => hb) I.ok.funs
/-- the frames that run, for a call -/
theorem Inv.stack (I : Inv X pins σ H s) : s.heap.FunFrames X.base X.stack := by
  rcases I.ok.stk with e | ⟨e, hf⟩
  · rw [e]; exact I.funs
  · rw [e]
    obtain ⟨m, hn, _⟩ := I.loc
    refine .cons (by rw [I.ok.kind]; decide) hf hn ?_ I.funs
    exact Heap.get?_none_of_le (Nat.le_trans I.ok.bsz I.ok.above)
theorem Inv.stkSub (I : Inv X pins σ H s) : ∀ b ∈ frs X.stack, b ∈ X.env.locals :: X.fs := fun b hb => by
  rcases I.ok.stk with e | ⟨e, hf⟩
  · rw [e] at hb; exact List.mem_cons_of_mem _ hb
  · rw [e] at hb
    unfold frs at hb
    rw [List.filterMap_cons, hf] at hb
    exact hb
theorem Inv.stkFree (I : Inv X pins σ H s) : ∀ b ∈ frs X.stack, H b = none := fun b hb => by
  rcases List.mem_cons.mp (I.stkSub b hb) with e | hb
  · rw [e]; exact I.free
  · obtain ⟨_, o, ho, _⟩ := I.ok.funs.mem hb
    exact I.base.free b o ho (I.ok.frf b hb) fun z => I.ok.exfs b z hb
/-- THE STEP: the untracked objects but the frame and the records at ch are kept (the callers' frames up to slots), the frame's map is kept, the new abstract heap is held -/
theorem Inv.step {g' : Array GenState} {t' : Nat} {d' : Drawn} {ch : List Addr} (I : Inv X pins σ H s)
    (hch : ∀ b ∈ ch, (b ∈ X.ex ∨ X.s₀.heap.objs.size ≤ b) ∧ b ≠ X.env.locals ∧ (∀ x c, X.env.cells.lookup x = some c → c ≠ b) ∧ ∀ p ∈ X.pn ++ pins, p.1 ≠ b)
    (keep : ∀ b o, b ≠ X.env.locals → b ∉ X.fs → b ∉ ch → s.heap.get? b = some o → H b = none → h'.get? b = some o)
    (slot : ∀ b o, b ≠ X.env.locals → b ∈ X.fs → b ∉ ch → s.heap.get? b = some o → H b = none → ∃ sl, h'.get? b = some { o with slots := sl }) (free : ∀ b o, b ∉ ch → s.heap.get? b = some o → H b = none → H' b = none)
    (there : ∀ b o, b ∉ ch → s.heap.get? b = some o → ∃ o', h'.get? b = some o')
    (tups : ∀ b xs, H b = some (.tup xs) → H' b = some (.tup xs)) (frzs : ∀ b o u, H b = some (.frz o u) → H' b = some (.frz o u)) (tbls : ∀ b ps, H b = some (.tbl ps) → ∃ more, H' b = some (.tbl (ps ++ more)))
    (ns : ∀ m, s.heap.Ns X.env.locals m → h'.Ns X.env.locals m) (hok : HOk X.prog X.w H' h') (hg : AllBare g') :
    Inv X pins σ H' { s with heap := h', gens := g', drawn := d', toks := t' } := by
  have neL : ∀ b o, X.s₀.heap.get? b = some o → b ≠ X.env.locals := fun b o e => Nat.ne_of_lt (Nat.lt_of_lt_of_le (Heap.lt_size e) I.ok.above)
  have neC : ∀ b o, X.s₀.heap.get? b = some o → b ∉ X.ex → b ∉ ch := fun b o e hx hb => by
    rcases (hch b hb).1 with z | z
    · exact hx z
    · exact absurd (Nat.lt_of_lt_of_le (Heap.lt_size e) z) (Nat.lt_irrefl _)
  have cellK : ∀ x c, X.env.cells.lookup x = some c → ∀ v, s.heap.IsCell c v → h'.IsCell c v := fun x c e v ⟨o, ho, hd⟩ => by
    have nch : c ∉ ch := fun z => (hch c z).2.2.1 x c e rfl
    by_cases hc : c ∈ X.fs
    · obtain ⟨sl, q⟩ := slot c o (I.cne x c e) hc nch ho (I.freeC x c e)
      exact ⟨_, q, hd⟩
    · exact ⟨o, keep c o (I.cne x c e) hc nch ho (I.freeC x c e), hd⟩
  refine ⟨I.ok, I.os, hg, ⟨fun b o e n hb hx => ?_, fun b o e n hb hx => ?_, fun b o e n hx => ?_, fun b o e hx => ?_, fun b xs e => tups b xs (I.base.tups b xs e), fun b o xs e => frzs b o xs (I.base.frzs b o xs e), fun b ps e => ?_⟩, ?_, fun x c e => ?_, ?_, fun x c e => ?_, fun p hp => ?_, hok, I.len⟩
  · exact keep b o (neL b o e) hb (neC b o e hx) (I.base.keep b o e n hb hx) (I.base.free b o e n hx)
  · obtain ⟨sl, e1⟩ := I.base.slot b o e n hb hx
    obtain ⟨sl', e2⟩ := slot b _ (neL b o e) hb (neC b o e hx) e1 (I.base.free b o e n hx)
    exact ⟨sl', e2⟩
  · obtain ⟨o', e1⟩ := I.base.there b o e hx
    exact free b o' (neC b o e hx) e1 (I.base.free b o e n hx)
  · obtain ⟨o', e1⟩ := I.base.there b o e hx
    exact there b o' (neC b o e hx) e1
  · obtain ⟨m1, e1⟩ := I.base.tbls b ps e
    obtain ⟨m2, e2⟩ := tbls b _ e1
    exact ⟨m1 ++ m2, by rw [e2, Array.append_assoc]⟩
  · obtain ⟨m, hn, hl⟩ := I.loc
    refine ⟨m, ns m hn, fun i x v e1 e2 e3 => ?_⟩
    obtain ⟨u, r, l⟩ := hl i x v e1 e2 e3
    refine ⟨u, r, ?_⟩
    rcases l with l | ⟨k, c, e, z⟩
    · exact .inl l
    · exact .inr ⟨k, c, e, cellK x c e _ z⟩
  · obtain ⟨v, z⟩ := I.cell x c e
    exact ⟨v, cellK x c e v z⟩
  · obtain ⟨m, ⟨o, _, _, ho, _⟩, _⟩ := I.loc
    exact free _ o (fun z => (hch _ z).2.1 rfl) ho I.free
  · obtain ⟨v, o, ho, hd⟩ := I.cell x c e
    exact free c o (fun z => (hch c z).2.2.1 x c e rfl) ho (I.freeC x c e)
  · obtain ⟨e, n, ne, nf, d⟩ := I.pin p hp
    have nch : p.1 ∉ ch := fun z => (hch p.1 z).2.2.2 p hp rfl
    exact ⟨keep p.1 p.2 ne nf nch e n, free p.1 p.2 nch e n, ne, nf, d⟩
/-- .. where the frame's own object is kept too -/
theorem Inv.un {t' : Nat} (I : Inv X pins σ H s) (u : Un X.fs [] H H' s.heap h') (hok : HOk X.prog X.w H' h') : Inv X pins σ H' { s with heap := h', toks := t' } := by
  obtain ⟨m, ⟨o, es, ep, ho, r⟩, _⟩ := id I.loc
  obtain ⟨sl, hL⟩ := u.any ho I.free (by simp)
  exact I.step (g' := s.gens) (d' := s.drawn) (ch := []) (fun _ z => nomatch z) (fun b o _ hb _ e n => u.keep b o e n hb (by simp)) (fun b o _ hb _ e n => u.slot b o e n hb (by simp)) (fun b o _ e n => u.free b o e n (by simp)) (fun b o _ e => u.there b o e (by simp)) u.tups u.frzs u.tbls (fun m' hm => by
    obtain ⟨o', es', ep', ho', r'⟩ := hm
    rw [ho] at ho'; cases ho'
    exact ⟨_, es', ep', hL, r'⟩) hok I.bare
/-- behind a call (or a comprehension's block): the slots of this frame may have changed too, the records at ch may have turned -/
theorem Inv.call {g' : Array GenState} {t' : Nat} {d' : Drawn} {ch : List Addr} (I : Inv X pins σ H s) (u : Un (frs X.stack) ch H H' s.heap h') (hok : HOk X.prog X.w H' h') (hg : AllBare g')
    (hch : ∀ b ∈ ch, (b ∈ X.ex ∨ X.s₀.heap.objs.size ≤ b) ∧ b ≠ X.env.locals ∧ (∀ x c, X.env.cells.lookup x = some c → c ≠ b) ∧ ∀ p ∈ X.pn ++ pins, p.1 ≠ b) :
    Inv X pins σ H' { s with heap := h', gens := g', drawn := d', toks := t' } := by
  obtain ⟨m, ⟨o, es, ep, ho, r⟩, _⟩ := id I.loc
  obtain ⟨sl, hL⟩ := u.any ho I.free fun z => (hch _ z).2.1 rfl
  exact I.step (ch := ch) hch (fun b o hL hb hc e n => u.keep b o e n (fun z => (List.mem_cons.mp (I.stkSub b z)).elim hL hb) hc) (fun b o _ _ hc e n => u.any e n hc) (fun b o hc e n => u.free b o e n hc) (fun b o hc e => u.there b o e hc) u.tups u.frzs u.tbls (fun m' hm => by
    obtain ⟨o', es', ep', ho', r'⟩ := hm
    rw [ho] at ho'; cases ho'
    exact ⟨_, es', ep', hL, r'⟩) hok hg
/-- an untracked record of ours (an iterator) has turned -/
theorem Inv.turned {t' : Nat} {it : Addr} (I : Inv X pins σ H s) (k : ∀ b o, b ≠ it → s.heap.get? b = some o → h'.get? b = some o) (hn : H it = none) (hL : it ≠ X.env.locals)
    (h1 : it ∈ X.ex ∨ X.s₀.heap.objs.size ≤ it) (h2 : ∀ x c, X.env.cells.lookup x = some c → c ≠ it) (h3 : ∀ p ∈ X.pn ++ pins, p.1 ≠ it) : Inv X pins σ H { s with heap := h', toks := t' } := by
  have nit : ∀ b u, H b = some u → b ≠ it := fun b u e z => by rw [z, hn] at e; cases e
  refine I.step (g' := s.gens) (d' := s.drawn) (ch := [it]) (fun b hb => ?_) (fun b o _ _ hc e _ => k b o (fun z => hc (by simp [z])) e) (fun b o _ _ hc e _ => ⟨o.slots, k b o (fun z => hc (by simp [z])) e⟩) (fun _ _ _ _ n => n)
    (fun b o hc e => ⟨o, k b o (fun z => hc (by simp [z])) e⟩) (fun _ _ e => e) (fun _ _ _ e => e) (fun b ps e => ⟨#[], by rw [e]; simp⟩) (fun m hm => ?_) (fun b u e => ?_) I.bare
  · have e : b = it := by simpa using hb
    subst e
    exact ⟨h1, hL, h2, h3⟩
  · obtain ⟨o, es, ep, ho, r⟩ := hm
    exact ⟨o, es, ep, k _ o (Ne.symm hL) ho, r⟩
  · refine (I.hok b u e).stay (fun c v hc q => k c v ?_ q) (fun _ q => q) fun _ _ q => q
    rcases hc with z | z
    · rw [z]; exact nit b u e
    · exact nit c _ z
theorem Inv.tok (I : Inv X pins σ H s) (t : Nat) : Inv X pins σ H { s with toks := t } := I.un (h' := s.heap) (t' := t) Un.refl I.hok
/-- all objects kept -/
theorem Inv.kept {t' : Nat} (I : Inv X pins σ H s) (k : ∀ b u, s.heap.get? b = some u → h'.get? b = some u) : Inv X pins σ H { s with heap := h', toks := t' } := I.un (Un.kept k) (I.hok.kept k)
/-- a new object laid and tracked -/
theorem Inv.laid {a : Addr} {o : HO} {t' : Nat} (I : Inv X pins σ H s) (k : ∀ b u, s.heap.get? b = some u → h'.get? b = some u) (hp : s.heap.objs.size ≤ a) (new : ObjOk X.prog X.w (upd H a o) h' a o) :
    Inv X pins σ (upd H a o) { s with heap := h', toks := t' } := I.un (Un.laid k hp (I.hok.fresh hp)) (I.hok.laid k hp new)
/-- forgetting slots, pins -/
theorem Inv.weak {σ' : List (Option V)} (I : Inv X pins σ H s) (hl : σ'.length = σ.length) (w : ∀ (i : Nat) v, σ'[i]? = some (some v) → σ[i]? = some (some v)) : Inv X pins σ' H s :=
  ⟨I.ok, I.os, I.bare, I.base, let ⟨m, hn, hl'⟩ := I.loc; ⟨m, hn, fun i x v e1 e2 e3 => hl' i x v e1 (w i v e2) e3⟩, I.cell, I.free, I.freeC, I.pin, I.hok, hl.trans I.len⟩
theorem Inv.pins_of {pins' : List (Addr × Obj)} (I : Inv X pins σ H s) (h : ∀ p ∈ pins', s.heap.get? p.1 = some p.2 ∧ H p.1 = none ∧ p.1 ≠ X.env.locals ∧ p.1 ∉ X.fs ∧ ∀ v, p.2.data ≠ .cell v) : Inv X pins' σ H s :=
  ⟨I.ok, I.os, I.bare, I.base, I.loc, I.cell, I.free, I.freeC, fun p hp => (List.mem_append.mp hp).elim (fun z => I.pin p (List.mem_append_left _ z)) (h p), I.hok, I.len⟩
theorem nodup_ix {N : List Str} (hN : N.Nodup) {i j : Nat} {x : Str} (a : N[i]? = some x) (b : N[j]? = some x) : i = j := by
  obtain ⟨h1, e1⟩ := List.getElem?_eq_some_iff.mp a
  obtain ⟨h2, e2⟩ := List.getElem?_eq_some_iff.mp b
  exact (List.getElem_inj hN).mp (e1.trans e2.symm)
/-- a name is stored; what changed -/
theorem store_ok2 {M : Model} {A : Around} {E : Value → Shared → Prop} {i : Nat} {x : Str} {v : V} {u : Value} {Q : Unit → Shared → Prop} (I : Inv X pins σ H s) (hN : X.N.Nodup) (hi : X.N[i]? = some x) (hx : Loc X.env.scope x) (r : RelV v u)
    (h : ∀ s', Inv X pins (σ.set i (some v)) H s' → (∃ a, Heap.SameBut a s.heap s'.heap ∧ (a = X.env.locals ∨ X.env.cells.lookup x = some a)) → Q () s') (hf : X.fn x = true ∨ X.env.scope.names.lookup x = some .local := by first | exact .inl rfl | exact .inr rfl | assumption) : wpAny M A (storeName X.env x u) Q E s := by
  obtain ⟨m, hn, hl⟩ := id I.loc
  have hcls : (X.env.scope.kind == .class || (X.env.scope.kind == .module && X.env.locals != X.env.globals)) = false := by rw [I.ok.kind]; rfl
  have hiσ : i < σ.length := by rw [I.len]; exact (List.getElem?_eq_some_iff.mp hi).1
  have cne := I.cne
  have tracked : ∀ {a : Addr} {h' : Heap}, (∃ o, s.heap.get? a = some o ∧ H a = none) → Heap.SameBut a s.heap h' → HOk X.prog X.w H h' := fun {a h'} ha hs b ob e => by
    obtain ⟨_, _, hfree⟩ := ha
    refine (I.hok b ob e).stay (fun c w' hc q => (hs.2 c ?_).trans q) (fun _ q => q) fun _ _ q => q
    rintro rfl
    rcases hc with rfl | hc
    · rw [hfree] at e; cases e
    · rw [hfree] at hc; cases hc
  rcases hx with hk | hk
  · refine wpAny_storeName_local hk hn (fun h' hn' hs => ?_) hcls
    obtain ⟨oL, _, _, hoL, _⟩ := id hn
    refine h _ ⟨I.ok, I.os, I.bare, ⟨fun b o e n hb hx => ?_, fun b o e n hb hx => ?_, I.base.free, fun b o e hx => ?_, I.base.tups, I.base.frzs, I.base.tbls⟩, ⟨_, hn', fun j y v' e1 e2 e3 => ?_⟩, fun y c e => ?_, I.free, I.freeC, fun p hp => ?_, tracked ⟨oL, hoL, I.free⟩ hs, by simpa using I.len⟩ ⟨_, hs, .inl rfl⟩
    · exact (hs.2 b (Nat.ne_of_lt (Nat.lt_of_lt_of_le (Heap.lt_size e) I.ok.above))).trans (I.base.keep b o e n hb hx)
    · obtain ⟨sl, e1⟩ := I.base.slot b o e n hb hx
      exact ⟨sl, (hs.2 b (Nat.ne_of_lt (Nat.lt_of_lt_of_le (Heap.lt_size e) I.ok.above))).trans e1⟩
    · obtain ⟨o', e1⟩ := I.base.there b o e hx
      exact ⟨o', (hs.2 b (Nat.ne_of_lt (Nat.lt_of_lt_of_le (Heap.lt_size e) I.ok.above))).trans e1⟩
    · by_cases hj : j = i
      · subst hj
        rw [hi] at e1; cases e1
        rw [List.getElem?_set_self hiσ] at e2
        cases e2
        exact ⟨u, r, .inl ⟨hk, by simp⟩⟩
      · rw [List.getElem?_set_ne (Ne.symm hj)] at e2
        obtain ⟨u', r', q⟩ := hl j y v' e1 e2 e3
        refine ⟨u', r', ?_⟩
        rcases q with ⟨k, e⟩ | ⟨k, c, e, z⟩
        · refine .inl ⟨k, ?_⟩
          have : y ≠ x := fun e => hj (nodup_ix hN e1 (e ▸ hi))
          simp [this, e]
        · exact .inr ⟨k, c, e, z.sameBut hs (cne y c e)⟩
    · obtain ⟨w', z⟩ := I.cell y c e
      exact ⟨w', z.sameBut hs (cne y c e)⟩
    · obtain ⟨e, n, ne, nf, d⟩ := I.pin p hp
      exact ⟨(hs.2 p.1 ne).trans e, n, ne, nf, d⟩
  · have hfn : X.fn x = true := by
      rcases hf with z | z
      · exact z
      · rw [z] at hk; cases hk
    obtain ⟨c, hc⟩ := I.ok.has x (.inl hk)
    obtain ⟨w', z⟩ := I.cell x c hc
    refine wpAny_storeName_cell I.ok.kind hk hc z (fun h' hc' hs => ?_)
    obtain ⟨oc, hoc, hocd⟩ := id z
    refine h { s with heap := h' } ⟨I.ok, I.os, I.bare, ⟨fun b o e n hb hx => ?_, fun b o e n hb hx => ?_, I.base.free, fun b o e hx => ?_, I.base.tups, I.base.frzs, I.base.tbls⟩, ⟨m, hn.sameBut hs (Ne.symm (cne x c hc)), fun j y v' e1 e2 e3 => ?_⟩, fun y c' e => ?_, I.free, I.freeC, fun p hp => ?_, tracked ⟨oc, hoc, I.freeC x c hc⟩ hs, by simpa using I.len⟩ ⟨c, hs, .inr hc⟩
    · exact (hs.2 b (Nat.ne_of_lt (Nat.lt_of_lt_of_le (Heap.lt_size e) (I.ok.cab x c hfn hc)))).trans (I.base.keep b o e n hb hx)
    · obtain ⟨sl, e1⟩ := I.base.slot b o e n hb hx
      exact ⟨sl, (hs.2 b (Nat.ne_of_lt (Nat.lt_of_lt_of_le (Heap.lt_size e) (I.ok.cab x c hfn hc)))).trans e1⟩
    · obtain ⟨o', e1⟩ := I.base.there b o e hx
      exact ⟨o', (hs.2 b (Nat.ne_of_lt (Nat.lt_of_lt_of_le (Heap.lt_size e) (I.ok.cab x c hfn hc)))).trans e1⟩
    · by_cases hj : j = i
      · subst hj
        rw [hi] at e1; cases e1
        rw [List.getElem?_set_self hiσ] at e2
        cases e2
        exact ⟨u, r, .inr ⟨.inl hk, c, hc, hc'⟩⟩
      · rw [List.getElem?_set_ne (Ne.symm hj)] at e2
        obtain ⟨u', r', q⟩ := hl j y v' e1 e2 e3
        refine ⟨u', r', ?_⟩
        rcases q with q | ⟨k, c', e, z'⟩
        · exact .inl q
        · refine .inr ⟨k, c', e, z'.sameBut hs ?_⟩
          rintro rfl
          exact hj (nodup_ix hN e1 (I.ok.inj _ _ _ e hc ▸ hi))
    · by_cases hcc : c' = c
      · subst hcc; exact ⟨_, hc'⟩
      · obtain ⟨w2, z2⟩ := I.cell y c' e
        exact ⟨w2, z2.sameBut hs hcc⟩
    · obtain ⟨e, n, ne, nf, d⟩ := I.pin p hp
      refine ⟨(hs.2 p.1 ?_).trans e, n, ne, nf, d⟩
      intro q
      rw [q, hoc] at e
      have q' : oc = p.2 := Option.some.inj e
      exact d w' (by rw [← q']; exact hocd)
theorem store_ok {M : Model} {A : Around} {E : Value → Shared → Prop} {i : Nat} {x : Str} {v : V} {u : Value} {Q : Unit → Shared → Prop} (I : Inv X pins σ H s) (hN : X.N.Nodup) (hi : X.N[i]? = some x) (hx : Loc X.env.scope x) (r : RelV v u)
    (h : ∀ s', Inv X pins (σ.set i (some v)) H s' → Q () s') (hf : X.fn x = true ∨ X.env.scope.names.lookup x = some .local := by first | exact .inl rfl | exact .inr rfl | assumption) : wpAny M A (storeName X.env x u) Q E s :=
  store_ok2 I hN hi hx r (fun s' I' _ => h s' I') hf
/-- behind a call or a block, the state as it is -/
theorem Inv.call' {s' : Shared} {ch : List Addr} (I : Inv X pins σ H s) (ho : s'.os = s.os) (u : Un (frs X.stack) ch H H' s.heap s'.heap) (hok : HOk X.prog X.w H' s'.heap) (hg : AllBare s'.gens)
    (hch : ∀ b ∈ ch, (b ∈ X.ex ∨ X.s₀.heap.objs.size ≤ b) ∧ b ≠ X.env.locals ∧ (∀ x c, X.env.cells.lookup x = some c → c ≠ b) ∧ ∀ p ∈ X.pn ++ pins, p.1 ≠ b) : Inv X pins σ H' s' := by
  obtain ⟨h', g', d', t', o'⟩ := s'
  have e : o' = s.os := ho
  subst e
  exact I.call (g' := g') (t' := t') (d' := d') u hok hg hch
end
/-! ### the judgements -/
/-- an exception: its class, its own dict's address (where it has one), the abstract heap behind it -/
abbrev XK := Value → Option Addr → Hp → Prop
abbrev St := List (Option V)
abbrev VK := V → Hp → Prop
/-- an expression's reading; a test's; an argument list's -/
abbrev TE := St → Hp → VK → Prop
abbrev TT := St → Hp → (Bool → Hp → Prop) → Prop
abbrev TA := St → Hp → (List V → Hp → Prop) → Prop
/-- what is wanted behind a statement -/
structure Ends where
  nx : St → Hp → Prop
  rt : VK
  bk : St → Hp → Prop := fun _ _ => False
  ct : St → Hp → Prop := fun _ _ => False
abbrev TS := Ends → St → Hp → Prop
def EP (X : Cx) (pins : List (Addr × Obj)) (σ : St) (Q : VK) (u : Value) (s' : Shared) : Prop := ∃ v H', Inv X pins σ H' s' ∧ RelV v u ∧ Q v H'
def TP (X : Cx) (pins : List (Addr × Obj)) (σ : St) (Q : Bool → Hp → Prop) (b : Bool) (s' : Shared) : Prop := ∃ H', Inv X pins σ H' s' ∧ Q b H'
def AP (X : Cx) (pins : List (Addr × Obj)) (σ : St) (Q : List V → Hp → Prop) (us : List Value) (s' : Shared) : Prop := ∃ vs H', Inv X pins σ H' s' ∧ Vals vs us ∧ Q vs H'
def SP (X : Cx) (pins : List (Addr × Obj)) (D : Ends) (f : Flow) (s' : Shared) : Prop :=
  match f with
  | .next => ∃ σ' H', Inv X pins σ' H' s' ∧ D.nx σ' H'
  | .brk => ∃ σ' H', Inv X pins σ' H' s' ∧ D.bk σ' H'
  | .cont => ∃ σ' H', Inv X pins σ' H' s' ∧ D.ct σ' H'
  | .ret u => ∃ v σ' H', Inv X pins σ' H' s' ∧ RelV v u ∧ D.rt v H'
def PE (X : Cx) (e : Expr) (t : TE) : Prop :=
  ∀ (pins : List (Addr × Obj)) (s : Shared) (σ : St) (H : Hp) (Q : VK), Inv X pins σ H s → t σ H Q → wpAny (model X.prog X.w) X.A (eval e X.env) (EP X pins σ Q) X.xe s
def PT (X : Cx) (e : Expr) (t : TT) : Prop :=
  ∀ (pins : List (Addr × Obj)) (s : Shared) (σ : St) (H : Hp) (Q : Bool → Hp → Prop), Inv X pins σ H s → t σ H Q → wpAny (model X.prog X.w) X.A (isTrue e X.env (eval e X.env)) (TP X pins σ Q) X.xe s
/-- a test whatever its 'whole' is (and, or) -/
def PW (X : Cx) (e : Expr) (t : TT) : Prop :=
  ∀ (whole : Sem Value) (pins : List (Addr × Obj)) (s : Shared) (σ : St) (H : Hp) (Q : Bool → Hp → Prop), Inv X pins σ H s → t σ H Q → wpAny (model X.prog X.w) X.A (isTrue e X.env whole) (TP X pins σ Q) X.xe s
theorem PW.pt {X : Cx} {e : Expr} {t : TT} (h : PW X e t) : PT X e t := h _
/-- an argument list (no star), from the left -/
def PA (X : Cx) (es : List Expr) (t : TA) : Prop :=
  ∀ (pos : Pos) (pins : List (Addr × Obj)) (s : Shared) (σ : St) (H : Hp) (Q : List V → Hp → Prop), Inv X pins σ H s → t σ H Q → wpAny (model X.prog X.w) X.A (spliced (backTo pos (starEach es X.env))) (AP X pins σ Q) X.xe s
def PS (X : Cx) (st : Stmt) (t : TS) : Prop :=
  ∀ (pins : List (Addr × Obj)) (s : Shared) (σ : St) (H : Hp) (D : Ends), Inv X pins σ H s → t D σ H → wpAny (model X.prog X.w) X.A (exec st X.env) (SP X pins D) X.xe s
def PSs (X : Cx) (st : List Stmt) (t : TS) : Prop :=
  ∀ (pins : List (Addr × Obj)) (s : Shared) (σ : St) (H : Hp) (D : Ends), Inv X pins σ H s → t D σ H → wpAny (model X.prog X.w) X.A (execs st X.env) (SP X pins D) X.xe s
/-- weaken the end -/
theorem thn {α : Type} {t : Sem α} {Q Q' : α → Shared → Prop} {M : Model} {A : Around} {E : Value → Shared → Prop} {s : Shared} (h : wpAny M A t Q E s) (hQ : ∀ a s, Q a s → Q' a s) : wpAny M A t Q' E s := wpAny_mono h hQ fun _ _ x => x
end L2
namespace L2
open PySem PySem.Spec PyProof.Rows
section
variable {X : Cx}
/-- two expressions in a row -/
theorem bin {a b : Expr} {ta tb : TE} (ha : PE X a ta) (hb : PE X b tb) {pins : List (Addr × Obj)} {s : Shared} {σ : St} {H : Hp} {R : V → V → Hp → Prop} (I : Inv X pins σ H s) (h : ta σ H fun x H1 => tb σ H1 fun y H2 => R x y H2)
    {α : Type} {Q : α → Shared → Prop} {f : Value → Value → Sem α}
    (hf : ∀ v u s2 x y H2, Inv X pins σ H2 s2 → RelV x v → RelV y u → R x y H2 → wpAny (model X.prog X.w) X.A (f v u) Q X.xe s2) :
    wpAny (model X.prog X.w) X.A (eval a X.env) (fun v s₁ => wpAny (model X.prog X.w) X.A (eval b X.env) (fun u s₂ => wpAny (model X.prog X.w) X.A (f v u) Q X.xe s₂) X.xe s₁) X.xe s := by
  refine thn (ha pins s σ H _ I h) fun v s1 ⟨x, H1, I1, r1, q1⟩ => ?_
  refine thn (hb pins s1 σ H1 _ I1 q1) fun u s2 ⟨y, H2, I2, r2, q2⟩ => ?_
  exact hf v u s2 x y H2 I2 r1 r2 q2
/-! ### names and constants -/
def tVar (i : Nat) : TE := fun σ H Q => ∃ v, σ[i]? = some (some v) ∧ Q v H
def tC (v : V) : TE := fun _ H Q => Q v H
theorem pe_var {i : Nat} {x : Str} {pos : Pos} (hN : X.N[i]? = some x) (hv : Vis X.env.scope x) (hd : (x == ("__debug__" : Str)) = false := by decide) (hcd : (x == ("__classdict__" : Str)) = false := by decide) : PE X (.Name x pos) (tVar i) := by
  intro pins s σ H Q I h
  obtain ⟨v, e, h⟩ := h
  obtain ⟨m, hn, hl⟩ := I.loc
  obtain ⟨u, r, l⟩ := hl i x v hN e hv
  have fin : EP X pins σ Q u s := ⟨v, H, I, r, h⟩
  rcases l with ⟨hk, hm⟩ | ⟨hk, c, hc, hcell⟩
  · exact wpAny_Name (wpAny_loadName_local I.ok.kind hk hn hm fin) hd
  · rcases hk with hk | hk
    · exact wpAny_Name (wpAny_loadName_cell I.ok.kind hk hc hcell fin) hd
    · exact wpAny_Name (wpAny_loadName_free I.ok.kind hk hc hcell fin hcd) hd
theorem pe_int {i j pos} : PE X (.Constant (.int i) j pos) (tC (.int i)) := fun _ _ _ H _ I h => wpAny_Constant_int ⟨.int i, H, I.tok _, ⟨_, rfl⟩, h⟩
theorem pe_bl {b j pos} : PE X (.Constant (.bool b) j pos) (tC (.bl b)) := fun _ _ _ H _ I h => Constant_bool ⟨.bl b, H, I, rfl, h⟩
theorem pe_non {j pos} : PE X (.Constant .none j pos) (tC .non) := fun _ _ _ H _ I h => Constant_none ⟨.non, H, I, rfl, h⟩
theorem pe_str {x j pos} : PE X (.Constant (.str x) j pos) (tC (.str x)) := fun _ _ _ H _ I h => Calls.Constant_str ⟨.str x, H, I.tok _, ⟨_, rfl⟩, h⟩
/-- a global name of the def -/
def Gl (X : Cx) (x : Str) : Prop := X.env.kindOf x = some .globalImplicit
theorem ld_glob {E : Value → Shared → Prop} {pins : List (Addr × Obj)} {s : Shared} {σ : St} {H : Hp} {x : Str} {u : Value} {pos : Pos} {Q : Value → Shared → Prop} (I : Inv X pins σ H s) (hg : Gl X x) (hm : X.mg x = some u) (h : Q u s)
    (hd : (x == ("__debug__" : Str)) = false := by decide) : wpAny (model X.prog X.w) X.A (eval (.Name x pos) X.env) Q E s :=
  Calls.Name_function_global I.ok.kind hg (Calls.loadGlobal_global (by rw [I.ok.glob]; exact I.mod.glob.keeps I.bk) hm h) hd
theorem ld_blt {E : Value → Shared → Prop} {pins : List (Addr × Obj)} {s : Shared} {σ : St} {H : Hp} {x : Str} {u : Value} {pos : Pos} {Q : Value → Shared → Prop} (I : Inv X pins σ H s) (hg : Gl X x) (hm : X.mg x = none) (hv : bootBuiltins x = some u) (h : Q u s)
    (hn : x ≠ "__name__" := by decide) (hd : (x == ("__debug__" : Str)) = false := by decide) : wpAny (model X.prog X.w) X.A (eval (.Name x pos) X.env) Q E s := by
  obtain ⟨mb, h1, h2⟩ := I.mod.blt
  exact Calls.Name_function_global I.ok.kind hg (Calls.loadGlobal_builtin (by rw [I.ok.glob]; exact I.mod.glob.keeps I.bk) hm (by rw [I.ok.blt]; exact h1.keeps I.bk) ((h2 x hn).trans hv) h) hd
/-- a module's constant, a class, a function, as a value -/
theorem pe_glob {x : Str} {v : V} {u : Value} {pos : Pos} (hg : Gl X x) (hm : X.mg x = some u) (r : RelV v u) (hd : (x == ("__debug__" : Str)) = false := by decide) : PE X (.Name x pos) (tC v) :=
  fun _ _ _ H _ I h => ld_glob I hg hm ⟨v, H, I, r, h⟩ hd
theorem pe_bltn {x : Str} {v : V} {u : Value} {pos : Pos} (hg : Gl X x) (hm : X.mg x = none) (hv : bootBuiltins x = some u) (r : RelV v u) (hn : x ≠ "__name__" := by decide) (hd : (x == ("__debug__" : Str)) = false := by decide) : PE X (.Name x pos) (tC v) :=
  fun _ _ _ H _ I h => ld_blt I hg hm hv ⟨v, H, I, r, h⟩ hn hd
/-! ### arithmetic -/
variable {a b : Expr} {ta tb : TE} {pos : Pos}
/-! ### comparisons -/
def PC (X : Cx) (op : CmpOp) (a b : Expr) (t : TE) : Prop :=
  ∀ (pins : List (Addr × Obj)) (s : Shared) (σ : St) (H : Hp) (Q : VK), Inv X pins σ H s → t σ H Q →
    wpAny (model X.prog X.w) X.A (eval a X.env) (fun v s₁ => wpAny (model X.prog X.w) X.A (eval b X.env) (fun u s₂ => wpAny (model X.prog X.w) X.A (compareOp op v u) (EP X pins σ Q) X.xe s₂) X.xe s₁) X.xe s
/-- a comparison as a value, as a test -/
def tB (t : TE) : TT := fun σ H Q => t σ H fun x H1 => ∃ c, x = .bl c ∧ Q c H1
theorem pt_cmp {op : CmpOp} {t : TE} (h : PC X op a b t) (h1 : behindInMarks op b = false := by first | exact nobehind _ (by decide) (by decide) | rfl) : PT X (.Compare a [op] [b] pos) (tB t) := by
  intro pins s σ H Q I hw
  refine wpAny_isTrue_Compare1 (thn (h pins s σ H _ I hw) fun v s1 h1 => thn h1 fun u s2 h2 => thn h2 fun c s3 ⟨x, H1, I1, r1, q1⟩ => ?_) h1
  obtain ⟨d, rfl, q⟩ := q1
  cases r1
  exact wpAny_truthy_bool ⟨H1, I1, q⟩
/-- an expression whose value is a bool, as a test -/
theorem pt_val {e : Expr} {t : TE} (h : PE X e t) (he : ∀ whole, isTrue e X.env whole = (do let v ← whole; standAt e.pos; holding [v] (truthy v)) := by intro _; rfl) : PT X e (tB t) := by
  intro pins s σ H Q I hw
  refine isTrue_plain (thn (h pins s σ H _ I hw) fun v s1 ⟨x, H1, I1, r1, q1⟩ => ?_) (he _)
  obtain ⟨d, rfl, q⟩ := q1
  cases r1
  exact wpAny_truthy_bool ⟨H1, I1, q⟩
/-! ### and, or, not -/
variable {tA tB' : TT} {rest : List Expr}
def tOr (t u : TT) : TT := fun σ H Q => t σ H fun c H1 => if c = true then Q true H1 else u σ H1 Q
def tNot (t : TT) : TT := fun σ H Q => t σ H fun c H1 => Q (!c) H1
theorem pw_or1 (ha : PT X a tA) : PW X (.BoolOp .Or [a] pos) tA := by
  intro wh pins s σ H Q I h
  refine isTrue_or (thn (ha pins s σ H Q I h) fun c s1 e => ?_)
  cases c with
  | false => exact isTrue_or_nil e
  | true => exact e
theorem pw_or (ha : PT X a tA) (hb : PW X (.BoolOp .Or (b :: rest) pos) tB') : PW X (.BoolOp .Or (a :: b :: rest) pos) (tOr tA tB') := by
  intro wh pins s σ H Q I h
  refine isTrue_or (thn (ha pins s σ H _ I h) fun c s1 ⟨H1, I1, q1⟩ => ?_)
  cases c with
  | true => exact ⟨H1, I1, q1⟩
  | false => exact hb wh pins s1 σ H1 Q I1 q1
theorem pt_not (ha : PT X a tA) : PT X (.UnaryOp .Not a pos) (tNot tA) := by
  intro pins s σ H Q I h
  exact isTrue_not (ha pins s σ H (fun c H1 => Q (!c) H1) I h)
/-- .. as values (bools) -/
def tAndV (ta tb : TE) : TE := fun σ H Q => ta σ H fun x H1 => ∃ c, x = .bl c ∧ if c = true then tb σ H1 Q else Q (.bl false) H1
def tOrV (ta tb : TE) : TE := fun σ H Q => ta σ H fun x H1 => ∃ c, x = .bl c ∧ if c = true then Q (.bl true) H1 else tb σ H1 Q
def tNotV (ta : TE) : TE := fun σ H Q => ta σ H fun x H1 => ∃ c, x = .bl c ∧ Q (.bl (!c)) H1
theorem pe_one {op} {t : TE} (h : PE X a t) : PE X (.BoolOp op [a] pos) t := fun pins s σ H Q I hw => BoolOp_one (h pins s σ H Q I hw)
theorem pe_and (ha : PE X a ta) (hb : PE X (.BoolOp .And (b :: rest) pos) tb) : PE X (.BoolOp .And (a :: b :: rest) pos) (tAndV ta tb) := by
  intro pins s σ H Q I h
  refine BoolOp_and (thn (ha pins s σ H _ I h) fun v s1 ⟨x, H1, I1, r1, q1⟩ => ?_)
  obtain ⟨c, rfl, q1⟩ := q1
  cases r1
  refine wpAny_truthy_bool ?_
  cases c with
  | true => exact hb pins s1 σ H1 Q I1 q1
  | false => exact ⟨.bl false, H1, I1, rfl, q1⟩
theorem pe_or (ha : PE X a ta) (hb : PE X (.BoolOp .Or (b :: rest) pos) tb) : PE X (.BoolOp .Or (a :: b :: rest) pos) (tOrV ta tb) := by
  intro pins s σ H Q I h
  refine BoolOp_or (thn (ha pins s σ H _ I h) fun v s1 ⟨x, H1, I1, r1, q1⟩ => ?_)
  obtain ⟨c, rfl, q1⟩ := q1
  cases r1
  refine wpAny_truthy_bool ?_
  cases c with
  | false => exact hb pins s1 σ H1 Q I1 q1
  | true => exact ⟨.bl true, H1, I1, rfl, q1⟩
theorem pe_not (ha : PE X a ta) : PE X (.UnaryOp .Not a pos) (tNotV ta) := by
  intro pins s σ H Q I h
  refine UnaryOp_ (thn (ha pins s σ H _ I h) fun v s1 ⟨x, H1, I1, r1, q1⟩ => ?_)
  obtain ⟨c, rfl, q1⟩ := q1
  cases r1
  exact not_of (wpAny_truthy_bool ⟨.bl (!c), H1, I1, rfl, q1⟩)
/-- a if t else b -/
def tIf (t : TT) (ta tb : TE) : TE := fun σ H Q => t σ H fun c H1 => if c = true then ta σ H1 Q else tb σ H1 Q
theorem pe_ifExp {c : Expr} (hc : PT X c tA) (ha : PE X a ta) (hb : PE X b tb) : PE X (.IfExp c a b pos) (tIf tA ta tb) := by
  intro pins s σ H Q I h
  refine wpAny_IfExp (thn (hc pins s σ H _ I h) fun d s1 ⟨H1, I1, q1⟩ => ?_)
  cases d with
  | true => exact ha pins s1 σ H1 Q I1 q1
  | false => exact hb pins s1 σ H1 Q I1 q1
end
end L2
namespace L2
open PySem PySem.Spec PyProof.Rows
/-! ### a list, a tuple that is read: tracked, frozen, or an object of the module -/
def SqL (K : PySem.W.Frag) (H : Hp) (a : Addr) (xs : List V) : Prop :=
  Rd H a (.lst xs) ∨
    ∃ (o : Obj) (its : Array Value) (n : Nat), K.lookup a = some o ∧ o.cls = .type "list" ∧ o.dict = none ∧ o.data = .seq its n ∧ its.size ≤ sizeLine ∧ Vals0 xs its.toList
def SqT (K : PySem.W.Frag) (H : Hp) (a : Addr) (xs : List V) : Prop :=
  Rd H a (.tup xs) ∨
    ∃ (o : Obj) (its : Array Value) (n : Nat), K.lookup a = some o ∧ o.cls = .type "tuple" ∧ o.data = .seq its n ∧ its.size ≤ sizeLine ∧ Vals0 xs its.toList
def absV : Value → Option V
  | .none => some .non
  | .bool b => some (.bl b)
  | .int i _ => some (.int i)
  | .str x _ => some (.str x)
  | .bytes b _ => some (.byt b)
  | .float b _ => some (.flt b)
  | .ref a => some (.ref a)
  | .type n => some (.ty n)
  | _ => none
theorem RelV0.abs {x : V} {u : Value} (r : RelV0 x u) : absV u = some x := by
  cases x with
  | non => cases r; rfl
  | bl _ => cases r; rfl
  | int _ => obtain ⟨t, rfl⟩ := r; rfl
  | str _ => obtain ⟨t, rfl⟩ := r; rfl
  | byt _ => obtain ⟨t, rfl⟩ := r; rfl
  | flt _ => obtain ⟨t, rfl⟩ := r; rfl
  | ref _ => cases r; rfl
  | ty _ => cases r; rfl
  | stk _ _ => exact r.elim
theorem Vals0.inj : ∀ {xs ys : List V} {us : List Value}, Vals0 xs us → Vals0 ys us → xs = ys
  | _, _, _, .nil, .nil => rfl
  | _, _, _, .cons r t, .cons r' t' => by rw [Option.some.inj (r.abs.symm.trans r'.abs), Vals0.inj t t']
theorem vals0_ints : ∀ {ns : List Int} {us : List Value}, Vals (ns.map V.int) us → Vals0 (ns.map V.int) us
  | [], _, .nil => .nil
  | _ :: _, _, .cons r t => .cons r (vals0_ints t)
theorem Rd.inj {H : Hp} {a : Addr} {u v : HO} (h : Rd H a u) (h' : Rd H a v) (hu : ∀ o x, u ≠ .frz o x) (hv : ∀ o x, v ≠ .frz o x) : u = v := by
  rcases h with h | ⟨o, h⟩ <;> rcases h' with h' | ⟨o', h'⟩
  · exact Option.some.inj (h.symm.trans h')
  · exact absurd (Option.some.inj (h.symm.trans h')) (hu _ _)
  · exact absurd (Option.some.inj (h'.symm.trans h)) (hv _ _)
  · have := Option.some.inj (h.symm.trans h')
    injection this
theorem Rd.some {H : Hp} {a : Addr} {u : HO} (h : Rd H a u) (n : H a = none) : False := by
  rcases h with h | ⟨o, h⟩ <;> (rw [n] at h; cases h)
section
variable {X : Cx} {pins : List (Addr × Obj)} {σ : St} {H : Hp} {s : Shared} {a : Addr} {xs ys : List V}
theorem SqL.of {K : PySem.W.Frag} (h : H a = some (.lst xs)) : SqL K H a xs := .inl (.inl h)
theorem SqT.of {K : PySem.W.Frag} (h : H a = some (.tup xs)) : SqT K H a xs := .inl (.inl h)
theorem Inv.list (I : Inv X pins σ H s) (h : SqL X.K H a xs) : ∃ its : List Value, Vals xs its ∧ PlainL s.heap a its.toArray ∧ xs.length ≤ sizeLine := by
  rcases h with h | ⟨o, its, n, hk, hc, hd, hs, hz, r⟩
  · obtain ⟨z, its, n, r, e⟩ := h.ok I.hok
    exact ⟨its, r, ⟨_, n, e, rfl, rfl, rfl⟩, z⟩
  · refine ⟨its.toList, Paired.mapP r (fun _ _ z => z.rel), ⟨o, n, I.kIn a o hk, hc, hd, by simpa using hs⟩, ?_⟩
    have e := Paired.length r
    simp only [Array.length_toList] at e
    omega
theorem Inv.tuple (I : Inv X pins σ H s) (h : SqT X.K H a xs) : ∃ its : List Value, Vals xs its ∧ IsTup s.heap a its.toArray ∧ xs.length ≤ sizeLine := by
  rcases h with h | ⟨o, its, n, hk, hc, hs, hz, r⟩
  · obtain ⟨z, its, r, p⟩ := h.ok I.hok
    exact ⟨its, r, p, z⟩
  · refine ⟨its.toList, Paired.mapP r (fun _ _ z => z.rel), ⟨o, I.kIn a o hk, hc, n, by simpa using hs⟩, ?_⟩
    have e := Paired.length r
    simp only [Array.length_toList] at e
    omega
theorem Inv.list_inj (I : Inv X pins σ H s) (h : SqL X.K H a xs) (h' : SqL X.K H a ys) : xs = ys := by
  have hn : ∀ o, X.K.lookup a = some o → H a = none := fun o e => (I.bs a o (I.ok.mod.kin a o e)).2
  rcases h with h | ⟨o, its, n, hk, hc, hd, hs, hz, r⟩ <;> rcases h' with h' | ⟨o', its', n', hk', hc', hd', hs', hz', r'⟩
  · have := h.inj h' (fun _ _ e => by cases e) (fun _ _ e => by cases e)
    injection this
  · exact (h.some (hn _ hk')).elim
  · exact (h'.some (hn _ hk)).elim
  · rw [hk] at hk'
    cases hk'
    rw [hs] at hs'
    injection hs' with d1 _
    subst d1
    exact Vals0.inj r r'
end
/-! ### another wish about exceptions -/
abbrev Cx.wish (X : Cx) (E : Value → Shared → Prop) : Cx := { X with xe := E }
/-- no exception leaves -/
abbrev Cx.nox (X : Cx) : Cx := X.wish fun _ _ => False
theorem Cx.Ok.wish {X : Cx} (ok : X.Ok) (E : Value → Shared → Prop) : (X.wish E).Ok :=
  ⟨ok.mod, ok.kind, ok.glob, ok.blt, ok.above, ok.inj, ok.has, ok.cab, ok.hd, ok.frames, ok.stk, ok.exf, ok.bs, ok.bsz, ok.noex, ok.exfs, ok.funs, ok.frf⟩
theorem Cx.Ok.unwish {X : Cx} {E : Value → Shared → Prop} (ok : (X.wish E).Ok) : X.Ok :=
  ⟨ok.mod, ok.kind, ok.glob, ok.blt, ok.above, ok.inj, ok.has, ok.cab, ok.hd, ok.frames, ok.stk, ok.exf, ok.bs, ok.bsz, ok.noex, ok.exfs, ok.funs, ok.frf⟩
section
variable {X : Cx} {pins : List (Addr × Obj)} {σ : St} {H : Hp} {s : Shared} {E : Value → Shared → Prop}
theorem Inv.wish (I : Inv X pins σ H s) (E : Value → Shared → Prop) : Inv (X.wish E) pins σ H s := ⟨I.ok.wish E, I.os, I.bare, I.base, I.loc, I.cell, I.free, I.freeC, I.pin, I.hok, I.len⟩
theorem Inv.unwish (I : Inv (X.wish E) pins σ H s) : Inv X pins σ H s := ⟨I.ok.unwish, I.os, I.bare, I.base, I.loc, I.cell, I.free, I.freeC, I.pin, I.hok, I.len⟩
theorem SP.unwish {D : Ends} {f : Flow} {s' : Shared} (h : SP (X.wish E) pins D f s') : SP X pins D f s' := by
  cases f with
  | next => obtain ⟨σ', H', I, q⟩ := h; exact ⟨σ', H', I.unwish, q⟩
  | brk => obtain ⟨σ', H', I, q⟩ := h; exact ⟨σ', H', I.unwish, q⟩
  | cont => obtain ⟨σ', H', I, q⟩ := h; exact ⟨σ', H', I.unwish, q⟩
  | ret u => obtain ⟨v, σ', H', I, r, q⟩ := h; exact ⟨v, σ', H', I.unwish, r, q⟩
theorem PSs.nox {st : List Stmt} {t : TS} (h : PSs X.nox st t) : PSs X st t := fun pins s σ H D I hw =>
  wpAny_mono (h pins s σ H D (I.wish _) hw) (fun _ _ q => q.unwish) fun _ _ z => False.elim z
end
/-! ### blocks and small statements -/
section
variable {X : Cx} {st : Stmt} {rest : List Stmt} {t u : TS} {e : Expr} {te : TE} {pos : Pos}
def tNext : TS := fun D σ H => D.nx σ H
def tSeq (t u : TS) : TS := fun D σ H => t { D with nx := u D } σ H
theorem pss_nil : PSs X [] tNext := fun _ _ σ H _ I h => wpAny_execs_nil ⟨σ, H, I, h⟩
theorem pss_cons (h1 : PS X st t) (h2 : PSs X rest u) : PSs X (st :: rest) (tSeq t u) := by
  intro pins s σ H D I h
  refine wpAny_execs_cons (thn (h1 pins s σ H { D with nx := u D } I h) fun f s1 q => ?_)
  cases f with
  | next =>
    obtain ⟨σ', H', I', q⟩ := q
    exact h2 pins s1 σ' H' D I' q
  | ret v => exact q
  | brk => exact q
  | cont => exact q
theorem pss_one (h1 : PS X st t) : PSs X [st] t := by
  intro pins s σ H D I h
  refine wpAny_execs_cons (thn (h1 pins s σ H D I h) fun f s1 q => ?_)
  cases f with
  | next => exact wpAny_execs_nil q
  | ret v => exact q
  | brk => exact q
  | cont => exact q
/-- in a def's body nothing is shown -/
theorem Inv.quiet {pins : List (Addr × Obj)} {σ : St} {H : Hp} {s : Shared} (I : Inv X pins σ H s) : interactive X.env = false := by simp [interactive, I.ok.kind]
/-- an expression whose value is dropped -/
def tDrop (te : TE) : TS := fun D σ H => te σ H fun _ H1 => D.nx σ H1
theorem ps_expr (he : PE X e te) (hs : swapsWith e none pos.line X.env = pure false := by rfl) : PS X (.Expr e pos) (tDrop te) := by
  intro pins s σ H D I h
  exact wpAny_Expr_any (thn (he pins s σ H _ I h) fun v s1 ⟨x, H1, I1, r1, q1⟩ => ⟨σ, H1, I1, q1⟩) I.quiet hs
def tRet (te : TE) : TS := fun D σ H => te σ H D.rt
theorem ps_ret (he : PE X e te) : PS X (.Return (some e) pos) (tRet te) := by
  intro pins s σ H D I h
  exact wpAny_Return_some (thn (he pins s σ H _ I h) fun v s1 ⟨x, H1, I1, r1, q1⟩ => ⟨x, σ, H1, I1, r1, q1⟩)
def tIfS (c : TT) (t u : TS) : TS := fun D σ H => c σ H fun b H1 => if b = true then t D σ H1 else u D σ H1
theorem ps_if {c : Expr} {a b : List Stmt} {tc : TT} (hc : PT X c tc) (ha : PSs X a t) (hb : PSs X b u) : PS X (.If c a b pos) (tIfS tc t u) := by
  intro pins s σ H D I h
  refine wpAny_If (thn (hc pins s σ H _ I h) fun d s1 ⟨H1, I1, q1⟩ => ?_)
  cases d with
  | true => exact ha pins s1 σ H1 D I1 q1
  | false => exact hb pins s1 σ H1 D I1 q1
/-- code that the proof never comes to -/
def tNever : TS := fun _ _ _ => False
theorem pss_never {sts : List Stmt} : PSs X sts tNever := fun _ _ _ _ _ _ h => h.elim
end
/-! ### targets -/
abbrev TG := V → St → Hp → (St → Hp → Prop) → Prop
abbrev TGs := List V → St → Hp → (St → Hp → Prop) → Prop
def PG (X : Cx) (target : Expr) (t : TG) : Prop :=
  ∀ (pins : List (Addr × Obj)) (s : Shared) (σ : St) (H : Hp) (v : V) (u : Value) (Q : St → Hp → Prop), Inv X pins σ H s → RelV v u → t v σ H Q →
    wpAny (model X.prog X.w) X.A (assign target X.env u) (fun _ s' => ∃ σ' H', Inv X pins σ' H' s' ∧ Q σ' H') X.xe s
/-- several targets, one after another -/
def PGs (X : Cx) (ts : List Expr) (t : TGs) : Prop :=
  ∀ (pins : List (Addr × Obj)) (s : Shared) (σ : St) (H : Hp) (vs : List V) (us : List Value) (Q : St → Hp → Prop), Inv X pins σ H s → Vals vs us → t vs σ H Q →
    wpAny (model X.prog X.w) X.A (assignInOrder ((assignEach ts X.env).map (·.2)) us) (fun _ s' => ∃ σ' H', Inv X pins σ' H' s' ∧ Q σ' H') X.xe s
section
variable {X : Cx} {pos : Pos}
def gName (i : Nat) : TG := fun v σ H Q => Q (σ.set i (some v)) H
theorem pg_name {i : Nat} {x : Str} (hN : X.N.Nodup) (hi : X.N[i]? = some x) (hx : Loc X.env.scope x) (hf : X.fn x = true ∨ X.env.scope.names.lookup x = some .local := by first | exact .inl rfl | exact .inr rfl | assumption) : PG X (.Name x pos) (gName i) := by
  intro pins s σ H v u Q I r h
  exact wpAny_assign_Name (store_ok I hN hi hx r (fun s' I' => ⟨_, H, I', h⟩) hf)
def gNil : TGs := fun vs σ H Q => vs = [] ∧ Q σ H
def gCons (t : TG) (u : TGs) : TGs := fun vs σ H Q => ∃ v r, vs = v :: r ∧ t v σ H fun σ' H' => u r σ' H' Q
theorem pgs_nil : PGs X [] gNil := by
  intro pins s σ H vs us Q I r h
  obtain ⟨e, h⟩ := h
  subst e
  cases r
  exact assignInOrder_nil ⟨σ, H, I, h⟩
theorem pgs_cons {e : Expr} {es : List Expr} {t : TG} {u : TGs} (h1 : PG X e t) (h2 : PGs X es u)
    (hs : (assignEach (e :: es) X.env).map (·.2) = assign e X.env :: (assignEach es X.env).map (·.2) := by rfl) : PGs X (e :: es) (gCons t u) := by
  intro pins s σ H vs us Q I r h
  obtain ⟨v, vr, e1, h⟩ := h
  subst e1
  cases r with
  | cons r rr =>
    rw [hs]
    refine assignInOrder_cons (thn (h1 pins s σ H _ _ _ I r h) fun _ s1 ⟨σ1, H1, I1, q1⟩ => ?_)
    exact h2 pins s1 σ1 H1 _ _ Q I1 rr q1
/-- (a, b, ..) = a tuple of that length -/
def gTup (K : PySem.W.Frag) (n : Nat) (t : TGs) : TG := fun v σ H Q => ∃ a xs, v = .ref a ∧ SqT K H a xs ∧ xs.length = n ∧ t xs σ H Q
theorem pg_tup {es : List Expr} {k : Nat} {t : TGs} {n : Nat} (hc : X.calm = true) (h : PGs X es t)
    (hn : (assignEach es X.env).length = n := by rfl) (hst : (assignEach es X.env).findIdx? (·.1) = none := by rfl) : PG X (.Tuple es k pos) (gTup X.K n t) := by
  intro pins s σ H v u Q I r hw
  obtain ⟨a, xs, e1, hq, hl, hw⟩ := hw
  subst e1
  cases r
  obtain ⟨its, rv, ht, hz⟩ := I.tuple hq
  refine assign_Tuple_tuple (I.ok.hd hc) ht (by simp [hn, ← hl, rv.length]) hst fun h' hx => ?_
  have I1 : Inv X pins σ H { s with heap := h' } := I.kept (t' := s.toks) fun b o e => hx b o (Nat.ne_of_lt (Heap.lt_size e)) e
  exact h pins _ σ H xs _ Q I1 (by simpa using rv) hw
/-- target = value -/
def tAsg (te : TE) (g : TG) : TS := fun D σ H => te σ H fun x H1 => g x σ H1 D.nx
/-- name = value -/
theorem ps_set {i : Nat} {x : Str} {e : Expr} {te : TE} {pos' : Pos} (hN : X.N.Nodup) (hi : X.N[i]? = some x) (hx : Loc X.env.scope x) (he : PE X e te) (hs : swapsWith e (some (.Name x pos')) pos.line X.env = pure false := by rfl) (hf : X.fn x = true ∨ X.env.scope.names.lookup x = some .local := by first | exact .inl rfl | exact .inr rfl | assumption) :
    PS X (.Assign [.Name x pos'] e pos) (tAsg te (gName i)) := by
  intro pins s σ H D I h
  refine wpAny_Assign_Name (thn (he pins s σ H _ I h) fun v s1 ⟨y, H1, I1, r1, q1⟩ => ?_) hs
  exact store_ok I1 hN hi hx r1 (fun s2 I2 => ⟨_, H1, I2, q1⟩) hf
end
/-! ### while -/
section
variable {X : Cx} {pos : Pos}
/-- the invariant W with its measure -/
def tWhile (c : TT) (tb : TS) : TS := fun D σ H => ∃ W : Nat → St → Hp → Prop, (∃ m, W m σ H) ∧ ∀ m σ H, W m σ H →
  c σ H fun b H1 => if b = true then ∃ N : St → Hp → Prop, (∀ σ' H', N σ' H' → ∃ m', m' < m ∧ W m' σ' H') ∧ tb { D with nx := N, ct := N, bk := D.nx } σ H1 else D.nx σ H1
theorem ps_while {c : Expr} {body : List Stmt} {tc : TT} {tb : TS} (hp : PassesOwn (model X.prog X.w) X.A X.env X.xe) (hc : PT X c tc) (hb : PSs X body tb) : PS X (.While c body [] pos) (tWhile tc tb) := by
  intro pins s σ H D I h
  obtain ⟨W, ⟨m0, w0⟩, turn⟩ := h
  refine wpAny_While (codeAny_whileLoop (fun n s' => ∃ σ' H', Inv X pins σ' H' s' ∧ W n σ' H') ?_ m0 ⟨σ, H, I, w0⟩)
  rintro n s1 ⟨σ1, H1, I1, w1⟩
  refine wpAny_passesOwn hp (thn (hc pins s1 σ1 H1 _ I1 (turn n σ1 H1 w1)) fun b s2 ⟨H2, I2, q2⟩ => ?_)
  cases b with
  | true =>
    obtain ⟨N, hN, q2⟩ := q2
    rw [if_pos rfl]
    refine wpAny_passesOwn hp (thn (hb pins s2 σ1 H2 _ I2 q2) fun f s3 q3 => ?_)
    cases f with
    | next =>
      obtain ⟨σ3, H3, I3, n3⟩ := q3
      obtain ⟨m', hm, w3⟩ := hN σ3 H3 n3
      exact ⟨m', hm, σ3, H3, I3, w3⟩
    | cont =>
      obtain ⟨σ3, H3, I3, n3⟩ := q3
      obtain ⟨m', hm, w3⟩ := hN σ3 H3 n3
      exact ⟨m', hm, σ3, H3, I3, w3⟩
    | brk => exact q3
    | ret v => exact q3
  | false =>
    rw [if_neg Bool.false_ne_true]
    exact wpAny_execs_nil ⟨σ1, H2, I2, q2⟩
end
/-! ### what a loop or a comprehension walks -/
/-- at turn i: it yields x (the heap may grow), or it stops -/
structure It where
  go : Nat → Hp → Prop
  yld : Nat → Hp → V → Hp → Prop
  stop : Nat → Hp → Prop
/-- the iterator's own objects may turn: they are not the frame's, not pinned, younger than the entry (or a comprehension's own) -/
def FpOk (X : Cx) (pins : List (Addr × Obj)) (H : Hp) (b : Addr) : Prop :=
  H b = none ∧ b ≠ X.env.locals ∧ b ∉ X.fs ∧ (b ∈ X.ex ∨ X.s₀.heap.objs.size ≤ b) ∧ (∀ x c, X.env.cells.lookup x = some c → c ≠ b) ∧ ∀ p ∈ X.pn ++ pins, p.1 ≠ b
theorem Inv.fpOk {X : Cx} {pins : List (Addr × Obj)} {σ : St} {H H' : Hp} {s : Shared} {b : Addr} (I : Inv X pins σ H s) (hb : s.heap.objs.size ≤ b) (hn : H' b = none) : FpOk X pins H' b := by
  refine ⟨hn, Nat.ne_of_gt (Nat.lt_of_lt_of_le I.lt hb), I.nofs hb, .inr (Nat.le_trans I.sz hb), fun x c e z => ?_, fun p hp z => ?_⟩
  · obtain ⟨v, q⟩ := I.cell x c e
    exact absurd (Nat.lt_of_lt_of_le q.lt (by rw [z]; exact hb)) (Nat.lt_irrefl _)
  · exact absurd (Nat.lt_of_lt_of_le (Heap.lt_size (I.pin p hp).1) (by rw [z]; exact hb)) (Nat.lt_irrefl _)
structure Turn (P : Program) (w : World) (K : PySem.W.Frag) (tg : Expr) (J : It) (fp : List Addr) (it : Addr) (tn : Nat → Heap → Prop) : Prop where
  mem : it ∈ fp
  obj : ∀ i h, tn i h → ∀ b ∈ fp, ∃ o, h.get? b = some o ∧ ∀ v, o.data ≠ .cell v
  keep : ∀ i h h', tn i h → (∀ b ∈ fp, ∀ o, h.get? b = some o → h'.get? b = some o) → tn i h'
  item : ∀ (X : Cx), X.prog = P → X.w = w → X.K = K → X.calm = true → ∀ (i : Nat) (pins : List (Addr × Obj)) (s : Shared) (σ : St) (H : Hp) (E : Value → Shared → Prop), Inv X pins σ H s → (∀ b ∈ fp, FpOk X pins H b) → tn i s.heap → J.go i H →
    wpAny (model P w) X.A (pyNext (.ref it)) (fun r s1 => ∃ u, r = some u ∧
      wpAny (model P w) X.A (letOwnedTupleGo tg (.ref it) u) (fun _ s2 => ∃ x H', Inv X pins σ H' s2 ∧ RelV x u ∧ J.yld i H x H' ∧ tn (i + 1) s2.heap ∧ ∀ b ∈ fp, H' b = none) E s1) E s
  done : ∀ (X : Cx), X.prog = P → X.w = w → X.K = K → X.calm = true → ∀ (i : Nat) (pins : List (Addr × Obj)) (s : Shared) (σ : St) (H : Hp) (E : Value → Shared → Prop), Inv X pins σ H s → (∀ b ∈ fp, FpOk X pins H b) → tn i s.heap → J.stop i H →
    wpAny (model P w) X.A (pyNext (.ref it)) (fun r s1 => r = none ∧ Inv X pins σ H s1) E s
  self : ∀ (A : Around) (i : Nat) (s : Shared) (Q : Value → Shared → Prop) (E : Value → Shared → Prop), tn i s.heap → Q (.ref it) s → wpAny (model P w) A (pyIter (.ref it)) Q E s
abbrev TI := St → Hp → (It → Hp → Prop) → Prop
/-- an iterator has come -/
def PIE (X : Cx) (pins : List (Addr × Obj)) (σ : St) (tg : Expr) (R : It → Hp → Prop) (itv : Value) (s2 : Shared) : Prop :=
  ∃ (it : Addr) (fp : List Addr) (tn : Nat → Heap → Prop) (J : It) (H' : Hp), itv = .ref it ∧ Inv X pins σ H' s2 ∧ Turn X.prog X.w X.K tg J fp it tn ∧ tn 0 s2.heap ∧ (∀ b ∈ fp, FpOk X pins H' b) ∧ R J H'
def PI (X : Cx) (tg iter : Expr) (wi : TI) : Prop :=
  ∀ (pins : List (Addr × Obj)) (s : Shared) (σ : St) (H : Hp) (R : It → Hp → Prop), Inv X pins σ H s → wi σ H R →
    wpAny (model X.prog X.w) X.A (eval iter X.env) (fun v s1 => wpAny (model X.prog X.w) X.A (pyIter v) (PIE X pins σ tg R) X.xe s1) X.xe s
/-- the step ahead of the store is nothing for an iterator that keeps no tuple -/
theorem go_of {M : Model} {A : Around} {E : Value → Shared → Prop} {s : Shared} {tg : Expr} {it : Addr} {u : Value} {o : Obj} {n : String} {vs : Array Value} {Q : Unit → Shared → Prop} (ho : s.heap.get? it = some o) (hc : o.cls = .type n) (hd : o.data = .fields vs)
    (hn : ["enumerate", "zip", "dict_itemiterator", "dict_reverseitemiterator", "odict_iterator", "itertools.zip_longest", "itertools.pairwise"].contains n = false) (hQ : Q () s) : wpAny M A (letOwnedTupleGo tg (.ref it) u) Q E s := by
  unfold letOwnedTupleGo
  cases tg <;> first
    | exact wpAny_pure hQ
    | (cases u <;> first
        | exact wpAny_pure hQ
        | (refine wpAny_bind (wpAny_load ho ?_)
           rw [hc, hd]
           show wpAny M A (if (["enumerate", "zip", "dict_itemiterator", "dict_reverseitemiterator", "odict_iterator", "itertools.zip_longest", "itertools.pairwise"].contains n && vs[0]? == some (rawInt _)) = true then _ else _) Q E s
           rw [if_neg (by intro h; rw [hn, Bool.false_and] at h; cases h)]
           exact wpAny_pure hQ))
/-- the list at a, as it stands at each turn (a loop may append to it) -/
def Itl (K : PySem.W.Frag) (a : Addr) : It :=
  ⟨fun i H => ∃ xs x, SqL K H a xs ∧ xs[i]? = some x, fun i H x H' => H' = H ∧ ∀ xs, SqL K H a xs → xs[i]? = some x, fun i H => ∃ xs, SqL K H a xs ∧ xs.length ≤ i⟩
/-- lo, lo + 1, .. (n of them) -/
def Itr (lo : Int) (n : Nat) : It := ⟨fun i _ => i < n, fun i H x H' => H' = H ∧ x = .int (lo + i), fun i _ => n ≤ i⟩
theorem turn_list {P : Program} {w : World} {K : PySem.W.Frag} {tg : Expr} (a it : Addr) : Turn P w K tg (Itl K a) [it] it (fun i h => h.IsListIter it a i) where
  mem := by simp
  obj := fun i h st b hb => by
    have e : b = it := by simpa using hb
    subst e
    obtain ⟨o, e, c, d⟩ := st
    exact ⟨o, e, fun v z => by rw [d] at z; cases z⟩
  keep := fun i h h' st k => st.at fun o e => k it (by simp) o e
  item := by
    intro X hP hw hK hc i pins s σ H E I hf st hg
    subst hP hw hK
    obtain ⟨xs, x, hq, hx⟩ := hg
    obtain ⟨its, rv, p, hz⟩ := I.list hq
    obtain ⟨u, hu, ru⟩ := rv.get hx
    obtain ⟨f0, f1, f2, f3, f4, f5⟩ := hf it (by simp)
    refine wpAny_pyNext_list_item st p.isList (x := u) (by simpa using hu) fun h' st' sb => ?_
    have I1 : Inv X pins σ H { s with heap := h' } := I.turned (t' := s.toks) (fun b o hb e => (sb.2 b hb).trans e) f0 f1 f3 f4 f5
    obtain ⟨o, e, c, d⟩ := id st'
    exact ⟨u, rfl, go_of (s := { s with heap := h' }) e c d (by decide) ⟨x, H, I1, ru, ⟨rfl, fun ys hy => by rw [I.list_inj hy hq]; exact hx⟩, st', fun b hb => (hf b hb).1⟩⟩
  done := by
    intro X hP hw hK hc i pins s σ H E I hf st hg
    subst hP hw hK
    obtain ⟨xs, hq, hx⟩ := hg
    obtain ⟨its, rv, p, hz⟩ := I.list hq
    obtain ⟨f0, f1, f2, f3, f4, f5⟩ := hf it (by simp)
    have hl := rv.length
    exact wpAny_pyNext_list_end (I.ok.hd hc) st p.isList (by simp; omega) fun h' eb => ⟨rfl, I.turned (t' := s.toks) (fun b o hb e => eb b o hb e) f0 f1 f3 f4 f5⟩
  self := fun _ _ _ _ _ st h => wpAny_pyIter_listiter st h
theorem turn_range {P : Program} {w : World} {K : PySem.W.Frag} {tg : Expr} (it : Addr) (lo : Int) (n : Nat) : Turn P w K tg (Itr lo n) [it] it (fun i h => IsRangeIter h it (lo + (i : Nat) * 1) ((n : Int) - (i : Nat)) 1) where
  mem := by simp
  obj := fun i h st b hb => by
    have e : b = it := by simpa using hb
    subst e
    exact ⟨_, st, fun v z => by
      have z' : Data.fields _ = Data.cell v := z
      cases z'⟩
  keep := fun i h h' st k => k it (by simp) _ st
  item := by
    intro X hP hw hK hc i pins s σ H E I hf st hg
    subst hP hw hK
    obtain ⟨f0, f1, f2, f3, f4, f5⟩ := hf it (by simp)
    have W := Walks.range (prog := X.prog) (w := X.w) (I.ok.hd hc) it lo 1 n
    refine W.item i s _ _ hg st fun v h' tk hv st' kk => ?_
    obtain ⟨t, rfl⟩ := hv
    have I1 : Inv X pins σ H { s with heap := h', toks := tk } := I.turned (fun b o hb e => kk b o (by simpa using hb) e) f0 f1 f3 f4 f5
    refine ⟨_, rfl, go_of (s := { s with heap := h', toks := tk }) (n := "range_iterator") st' rfl rfl (by decide) ⟨.int (lo + i), H, I1, ⟨t, ?_⟩, ⟨rfl, rfl⟩, st', fun b hb => (hf b hb).1⟩⟩
    rw [Int.mul_one]
  done := by
    intro X hP hw hK hc i pins s σ H E I hf st hg
    subst hP hw hK
    obtain ⟨f0, f1, f2, f3, f4, f5⟩ := hf it (by simp)
    exact wpAny_pyNext_range_end (I.ok.hd hc) st (by have : n ≤ i := hg; omega) fun h' eb => ⟨rfl, I.turned (t' := s.toks) (fun b o hb e => eb b o hb e) f0 f1 f3 f4 f5⟩
  self := fun _ _ _ _ _ st h => wpAny_pyIter_rangeiter st h
end L2
namespace L2
open PySem PySem.Spec PyProof.Rows
section
variable {X : Cx} {tg : Expr}
def iList (K : PySem.W.Frag) (tl : TE) : TI := fun σ H R => tl σ H fun x H1 => ∃ a, x = .ref a ∧ (∃ xs, SqL K H1 a xs) ∧ R (Itl K a) H1
theorem pi_list {l : Expr} {tl : TE} (hl : PE X l tl) : PI X tg l (iList X.K tl) := by
  intro pins s σ H R I h
  refine thn (hl pins s σ H _ I h) fun v s1 ⟨x, H1, I1, r1, q1⟩ => ?_
  obtain ⟨a, e, ⟨xs, hq⟩, q⟩ := q1
  subst e
  cases r1
  obtain ⟨its, rv, p, hz⟩ := I1.list hq
  refine wpAny_pyIter_list p.isList ?_
  refine ⟨s1.heap.objs.size, [s1.heap.objs.size], _, _, H1, rfl, I1.kept (t' := s1.toks) fun b o e => Heap.get?_push_of_some _ e, turn_list a _, ⟨_, Heap.get?_push_size _ rfl, rfl, rfl⟩, fun b hb => ?_, q⟩
  have e : b = s1.heap.objs.size := by simpa using hb
  subst e
  exact I1.fpOk (Nat.le_refl _) (I1.hok.fresh (Nat.le_refl _))
/-- a range object just made, walked -/
theorem range_it {pins : List (Addr × Obj)} {σ : St} {H : Hp} {s : Shared} {R : It → Hp → Prop} {E : Value → Shared → Prop} {lo hi : Int} {t u v : Tok} {tk : Nat} (I : Inv X pins σ H s) (h1 : -(2 ^ 62) ≤ lo) (h2 : lo < 2 ^ 62) (h3 : -(2 ^ 62) ≤ hi) (h4 : hi < 2 ^ 62)
    (q : R (Itr lo (hi - lo).toNat) H) : wpAny (model X.prog X.w) X.A (pyIter (.ref s.heap.objs.size)) (PIE X pins σ tg R) E { s with heap := s.heap.push { cls := .type "range", data := .fields #[.int lo t, .int hi u, .int 1 v] }, toks := tk } := by
  refine wpAny_pyIter_range (IsRange.new ..) (small_one h1 h2 h3 h4) ?_
  have I1 : Inv X pins σ H { s with heap := s.heap.push { cls := .type "range", data := .fields #[.int lo t, .int hi u, .int 1 v] }, toks := tk } := I.kept fun b o e => Heap.get?_push_of_some _ e
  refine ⟨(s.heap.push { cls := .type "range", data := .fields #[.int lo t, .int hi u, .int 1 v] }).objs.size, [(s.heap.push { cls := .type "range", data := .fields #[.int lo t, .int hi u, .int 1 v] }).objs.size], _, _, H, rfl,
    I1.kept (t' := tk) fun b o e => Heap.get?_push_of_some _ e, turn_range _ lo (hi - lo).toNat, ?_, fun b hb => ?_, q⟩
  · have e1 : lo + ((0 : Nat) : Int) * 1 = lo := by simp
    have e2 : (((hi - lo).toNat : Nat) : Int) - ((0 : Nat) : Int) = Builtin.Range.rangeSize lo hi 1 := by rw [rangeSize_one]; split <;> omega
    show IsRangeIter _ _ (lo + ((0 : Nat) : Int) * 1) ((((hi - lo).toNat : Nat) : Int) - ((0 : Nat) : Int)) 1
    rw [e1, e2]
    exact Heap.get?_push_size _ rfl
  · have e : b = (s.heap.push { cls := .type "range", data := .fields #[.int lo t, .int hi u, .int 1 v] }).objs.size := by simpa using hb
    subst e
    exact I1.fpOk (Nat.le_refl _) (I1.hok.fresh (Nat.le_refl _))
def iRng1 (ta : TA) : TI := fun σ H R => ta σ H fun vs H1 => ∃ j : Int, vs = [.int j] ∧ -(2 ^ 62) ≤ j ∧ j < 2 ^ 62 ∧ R (Itr 0 j.toNat) H1
theorem pi_range1 {a : Expr} {ta : TA} {p pos : Pos} (hg : Gl X "range") (hm : X.mg "range" = none) (ha : PA X [a] ta) (hs : starEach [a] X.env = [(false, eval a X.env)] := by rfl) : PI X tg (.Call (.Name "range" p) [a] [] pos) (iRng1 ta) := by
  intro pins s σ H R I h
  refine Call_ (ld_blt I hg hm boot_range (PyProof.Rows.callWith_type1 (thn (ha pos pins s σ H _ I h) fun us s1 ⟨vs, H1, I1, r1, q1⟩ => ?_) hs rfl))
  obtain ⟨j, e, q1, q2, q⟩ := q1
  subst e
  cases r1 with
  | cons r rr =>
    cases rr
    obtain ⟨t, rfl⟩ := r
    exact call_range_1 (range_it I1 (by omega) (by omega) q1 q2 (by simpa using q))
/-! ### for -/
/-- W: the invariant by the turn and a measure; N: what the body is to reach -/
def tFor (wi : TI) (g : TG) (tb : TS) : TS := fun D σ H => wi σ H fun J H1 => ∃ W : Nat → Nat → St → Hp → Prop, (∃ m, W 0 m σ H1) ∧ ∀ i m σ H, W i m σ H →
  (J.stop i H ∧ D.nx σ H) ∨ (J.go i H ∧ ∃ N : St → Hp → Prop, (∀ σ' H', N σ' H' → ∃ m', m' < m ∧ W (i + 1) m' σ' H') ∧ ∀ x H', J.yld i H x H' → g x σ H' fun σ2 H2 => tb { D with nx := N, ct := N, bk := D.nx } σ2 H2)
/-- the records at fp as they stand -/
def pinsAt (fp : List Addr) (h : Heap) : List (Addr × Obj) := fp.filterMap fun b => (h.get? b).map fun o => (b, o)
theorem mem_pinsAt {fp : List Addr} {h : Heap} {b : Addr} {o : Obj} (hb : b ∈ fp) (e : h.get? b = some o) : (b, o) ∈ pinsAt fp h := List.mem_filterMap.mpr ⟨b, hb, by rw [e]; rfl⟩
theorem of_pinsAt {fp : List Addr} {h : Heap} {p : Addr × Obj} (hp : p ∈ pinsAt fp h) : p.1 ∈ fp ∧ h.get? p.1 = some p.2 := by
  obtain ⟨b, hb, e⟩ := List.mem_filterMap.mp hp
  cases q : h.get? b with
  | none => rw [q] at e; cases e
  | some o =>
    rw [q] at e
    have e' : (b, o) = p := Option.some.inj e
    subst e'
    exact ⟨hb, q⟩
theorem Inv.pinned {pins : List (Addr × Obj)} {σ : St} {H : Hp} {s : Shared} {fp : List Addr} (I : Inv X pins σ H s) (hf : ∀ b ∈ fp, FpOk X pins H b) (ho : ∀ b ∈ fp, ∃ o, s.heap.get? b = some o ∧ ∀ v, o.data ≠ .cell v) : Inv X (pins ++ pinsAt fp s.heap) σ H s :=
  I.pins_of fun p hp => (List.mem_append.mp hp).elim (fun z => I.pin p (List.mem_append_right _ z)) fun z => by
    obtain ⟨hb, e⟩ := of_pinsAt z
    obtain ⟨f0, f1, f2, _⟩ := hf p.1 hb
    obtain ⟨o, e', d⟩ := ho p.1 hb
    rw [e] at e'; cases e'
    exact ⟨e, f0, f1, f2, d⟩
theorem Inv.unpinned {pins pl : List (Addr × Obj)} {σ : St} {H : Hp} {s : Shared} (I : Inv X (pins ++ pl) σ H s) : Inv X pins σ H s := I.pins_of fun p hp => I.pin p (List.mem_append_right _ (List.mem_append_left _ hp))
theorem ps_for {iter : Expr} {body : List Stmt} {wi : TI} {g : TG} {tb : TS} {pos : Pos} (hp : PassesOwn (model X.prog X.w) X.A X.env X.xe) (hc : X.calm = true) (hi : PI X tg iter wi) (hg : PG X tg g) (hb : PSs X body tb)
    (hs : ∀ x, foldedSetIterable iter X.env x = pure x := by intro _; rfl) : PS X (.For tg iter body [] pos) (tFor wi g tb) := by
  intro pins s σ H D I h
  refine wpAny_For (thn (hi pins s σ H _ I h) fun v s1 h1 => thn h1 fun itv s2 h2 => ?_) hs
  obtain ⟨it, fp, tn, J, H2, e, I2, T, st2, f2, W, ⟨m0, w0⟩, turn⟩ := h2
  subst e
  -- what stays true of the iterator's objects through the loop
  have stat : ∀ {H' : Hp}, (∀ b ∈ fp, H' b = none) → ∀ b ∈ fp, FpOk X pins H' b := fun hn b hb => ⟨hn b hb, (f2 b hb).2⟩
  refine codeAny_forLoop_any (fun n s' => ∃ i σ' H', Inv X pins σ' H' s' ∧ tn i s'.heap ∧ (∀ b ∈ fp, H' b = none) ∧ W i n σ' H') ?_ m0 ⟨0, σ, H2, I2, st2, fun b hb => (f2 b hb).1, w0⟩
  rintro n s3 ⟨i, σ3, H3, I3, st3, fr3, w3⟩
  rcases turn i n σ3 H3 w3 with ⟨stop, qn⟩ | ⟨go, N, hN, step⟩
  · refine wpAny_passesOwn hp (thn (T.done X rfl rfl rfl hc i pins s3 σ3 H3 X.xe I3 (stat fr3) st3 stop) fun r s4 ⟨hr, I4⟩ => ?_)
    subst hr
    exact wpAny_execs_nil ⟨σ3, H3, I4, qn⟩
  · refine wpAny_passesOwn hp (thn (T.item X rfl rfl rfl hc i pins s3 σ3 H3 X.xe I3 (stat fr3) st3 go) fun r s4 ⟨u, hr, h4⟩ => ?_)
    subst hr
    refine wpAny_passesOwn hp (thn h4 fun _ s5 ⟨x, H5, I5, r5, y5, st5, fr5⟩ => ?_)
    have I5' := I5.pinned (stat fr5) (T.obj _ _ st5)
    refine wpAny_passesOwn hp (thn (hg _ s5 σ3 H5 x u _ I5' r5 (step x H5 y5)) fun _ s6 ⟨σ6, H6, I6, q6⟩ => ?_)
    refine wpAny_passesOwn hp (thn (hb _ s6 σ6 H6 _ I6 q6) fun f s7 q7 => ?_)
    have again : ∀ {σ7 : St} {H7 : Hp}, Inv X (pins ++ pinsAt fp s5.heap) σ7 H7 s7 → N σ7 H7 → ∃ m, m < n ∧ ∃ i σ' H', Inv X pins σ' H' s7 ∧ tn i s7.heap ∧ (∀ b ∈ fp, H' b = none) ∧ W i m σ' H' := fun {σ7 H7} I7 n7 => by
      obtain ⟨m', hm, w7⟩ := hN σ7 H7 n7
      refine ⟨m', hm, i + 1, σ7, H7, I7.unpinned, T.keep _ _ _ st5 fun b hb o e => (I7.pin (b, o) (List.mem_append_right _ (List.mem_append_right _ (mem_pinsAt hb e)))).1, fun b hb => ?_, w7⟩
      obtain ⟨o, e, d⟩ := T.obj _ _ st5 b hb
      exact (I7.pin (b, o) (List.mem_append_right _ (List.mem_append_right _ (mem_pinsAt hb e)))).2.1
    cases f with
    | next => obtain ⟨σ7, H7, I7, n7⟩ := q7; exact again I7 n7
    | cont => obtain ⟨σ7, H7, I7, n7⟩ := q7; exact again I7 n7
    | brk => obtain ⟨σ7, H7, I7, q7⟩ := q7; exact ⟨σ7, H7, I7.unpinned, q7⟩
    | ret v => obtain ⟨x7, σ7, H7, I7, r7, q7⟩ := q7; exact ⟨x7, σ7, H7, I7.unpinned, r7, q7⟩
end
/-! ### the forms one uses -/
/-- while, by a word and a measure of the state -/
theorem while_by {c : TT} {tb : TS} {D : Ends} {σ : St} {H : Hp} (Pv : St → Hp → Prop) (μ : St → Hp → Nat) (h0 : Pv σ H)
    (hs : ∀ σ H, Pv σ H → c σ H fun b H1 => if b = true then tb { D with nx := fun σ' H' => Pv σ' H' ∧ μ σ' H' < μ σ H, ct := fun σ' H' => Pv σ' H' ∧ μ σ' H' < μ σ H, bk := D.nx } σ H1 else D.nx σ H1)
    (mono : ∀ σ H Q Q', (∀ b H1, Q b H1 → Q' b H1) → c σ H Q → c σ H Q') : tWhile c tb D σ H := by
  refine ⟨fun m σ H => m = μ σ H ∧ Pv σ H, ⟨_, rfl, h0⟩, ?_⟩
  rintro m σ H ⟨rfl, p⟩
  refine mono σ H _ _ (fun b H1 q => ?_) (hs σ H p)
  cases b with
  | true => exact ⟨_, fun σ' H' ⟨p', l⟩ => ⟨_, l, rfl, p'⟩, q⟩
  | false => exact q
end L2
namespace L2
open PySem PySem.Spec PyProof.Rows
abbrev R2 := V → V → Hp → VK → Prop
/-- a two-place operation on values: f is binaryOp op, inplaceOp op or compareOp op -/
def OpR (X : Cx) (f : Value → Value → Sem Value) (r : R2) : Prop :=
  ∀ (pins : List (Addr × Obj)) (s : Shared) (σ : St) (H : Hp) (x y : V) (v u : Value) (Q : VK), Inv X pins σ H s → RelV x v → RelV y u → r x y H Q →
    wpAny (model X.prog X.w) X.A (f v u) (EP X pins σ Q) X.xe s
/-- a one-place operation -/
def UnR (X : Cx) (f : Value → Sem Value) (r : V → Hp → VK → Prop) : Prop :=
  ∀ (pins : List (Addr × Obj)) (s : Shared) (σ : St) (H : Hp) (x : V) (v : Value) (Q : VK), Inv X pins σ H s → RelV x v → r x H Q →
    wpAny (model X.prog X.w) X.A (f v) (EP X pins σ Q) X.xe s
/-- a call of a value that is known (a builtin, a type) with values -/
def CallR (X : Cx) (f : Value) (r : List V → Hp → VK → Prop) : Prop :=
  ∀ (pins : List (Addr × Obj)) (s : Shared) (σ : St) (H : Hp) (xs : List V) (us : List Value) (Q : VK), Inv X pins σ H s → Vals xs us → r xs H Q →
    wpAny (model X.prog X.w) X.A (call f us) (EP X pins σ Q) X.xe s
def tOp (r : R2) (ta tb : TE) : TE := fun σ H Q => ta σ H fun x H1 => tb σ H1 fun y H2 => r x y H2 Q
def tUn (r : V → Hp → VK → Prop) (ta : TE) : TE := fun σ H Q => ta σ H fun x H1 => r x H1 Q
/-- ints in, under C, and a value out -/
def rI (C : Int → Int → Prop) (g : Int → Int → V) : R2 := fun x y H Q => ∃ i j, x = .int i ∧ y = .int j ∧ C i j ∧ Q (g i j) H
def rI0 (g : Int → Int → V) : R2 := fun x y H Q => ∃ i j, x = .int i ∧ y = .int j ∧ Q (g i j) H
def rU (g : Int → V) : V → Hp → VK → Prop := fun x H Q => ∃ i, x = .int i ∧ Q (g i) H
section
variable {X : Cx} {a b c : Expr} {ta tb tc : TE} {pos : Pos}
theorem binT (ha : PE X a ta) (hb : PE X b tb) {pins : List (Addr × Obj)} {s : Shared} {σ : St} {H : Hp} {R : V → V → Hp → Prop} (I : Inv X pins σ H s)
    (h : ta σ H fun x H1 => tb σ H1 fun y H2 => R x y H2) {Q : Value → Shared → Prop} {f : Value → Value → Sem Value}
    (hf : ∀ v u s2 x y H2, Inv X pins σ H2 s2 → RelV x v → RelV y u → R x y H2 → wpAny (model X.prog X.w) X.A (f v u) Q X.xe s2) :
    wpAny (model X.prog X.w) X.A (eval a X.env) (fun v s₁ => wpAny (model X.prog X.w) X.A (eval b X.env) (fun u s₂ => wpAny (model X.prog X.w) X.A (f v u) Q X.xe s₂) X.xe s₁) X.xe s := by
  refine thn (ha pins s σ H _ I h) fun v s1 ⟨x, H1, I1, r1, q1⟩ => ?_
  refine thn (hb pins s1 σ H1 _ I1 q1) fun u s2 ⟨y, H2, I2, r2, q2⟩ => ?_
  exact hf v u s2 x y H2 I2 r1 r2 q2
theorem pe_op {op : Operator} {r : R2} (ho : OpR X (binaryOp op) r) (ha : PE X a ta) (hb : PE X b tb) : PE X (.BinOp a op b pos) (tOp r ta tb) := by
  intro pins s σ H Q I h
  exact wpAny_BinOp (binT ha hb I h fun v u s2 x y H2 I2 rx ry q => ho pins s2 σ H2 x y v u Q I2 rx ry q)
theorem pe_un {op : UnaryOp} {r : V → Hp → VK → Prop} (ho : UnR X (unaryOp op) r) (ha : PE X a ta) : PE X (.UnaryOp op a pos) (tUn r ta) := by
  intro pins s σ H Q I h
  exact UnaryOp_ (thn (ha pins s σ H _ I h) fun v s1 ⟨x, H1, I1, r1, q1⟩ => ho pins s1 σ H1 x v Q I1 r1 q1)
/-! ### ints -/
theorem opI {f : Value → Value → Sem Value} {C : Int → Int → Prop} {g : Int → Int → Int}
    (rule : ∀ (i j : Int) (t u : Tok) (s : Shared) (Q : Value → Shared → Prop) (E : Value → Shared → Prop), C i j → Q (.int (g i j) s.toks) { s with toks := s.toks + 1 } → wpAny (model X.prog X.w) X.A (f (.int i t) (.int j u)) Q E s) :
    OpR X f (rI C fun i j => .int (g i j)) := by
  intro pins s σ H x y v u Q I rx ry h
  obtain ⟨i, j, rfl, rfl, hc, q⟩ := h
  obtain ⟨t, rfl⟩ := rx
  obtain ⟨t', rfl⟩ := ry
  exact rule i j t t' s _ _ hc ⟨.int (g i j), H, I.tok _, ⟨_, rfl⟩, q⟩
theorem opI0 {f : Value → Value → Sem Value} {g : Int → Int → Int}
    (rule : ∀ (i j : Int) (t u : Tok) (s : Shared) (Q : Value → Shared → Prop) (E : Value → Shared → Prop), Q (.int (g i j) s.toks) { s with toks := s.toks + 1 } → wpAny (model X.prog X.w) X.A (f (.int i t) (.int j u)) Q E s) :
    OpR X f (rI0 fun i j => .int (g i j)) := by
  intro pins s σ H x y v u Q I rx ry h
  obtain ⟨i, j, rfl, rfl, q⟩ := h
  obtain ⟨t, rfl⟩ := rx
  obtain ⟨t', rfl⟩ := ry
  exact rule i j t t' s _ _ ⟨.int (g i j), H, I.tok _, ⟨_, rfl⟩, q⟩
theorem opB0 {f : Value → Value → Sem Value} {g : Int → Int → Bool}
    (rule : ∀ (i j : Int) (t u : Tok) (s : Shared) (Q : Value → Shared → Prop) (E : Value → Shared → Prop), Q (.bool (g i j)) s → wpAny (model X.prog X.w) X.A (f (.int i t) (.int j u)) Q E s) :
    OpR X f (rI0 fun i j => .bl (g i j)) := by
  intro pins s σ H x y v u Q I rx ry h
  obtain ⟨i, j, rfl, rfl, q⟩ := h
  obtain ⟨t, rfl⟩ := rx
  obtain ⟨t', rfl⟩ := ry
  exact rule i j t t' s _ _ ⟨.bl (g i j), H, I, rfl, q⟩
def CDiv (i j : Int) : Prop := 0 < j ∧ j < 1073741824
def CPow (i j : Int) : Prop := 0 ≤ j ∧ j ≤ 1000000 ∧ i.natAbs < 2 ^ 64
def CMul (i j : Int) : Prop := (-(2 ^ 64) < i ∧ i < 2 ^ 64) ∨ (-(2 ^ 64) < j ∧ j < 2 ^ 64)
theorem CMul.ok {i j : Int} (h : CMul i j) : IntMulOk i j := by
  rcases h with ⟨h1, h2⟩ | ⟨h1, h2⟩
  · exact .of_left (intBits_le_64 h1 h2)
  · exact .of_right (intBits_le_64 h1 h2)
theorem op_add : OpR X (binaryOp .Add) (rI0 fun i j => .int (i + j)) := opI0 fun _ _ _ _ _ _ _ q => add_int q
theorem op_sub : OpR X (binaryOp .Sub) (rI0 fun i j => .int (i - j)) := opI0 fun _ _ _ _ _ _ _ q => sub_int q
theorem op_mul : OpR X (binaryOp .Mult) (rI CMul fun i j => .int (i * j)) := opI fun _ _ _ _ _ _ _ hc q => mul_int q hc.ok
/-- // by a positive divisor -/
theorem op_fdiv : OpR X (binaryOp .FloorDiv) (rI CDiv fun i j => .int (i / j)) := opI fun i j _ _ _ _ _ hc q => by
  have h1 : (0 : Int) < j := hc.1
  have h2 : j < 1073741824 := hc.2
  exact floordiv_int (by omega) (by rw [Int.fdiv_eq_ediv_of_nonneg i (by omega)]; exact q) (.inl (PyProof.noPylong_small (by omega)))
/-- % by a positive divisor of any size -/
theorem op_mod : OpR X (binaryOp .Mod) (rI (fun _ j => 0 < j) fun i j => .int (i % j)) := opI fun i j _ _ _ _ _ hc q => by
  have h1 : (0 : Int) < j := hc
  exact mod_int' (by omega) (by rw [Int.fmod_eq_emod_of_nonneg i (by omega)]; exact q)
theorem op_pow : OpR X (binaryOp .Pow) (rI CPow fun i j => .int (i ^ j.toNat)) := opI fun _ _ _ _ _ _ _ hc q => pow_int_small hc.1 hc.2.1 hc.2.2 q
theorem unI {f : Value → Sem Value} {g : Int → Int}
    (rule : ∀ (i : Int) (t : Tok) (s : Shared) (Q : Value → Shared → Prop) (E : Value → Shared → Prop), Q (.int (g i) s.toks) { s with toks := s.toks + 1 } → wpAny (model X.prog X.w) X.A (f (.int i t)) Q E s) :
    UnR X f (rU fun i => .int (g i)) := by
  intro pins s σ H x v Q I rx h
  obtain ⟨i, rfl, q⟩ := h
  obtain ⟨t, rfl⟩ := rx
  exact rule i t s _ _ ⟨.int (g i), H, I.tok _, ⟨_, rfl⟩, q⟩
theorem un_neg : UnR X (unaryOp .USub) (rU fun i => .int (-i)) := unI fun _ _ _ _ _ q => neg_int q
/-! ### bools among ints: n += (a < b) -/
end
/-! ### comparisons -/
/-- the scalars that == tells apart as data does -/
def scal : V → V → Bool
  | .non, .non => true | .non, .int _ => true | .int _, .non => true | .non, .bl _ => true | .bl _, .non => true | .non, .str _ => true | .str _, .non => true
  | .int _, .int _ => true | .bl _, .bl _ => true | .str _, .str _ => true | .byt _, .byt _ => true
  | .int _, .str _ => true | .str _, .int _ => true | .bl _, .str _ => true | .str _, .bl _ => true
  | _, _ => false
def rEq : R2 := fun x y H Q => scal x y = true ∧ Q (.bl (decide (x = y))) H
def rNe : R2 := fun x y H Q => scal x y = true ∧ Q (.bl (!decide (x = y))) H
theorem dec_int {i j : Int} : decide (V.int i = V.int j) = (i == j) := by
  rw [Bool.eq_iff_iff]
  simp
theorem dec_bl {i j : Bool} : decide (V.bl i = V.bl j) = (i == j) := by
  rw [Bool.eq_iff_iff]
  simp
theorem dec_str {i j : Str} : decide (V.str i = V.str j) = (i == j) := by
  rw [Bool.eq_iff_iff]
  simp
theorem dec_byt {i j : Array UInt8} : decide (V.byt i = V.byt j) = (i.toList == j.toList) := by
  rw [Bool.eq_iff_iff]
  cases i
  cases j
  simp
section
variable {X : Cx} {a b c : Expr} {ta tb tc : TE} {pos : Pos}
theorem fin_bl {pins : List (Addr × Obj)} {σ : St} {H : Hp} {s : Shared} {Q : VK} {k k' : Bool} (I : Inv X pins σ H s) (q : Q (.bl k) H) (e : k = k') : EP X pins σ Q (.bool k') s := by
  subst e
  exact ⟨.bl k, H, I, rfl, q⟩
theorem op_eq : OpR X (compareOp .Eq) rEq := by
  intro pins s σ H x y v u Q I rx ry h
  obtain ⟨hs, q⟩ := h
  cases x with
  | non =>
    cases rx
    cases y with
    | non => cases ry; exact PySem.EqNone.eq_none_none (fin_bl I q (by simp))
    | bl j => cases ry; exact PySem.EqNone.eq_none_bool (fin_bl I q (by simp))
    | int j => obtain ⟨t', rfl⟩ := ry; exact PySem.EqNone.eq_none_int (fin_bl I q (by simp))
    | str j => obtain ⟨t', rfl⟩ := ry; exact PySem.EqNone.eq_none_str (fin_bl I q (by simp))
    | _ => exact absurd (show false = true from hs) Bool.false_ne_true
  | bl i =>
    cases rx
    cases y with
    | non => cases ry; exact PySem.EqNone.eq_bool_none (fin_bl I q (by simp))
    | bl j => cases ry; exact eq_bool (fin_bl I q dec_bl)
    | str j => obtain ⟨t', rfl⟩ := ry; exact PySem.EqMixed.eq_bool_str (fin_bl I q (by simp))
    | _ => exact absurd (show false = true from hs) Bool.false_ne_true
  | int i =>
    obtain ⟨t, rfl⟩ := rx
    cases y with
    | non => cases ry; exact PySem.EqNone.eq_int_none (fin_bl I q (by simp))
    | int j => obtain ⟨t', rfl⟩ := ry; exact eq_int (fin_bl I q dec_int)
    | str j => obtain ⟨t', rfl⟩ := ry; exact PySem.EqMixed.eq_int_str (fin_bl I q (by simp))
    | _ => exact absurd (show false = true from hs) Bool.false_ne_true
  | str i =>
    obtain ⟨t, rfl⟩ := rx
    cases y with
    | non => cases ry; exact PySem.EqNone.eq_str_none (fin_bl I q (by simp))
    | bl j => cases ry; exact PySem.EqMixed.eq_str_bool (fin_bl I q (by simp))
    | int j => obtain ⟨t', rfl⟩ := ry; exact PySem.EqMixed.eq_str_int (fin_bl I q (by simp))
    | str j => obtain ⟨t', rfl⟩ := ry; exact eq_str (fin_bl I q dec_str)
    | _ => exact absurd (show false = true from hs) Bool.false_ne_true
  | byt i =>
    obtain ⟨t, rfl⟩ := rx
    cases y with
    | byt j => obtain ⟨t', rfl⟩ := ry; exact PySem.W.eq_bytes (fin_bl I q dec_byt)
    | _ => exact absurd (show false = true from hs) Bool.false_ne_true
  | _ => cases y <;> exact absurd (show false = true from hs) Bool.false_ne_true
theorem op_ne : OpR X (compareOp .NotEq) rNe := by
  intro pins s σ H x y v u Q I rx ry h
  obtain ⟨hs, q⟩ := h
  cases x with
  | non =>
    cases rx
    cases y with
    | non => cases ry; exact PySem.EqNone.ne_none_none (fin_bl I q (by simp))
    | bl j => cases ry; exact PySem.EqNone.ne_none_bool (fin_bl I q (by simp))
    | int j => obtain ⟨t', rfl⟩ := ry; exact PySem.EqNone.ne_none_int (fin_bl I q (by simp))
    | str j => obtain ⟨t', rfl⟩ := ry; exact PySem.EqNone.ne_none_str (fin_bl I q (by simp))
    | _ => exact absurd (show false = true from hs) Bool.false_ne_true
  | bl i =>
    cases rx
    cases y with
    | non => cases ry; exact PySem.EqNone.ne_bool_none (fin_bl I q (by simp))
    | bl j => cases ry; exact ne_bool (fin_bl I q (congrArg not dec_bl))
    | str j => obtain ⟨t', rfl⟩ := ry; exact PySem.EqMixed.ne_bool_str (fin_bl I q (by simp))
    | _ => exact absurd (show false = true from hs) Bool.false_ne_true
  | int i =>
    obtain ⟨t, rfl⟩ := rx
    cases y with
    | non => cases ry; exact PySem.EqNone.ne_int_none (fin_bl I q (by simp))
    | int j => obtain ⟨t', rfl⟩ := ry; exact ne_int (fin_bl I q (congrArg not dec_int))
    | str j => obtain ⟨t', rfl⟩ := ry; exact PySem.EqMixed.ne_int_str (fin_bl I q (by simp))
    | _ => exact absurd (show false = true from hs) Bool.false_ne_true
  | str i =>
    obtain ⟨t, rfl⟩ := rx
    cases y with
    | non => cases ry; exact PySem.EqNone.ne_str_none (fin_bl I q (by simp))
    | bl j => cases ry; exact PySem.EqMixed.ne_str_bool (fin_bl I q (by simp))
    | int j => obtain ⟨t', rfl⟩ := ry; exact PySem.EqMixed.ne_str_int (fin_bl I q (by simp))
    | str j => obtain ⟨t', rfl⟩ := ry; exact ne_str (fin_bl I q (congrArg not dec_str))
    | _ => exact absurd (show false = true from hs) Bool.false_ne_true
  | byt i =>
    obtain ⟨t, rfl⟩ := rx
    cases y with
    | byt j => obtain ⟨t', rfl⟩ := ry; exact PySem.W.ne_bytes (fin_bl I q (congrArg not dec_byt))
    | _ => exact absurd (show false = true from hs) Bool.false_ne_true
  | _ => cases y <;> exact absurd (show false = true from hs) Bool.false_ne_true
theorem op_lt : OpR X (compareOp .Lt) (rI0 fun i j => .bl (decide (i < j))) := opB0 fun _ _ _ _ _ _ _ q => lt_int q
theorem op_gt : OpR X (compareOp .Gt) (rI0 fun i j => .bl (decide (j < i))) := opB0 fun _ _ _ _ _ _ _ q => gt_int q
/-- the one string within the other -/
theorem op_in_str : OpR X (compareOp .In) (fun x y H Q => ∃ i j, x = .str i ∧ y = .str j ∧ Q (.bl (!(Builtin.Str.occurrences j i 0 j.length 1).isEmpty)) H) := by
  intro pins s σ H x y v u Q I rx ry h
  obtain ⟨i, j, rfl, rfl, q⟩ := h
  obtain ⟨t, rfl⟩ := rx
  obtain ⟨t', rfl⟩ := ry
  exact in_str (fin_bl I q rfl)
/-- two rules for one operation: by cases -/
theorem OpR.or {f : Value → Value → Sem Value} {r r' : R2} (h : OpR X f r) (h' : OpR X f r') : OpR X f (fun x y H Q => r x y H Q ∨ r' x y H Q) := by
  intro pins s σ H x y v u Q I rx ry q
  rcases q with q | q
  · exact h pins s σ H x y v u Q I rx ry q
  · exact h' pins s σ H x y v u Q I rx ry q
theorem nomark (b : Expr) {op : CmpOp} (h : op ≠ .In := by decide) (h2 : op ≠ .NotIn := by decide) : behindInMarks op b = false := by
  have e1 : (op == CmpOp.In) = false := by cases op <;> first | rfl | exact absurd rfl h
  have e2 : (op == CmpOp.NotIn) = false := by cases op <;> first | rfl | exact absurd rfl h2
  cases b <;> simp [behindInMarks, e1, e2]
/-- a comparison as a value; hm: nomark b, or (for in, not in) by with_unfolding_all rfl -/
theorem pe_cmpR {op : CmpOp} {r : R2} (ho : OpR X (compareOp op) r) (ha : PE X a ta) (hb : PE X b tb) (hm : behindInMarks op b = false) : PE X (.Compare a [op] [b] pos) (tOp r ta tb) := by
  intro pins s σ H Q I h
  exact wpAny_Compare1 (binT ha hb I h fun v u s2 x y H2 I2 rx ry q => ho pins s2 σ H2 x y v u Q I2 rx ry q) hm
/-- a reading of a value as a test -/
def tTest (t : TE) : TT := fun σ H Q => t σ H fun x H' => ∃ k, x = .bl k ∧ Q k H'
theorem pt_cmpR {op : CmpOp} {r : R2} (ho : OpR X (compareOp op) r) (ha : PE X a ta) (hb : PE X b tb) (hm : behindInMarks op b = false) : PT X (.Compare a [op] [b] pos) (tTest (tOp r ta tb)) := by
  intro pins s σ H Q I h
  refine wpAny_isTrue_Compare1 (thn (ha pins s σ H _ I h) fun v s1 ⟨x, H1, I1, r1, q1⟩ => thn (hb pins s1 σ H1 _ I1 q1) fun u s2 ⟨y, H2, I2, r2, q2⟩ =>
    thn (ho pins s2 σ H2 x y v u _ I2 r1 r2 q2) fun c s3 ⟨z, H3, I3, r3, k, e, q3⟩ => ?_) hm
  subst e
  cases r3
  exact wpAny_truthy_bool ⟨H3, I3, q3⟩
/-! ### truth -/
theorem line63 : (sizeLine : Nat) < 2 ^ 63 := by rw [sizeLine_eq]; decide
/-! ### strs and bytes -/
theorem op_add_str : OpR X (binaryOp .Add) (fun x y H Q => ∃ i j, x = .str i ∧ y = .str j ∧ i.length + j.length ≤ sizeLine ∧ Q (.str (i ++ j)) H) := by
  intro pins s σ H x y v u Q I rx ry h
  obtain ⟨i, j, rfl, rfl, hz, q⟩ := h
  obtain ⟨t, rfl⟩ := rx
  obtain ⟨t', rfl⟩ := ry
  exact add_str (fun t' tk => ⟨.str (i ++ j), H, I.tok _, ⟨_, rfl⟩, q⟩) hz
/-! ### scalar builtins, by CallR -/
theorem vals1 {x : V} {us : List Value} (r : Vals [x] us) : ∃ u, us = [u] ∧ RelV x u := by
  cases r with
  | cons r1 r2 => cases r2; exact ⟨_, rfl, r1⟩
theorem vals2 {x y : V} {us : List Value} (r : Vals [x, y] us) : ∃ u w', us = [u, w'] ∧ RelV x u ∧ RelV y w' := by
  cases r with
  | cons r1 r2 =>
    cases r2 with
    | cons r3 r4 => cases r4; exact ⟨_, _, rfl, r1, r3⟩
theorem call_abs : CallR X (.builtin "abs") (fun xs H Q => ∃ i, xs = [.int i] ∧ Q (.int (if i < 0 then -i else i)) H) := by
  intro pins s σ H xs us Q I r h
  obtain ⟨i, rfl, q⟩ := h
  obtain ⟨u, rfl, t, rfl⟩ := vals1 r
  exact call_abs_int fun u tk => ⟨.int (if i < 0 then -i else i), H, I.tok _, ⟨_, rfl⟩, q⟩
/-- len of a str, a bytes, a list, a tuple -/
def LenV (K : PySem.W.Frag) (x : V) (H : Hp) (n : Nat) : Prop :=
  match x with
  | .str y => y.length ≤ sizeLine ∧ n = y.length
  | .byt y => y.size ≤ sizeLine ∧ n = y.size
  | .ref p => (∃ xs, SqL K H p xs ∧ n = xs.length) ∨ ∃ xs, SqT K H p xs ∧ n = xs.length
  | _ => False
theorem call_len : CallR X (.builtin "len") (fun xs H Q => ∃ x n, xs = [x] ∧ LenV X.K x H n ∧ Q (.int n) H) := by
  intro pins s σ H xs us Q I r h
  obtain ⟨x, n, rfl, e, q⟩ := h
  obtain ⟨u, rfl, rx⟩ := vals1 r
  have hl := line63
  have hs : sizeLine = 16777216 := sizeLine_eq
  cases x with
  | str y =>
    obtain ⟨t, rfl⟩ := rx
    obtain ⟨hy, e'⟩ : y.length ≤ sizeLine ∧ n = y.length := e
    subst e'
    exact len_str (by omega) ⟨.int _, H, I.tok _, ⟨_, rfl⟩, q⟩
  | byt y =>
    obtain ⟨t, rfl⟩ := rx
    obtain ⟨hy, e'⟩ : y.size ≤ sizeLine ∧ n = y.size := e
    subst e'
    exact PySem.W.len_bytes (by omega) ⟨.int _, H, I.tok _, ⟨_, rfl⟩, q⟩
  | ref p =>
    cases rx
    have e' : (∃ xs, SqL X.K H p xs ∧ n = xs.length) ∨ ∃ xs, SqT X.K H p xs ∧ n = xs.length := e
    rcases e' with ⟨xs, hx, e'⟩ | ⟨xs, hx, e'⟩
    · subst e'
      obtain ⟨its, r', pl, hz⟩ := I.list hx
      have hlen := r'.length
      exact Calls.call_len_list pl.isList (by simp only [List.size_toArray]; omega) ⟨.int xs.length, H, I.tok _, ⟨_, by simp only [List.size_toArray]; rw [hlen]⟩, q⟩
    · subst e'
      obtain ⟨its, r', pl, hz⟩ := I.tuple hx
      have hlen := r'.length
      exact len_tuple pl (by simp only [List.size_toArray]; omega) ⟨.int xs.length, H, I.tok _, ⟨_, by simp only [List.size_toArray]; rw [hlen]⟩, q⟩
  | _ => exact (show False from e).elim
end
end L2
namespace L2
open PySem PySem.Spec PyProof.Rows
/-! ### an instance, its attributes a map -/
structure ObjM (h : Heap) (x dx C : Addr) (mA : Str → Option Value) : Prop where
  obj : h.get? x = some (PySem.W.instObj C dx)
  ns : h.Ns1 dx mA
  ne : dx ≠ x
theorem lookIn_ns {h : Heap} {dx : Addr} {mA : Str → Option Value} (n : h.Ns1 dx mA) : ∃ od, h.get? dx = some od ∧ ∀ name, PySem.W.lookIn name od = some (mA name) := by
  obtain ⟨o, es, ep, ho, hd, hk, _, hm⟩ := n
  refine ⟨o, ho, fun name => ?_⟩
  have e := hm name
  unfold nsFind findBy at e
  rw [← Array.find?_toList] at e
  unfold PySem.W.lookIn
  rw [hd]
  dsimp only
  split
  · rename_i y q
    rw [q] at e
    exact congrArg some e
  · rename_i q
    rw [q] at e
    have a : es.toList.any (·.refKey) = false := by
      rw [List.any_eq_false]
      intro y hy
      obtain ⟨z, t, hkey⟩ := hk y (Array.mem_toList_iff.mp hy)
      simp [DictEntry.refKey, hkey]
    have a' : ¬ es.toList.any (·.refKey) = true := by rw [a]; exact Bool.false_ne_true
    rw [if_neg a']
    exact congrArg some e
theorem ObjM.look {h : Heap} {x dx C : Addr} {mA : Str → Option Value} (I : ObjM h x dx C mA) : ∃ od, PySem.W.InstAt h x (PySem.W.instObj C dx) C (some od) ∧ ∀ name, PySem.W.lookIn name od = some (mA name) :=
  let ⟨od, ho, hl⟩ := lookIn_ns I.ns
  ⟨od, ⟨I.obj, rfl, rfl, ho⟩, hl⟩
section
variable {prog : Program} {w : World} {A : Around} {E : Value → Shared → Prop} {s : Shared} {K : PySem.W.Frag} {x dx C f : Addr} {mA : Str → Option Value} {name : Str} {v : Value}
end
/-! ### the attributes as a list of pairs -/
section
variable {P : Program} {w : World} {H H' : Hp} {h h' : Heap} {a C dx : Addr} {fs fs' : List (Str × V)}
theorem ins_get (hok : HOk P w H h) (e : H a = some (.ins C dx fs)) : ∃ mA, ObjM h a dx C mA ∧ (∀ f, RelO (fs.lookup f) (mA f)) ∧ PySem.Within mA (fs.map (·.1)) ∧ fs.length ≤ 1000 ∧ H dx = some (.own a) := by
  obtain ⟨d, z, ne, ob, mA, n, r, q⟩ := (show ObjOk P w H h a (.ins C dx fs) from hok a _ e)
  exact ⟨mA, ⟨ob, n, ne⟩, r, q, z, d⟩
end
/-! ### what of the text a class must have -/
structure Cls (K : PySem.W.Frag) (C : Addr) : Prop where
  pg : PySem.W.plainGet K C Str.empty = true
  hd : PySem.W.hasDictIn K C = true
  po : PySem.W.plainOver K C = true
  sa : PySem.W.findIn K (.ref C) "__setattr__" = some (some (.builtin "object.__setattr__"))
theorem Cls.get {K : PySem.W.Frag} {C : Addr} (c : Cls K C) (f : Str) : PySem.W.plainGet K C f = true := c.pg
section
variable {X : Cx} {pins : List (Addr × Obj)} {σ : St} {H : Hp} {s : Shared} {a C dx : Addr} {fs : List (Str × V)} {f : Str} {v : V} {A : Around} {E : Value → Shared → Prop}
end
/-! ### readings and rules -/
section
variable {X : Cx} {o e value : Expr} {f : Str} {pos pos' tpos : Pos} {ta tv : TE}
end
/-! ### isinstance -/
section
variable {X : Cx} {pins : List (Addr × Obj)} {σ : St} {H : Hp} {s : Shared} {A : Around} {E : Value → Shared → Prop} {Q : Value → Shared → Prop} {c : Value} {b : Bool}
/-- the type of a value, as the fragment's deciders take it; for an instance its class -/
inductive TyOf (K : PySem.W.Frag) (H : Hp) : V → Value → Prop where
  | non : TyOf K H .non (.type "NoneType")
  | bl (x : Bool) : TyOf K H (.bl x) (.type "bool")
  | int (i : Int) : TyOf K H (.int i) (.type "int")
  | str (x : Str) : TyOf K H (.str x) (.type "str")
  | flt (x : UInt64) : TyOf K H (.flt x) (.type "float")
  | lst {a : Addr} {xs : List V} (e : H a = some (.lst xs)) : TyOf K H (.ref a) (.type "list")
  | frz {a : Addr} {o : Obj} {xs : List V} (e : H a = some (.frz o (.lst xs))) : TyOf K H (.ref a) (.type "list")
  | tup {a : Addr} {xs : List V} (e : H a = some (.tup xs)) : TyOf K H (.ref a) (.type "tuple")
  | dK {a : Addr} {kvs : List (Key × V)} (e : H a = some (.dK kvs)) : TyOf K H (.ref a) (.type "dict")
  | dT {a : Addr} {kvs : List (List Key × V)} (e : H a = some (.dT kvs)) : TyOf K H (.ref a) (.type "dict")
  | ins {a C dx : Addr} {fs : List (Str × V)} (e : H a = some (.ins C dx fs)) (cl : Cls K C) (ha : PySem.W.findIn K (.ref C) "__class__" = some (some (.builtin "object.__class__")))
      (hn : PySem.W.specialIn K (.builtin "object.__class__") "__get__" = some (some (.builtin "getset_descriptor.__get__"))) (htk : PySem.W.takesIn K (.builtin "object.__class__") = some true)
      (hm : PySem.W.mroIn K C (.type "object") = some true) : TyOf K H (.ref a) (.ref C)
/-- isinstance(x, c) for one class c, a built-in or an own one: kitOne's answer -/
theorem isinst_ok {x : V} {u t : Value} (I : Inv X pins σ H s) (rx : RelV x u) (ty : TyOf X.K H x t) (e : PySem.W.kitOne X.K t c = some b) (h : ∀ tk, Q (.bool b) { s with toks := tk }) :
    wpAny (model X.prog X.w) A (call (.builtin "isinstance") [u, c]) Q E s := by
  cases ty with
  | non => cases (show u = Value.none from rx); exact PySem.W.kia_one PySem.W.kitx_none I.kIn True.intro e (fun z => nomatch z) h
  | bl y => cases (show u = Value.bool y from rx); exact PySem.W.kia_one PySem.W.kitx_bool I.kIn True.intro e (fun z => nomatch z) h
  | int i => obtain ⟨t, q⟩ := (show ∃ t, u = Value.int i t from rx); cases q; exact PySem.W.kia_one PySem.W.kitx_int I.kIn True.intro e (fun z => nomatch z) h
  | str y => obtain ⟨t, q⟩ := (show ∃ t, u = Value.str y t from rx); cases q; exact PySem.W.kia_one PySem.W.kitx_str I.kIn True.intro e (fun z => nomatch z) h
  | flt y => obtain ⟨t, q⟩ := (show ∃ t, u = Value.float y t from rx); cases q; exact PySem.W.kia_one PySem.W.kitx_float I.kIn True.intro e (fun z => nomatch z) h
  | @lst a xs ea =>
    cases (show u = Value.ref a from rx)
    obtain ⟨_, _, n, _, h1⟩ := (show ObjOk X.prog X.w H s.heap a (.lst xs) from I.hok a _ ea)
    exact PySem.W.kia_one PySem.W.kitx_list I.kIn ⟨_, h1, rfl⟩ e (fun z => nomatch z) h
  | @frz a ob xs ea =>
    cases (show u = Value.ref a from rx)
    obtain ⟨_, _, _, n, _, h1⟩ := (show ObjOk X.prog X.w H s.heap a (.frz ob (.lst xs)) from I.hok a _ ea)
    exact PySem.W.kia_one PySem.W.kitx_list I.kIn ⟨_, h1, rfl⟩ e (fun z => nomatch z) h
  | @tup a xs ea =>
    cases (show u = Value.ref a from rx)
    obtain ⟨_, _, _, p⟩ := (show ObjOk X.prog X.w H s.heap a (.tup xs) from I.hok a _ ea)
    obtain ⟨o, h1, h2, _⟩ := p
    exact PySem.W.kia_one PySem.W.kitx_tuple I.kIn ⟨o, h1, h2⟩ e (fun z => nomatch z) h
  | @dK a kvs ea =>
    cases (show u = Value.ref a from rx)
    obtain ⟨_, _, vs, _, p⟩ := (show ObjOk X.prog X.w H s.heap a (.dK kvs) from I.hok a _ ea)
    obtain ⟨o, es, ep, h1, h2, _⟩ := p
    exact PySem.W.kia_one PySem.W.kitx_dict I.kIn ⟨o, h1, h2.1⟩ e (fun z => nomatch z) h
  | @dT a kvs ea =>
    cases (show u = Value.ref a from rx)
    obtain ⟨_, _, xs, _, o, es, ep, h1, h2, _⟩ := (show ObjOk X.prog X.w H s.heap a (.dT kvs) from I.hok a _ ea)
    exact PySem.W.kia_one PySem.W.kitx_dict I.kIn ⟨o, h1, h2.1⟩ e (fun z => nomatch z) h
  | @ins a C dx fs ea cl ha hn htk hm =>
    cases (show u = Value.ref a from rx)
    obtain ⟨mA, O, _⟩ := ins_get I.hok ea
    obtain ⟨od, J, _⟩ := O.look
    exact PySem.W.kia_one (PySem.W.kitx_own (cl.get _) cl.hd ha hn htk hm) I.kIn J e (fun z => nomatch z) h
end
end L2
namespace L2
open PySem PySem.Spec PyProof.Rows
/-! ### room -/
structure Room (k : Nat) (A : Around) : Prop where
  hd : A.handled = none
  dp : A.depth + 3 * k + 5 < recursionLimit
  un : A.units + 16 * k + 200 < cLine
theorem Room.mono {j k : Nat} {A : Around} (r : Room k A) (h : j ≤ k) : Room j A := ⟨r.hd, by have := r.dp; omega, by have := r.un; omega⟩
theorem Room.deeper {k : Nat} {A : Around} (r : Room (k + 1) A) (env : Env) : Room k (A.deeper env) :=
  ⟨r.hd, by have := r.dp; show A.depth + 1 + 3 * k + 5 < _; omega, by have := r.un; show A.units + 3 + 16 * k + 200 < _; omega⟩
theorem Room.depth {k : Nat} {A : Around} (r : Room k A) : A.depth < recursionLimit := by have := r.dp; omega
theorem Room.units {k : Nat} {A : Around} (r : Room k A) : A.units + 64 < cLine := by have := r.un; omega
/-! ### argument lists and displays -/
def tNil : TA := fun _ H Q => Q [] H
def tCons (ta : TE) (tr : TA) : TA := fun σ H Q => ta σ H fun x H1 => tr σ H1 fun xs H2 => Q (x :: xs) H2
section
variable {X : Cx} {e : Expr} {es : List Expr} {te : TE} {t : TA} {pos : Pos}
theorem pa_nil : PA X [] tNil := fun _ _ _ _ H Q I h => Calls.spliced_nil ⟨[], H, I, .nil, h⟩
theorem pa_cons (ha : PE X e te) (hr : PA X es t) (hs : starEach (e :: es) X.env = (false, eval e X.env) :: starEach es X.env := by rfl) : PA X (e :: es) (tCons te t) := by
  intro pos pins s σ H Q I h
  rw [hs]
  show wpAny _ _ (spliced ((false, eval e X.env) :: backTo pos (starEach es X.env))) _ _ s
  refine Calls.spliced_cons (thn (ha pins s σ H _ I h) fun u s1 ⟨x, H1, I1, r1, q1⟩ => ?_)
  exact thn (hr pos pins s1 σ H1 _ I1 q1) fun us s2 ⟨xs, H2, I2, r2, q2⟩ => ⟨x :: xs, H2, I2, .cons r1 r2, q2⟩
/-- a tuple, a list of written items -/
def tTup (t : TA) : TE := fun σ H Q => t σ H fun xs H1 => xs.length ≤ sizeLine ∧ ∀ p, H1 p = none → Q (.ref p) (upd H1 p (.tup xs))
def tLst (t : TA) : TE := fun σ H Q => t σ H fun xs H1 => xs.length ≤ sizeLine ∧ ∀ p, H1 p = none → Q (.ref p) (upd H1 p (.lst xs))
theorem pe_tup {x1} (h : PA X es t) : PE X (.Tuple es x1 pos) (tTup t) := by
  intro pins s σ H Q I hq
  refine wpAny_Tuple_spliced (thn (h pos pins s σ H _ I hq) fun us s1 ⟨xs, H1, I1, r, z, q⟩ => ⟨by rw [← r.length]; exact z, ?_⟩)
  have hf : H1 s1.heap.objs.size = none := I1.hok.fresh (Nat.le_refl _)
  refine ⟨.ref s1.heap.objs.size, upd H1 s1.heap.objs.size (.tup xs), I1.laid (t' := s1.toks) (fun b u e => Heap.get?_push_of_some _ e) (Nat.le_refl _) ?_, rfl, q _ hf⟩
  exact ⟨z, us, r, ⟨_, Heap.get?_push_size _ rfl, rfl, _, rfl⟩⟩
theorem pe_lst (h : PA X es t) : PE X (.List es pos) (tLst t) := by
  intro pins s σ H Q I hq
  refine wpAny_List_spliced (thn (h pos pins s σ H _ I hq) fun us s1 ⟨xs, H1, I1, r, z, q⟩ => ⟨by rw [← r.length]; exact z, ?_⟩)
  have hf : H1 s1.heap.objs.size = none := I1.hok.fresh (Nat.le_refl _)
  refine ⟨.ref s1.heap.objs.size, upd H1 s1.heap.objs.size (.lst xs), I1.laid (t' := s1.toks) (fun b u e => Heap.get?_push_of_some _ e) (Nat.le_refl _) ?_, rfl, q _ hf⟩
  exact ⟨z, us, 0, r, Heap.get?_push_size _ rfl⟩
end
/-! ### what a def promises -/
/-- a def's promise: the bound arguments in the parameters' order, the heap, the wanted end, the wanted exception -/
abbrev Sp := List V → Hp → VK → XK → Prop
/-- how an exception lies behind a call (file 08 gives it): the callers' frames, abstract heap and state ahead of the call, the wish, the exception, the state -/
abbrev CXT := List Env → Hp → Shared → XK → Value → Shared → Prop
/-- the state at a call -/
structure Env0 (P : Program) (w : World) (K : PySem.W.Frag) (mg : Str → Option Value) (base : Heap) (A : Around) (outer : List Env) (s : Shared) (H : Hp) : Prop where
  frames : A.frames = some outer
  mod : Mod K mg base
  bs : ∀ b o, base.get? b = some o → s.heap.get? b = some o ∧ H b = none
  bsz : base.objs.size ≤ s.heap.objs.size
  funs : s.heap.FunFrames base outer
  frf : ∀ b ∈ frs outer, H b = none
  hok : HOk P w H s.heap
  bare : AllBare s.gens
/-- a call's end -/
def CE (outer : List Env) (P : Program) (w : World) (H : Hp) (s : Shared) (Q : VK) (u : Value) (s' : Shared) : Prop :=
  ∃ v H', s'.os = s.os ∧ AllBare s'.gens ∧ Un (frs outer) [] H H' s.heap s'.heap ∧ HOk P w H' s'.heap ∧ RelV v u ∧ Q v H'
def CR (CX : CXT) (outer : List Env) (P : Program) (w : World) (H : Hp) (s : Shared) (Q : VK) (E : XK) (r : Result) (s' : Shared) : Prop :=
  match r with
  | .ok (.ret u) => CE outer P w H s Q u s'
  | .ok _ => False
  | .error e => CX outer H s E e s'
structure FnOk (P : Program) (w : World) (K : PySem.W.Frag) (mg : Str → Option Value) (base : Heap) (CX : CXT) (k : Nat) (f : Addr) (fd : FuncData) (ps : List Str) (sp : Sp) : Prop where
  len : ∀ vs H Q E, sp vs H Q E → vs.length = ps.length
  run : ∀ (A : Around) (outer : List Env) (s : Shared) (H : Hp) (args : Args) (us : List Value) (vs : List V) (Q : VK) (E : XK), Room k A → Env0 P w K mg base A outer s H → BindsTo s fd args (ps.zip us) → Vals vs us → sp vs H Q E →
    codeAny (model P w) A (.call (.ref f) args) (CR CX outer P w H s Q E) s
theorem FnOk.mono {P : Program} {w : World} {K : PySem.W.Frag} {mg : Str → Option Value} {base : Heap} {CX : CXT} {j k : Nat} {f : Addr} {fd : FuncData} {ps : List Str} {sp : Sp} (F : FnOk P w K mg base CX j f fd ps sp) (h : j ≤ k) :
    FnOk P w K mg base CX k f fd ps sp := ⟨F.len, fun A outer s H args us vs Q E hr => F.run A outer s H args us vs Q E (hr.mono h)⟩
section
variable {X : Cx} {pins : List (Addr × Obj)} {σ : St} {H : Hp} {s s' : Shared}
/-- from a body: what a callee wants -/
theorem Inv.env0 (I : Inv X pins σ H s) : Env0 X.prog X.w X.K X.mg X.base X.A X.stack s H :=
  ⟨I.ok.frames, I.ok.mod, I.bs, Nat.le_trans I.ok.bsz I.sz, I.stack, I.stkFree, I.hok, I.bare⟩
/-- behind a call -/
theorem Inv.after {Q : VK} {u : Value} (I : Inv X pins σ H s) (h : CE X.stack X.prog X.w H s Q u s') : EP X pins σ Q u s' := by
  obtain ⟨v, H', os, bare, un, hok, r, q⟩ := h
  obtain ⟨hh, g, d, t, os'⟩ := s'
  obtain rfl : os' = s.os := os
  exact ⟨v, H', I.call (h' := hh) (g' := g) (d' := d) (t' := t) (ch := []) un hok bare (fun b z => absurd z (by simp)), r, q⟩
end
/-! ### calls -/
/-- f(..): the written arguments, then the defaults dvs; E: what is wanted of an exception -/
def tCall (sp : Sp) (dvs : List V) (E : XK) (t : TA) : TE := fun σ H Q => t σ H fun vs H1 => sp (vs ++ dvs) H1 Q E
/-- how the parameters are bound: us the positional arguments, kw the keywords' values by name, ds the defaults that fill up -/
def Binds (K : PySem.W.Frag) (fd : FuncData) (ps : List Str) (ds : List Value) : Prop :=
  ∀ (s : Shared) (us : List Value), K.In s.heap → (us ++ ds).length = ps.length → BindsTo s fd ⟨us, []⟩ (ps.zip (us ++ ds))
/-- every parameter is given -/
theorem Binds.all {K : PySem.W.Frag} {fd : FuncData} {ps : List Str} (h : ∀ us : List Value, us.length = ps.length → bindArgs fd ⟨us, []⟩ = pure (ps.zip us)) : Binds K fd ps [] := fun s us _ hl => by
  rw [List.append_nil] at hl ⊢
  exact .of_eq (h us hl)
/-- an exception of a callee reaches what this body wants of exceptions -/
def Passes (CX : CXT) (X : Cx) (E : XK) : Prop := ∀ (pins : List (Addr × Obj)) (σ : St) (H : Hp) (s : Shared) (e : Value) (s' : Shared), Inv X pins σ H s → CX X.stack H s E e s' → X.xe e s'
section
variable {X : Cx} {CX : CXT} {k : Nat} {f C : Addr} {fd : FuncData} {ps : List Str} {sp : Sp} {dvs : List V} {ds : List Value} {E : XK} {x m : Str} {p pos apos : Pos} {e o : Expr} {es : List Expr} {ta : TE} {t : TA}
/-- the callee runs -/
theorem run_fn {pins : List (Addr × Obj)} {σ : St} {H : Hp} {s : Shared} {Q : VK} {us : List Value} {vs : List V} (F : FnOk X.prog X.w X.K X.mg X.base CX k f fd ps sp) (hr : Room k X.A) (hb : Binds X.K fd ps ds) (hd : Vals dvs ds) (hx : Passes CX X E)
    (I : Inv X pins σ H s) (r : Vals vs us) (h : sp (vs ++ dvs) H Q E) : wpAny (model X.prog X.w) X.A (call (.ref f) us) (EP X pins σ Q) X.xe s := by
  have r2 : Vals (vs ++ dvs) (us ++ ds) := r.append hd
  have hl : (us ++ ds).length = ps.length := by rw [← r2.length]; exact F.len _ _ _ _ h
  refine wpAny_call (codeAny_mono (F.run X.A X.stack s H ⟨us, []⟩ (us ++ ds) (vs ++ dvs) Q E hr I.env0 (hb s us I.kIn hl) r2 h) fun r s' hq => ?_)
  cases r with
  | error e => exact hx pins σ H s e s' I hq
  | ok fl =>
    cases fl with
    | ret u => exact I.after hq
    | next => exact False.elim hq
    | brk => exact False.elim hq
    | cont => exact False.elim hq
theorem pe_call (F : FnOk X.prog X.w X.K X.mg X.base CX k f fd ps sp) (hr : Room k X.A) (hg : Gl X x) (hm : X.mg x = some (.ref f)) (hk : PySem.W.keepIn X.K (.ref f) = true) (hb : Binds X.K fd ps ds) (hd : Vals dvs ds) (hx : Passes CX X E)
    (ha : PA X (e :: es) t) (hdb : (x == ("__debug__" : Str)) = false := by decide) (he : starEach (e :: es) X.env = (false, eval e X.env) :: starEach es X.env := by rfl) (hpl : (backTo pos (starEach es X.env)).any (·.1) = false := by rfl) :
    PE X (.Call (.Name x p) (e :: es) [] pos) (tCall sp dvs E t) := by
  intro pins s σ H Q I h
  refine wpAny_Call_Name_kw (ld_glob I hg hm ?_ hdb)
  refine PySem.W.callWith_K (h₀ := X.base) I.ok.mod.kin hk (thn (ha pos pins s σ H _ I h) fun us s1 ⟨vs, H1, I1, r, q⟩ => ⟨I1.kIn, ?_⟩) he hpl
  exact run_fn F hr hb hd hx I1 r q
end
/-! ### keywords -/
section
variable {X : Cx} {CX : CXT} {k : Nat} {f C : Addr} {fd : FuncData} {ps ks : List Str} {sp : Sp} {E : XK} {x m : Str} {p pos apos kpos : Pos} {e o : Expr} {es : List Expr} {kws : List Keyword} {te ta : TE} {t tk : TA} {nm : Option Str}
variable {g : List Value → List Value → List Value} {gV : List V → List V → List V}
end
/-! ### a def's body keeps its promise -/
/-- names: the parameters first -/
structure FnScope (N P : List Str) (sc : Scope) : Prop where
  kind : sc.kind = .function
  co : sc.isCoroutine = false
  gen : sc.isGenerator = false
  nd : N.Nodup
  pre : N.take P.length = P
  par : ∀ x ∈ P, sc.names.lookup x = some .local ∨ sc.names.lookup x = some .cell
  nofree : ∀ y ∈ sc.names, y.2 ≠ .free
theorem bindL_out {kindOf : Str → Option NameKind} {x : Str} : ∀ {binds : List (Str × Value)} {m : Str → Option Value}, (∀ v, (x, v) ∉ binds) → bindL kindOf binds m x = m x
  | [], _, _ => rfl
  | (n, v) :: r, m, h => by
    unfold bindL
    rw [bindL_out fun w hw => h w (List.mem_cons_of_mem _ hw)]
    split
    · have : x ≠ n := by rintro rfl; exact h v List.mem_cons_self
      simp [this]
    · rfl
theorem bindC_out {kindOf : Str → Option NameKind} {x : Str} : ∀ {binds : List (Str × Value)} {m : Str → Option Value}, (∀ v, (x, v) ∉ binds) → bindC kindOf binds m x = m x
  | [], _, _ => rfl
  | (n, v) :: r, m, h => by
    unfold bindC
    rw [bindC_out fun w hw => h w (List.mem_cons_of_mem _ hw)]
    split
    · rfl
    · have : x ≠ n := by rintro rfl; exact h v List.mem_cons_self
      simp [this]
theorem bindL_get {kindOf : Str → Option NameKind} {x : Str} {v : Value} : ∀ {P : List Str} {vs : List Value} {i : Nat} {m : Str → Option Value}, P.Nodup → P[i]? = some x → vs[i]? = some v → kindOf x = some .local →
    bindL kindOf (P.zip vs) m x = some v
  | [], _, _, _, _, h, _, _ => by simp at h
  | _ :: _, [], _, _, _, _, h, _ => by simp at h
  | p :: P, w :: vs, 0, m, nd, h1, h2, hk => by
    simp at h1 h2; subst h1; subst h2
    show bindL kindOf ((p, w) :: P.zip vs) m p = _
    unfold bindL
    rw [bindL_out fun v hv => (List.nodup_cons.mp nd).1 (List.of_mem_zip hv).1, if_pos hk]
    simp
  | p :: P, w :: vs, i + 1, m, nd, h1, h2, hk => by
    show bindL kindOf ((p, w) :: P.zip vs) m x = _
    unfold bindL
    exact bindL_get (i := i) (List.nodup_cons.mp nd).2 (by simpa using h1) (by simpa using h2) hk
theorem bindC_get {kindOf : Str → Option NameKind} {x : Str} {v : Value} : ∀ {P : List Str} {vs : List Value} {i : Nat} {m : Str → Option Value}, P.Nodup → P[i]? = some x → vs[i]? = some v → kindOf x ≠ some .local →
    bindC kindOf (P.zip vs) m x = some v
  | [], _, _, _, _, h, _, _ => by simp at h
  | _ :: _, [], _, _, _, _, h, _ => by simp at h
  | p :: P, w :: vs, 0, m, nd, h1, h2, hk => by
    simp at h1 h2; subst h1; subst h2
    show bindC kindOf ((p, w) :: P.zip vs) m p = _
    unfold bindC
    rw [bindC_out fun v hv => (List.nodup_cons.mp nd).1 (List.of_mem_zip hv).1, if_neg hk]
    simp
  | p :: P, w :: vs, i + 1, m, nd, h1, h2, hk => by
    show bindC kindOf ((p, w) :: P.zip vs) m x = _
    unfold bindC
    exact bindC_get (i := i) (List.nodup_cons.mp nd).2 (by simpa using h1) (by simpa using h2) hk
/-- the names' values at the entry -/
def start (N : List Str) (vs : List V) : St := vs.map some ++ List.replicate (N.length - vs.length) none
/-- the context of a def's body, at its entry; an exception leaves the frame, then lies as CX says -/
def cxOf (CX : CXT) (P : Program) (w : World) (K : PySem.W.Frag) (mg : Str → Option Value) (base : Heap) (N : List Str) (qual : Str) (scope : Scope) (f : Addr) (cd : Value) (A : Around) (outer : List Env) (s : Shared) (H : Hp) (E : XK) : Cx where
  prog := P
  w := w
  K := K
  mg := mg
  base := base
  A := A.deeper (envOfC qual scope s.heap.objs.size f cd)
  N := N
  s₀ := s
  H₀ := H
  env := envOfC qual scope s.heap.objs.size f cd
  outer := outer
  stack := envOfC qual scope s.heap.objs.size f cd :: outer
  ex := []
  calm := true
  fn := fun _ => true
  pn := []
  xe := fun e s' => wpAny (model P w) (A.deeper (envOfC qual scope s.heap.objs.size f cd)) (leaving (envOfC qual scope s.heap.objs.size f cd) e) (fun _ s'' => CX outer H s E e s'') (fun e' s'' => CX outer H s E e' s'') s'
theorem cell_has {sc : Scope} {n : Nat} {x : Str} (h : sc.names.lookup x = some .cell) : ∃ c, (cellsFrom n sc.names []).lookup x = some c := by
  have q := PySem.W.cellsFrom_some sc.names n [] (.inl h)
  exact Option.isSome_iff_exists.mp q
theorem inv_start {CX : CXT} {P : Program} {w : World} {K : PySem.W.Frag} {mg : Str → Option Value} {base : Heap} {N ps : List Str} {qual : Str} {scope : Scope} {f : Addr} {cd : Value} {A : Around} {outer : List Env} {s s1 : Shared} {H : Hp} {E : XK} {us : List Value} {vs : List V}
    (S : FnScope N ps scope) (hd : A.handled = none) (e0 : Env0 P w K mg base A outer s H) (hl : vs.length = ps.length) (r : Vals vs us)
    (x : InCallC s s.heap.objs.size (bindL (envOfC qual scope s.heap.objs.size f cd).kindOf (ps.zip us) fun _ => none) (cellsFrom (s.heap.objs.size + 1) scope.names []) (bindC (envOfC qual scope s.heap.objs.size f cd).kindOf (ps.zip us) fun _ => none) s1) :
    Inv (cxOf CX P w K mg base N qual scope f cd A outer s H E) [] (start N vs) H s1 := by
  have hpl : ps.length ≤ N.length := by have := congrArg List.length S.pre; rw [List.length_take] at this; omega
  obtain ⟨h1, tk, rfl, hk⟩ := x.done
  have noA : ∀ b : Addr, b ∉ (cxOf CX P w K mg base N qual scope f cd A outer s H E).ex := fun b z => absurd (show b ∈ ([] : List Addr) from z) (by simp)
  refine ⟨⟨e0.mod, S.kind, rfl, rfl, Nat.le_refl _, fun y z c h1 h2 => ?_, fun y hy => ?_, fun y c _ h => ?_, fun _ => hd, Around.frames_deeper e0.frames, .inr ⟨rfl, rfl⟩, fun b z => absurd z (noA b), e0.bs, e0.bsz, fun b _ _ => noA b, fun b z => absurd z (noA b), e0.funs, e0.frf⟩,
    rfl, e0.bare, Un.kept hk, ⟨_, x.toInCall.ns, fun i y v h1 h2 h3 => ?_⟩, fun y c h => ⟨_, x.cell y c h⟩, e0.hok.fresh (Nat.le_refl _), fun y c h => ?_, fun p hp => absurd (show p ∈ ([] : List (Addr × Obj)) from hp) (by simp), e0.hok.kept hk, ?_⟩
  · exact name_of_addr x.apart (PySem.mem_of_lookup h1) (PySem.mem_of_lookup h2)
  · have hy : scope.names.lookup y = some .cell ∨ scope.names.lookup y = some .free := hy
    rcases hy with hy | hy
    · exact cell_has hy
    · exact absurd rfl (S.nofree _ (PySem.mem_of_lookup hy))
  · exact Nat.le_of_lt (x.above y c (PySem.mem_of_lookup h))
  · have hi : i < vs.length := by
      unfold start at h2
      by_cases hi : i < vs.length
      · exact hi
      · rw [List.getElem?_append_right (by simpa using hi)] at h2
        rw [List.getElem?_replicate] at h2
        split at h2 <;> cases h2
    have ha : vs[i]? = some v := by
      unfold start at h2
      rw [List.getElem?_append_left (by simpa using hi), List.getElem?_map] at h2
      cases e : vs[i]? with
      | none => rw [e] at h2; cases h2
      | some a => rw [e] at h2; cases h2; rfl
    obtain ⟨u, hu, rv⟩ := r.get ha
    have hp : ps[i]? = some y := by
      rw [← S.pre, List.getElem?_take_of_lt (by omega)]; exact h1
    have ndP : ps.Nodup := by rw [← S.pre]; exact S.nd.sublist (List.take_sublist _ _)
    refine ⟨u, rv, ?_⟩
    rcases S.par y (List.mem_of_getElem? hp) with k | k
    · exact .inl ⟨k, bindL_get ndP hp hu k⟩
    · obtain ⟨c, e⟩ := cell_has (n := s.heap.objs.size + 1) k
      refine .inr ⟨.inl k, c, e, ?_⟩
      have q := x.cell y c e
      rw [bindC_get ndP hp hu (by show scope.names.lookup y ≠ _; rw [k]; decide)] at q
      exact q
  · exact e0.hok.fresh (Nat.le_of_lt (x.above y c (PySem.mem_of_lookup h)))
  · unfold start
    show _ = N.length
    rw [List.length_append, List.length_map, List.length_replicate]
    omega
/-- THE RULE: a def (or a method) of the text, by its body. The body's reading t is chosen for each entry; it is run at the parameters' values -/
theorem fn_of {CX : CXT} {P : Program} {w : World} {K : PySem.W.Frag} {mg : Str → Option Value} {base : Heap} {k : Nat} {f : Addr} {name qual : Str} {params : Arguments} {body : List Stmt} {scope : Scope} {dV kV doc pm cdv ct oc : Value} {an od : Option Addr}
    {osl : Array (Option Value)} {N ps : List Str} {sp : Sp} (lk : K.lookup f = some ⟨oc, od, .func (PySem.W.fnOf name qual params body scope dV kV doc pm an cdv ct), osl⟩) (hcd : PySem.W.codeIn K cdv qual = true) (S : FnScope N ps scope)
    (len : ∀ vs H Q E, sp vs H Q E → vs.length = ps.length)
    (hbody : ∀ (A : Around) (outer : List Env) (s : Shared) (H : Hp) (vs : List V) (Q : VK) (E : XK), Room k (A.deeper (envOfC qual scope s.heap.objs.size f cdv)) → sp vs H Q E →
      ∃ t, PSs (cxOf CX P w K mg base N qual scope f cdv A outer s H E) body t ∧ t { nx := fun _ H' => Q .non H', rt := Q } (start N vs) H) :
    FnOk P w K mg base CX (k + 1) f (PySem.W.fnOf name qual params body scope dV kV doc pm an cdv ct) ps sp := by
  refine ⟨len, fun A outer s H args us vs Q E hr e0 hb r hsp => ?_⟩
  have hl := len _ _ _ _ hsp
  have KX : K.In s.heap := e0.mod.kin.keeps fun b o e => (e0.bs b o e).1
  have lim : s.heap.NoLimit := e0.mod.nolimit.keeps fun b o e => (e0.bs b o e).1
  have hkind : ∀ y ∈ ps.zip us, scope.names.lookup y.1 = some .local ∨ (scope.names.lookup y.1 = some .cell ∧ ((cellsFrom (s.heap.objs.size + 1) scope.names []).lookup y.1).isSome = true) := fun ⟨n, v⟩ hy => by
    rcases S.par n (List.of_mem_zip hy).1 with q | q
    · exact .inl q
    · exact .inr ⟨q, PySem.W.cellsFrom_some _ _ _ (.inl q)⟩
  refine codeAny_call_function hr.depth (KX _ _ lk) rfl S.co S.gen rfl (PySem.W.codeRec_of KX hcd) (hb _ _ _ _ ?_)
  refine wpAny_newFunctionEnv_cells S.kind hkind fun env he s1 x => ?_
  subst he
  refine ⟨lim.keeps x.toInCall.keep, codeAny_func ?_⟩
  obtain ⟨t, ht, hq⟩ := hbody A outer s H vs Q E (hr.deeper _) hsp
  have I : Inv (cxOf CX P w K mg base N qual scope f cdv A outer s H E) [] (start N vs) H s1 := inv_start S hr.hd e0 hl r x
  refine wpAny_mono (ht [] s1 (start N vs) H _ I hq) (fun fl s' hs => ?_) fun e s' hs => hs
  have fin : ∀ {σ' : St} {H' : Hp} {v : V} {u : Value}, Inv (cxOf CX P w K mg base N qual scope f cdv A outer s H E) [] σ' H' s' → RelV v u → Q v H' → CE outer P w H s Q u s' :=
    fun {σ' H' v u} J rv q => ⟨v, H', J.os, J.bare, J.base, J.hok, rv, q⟩
  cases fl with
  | ret u =>
    obtain ⟨v, σ', H', J, rv, q⟩ := hs
    exact fin J rv q
  | next =>
    obtain ⟨σ', H', J, q⟩ := hs
    exact fin (v := V.non) (u := Value.none) J rfl q
  | brk =>
    obtain ⟨_, _, _, q⟩ := hs
    exact False.elim q
  | cont =>
    obtain ⟨_, _, _, q⟩ := hs
    exact False.elim q
end L2
namespace L2
open PySem PySem.Spec PyProof.Rows
section
variable {X : Cx} {x : Str} {p pos : Pos} {e : Expr} {es : List Expr} {t : TA} {id T : String} {r : List V → Hp → VK → Prop}
def tCB (r : List V → Hp → VK → Prop) (t : TA) : TE := fun σ H Q => t σ H fun vs H1 => r vs H1 Q
/-- f(e, ..), f a built-in function -/
theorem pe_callB (hc : CallR X (.builtin id) r) (hg : Gl X x) (hm : X.mg x = none) (hv : bootBuiltins x = some (.builtin id)) (ha : PA X (e :: es) t) (hn : x ≠ "__name__" := by decide) (hdb : (x == ("__debug__" : Str)) = false := by decide)
    (he : starEach (e :: es) X.env = (false, eval e X.env) :: starEach es X.env := by rfl) (hpl : (backTo pos (starEach es X.env)).any (·.1) = false := by rfl) : PE X (.Call (.Name x p) (e :: es) [] pos) (tCB r t) := by
  intro pins s σ H Q I h
  refine wpAny_Call_Name_kw (ld_blt I hg hm hv ?_ hn hdb)
  exact PyProof.Rows.callWith_builtin1 (thn (ha pos pins s σ H _ I h) fun us s1 ⟨vs, H1, I1, r1, q1⟩ => hc pins s1 σ H1 vs us Q I1 r1 q1) he hpl
/-- T(e, ..), T a built-in type -/
theorem pe_callTy (hc : CallR X (.type T) r) (hg : Gl X x) (hm : X.mg x = none) (hv : bootBuiltins x = some (.type T)) (ha : PA X (e :: es) t) (hn : x ≠ "__name__" := by decide) (hdb : (x == ("__debug__" : Str)) = false := by decide)
    (he : starEach (e :: es) X.env = (false, eval e X.env) :: starEach es X.env := by rfl) (hpl : (backTo pos (starEach es X.env)).any (·.1) = false := by rfl) : PE X (.Call (.Name x p) (e :: es) [] pos) (tCB r t) := by
  intro pins s σ H Q I h
  refine wpAny_Call_Name_kw (ld_blt I hg hm hv ?_ hn hdb)
  exact PyProof.Rows.callWith_type1 (thn (ha pos pins s σ H _ I h) fun us s1 ⟨vs, H1, I1, r1, q1⟩ => hc pins s1 σ H1 vs us Q I1 r1 q1) he hpl
end
end L2
namespace HT
open PySem PyProof.Rows
section
open PySem.SeqAt
open PySem.AutoSeq1 (wpAny_loadPart')
open PySem.MeetsSeq PySem.MeetsSeq2 PySem.MeetsSeq3
end
section
variable {prog : Program} {w : World} {A : Around} {E : Value → Shared → Prop} {s : Shared}
/-! ### t[a:b], not the whole -/
/-- a slice's bound as a place among n (d where it is left out) -/
def sIx (n d : Nat) : Option Int → Nat
  | none => d
  | some v => if v < 0 then (v + (n : Int)).toNat else min v.toNat n
end
end HT
namespace L2
open PySem PySem.Spec PyProof.Rows
/-! ### the parts of a slice -/
abbrev TO := St → Hp → (Option Int → Hp → Prop) → Prop
/-- a slice's part (left out, or an int) -/
def PO (X : Cx) (e : Option Expr) (t : TO) : Prop :=
  ∀ (pins : List (Addr × Obj)) (s : Shared) (σ : St) (H : Hp) (Q : Option Int → Hp → Prop), Inv X pins σ H s → t σ H Q →
    wpAny (model X.prog X.w) X.A (evalPart e X.env) (fun u s' => ∃ o H', Inv X pins σ H' s' ∧ IsPart u o ∧ Q o H') X.xe s
def tNoPart : TO := fun _ H Q => Q none H
def tPart (t : TE) : TO := fun σ H Q => t σ H fun x H1 => ∃ i, x = .int i ∧ Q (some i) H1
section
variable {X : Cx} {e : Expr} {te : TE} {lo hi : Option Expr} {tl th : TO} {pos p2 : Pos}
theorem po_none : PO X none tNoPart := by
  intro pins s σ H Q I h
  rw [evalPart_none]
  exact wpAny_pure ⟨none, H, I, .none, h⟩
theorem po_some (h : PE X e te) : PO X (some e) (tPart te) := by
  intro pins s σ H Q I hw
  rw [evalPart_some]
  refine thn (h pins s σ H _ I hw) fun u s1 ⟨x, H1, I1, r1, q1⟩ => ?_
  obtain ⟨i, rfl, q⟩ := q1
  obtain ⟨t, rfl⟩ := r1
  exact ⟨some i, H1, I1, .int i t, q⟩
/-- what a slice of a value is, by values: the slice object stands at sl -/
def SlR (X : Cx) (r : V → Option Int → Option Int → Hp → VK → Prop) : Prop :=
  ∀ (pins : List (Addr × Obj)) (s : Shared) (σ : St) (H : Hp) (x : V) (v vl vu : Value) (lo hi : Option Int) (sl : Addr) (Q : VK), Inv X pins σ H s → RelV x v → s.heap.IsSliceOf sl vl vu .none → IsPart vl lo → IsPart vu hi → r x lo hi H Q →
    ∃ T id, typeLookup (.type T) "__getitem__" = pure (some (.builtin id)) ∧ s.TypeIs v T ∧ wpAny (model X.prog X.w) X.A (getItem v (.ref sl)) (EP X pins σ Q) X.xe s
theorem SlR.or {r r' : V → Option Int → Option Int → Hp → VK → Prop} (h : SlR X r) (h' : SlR X r') : SlR X (fun x lo hi H Q => r x lo hi H Q ∨ r' x lo hi H Q) := by
  intro pins s σ H x v vl vu lo hi sl Q I rx hs pl pu q
  rcases q with q | q
  · exact h pins s σ H x v vl vu lo hi sl Q I rx hs pl pu q
  · exact h' pins s σ H x v vl vu lo hi sl Q I rx hs pl pu q
def tSl (r : V → Option Int → Option Int → Hp → VK → Prop) (te : TE) (tl th : TO) : TE := fun σ H Q => te σ H fun x H1 => tl σ H1 fun l H2 => th σ H2 fun u H3 => r x l u H3 Q
/-- a[lo:hi], any a -/
theorem pe_slice {r : V → Option Int → Option Int → Hp → VK → Prop} (hr : SlR X r) (he : PE X e te) (hl : PO X lo tl) (hu : PO X hi th) : PE X (.Subscript e (.Slice lo hi none p2) pos) (tSl r te tl th) := by
  intro pins s σ H Q I h
  refine Subscript_ (thn (he pins s σ H _ I h) fun v s1 ⟨x, H1, I1, r1, q1⟩ => ?_)
  refine wpAny_Slice (thn (hl pins s1 σ H1 _ I1 q1) fun vl s2 ⟨l, H2, I2, pl, q2⟩ => thn (hu pins s2 σ H2 _ I2 q2) fun vu s3 ⟨u, H3, I3, pu, q3⟩ => ?_)
  rw [evalPart_none]
  refine wpAny_pure ?_
  have I4 : Inv X pins σ H3 { s3 with heap := s3.heap.push { cls := .type "slice", data := .fields #[vl, vu, .none] } } := I3.kept (t' := s3.toks) fun b ob q => Heap.get?_push_of_some _ q
  obtain ⟨T, id, hT, ht, hg⟩ := hr pins { s3 with heap := s3.heap.push { cls := .type "slice", data := .fields #[vl, vu, .none] } } σ H3 x v vl vu l u s3.heap.objs.size Q I4 r1 (Heap.IsSliceOf.new ..) pl pu q3
  show wpAny (model X.prog X.w) X.A (subscriptTail e (.Slice lo hi none p2) v (.ref s3.heap.objs.size)) (EP X pins σ Q) X.xe { s3 with heap := s3.heap.push { cls := .type "slice", data := .fields #[vl, vu, .none] } }
  exact tail_any (ops := [.ref s3.heap.objs.size, v]) ht hT hg (by with_unfolding_all rfl)
/-- the items of xs[lo:hi] -/
def cutV (xs : List V) (lo hi : Option Int) : List V := (xs.drop (HT.sIx xs.length 0 lo)).take (HT.sIx xs.length xs.length hi - HT.sIx xs.length 0 lo)
theorem cutV_length (xs : List V) (lo hi : Option Int) : (cutV xs lo hi).length ≤ xs.length := by
  unfold cutV
  rw [List.length_take, List.length_drop]
  omega
/-! ### t < u, t + u -/
end
end L2
namespace L2
open PySem PySem.Spec PyProof.Rows
/-! ### places -/
/-- the place that an index of any sign means -/
def ixN (n : Nat) (i : Int) : Option Nat := if 0 ≤ i then (if i < n then some i.toNat else none) else if -(n : Int) ≤ i then some (i + n).toNat else none
def atI {α : Type} (xs : List α) (i : Int) : Option α := (ixN xs.length i).bind fun j => xs[j]?
theorem ixN_seq {n : Nat} {i : Int} {j : Nat} (h : ixN n i = some j) : seqIndex? i n = some j ∧ j < n ∧ -(n : Int) ≤ i ∧ i < n := by
  unfold ixN at h
  by_cases h0 : 0 ≤ i
  · rw [if_pos h0] at h
    by_cases h1 : i < n
    · rw [if_pos h1] at h
      have e : i.toNat = j := Option.some.inj h
      exact ⟨by rw [seqIndex_of h0 h1, e], by omega, by omega, h1⟩
    · rw [if_neg h1] at h; cases h
  · rw [if_neg h0] at h
    by_cases h1 : -(n : Int) ≤ i
    · rw [if_pos h1] at h
      have e : (i + n).toNat = j := Option.some.inj h
      exact ⟨by rw [seqIndex_neg (by omega) h1, e], by omega, h1, by omega⟩
    · rw [if_neg h1] at h; cases h
theorem atI_get {α : Type} {xs : List α} {i : Int} {v : α} (h : atI xs i = some v) : ∃ j, seqIndex? i xs.length = some j ∧ xs[j]? = some v ∧ j < xs.length ∧ -(xs.length : Int) ≤ i ∧ i < xs.length := by
  unfold atI at h
  cases e : ixN xs.length i with
  | none => rw [e] at h; cases h
  | some j =>
    rw [e] at h
    obtain ⟨h1, h2, h3, h4⟩ := ixN_seq e
    exact ⟨j, h1, h, h2, h3, h4⟩
/-! ### what may be subscripted -/
/-- what stands as an index of a plain subscript -/
def PlainIx (b : Expr) : Prop := ∀ o i, subscripted b false o i = operate [o, i] (getItem o i)
/-- a subscript by values -/
def IxR (X : Cx) (r : R2) : Prop :=
  ∀ (value slice : Expr) (pins : List (Addr × Obj)) (s : Shared) (σ : St) (H : Hp) (x y : V) (v u : Value) (Q : VK), Inv X pins σ H s → RelV x v → RelV y u → r x y H Q →
    subscripted slice false v u = operate [v, u] (getItem v u) → wpAny (model X.prog X.w) X.A (subscriptTail value slice v u) (EP X pins σ Q) X.xe s
section
variable {X : Cx} {a b : Expr} {ta tb : TE} {pos : Pos}
theorem IxR.or {r r' : R2} (h : IxR X r) (h' : IxR X r') : IxR X (fun x y H Q => r x y H Q ∨ r' x y H Q) := by
  intro value slice pins s σ H x y v u Q I rx ry q hs
  rcases q with q | q
  · exact h value slice pins s σ H x y v u Q I rx ry q hs
  · exact h' value slice pins s σ H x y v u Q I rx ry q hs
/-- a[b] -/
theorem pe_ix {r : R2} (hr : IxR X r) (ha : PE X a ta) (hb : PE X b tb) (hs : PlainIx b) : PE X (.Subscript a b pos) (tOp r ta tb) := by
  intro pins s σ H Q I h
  exact Subscript_ (binT ha hb I h fun v u s2 x y H2 I2 rx ry q => hr a b pins s2 σ H2 x y v u Q I2 rx ry q (hs _ _))
def rIxL (K : PySem.W.Frag) : R2 := fun x y H Q => ∃ p xs i v, x = .ref p ∧ y = .int i ∧ SqL K H p xs ∧ atI xs i = some v ∧ Q v H
def rIxT (K : PySem.W.Frag) : R2 := fun x y H Q => ∃ p xs i v, x = .ref p ∧ y = .int i ∧ SqT K H p xs ∧ atI xs i = some v ∧ Q v H
def rIxS : R2 := fun x y H Q => ∃ z i c, x = .str z ∧ y = .int i ∧ z.length ≤ sizeLine ∧ atI z.cps.toList i = some c ∧ Q (.str ⟨#[c]⟩) H
theorem ix_list : IxR X (rIxL X.K) := by
  intro value slice pins s σ H x y v u Q I rx ry h hs
  obtain ⟨p, xs, i, z, rfl, rfl, hq, he, q⟩ := h
  cases rx
  obtain ⟨t, rfl⟩ := ry
  obtain ⟨its, r, pl, hz⟩ := I.list hq
  obtain ⟨j, h1, h2, h3, h4, h5⟩ := atI_get he
  obtain ⟨w, ew, rw'⟩ := r.get h2
  have hl := r.length
  have hn := line63
  have fin : EP X pins σ Q w s := ⟨z, H, I, rw', q⟩
  by_cases h0 : 0 ≤ i
  · have hj : i.toNat = j := by
      rw [seqIndex_of h0 h5] at h1
      exact Option.some.inj h1
    exact item_listR pl.isList h0 (by omega) (by rw [hj]; simpa using ew) fin hs
  · have hj : (i + (its.toArray.size : Int)).toNat = j := by
      rw [seqIndex_neg (by omega) h4] at h1
      rw [List.size_toArray, ← hl]
      exact Option.some.inj h1
    exact subscriptTail_builtinR (x := w) pl.isList.typeIs slot_list_getitem.lookup
      (wpAny_getItem_list_neg (Q := fun r s' => r = w ∧ EP X pins σ Q r s') pl.isList (by omega) (by rw [List.size_toArray] <;> omega) (by omega) (by rw [hj]; simpa using ew) ⟨rfl, fin⟩) hs
theorem ix_tup : IxR X (rIxT X.K) := by
  intro value slice pins s σ H x y v u Q I rx ry h hs
  obtain ⟨p, xs, i, z, rfl, rfl, hq, he, q⟩ := h
  cases rx
  obtain ⟨t, rfl⟩ := ry
  obtain ⟨its, r, pl, hz⟩ := I.tuple hq
  obtain ⟨j, h1, h2, h3, h4, h5⟩ := atI_get he
  obtain ⟨w, ew, rw'⟩ := r.get h2
  have hl := r.length
  have hn := line63
  have fin : EP X pins σ Q w s := ⟨z, H, I, rw', q⟩
  exact subscriptTail_builtinR (x := w) pl.typeIs slot_tuple_getitem.lookup
    (getItem_tuple (j := j) (Q := fun r s' => r = w ∧ EP X pins σ Q r s') pl (by omega) (by omega) (by rw [List.size_toArray, ← hl]; exact h1) (by simpa using ew) ⟨rfl, fin⟩) hs
theorem ix_str : IxR X rIxS := by
  intro value slice pins s σ H x y v u Q I rx ry h hs
  obtain ⟨z, i, c, rfl, rfl, hz, he, q⟩ := h
  obtain ⟨t, rfl⟩ := rx
  obtain ⟨t', rfl⟩ := ry
  obtain ⟨j, h1, h2, h3, h4, h5⟩ := atI_get he
  have hl : z.cps.toList.length = z.length := by simp [Str.length]
  rw [hl] at h1 h4 h5
  have hn := line63
  exact tail_any (typeIs_str s z t) slot_str_getitem.lookup (getItem_str (c := c) (by
    have e1 : decide (i < -(2 ^ 63 : Int)) = false := decide_eq_false (by omega)
    have e2 : decide (i ≥ 2 ^ 63) = false := decide_eq_false (by omega)
    rw [e1, e2, Bool.or_false]) (by rw [h1]; simpa using h2) ⟨.str ⟨#[c]⟩, H, I.tok _, ⟨_, rfl⟩, q⟩) hs
/-- list, tuple or str -/
def rIx (K : PySem.W.Frag) : R2 := fun x y H Q => rIxL K x y H Q ∨ rIxT K x y H Q ∨ rIxS x y H Q
theorem ix_seq : IxR X (rIx X.K) := ix_list.or (ix_tup.or ix_str)
/-! ### xs[i] = v, any sign -/
/-! ### slices -/
theorem slice_bounds (lo hi : Option Int) (n : Nat) : (sliceBounds lo hi none n).1 = ((HT.sIx n 0 lo : Nat) : Int) ∧ (sliceBounds lo hi none n).2.1 = ((HT.sIx n n hi : Nat) : Int) ∧ (sliceBounds lo hi none n).2.2 = 1 := by
  refine ⟨?_, ?_, rfl⟩
  · cases lo with
    | none => simp [sliceBounds, HT.sIx]
    | some i =>
      simp only [sliceBounds, HT.sIx, Option.getD_none, show (1 : Int) > 0 by decide, if_true]
      by_cases h : i < 0
      · simp only [h, if_true] <;> omega
      · simp only [h, if_false] <;> omega
  · cases hi with
    | none => simp [sliceBounds, HT.sIx]
    | some i =>
      simp only [sliceBounds, HT.sIx, Option.getD_none, show (1 : Int) > 0 by decide, if_true]
      by_cases h : i < 0
      · simp only [h, if_true] <;> omega
      · simp only [h, if_false] <;> omega
theorem slicePick_cut (its : List Value) (lo hi : Option Int) : slicePick its.toArray lo hi none = ((its.drop (HT.sIx its.length 0 lo)).take (HT.sIx its.length its.length hi - HT.sIx its.length 0 lo)).toArray := by
  obtain ⟨h1, h2, h3⟩ := slice_bounds lo hi its.toArray.size
  unfold slicePick
  rw [h1, h2, h3]
  simp only [sliceRange_one, pick_run, List.size_toArray] <;> rfl
/-- xs[lo:hi] of a list: a new list -/
def rSlL (K : PySem.W.Frag) : V → Option Int → Option Int → Hp → VK → Prop := fun x lo hi H Q => ∃ a xs, x = .ref a ∧ SqL K H a xs ∧ ∀ p, H p = none → Q (.ref p) (upd H p (.lst (cutV xs lo hi)))
theorem sl_list : SlR X (rSlL X.K) := by
  intro pins s σ H x v vl vu lo hi sl Q I rx hs pl pu h
  obtain ⟨a, xs, rfl, hx, q⟩ := h
  cases rx
  obtain ⟨its, r, ht, hz⟩ := I.list hx
  have hlen := r.length
  refine ⟨"list", _, slot_list_getitem.lookup, ht.isList.typeIs, ?_⟩
  refine wpAny_getItem_list_slice ht.isList hs pl pu .none (by simp) ?_ (by rw [List.size_toArray] <;> omega)
  rw [slicePick_cut, ← hlen]
  refine ⟨.ref s.heap.objs.size, _, I.laid (t' := s.toks) (o := .lst (cutV xs lo hi)) (fun b ob q => Heap.get?_push_of_some _ q) (Nat.le_refl _) ?_, rfl, q _ (I.hok.fresh (Nat.le_refl _))⟩
  exact ⟨Nat.le_trans (cutV_length xs lo hi) hz, _, 0, (r.drop (HT.sIx xs.length 0 lo)).take (HT.sIx xs.length xs.length hi - HT.sIx xs.length 0 lo), Heap.get?_push_size _ rfl⟩
/-! ### in, not in: flat items -/
def flatV : V → Bool
  | .non => true
  | .bl _ => true
  | .int _ => true
  | .str _ => true
  | _ => false
/-- == of flat values -/
def eqV : V → V → Bool
  | .non, .non => true
  | .bl a, .bl b => a == b
  | .bl a, .int b => (if a then 1 else 0) == b
  | .int a, .bl b => a == (if b then 1 else 0)
  | .int a, .int b => a == b
  | .str a, .str b => a == b
  | _, _ => false
theorem eqAt_V {A : Around} {s : Shared} {y x : V} {u v : Value} (ry : RelV y u) (rx : RelV x v) (fy : flatV y = true) (fx : flatV x = true) : SeqAt.EqAt A s u v (eqV y x) := by
  cases y with
  | non =>
    cases ry
    cases x with
    | non => cases rx; exact SeqAt.EqAt.same _
    | bl b => cases rx; exact SeqAt.EqAt.none_bool b
    | int b => obtain ⟨t, rfl⟩ := rx; exact SeqAt.EqAt.none_int b t
    | str b => obtain ⟨t, rfl⟩ := rx; exact SeqAt.EqAt.none_str b t
    | _ => exact absurd (show false = true from fx) Bool.false_ne_true
  | bl a =>
    cases ry
    cases x with
    | non => cases rx; exact SeqAt.EqAt.bool_none a
    | bl b => cases rx; exact SeqAt.EqAt.bool_bool a b
    | int b => obtain ⟨t, rfl⟩ := rx; exact SeqAt.EqAt.bool_int a b t
    | str b => obtain ⟨t, rfl⟩ := rx; exact SeqAt.EqAt.bool_str a b t
    | _ => exact absurd (show false = true from fx) Bool.false_ne_true
  | int a =>
    obtain ⟨t', rfl⟩ := ry
    cases x with
    | non => cases rx; exact SeqAt.EqAt.int_none a t'
    | bl b => cases rx; exact SeqAt.EqAt.int_bool a t' b
    | int b => obtain ⟨t, rfl⟩ := rx; exact SeqAt.EqAt.int_int a t' b t
    | str b => obtain ⟨t, rfl⟩ := rx; exact SeqAt.EqAt.int_str a t' b t
    | _ => exact absurd (show false = true from fx) Bool.false_ne_true
  | str a =>
    obtain ⟨t', rfl⟩ := ry
    cases x with
    | non => cases rx; exact SeqAt.EqAt.str_none a t'
    | bl b => cases rx; exact SeqAt.EqAt.str_bool a t' b
    | int b => obtain ⟨t, rfl⟩ := rx; exact SeqAt.EqAt.str_int a t' b t
    | str b => obtain ⟨t, rfl⟩ := rx; exact SeqAt.EqAt.str_str a t' b t
    | _ => exact absurd (show false = true from fx) Bool.false_ne_true
  | _ => exact absurd (show false = true from fy) Bool.false_ne_true
/-- the items' answers, read off the values (a value's own answer does not lean on its token) -/
def eqU (x : V) (u : Value) : Bool := match u with
  | .none => eqV .non x
  | .bool b => eqV (.bl b) x
  | .int i _ => eqV (.int i) x
  | .str z _ => eqV (.str z) x
  | _ => false
theorem eqU_of {x y : V} {u : Value} (r : RelV y u) (f : flatV y = true) : eqU x u = eqV y x := by
  cases y with
  | non => cases r; rfl
  | bl b => cases r; rfl
  | int i => obtain ⟨t, rfl⟩ := r; rfl
  | str z => obtain ⟨t, rfl⟩ := r; rfl
  | _ => exact absurd (show false = true from f) Bool.false_ne_true
theorem any_eqU {x : V} : ∀ {xs : List V} {us : List Value}, Vals xs us → xs.all flatV = true → us.any (eqU x) = xs.any fun y => eqV y x
  | _, _, .nil, _ => rfl
  | y :: xs, u :: us, .cons r t, f => by
    rw [List.all_cons, Bool.and_eq_true] at f
    rw [List.any_cons, List.any_cons, eqU_of r f.1, any_eqU t f.2]
theorem mem_eqAt {A : Around} {s : Shared} {x : V} {v : Value} (rx : RelV x v) (fx : flatV x = true) : ∀ {xs : List V} {us : List Value}, Vals xs us → xs.all flatV = true → ∀ u ∈ us, SeqAt.EqAt A s u v (eqU x u)
  | _, _, .nil, _ => fun u hu => by cases hu
  | y :: xs, u :: us, .cons r t, f => fun u' hu => by
    rw [List.all_cons, Bool.and_eq_true] at f
    rcases List.mem_cons.mp hu with rfl | hu
    · rw [eqU_of r f.1]; exact eqAt_V r rx f.1 fx
    · exact mem_eqAt rx fx t f.2 u' hu
def inV (x : V) (xs : List V) : Bool := xs.any fun y => eqV y x
/-- x in a list or tuple of flat items -/
def rIn (K : PySem.W.Frag) (neg : Bool) : R2 := fun x y H Q => ∃ p xs, y = .ref p ∧ (SqL K H p xs ∨ SqT K H p xs) ∧ flatV x = true ∧ xs.all flatV = true ∧ Q (.bl (if neg then !inV x xs else inV x xs)) H
theorem op_in_seq : OpR X (compareOp .In) (rIn X.K false) := by
  intro pins s σ H x y v u Q I rx ry h
  obtain ⟨p, xs, rfl, hq, fx, fs, q⟩ := h
  cases ry
  rcases hq with hq | hq
  · obtain ⟨its, r, pl, hz⟩ := I.list hq
    refine SeqAt.in_listAt (eqU x) pl.isList (fun w hw => mem_eqAt rx fx r fs w (by simpa using hw)) ⟨.bl _, H, I, rfl, ?_⟩
    rw [show its.toArray.any (eqU x) = its.any (eqU x) by simp, any_eqU r fs]
    exact q
  · obtain ⟨its, r, pl, hz⟩ := I.tuple hq
    refine SeqAt.in_tupleAt (eqU x) pl (fun w hw => mem_eqAt rx fx r fs w (by simpa using hw)) ⟨.bl _, H, I, rfl, ?_⟩
    rw [show its.toArray.any (eqU x) = its.any (eqU x) by simp, any_eqU r fs]
    exact q
/-! ### len, list(x), tuple(x) of any list or tuple that is read -/
/-! ### the call of a builtin's method: o.m(..) -/
variable {o e : Expr} {es : List Expr} {to : TE} {t : TA} {name : Str} {apos cpos : Pos} {T id : String} {r : V → List V → Hp → VK → Prop}
/- xs.append(e), list.index on a module's tuple .. are MtR facts of 06m -/
end
end L2
namespace L2
open PySem PySem.Spec PyProof.Rows
/-! ### lists of values -/
section
variable {X : Cx} {pins : List (Addr × Obj)} {σ : St} {H : Hp} {s : Shared} {l b : Addr} {xs ys zs : List V}
/-! ### the two steps: a tracked list is rewritten, a new list is laid -/
theorem Inv.lnew {its : List Value} {t' : Nat} (I : Inv X pins σ H s) (hv : Vals ys its) (hz : ys.length ≤ sizeLine) :
    Inv X pins σ (upd H s.heap.objs.size (.lst ys)) { s with heap := s.heap.push { cls := .type "list", data := .seq its.toArray }, toks := t' } :=
  I.laid (fun _ _ q => Heap.get?_push_of_some _ q) (Nat.le_refl _) ⟨hz, its, 0, hv, Heap.get?_push_size _ rfl⟩
theorem Inv.fresh (I : Inv X pins σ H s) : H s.heap.objs.size = none := I.hok.fresh (Nat.le_refl _)
theorem Inv.lstM (I : Inv X pins σ H s) (hH : H l = some (.lst xs)) : xs.length ≤ sizeLine ∧ ∃ (its : List Value) (n : Nat), Vals xs its ∧ xs.length = its.length ∧ s.heap.get? l = some { cls := .type "list", data := .seq its.toArray n } := by
  obtain ⟨z, its, n, r, e⟩ := I.hok l _ hH
  exact ⟨z, its, n, r, r.length, e⟩
theorem notLongL {n : Nat} (h : n ≤ sizeLine) : Builtin.List.listTooLong n = false := by
  unfold Builtin.List.listTooLong
  exact decide_eq_false (by omega)
end
section
variable {X : Cx}
/-! ### methods -/
def rExtend : V → List V → Hp → VK → Prop := fun x vs H Q => ∃ l b xs zs, x = .ref l ∧ vs = [.ref b] ∧ H l = some (.lst xs) ∧ H b = some (.lst zs) ∧ xs.length + zs.length ≤ sizeLine ∧ Q .non (upd H l (.lst (xs ++ zs)))
/-! ### list + list, list += list, list * int -/
def rCat : R2 := fun x y H Q => ∃ l b xs zs, x = .ref l ∧ y = .ref b ∧ H l = some (.lst xs) ∧ H b = some (.lst zs) ∧ xs.length + zs.length ≤ sizeLine ∧ ∀ p, H p = none → Q (.ref p) (upd H p (.lst (xs ++ zs)))
theorem op_cat : OpR X (binaryOp .Add) rCat := by
  intro pins s σ H x y v u Q I rx ry h
  obtain ⟨l, b, xs, zs, rfl, rfl, hH, hB, hz, q⟩ := h
  cases rx
  cases ry
  obtain ⟨z, its, n, r, hl, e⟩ := I.lstM hH
  obtain ⟨z2, its2, n2, r2, hl2, e2⟩ := I.lstM hB
  refine PySem.P.add_list e e2 ?_ (by rw [List.size_toArray, List.size_toArray]; omega)
  have ea : its.toArray ++ its2.toArray = (its ++ its2).toArray := by simp
  rw [ea]
  exact ⟨.ref _, _, I.lnew (t' := s.toks) (r.append r2) (by rw [List.length_append]; omega), rfl, q _ I.fresh⟩
/-! ### del xs[i] -/
end
/-! ### xs[a:b] = ys -/
section
variable {prog : Program} {w : World} {A : Around} {E : Value → Shared → Prop} {s : Shared}
set_option maxRecDepth 100000 in
end
section
variable {X : Cx}
end
end L2
namespace L2
open PySem PySem.Spec PyProof.Rows
/-! ### lists of pairs as tables -/
section
variable {κ : Type} [DecidableEq κ]
end
/-! ### a tracked dict, its keys ints and texts or tuples of these -/
section
variable {P : Program} {w : World} {H : Hp} {h : Heap} {a : Addr}
end
section
variable {X : Cx} {pins : List (Addr × Obj)} {σ : St} {H : Hp} {s : Shared} {a : Addr} {y v : V} {u r : Value} {o : Option V} {A : Around} {E : Value → Shared → Prop}
theorem Inv.big (I : Inv X pins σ H s) : sysModules < s.heap.objs.size := by
  have h : mainGlobals < s.heap.objs.size := (I.mod.glob.keeps I.bk).lt
  exact Nat.lt_trans (by decide) h
end
section
variable {X : Cx} {pins : List (Addr × Obj)} {σ : St} {H : Hp} {s : Shared} {a : Addr} {kvs : List (Key × V)} {k : Key} {u : Value} {A : Around} {E : Value → Shared → Prop}
end
/-! ### readings and rules -/
section
variable {X : Cx} {o i e value : Expr} {pos pos' tpos : Pos} {td ty tv : TE}
end
/-! ### displays -/
theorem dk_empty {P : Program} {w : World} {H : Hp} (h : Heap) (hb : sysModules < h.objs.size) : ObjOk P w H (h.push { cls := .type "dict", data := .dict #[] }) h.objs.size (.dK []) :=
  ⟨Nat.zero_le _, beq_eq_false_iff_ne.mpr (Ne.symm (Nat.ne_of_lt hb)), [], .nil, Heap.DictOf.new h⟩
/-- {}, to be a dict of the kind that is wanted -/
def tDNewK : TE := fun _ H Q => ∀ p, H p = none → Q (.ref p) (upd H p (.dK []))
section
variable {X : Cx} {pos : Pos}
theorem pe_dnewK : PE X (.Dict [] [] pos) tDNewK := fun pins s σ H Q I h =>
  wpAny_Dict_empty ⟨.ref s.heap.objs.size, _, I.laid (a := s.heap.objs.size) (o := .dK []) (t' := s.toks) (fun _ _ q => Heap.get?_push_of_some _ q) (Nat.le_refl _) (dk_empty s.heap I.big), rfl, h _ (I.hok.fresh (Nat.le_refl _))⟩
end
/-! ### methods -/
section
variable {X : Cx} {pins : List (Addr × Obj)} {σ : St} {H : Hp} {s : Shared} {a : Addr} {y d : V} {u r : Value} {o : Option V} {A : Around} {E : Value → Shared → Prop}
end
section
variable {X : Cx} {o e f : Expr} {apos cpos : Pos} {td ty tx : TE}
end
/-! ### dict(d): a copy -/
section
variable {X : Cx} {pins : List (Addr × Obj)} {σ : St} {H : Hp} {s : Shared} {a : Addr} {kvs : List (Key × V)} {A : Around} {E : Value → Shared → Prop}
end
section
variable {X : Cx} {pins : List (Addr × Obj)} {σ : St} {H : Hp} {s : Shared} {a : Addr} {y : V} {u : Value} {A : Around} {E : Value → Shared → Prop}
end
end L2
namespace Att
open PySem PySem.W PySem.Calls PyProof.Rows
/-! ### the script -/
theorem ints_of_wellAll {P : Params} {h : Heap} : ∀ (ns : List Int) (vs : List Value), WellAll P h vs (ns.map WData.int) → IntsAre vs ns := by
  intro ns
  induction ns with
  | nil =>
    intro vs w
    rw [List.map_nil] at w
    cases w
    exact .nil
  | cons n ns ih =>
    intro vs w
    rw [List.map_cons] at w
    cases w with
    | cons a b =>
      cases a
      exact .cons _ _ (ih _ b)
theorem script_of {l : OpenLaw} {n : Nat} (hn : l.most = some n) {P : Params} {h : Heap} {args : List WData} {vals : List Value}
    (hpre : l.row.toRowW.claim.pre args = true) (hwl : WellAll P h vals args) :
    ∃ a vs ns, vals = [Value.ref a] ∧ args = [WData.list (ns.map WData.int)] ∧ h.get? a = some { cls := .type "list", data := .seq vs.toArray } ∧ IntsAre vs ns ∧ ns.length ≤ n := by
  have hsh : WShape.hasAll [] args [.list .int] = true := (pre_splitW hpre).1
  have hc : l.pre.holds [] { args := args } = true := (pre_splitW hpre).2
  obtain ⟨d, r, rfl, h1, h2⟩ := hasAllW_cons hsh
  obtain rfl := hasAllW_nil h2
  obtain ⟨xs, rfl, h3⟩ := hasW_list h1
  obtain ⟨ns, rfl⟩ := items_int h3
  have hlen : ns.length ≤ n := by
    unfold OpenLaw.pre at hc
    have h4 : (WTm.not (.lt (.lit (.int (n : Int))) (.len (.arg 0)))).holds [] { args := [.list (ns.map .int)] } = true := by
      have h4 := (holds_andW hc).1
      rw [hn] at h4
      exact h4
    have h5 := condW_of h4 (w_not (w_lt w_lit (w_len_list (w_arg rfl))))
    rw [List.length_map] at h5
    refine Nat.le_of_not_lt fun q => ?_
    have q' : (n : Int) < ((ns.length : Nat) : Int) := by omega
    first
      | (rw [decide_eq_true q'] at h5; exact absurd h5 (by decide))
      | (simp at h5; omega)
  cases hwl with
  | cons w1 w2 =>
    cases w2
    cases w1 with
    | list ho hall => exact ⟨_, _, ns, rfl, rfl, ho, ints_of_wellAll ns _ hall, hlen⟩
theorem post_true (l : OpenLaw) (args : List WData) : l.row.toRowW.claim.post args (.bool true) args = true :=
  postW_of (r := l.row.toRowW) (X := (true == true))
    (show WShape.has [] (.bool true) .bool = true by first | rfl | decide | simp [WShape.has, WShape.arms, WShape.armsAll])
    (show (WTm.eq .res (.lit (.bool true))).value [] { args := args, res := some (.bool true), after := args } = some (.bool (true == true)) from w_eq_bool (w_res rfl) w_lit) rfl
/-! ### the attachment: holds_open's last premise (the goal 'hc' behind k_head) from a wpAny of the law's body -/
/-- the same from a codeAny of the CALL (for a layer whose function contracts speak of calls) -/
theorem attach_call {l : OpenLaw} {n : Nat} {q : Program} {loose : List Str} {XP : (Str → Option Value) → Heap → Prop} {YP : World → Heap → Prop} {d : DefRec}
    (hn : l.most = some n) (hdf : d.params.defaults = [])
    (call : ∀ (w : World) (s₀ s₁ : Shared) (mg mb : Str → Option Value) (fa : Addr) (o : Obj) (pm cd doc : Value) (a : Addr) (vs : List Value) (ns : List Int),
      Ground q loose [] XP w s₀ mg mb s₁.heap → YP w s₁.heap →
      s₁.heap.get? fa = some o → o.data = .func (docDef d.name d.params d.body d.scope pm cd doc) → s₁.heap.CodeRec cd d.name → mg d.name = some (.ref fa) →
      s₁.heap.get? a = some { cls := .type "list", data := .seq vs.toArray } → IntsAre vs ns → ns.length ≤ n → s₁.gens = #[] →
      codeAny (model l.prog w) callerA (.call (.ref fa) ⟨[.ref a], []⟩) (fun r s' => r = .ok (.ret (.bool true)) ∧ OldK s₁.heap s'.heap ∧ s'.os = s₁.os ∧ AllBare s'.gens) s₁) :
    WalkO q loose XP YP l.row.toRowW d [] (fun f vs => PySem.call f vs) := by
  intro w s₀ s₁ mg mb G Y fa o pm cd doc dV kV ho hd hcd hD hmg hg args vals as hpre hlay hrd hwl hlo
  obtain rfl : dV = .none := Dflts.none hD hdf
  obtain rfl : kV = .none := Dflts.noKw hD
  obtain ⟨a, vs, ns, rfl, rfl, hobj, hints, hlen⟩ := script_of hn hpre hwl
  refine enter_call (codeAny_mono (call w s₀ s₁ mg mb fa o pm cd doc a vs ns G Y ho (fd_plain hd) hcd hmg hobj hints hlen hg) fun r s' hq => ?_)
  obtain ⟨rfl, h2, h3, h4⟩ := hq
  exact ⟨.inl ⟨.bool true, .bool true, [], rfl, fun _ => rfl, .bool true, post_true l _, fun _ => ⟨List.Pairwise.nil, fun _ hm => (nomatch hm)⟩⟩, h2, h3, h4⟩
/-! ### rules over ANY heap (no ledger) from facts about the written part K: the library's own take a ledger (News) for what they write -/
section
variable {prog : Program} {w : World} {A : Around} {E : Value → Shared → Prop} {s : Shared} {K : Frag}
/-! the whole heap as the ledger: makes every rule that writes through a ledger a rule over any heap -/
end
end Att
namespace L2
open PySem PySem.Spec PyProof.Rows
theorem vals_ints : ∀ {vs : List Value} {ns : List Int}, IntsAre vs ns → Vals (ns.map V.int) vs
  | _, _, .nil => .nil
  | _, _, .cons n t h => .cons ⟨t, rfl⟩ (vals_ints h)
/-- nothing is tracked but the script, known to the object (or it is an object of the module) -/
def Only (H : Hp) : Prop := ∀ b, H b = none ∨ ∃ o xs, H b = some (.frz o (.lst xs))
/-- THE HEAD: the law's promise, at the heap behind the top. F, the promise of the law's def, may use that base is part of the heap (so K.In base, base.Ns mainGlobals mg stand in Mod) -/
theorem law_call {P : Program} {w : World} {K : PySem.W.Frag} {mg mb : Str → Option Value} {CX : CXT} {k : Nat} {fa a : Addr} {fd : FuncData} {x : Str} {sp : Sp} {s₁ : Shared} {vs : List Value} {ns : List Int}
    (KX : K.In s₁.heap) (hns : s₁.heap.Ns mainGlobals mg) (hb : s₁.heap.Ns builtinsNs mb) (hbb : ∀ x : Str, x ≠ "__name__" → mb x = bootBuiltins x) (hlim : s₁.heap.NoLimit) (hg : s₁.gens = #[])
    (ha : s₁.heap.get? a = some { cls := .type "list", data := .seq vs.toArray }) (hi : IntsAre vs ns) (hl : ns.length ≤ sizeLine) (hr : Room k callerA)
    (F : ∀ base : Heap, K.In base → base.Ns mainGlobals mg → FnOk P w K mg base CX k fa fd [x] sp) (hbind : ∀ (s : Shared) (u : Value), BindsTo s fd ⟨[u], []⟩ [(x, u)])
    (hsp : ∀ H : Hp, Only H → SqL K H a (ns.map V.int) → sp [.ref a] H (fun v _ => v = .bl true) fun _ _ _ => False)
    (hCX : ∀ H e s', CX [] H s₁ (fun _ _ _ => False) e s' → False) :
    codeAny (model P w) callerA (.call (.ref fa) ⟨[.ref a], []⟩) (fun r s' => r = .ok (.ret (.bool true)) ∧ OldK s₁.heap s'.heap ∧ s'.os = s₁.os ∧ AllBare s'.gens) s₁ := by
  have rv := vals_ints hi
  have lenV := hi.length
  -- from an abstract heap in which nothing but the script may be tracked
  have core : ∀ H : Hp, Only H → SqL K H a (ns.map V.int) → HOk P w H s₁.heap → (∀ b, H b ≠ none → b = a) → (H a ≠ none → K.lookup a = none) →
      codeAny (model P w) callerA (.call (.ref fa) ⟨[.ref a], []⟩) (fun r s' => r = .ok (.ret (.bool true)) ∧ OldK s₁.heap s'.heap ∧ s'.os = s₁.os ∧ AllBare s'.gens) s₁ := by
    intro H hO hS hok hA hK
    have base_of : ∀ {b : Addr} {o : Obj}, s₁.heap.get? b = some o → H b = none → (hidT s₁.heap H).get? b = some o := fun e n => hidT_get e n
    have noA : ∀ {b : Addr} {o : Obj} {es : Array DictEntry} {ep : Nat}, s₁.heap.get? b = some o → o.data = .dict es ep → H b = none := fun {b o es ep} e d => by
      cases q : H b with
      | none => rfl
      | some u =>
        have e' : b = a := hA b (by rw [q]; simp)
        subst e'
        rw [ha] at e; cases e
        have d' : Data.seq vs.toArray _ = Data.dict es ep := d
        cases d'
    have nsK : ∀ {b : Addr} {m : Str → Option Value}, s₁.heap.Ns b m → (hidT s₁.heap H).Ns b m := fun {b m} ⟨o, es, ep, e, d, r⟩ => ⟨o, es, ep, base_of e (noA e d), d, r⟩
    have hKb : K.In (hidT s₁.heap H) := fun b o e => base_of (KX b o e) (by
      cases q : H b with
      | none => rfl
      | some u =>
        have e' : b = a := hA b (by rw [q]; simp)
        subst e'
        rw [hK (by rw [q]; simp)] at e; cases e)
    have hM : Mod K mg (hidT s₁.heap H) := ⟨hKb, nsK hns, ⟨mb, nsK hb, hbb⟩, let ⟨mc, h1, h2⟩ := hlim; ⟨mc, nsK h1, h2⟩⟩
    have e0 : Env0 P w K mg (hidT s₁.heap H) callerA [] s₁ H := ⟨rfl, hM, fun b o e => of_hidT e, Nat.le_of_eq (hidT_size _ _), trivial, fun b hb => absurd (show b ∈ ([] : List Addr) from hb) (by simp), hok, .of_eq hg⟩
    refine codeAny_mono ((F _ hKb (nsK hns)).run callerA [] s₁ H ⟨[.ref a], []⟩ [.ref a] [.ref a] _ _ hr e0 (hbind s₁ (.ref a)) (.cons rfl .nil) (hsp H hO hS)) fun r s' h => ?_
    cases r with
    | error e => exact (hCX H e s' h).elim
    | ok fl =>
      cases fl with
      | next => exact False.elim h
      | brk => exact False.elim h
      | cont => exact False.elim h
      | ret u =>
        obtain ⟨v, H', os, bare, un, hok', r', q⟩ := h
        have q' : v = .bl true := q
        subst q'
        obtain rfl : u = Value.bool true := r'
        refine ⟨rfl, OldK.of_keep fun b o e => ?_, os, bare⟩
        cases q : H b with
        | none => exact un.keep b o e q (by intro z; exact absurd (show b ∈ ([] : List Addr) from z) (by simp)) (by simp)
        | some u =>
          rcases hO b with z | ⟨ob, xs, z⟩
          · rw [q] at z; cases z
          · have z2 := un.frzs b ob _ z
            obtain ⟨e1, _⟩ := hok b _ z
            obtain ⟨e2, _⟩ := hok' b _ z2
            rw [e] at e1; cases e1
            exact e2
  cases hk : K.lookup a with
  | some o =>
    -- the script is one of the module's own objects
    have e := KX a o hk
    rw [ha] at e
    cases e
    refine core (fun _ => none) (fun _ => .inl rfl) (.inr ⟨_, vs.toArray, _, hk, rfl, rfl, rfl, by rw [List.size_toArray, lenV]; exact hl, by simpa using vals0_ints rv⟩) (fun b u z => by have z' : (none : Option HO) = some u := z; cases z') (fun b z => absurd rfl z) fun z => absurd rfl z
  | none =>
    refine core (fun b => if b = a then some (.frz { cls := .type "list", data := .seq vs.toArray } (.lst (ns.map V.int))) else none) (fun b => ?_) (.inl (.inr ⟨{ cls := .type "list", data := .seq vs.toArray }, if_pos rfl⟩)) (fun b u z => ?_) (fun b z => ?_) fun _ => hk
    · by_cases hb : b = a
      · exact .inr ⟨_, _, if_pos hb⟩
      · exact .inl (if_neg hb)
    · by_cases hb : b = a
      · have z' := (if_pos hb).symm.trans z
        cases z'
        subst hb
        exact ⟨ha, by rw [List.length_map]; exact hl, vs, _, rv, ha⟩
      · have z' := (if_neg hb).symm.trans z
        cases z'
    · by_cases hb : b = a
      · exact hb
      · exact absurd (if_neg hb) z
end L2
namespace L2
open PySem PySem.Spec PyProof.Rows
/-- the goal that k_head leaves (case hc), from the law's promise. F gives the function object fd (K's own) once, then the promise over every base -/
theorem walk_of {l : PySem.W.OpenLaw} {n k : Nat} {q : Program} {loose : List Str} {XP : (Str → Option Value) → Heap → Prop} {YP : World → Heap → Prop} {d : DefRec} {K : Params → PySem.W.Frag} {CX : World → CXT} {sp : World → Sp} {x : Str}
    (hn : l.most = some n) (hn2 : n ≤ sizeLine) (hdf : d.params.defaults = []) (hr : Room k callerA)
    (hY : ∀ (w : World) (h : Heap), YP w h → (K w.params).In h)
    (F : ∀ (w : World) (mg : Str → Option Value) (fa : Addr) (h : Heap), (K w.params).In h → h.Ns mainGlobals mg → mg d.name = some (.ref fa) →
      ∃ fd : FuncData, (∀ (s : Shared) (u : Value), BindsTo s fd ⟨[u], []⟩ [(x, u)]) ∧
        ∀ base : Heap, (K w.params).In base → base.Ns mainGlobals mg → FnOk l.prog w (K w.params) mg base (CX w) k fa fd [x] (sp w))
    (hsp : ∀ (w : World) (H : Hp) (a : Addr) (ns : List Int), ns.length ≤ n → Only H → SqL (K w.params) H a (ns.map V.int) → sp w [.ref a] H (fun v _ => v = .bl true) fun _ _ _ => False)
    (hCX : ∀ (w : World) (H : Hp) (s : Shared) (e : Value) (s' : Shared), CX w [] H s (fun _ _ _ => False) e s' → False) :
    PySem.W.WalkO q loose XP YP l.row.toRowW d [] (fun f vs => PySem.call f vs) := by
  refine Att.attach_call hn hdf fun w s₀ s₁ mg mb fa o pm cd doc a vs ns G Y ho hd hcd hmg hobj hints hlen hg => ?_
  have KX := hY w _ Y
  obtain ⟨fd, hb, hF⟩ := F w mg fa _ KX G.T.g hmg
  exact law_call KX G.T.g G.T.b G.T.builtins G.T.nolimit hg hobj hints (Nat.le_trans hlen hn2) hr hF hb (fun H hO hS => hsp w H a ns hlen hO hS) fun H e s' => hCX w H s₁ e s'
end L2
/- THE LAST THEOREM (shape; LID, My.* are yours):
   My.Adr: a structure of the addresses that your layer names (classes, functions); My.Txt K t: a structure (Prop) of the equations over K;
   My.txt_mk : {K} {implicit addresses ..} (e1 : nsIn K mainGlobals "law" = some (some (.ref f))) (e2 : K.lookup f = some ⟨oc, od, .func (fnOf "law" "law" params body scope dV kV doc pm an cdv ct), sl⟩) (e3 : codeIn K cdv "law" = true) .. : ∃ t, My.Txt K t
set_option maxRecDepth 100000 in
set_option maxHeartbeats 0 in
theorem PySem.Challenge.cw_LID_holds : PySem.Challenge.rw_LID.Holds := by
  w_on; o_law; k_head; (case hw => w_witness2)
  k_fill
  refine L2.walk_of (l := PySem.Challenge.rw_LID) (n := 63) (k := 40) (x := "script") (CX := fun w => ..) (sp := fun _ => My.sp_law) rfl (by decide) rfl ⟨rfl, by decide, by decide⟩ (fun w h Y => PySem.W.kIn_of Y) ?F ?S ?C
  case F =>
    intro w mg fa h KX G hmg
    have T : ∃ t, My.Txt (L2.KOf KX) t := by
      dsimp only [L2.KOf]                          -- K must stand as «<heap const> w.params» for k_is
      refine' My.txt_mk ?e1 ?e2 ?e3 ..
      (case e1 => PySem.W.k_is)                    -- in the order: a name -> its address -> its object -> its parts
      (case e2 => PySem.W.k_is)
      ..
    obtain ⟨t, T⟩ := T
    have e0 := hmg.symm.trans (PySem.W.mg_of KX G T.law)
    cases e0                                       -- fa is the law's own address
    exact ⟨_, fun s u => .of_eq rfl, fun base kb nb => My.law_fn T kb nb⟩     -- if «.of_eq rfl» comes too early: refine' ⟨_, ?b, fun base kb nb => My.law_fn T kb nb⟩; exact fun s u => .of_eq rfl
  case S => exact fun w H a ns hl hO hS => ..
  case C => exact ..
(the tactic k_is has no namespace: write k_is) -/
/-! SHORT WORDS over the layer: a def of the text, its body, what a loop and a test want. -/
namespace L2
open PySem PySem.Spec PyProof.Rows
/-! ### the text by places -/
def defArgs (s : Stmt) : Arguments := match s with
  | .FunctionDef _ a _ _ _ _ _ _ _ _ => a
  | _ => { posonlyargs := [], args := [], vararg := none, kwonlyargs := [], kw_defaults := [], kwarg := none, defaults := [] }
def defBody (s : Stmt) : List Stmt := match s with
  | .FunctionDef _ _ b _ _ _ _ _ _ _ => b
  | _ => []
def defScope (s : Stmt) : Scope := match s with
  | .FunctionDef _ _ _ _ _ _ sc _ _ _ => sc
  | _ => { kind := .function, names := [], isGenerator := false, isCoroutine := false }
/-! ### no exception leaves a def -/
abbrev CX0 : CXT := fun _ _ _ _ _ _ => False
abbrev E0 : XK := fun _ _ _ => False
theorem pass0 {X : Cx} : Passes CX0 X E0 := fun _ _ _ _ _ _ _ h => h.elim
/-! ### a def (or method) of the text as it stands behind the top -/
structure Fun (K : PySem.W.Frag) (x qual : Str) (st : Stmt) (f : Addr) (fd : FuncData) : Prop where
  ex : ∃ (oc : Value) (od : Option Addr) (kV doc pm : Value) (an : Option Addr) (cdv ct : Value) (osl : Array (Option Value)),
    fd = PySem.W.fnOf x qual (defArgs st) (defBody st) (defScope st) .none kV doc pm an cdv ct ∧ K.lookup f = some ⟨oc, od, .func fd, osl⟩ ∧ PySem.W.codeIn K cdv qual = true
  kp : PySem.W.keepIn K (.ref f) = true
section
variable {P : Program} {w : World} {K : PySem.W.Frag} {mg : Str → Option Value} {base : Heap}
/-- THE RULE for a def: its body as a term of rules, and the reading of that term -/
theorem Fun.ok {x qual : Str} {st : Stmt} {f : Addr} {fd : FuncData} {N ps : List Str} {k : Nat} {sp : Sp} (F : Fun K x qual st f fd) (S : FnScope N ps (defScope st)) (len : ∀ vs H Q E, sp vs H Q E → vs.length = ps.length)
    (hbody : ∀ (cdv : Value) (A : Around) (outer : List Env) (s : Shared) (H : Hp) (vs : List V) (Q : VK) (E : XK), Room k (A.deeper (envOfC qual (defScope st) s.heap.objs.size f cdv)) → sp vs H Q E →
      ∃ t, PSs (cxOf CX0 P w K mg base N qual (defScope st) f cdv A outer s H E).nox (defBody st) t ∧ t { nx := fun _ H' => Q .non H', rt := Q } (start N vs) H) : FnOk P w K mg base CX0 (k + 1) f fd ps sp := by
  obtain ⟨oc, od, kV, doc, pm, an, cdv, ct, osl, rfl, lk, hcd⟩ := F.ex
  refine fn_of lk hcd S len fun A outer s H vs Q E hr hsp => ?_
  obtain ⟨t, h, q⟩ := hbody cdv A outer s H vs Q E hr hsp
  exact ⟨t, h.nox, q⟩
/-- how its arguments bind (no defaults): h is «fun _ _ _ _ _ _ us hl => match us, hl with | [_, _], _ => rfl», one _ a parameter -/
theorem Fun.binds {x qual : Str} {st : Stmt} {f : Addr} {fd : FuncData} {ps : List Str} (F : Fun K x qual st f fd)
    (h : ∀ (kV doc pm : Value) (an : Option Addr) (cdv ct : Value) (us : List Value), us.length = ps.length → bindArgs (PySem.W.fnOf x qual (defArgs st) (defBody st) (defScope st) .none kV doc pm an cdv ct) ⟨us, []⟩ = pure (ps.zip us)) : Binds K fd ps [] := by
  obtain ⟨oc, od, kV, doc, pm, an, cdv, ct, osl, rfl, lk, hcd⟩ := F.ex
  exact .all (h kV doc pm an cdv ct)
theorem fun_mk {x qual : Str} {st : Stmt} {f : Addr} {oc : Value} {od an : Option Addr} {osl : Array (Option Value)} {kV doc pm cdv ct : Value} (l : K.lookup f = some ⟨oc, od, .func (PySem.W.fnOf x qual (defArgs st) (defBody st) (defScope st) .none kV doc pm an cdv ct), osl⟩)
    (c : PySem.W.codeIn K cdv qual = true) (k : PySem.W.keepIn K (.ref f) = true) : Fun K x qual st f (PySem.W.fnOf x qual (defArgs st) (defBody st) (defScope st) .none kV doc pm an cdv ct) := ⟨⟨oc, od, kV, doc, pm, an, cdv, ct, osl, rfl, l, c⟩, k⟩
end
theorem small1000 {n : Nat} (h : n ≤ 1000) : n < sizeLine := Nat.lt_of_le_of_lt h (by decide)
/-! ### expressions in short: the name that stands in the i-th slot -/
section
variable {X : Cx}
theorem pv (i : Nat) {x : Str} {pos : Pos} (hN : X.N[i]? = some x := by rfl) (hv : Vis X.env.scope x := by first | exact Or.inl rfl | exact Or.inr (Or.inl rfl) | exact Or.inr (Or.inr rfl)) (hd : (x == ("__debug__" : Str)) = false := by decide)
    (hcd : (x == ("__classdict__" : Str)) = false := by decide) : PE X (.Name x pos) (tVar i) := pe_var hN hv hd hcd
end
/-! ### tests -/
theorem iteF {A B : Prop} (h : B) : if false = true then A else B := by
  rw [if_neg Bool.false_ne_true]
  exact h
theorem iteT {A B : Prop} (h : A) : if true = true then A else B := by
  rw [if_pos rfl]
  exact h
theorem ite2 {c A B : Prop} [Decidable c] (h1 : c → A) (h2 : ¬ c → B) : if c then A else B := by
  by_cases h : c
  · rw [if_pos h]
    exact h1 h
  · rw [if_neg h]
    exact h2 h
/-! ### heaps -/
/-- all that was tracked is as it was -/
def Same (H H' : Hp) : Prop := ∀ b o, H b = some o → H' b = some o
theorem Same.refl (H : Hp) : Same H H := fun _ _ h => h
theorem Same.trans {H H1 H2 : Hp} (a : Same H H1) (b : Same H1 H2) : Same H H2 := fun c o h => b c o (a c o h)
theorem Same.seq {K : PySem.W.Frag} {H H' : Hp} {a : Addr} {xs : List V} (e : Same H H') (h : SqL K H a xs) : SqL K H' a xs := by
  rcases h with (h | ⟨o, h⟩) | h
  · exact .inl (.inl (e _ _ h))
  · exact .inl (.inr ⟨o, e _ _ h⟩)
  · exact .inr h
/-! ### a dict's pairs: keys that differ -/
section
variable {κ : Type} [DecidableEq κ]
end
end L2

set_option Elab.async false
set_option linter.all false
set_option maxRecDepth 100000
set_option maxHeartbeats 4000000
/-! more rules over the layer: sgV of a text, comprehensions, all, any, isinstance, tuples compared, join -/
namespace L2
open PySem PySem.Spec PyProof.Rows

/-! ### an iterator that walks a list of values, as long as the heap keeps Ok -/
structure ItOn (J : It) (xs : List V) (Ok : Hp → Prop) : Prop where
  go : ∀ i H, Ok H → i < xs.length → J.go i H
  yld : ∀ i H x H', Ok H → i < xs.length → J.yld i H x H' → H' = H ∧ xs[i]? = some x
  stop : ∀ i H, Ok H → xs.length ≤ i → J.stop i H
theorem ItOn.list {K : PySem.W.Frag} {a : Addr} {xs : List V} : ItOn (Itl K a) xs (fun H => SqL K H a xs) :=
  ⟨fun i H h hi => ⟨xs, xs[i], h, by simp [hi]⟩, fun i H x H' h _ y => ⟨y.1, y.2 xs h⟩, fun i H h hi => ⟨xs, h, hi⟩⟩
/-- lo, lo + 1, .. -/
def rngV (lo : Int) (n : Nat) : List V := (List.range n).map fun i : Nat => V.int (lo + i)
theorem rngV_length (lo : Int) (n : Nat) : (rngV lo n).length = n := by unfold rngV; simp
theorem ItOn.rng {lo : Int} {n : Nat} : ItOn (Itr lo n) (rngV lo n) (fun _ => True) :=
  ⟨fun i H _ hi => by rw [rngV_length] at hi; exact hi, fun i H x H' _ hi y => by
    obtain ⟨e, rfl⟩ := y
    rw [rngV_length] at hi
    refine ⟨e, ?_⟩
    unfold rngV
    rw [List.getElem?_map, List.getElem?_range hi]
    rfl, fun i H _ hi => by rw [rngV_length] at hi; exact hi⟩

/-- a for loop over such an iterator: Pv what holds ahead of turn i -/
theorem for_on {J : It} {xs : List V} {Ok : Hp → Prop} (hJ : ItOn J xs Ok) {g : TG} {tb : TS} {D : Ends} {σ : St} {H : Hp} (Pv : Nat → St → Hp → Prop) (h0 : Pv 0 σ H) (hl : ∀ i σ H, i ≤ xs.length → Pv i σ H → Ok H)
    (hs : ∀ i x σ H, xs[i]? = some x → Pv i σ H → g x σ H fun σ2 H2 => tb { D with nx := Pv (i + 1), ct := Pv (i + 1), bk := D.nx } σ2 H2) (hd : ∀ σ H, Pv xs.length σ H → D.nx σ H) :
    ∃ W : Nat → Nat → St → Hp → Prop, (∃ m, W 0 m σ H) ∧ ∀ i m σ H, W i m σ H →
      (J.stop i H ∧ D.nx σ H) ∨ (J.go i H ∧ ∃ N : St → Hp → Prop, (∀ σ' H', N σ' H' → ∃ m', m' < m ∧ W (i + 1) m' σ' H') ∧ ∀ x H', J.yld i H x H' → g x σ H' fun σ2 H2 => tb { D with nx := N, ct := N, bk := D.nx } σ2 H2) := by
  refine ⟨fun i m σ H => m = xs.length - i ∧ i ≤ xs.length ∧ Pv i σ H, ⟨xs.length, by simp, Nat.zero_le _, h0⟩, ?_⟩
  rintro i m σ H ⟨rfl, hi, p⟩
  have q := hl i σ H hi p
  by_cases hlt : i < xs.length
  · refine .inr ⟨hJ.go i H q hlt, Pv (i + 1), fun σ' H' p' => ⟨xs.length - (i + 1), by omega, rfl, hlt, p'⟩, fun x H' y => ?_⟩
    obtain ⟨e, hy⟩ := hJ.yld i H x H' q hlt y
    subst e
    exact hs i x σ _ hy p
  · have e : i = xs.length := by omega
    subst e
    exact .inl ⟨hJ.stop _ H q (Nat.le_refl _), hd σ H p⟩

/-! ### the sgV of a text -/
def Its (x : Str) : It := ⟨fun i _ => i < x.cps.size, fun i H v H' => H' = H ∧ ∃ c, x.cps[i]? = some c ∧ v = .str ⟨#[c]⟩, fun i _ => x.cps.size ≤ i⟩
def sgV (x : Str) : List V := x.cps.toList.map fun c => V.str ⟨#[c]⟩
theorem sgV_length (x : Str) : (sgV x).length = x.cps.size := by unfold sgV; simp
theorem ItOn.str {x : Str} : ItOn (Its x) (sgV x) (fun _ => True) :=
  ⟨fun i H _ hi => by rw [sgV_length] at hi; exact hi, fun i H v H' _ _ y => by
    obtain ⟨e, c, hc, rfl⟩ := y
    refine ⟨e, ?_⟩
    unfold sgV
    rw [List.getElem?_map, Array.getElem?_toList, hc]
    rfl, fun i H _ hi => by rw [sgV_length] at hi; exact hi⟩
theorem turn_str {P : Program} {w : World} {K : PySem.W.Frag} {tg : Expr} {ty : String} (hty : ty = "str_ascii_iterator" ∨ ty = "str_iterator") (it : Addr) (x : Str) (t : Tok) :
    Turn P w K tg (Its x) [it] it (fun i h => h.IsStrIter it ty x t i) where
  mem := by simp
  obj := fun i h st b hb => by
    have e : b = it := by simpa using hb
    subst e
    obtain ⟨o, e, c, d⟩ := st
    exact ⟨o, e, fun v z => by rw [d] at z; cases z⟩
  keep := fun i h h' st k => let ⟨o, e, c, d⟩ := st; ⟨o, k it (by simp) o e, c, d⟩
  item := by
    intro X hP hw hK hc i pins s σ H E I hf st hg
    subst hP hw hK
    obtain ⟨f0, f1, f2, f3, f4, f5⟩ := hf it (by simp)
    have hlt : i < x.cps.size := hg
    rcases hty with rfl | rfl
    · refine wpAny_pyNext_ascii_item st (c := x.cps[i]) (by simp [hlt]) fun h' st' sb => ?_
      have I1 : Inv X pins σ H { s with heap := h', toks := s.toks + 1 } := I.turned (fun b o hb e => (sb.2 b hb).trans e) f0 f1 f3 f4 f5
      obtain ⟨o, e, c, d⟩ := id st'
      exact ⟨_, rfl, go_of (s := { s with heap := h', toks := s.toks + 1 }) e c d (by decide) ⟨.str ⟨#[x.cps[i]]⟩, H, I1, ⟨_, rfl⟩, ⟨rfl, _, by simp [hlt], rfl⟩, st', fun b hb => (hf b hb).1⟩⟩
    · refine wpAny_pyNext_wide_item st (c := x.cps[i]) (by simp [hlt]) fun h' st' sb => ?_
      have I1 : Inv X pins σ H { s with heap := h', toks := s.toks + 1 } := I.turned (fun b o hb e => (sb.2 b hb).trans e) f0 f1 f3 f4 f5
      obtain ⟨o, e, c, d⟩ := id st'
      exact ⟨_, rfl, go_of (s := { s with heap := h', toks := s.toks + 1 }) e c d (by decide) ⟨.str ⟨#[x.cps[i]]⟩, H, I1, ⟨_, rfl⟩, ⟨rfl, _, by simp [hlt], rfl⟩, st', fun b hb => (hf b hb).1⟩⟩
  done := by
    intro X hP hw hK hc i pins s σ H E I hf st hg
    subst hP hw hK
    obtain ⟨f0, f1, f2, f3, f4, f5⟩ := hf it (by simp)
    have hle : x.cps.size ≤ i := hg
    rcases hty with rfl | rfl
    · exact wpAny_pyNext_ascii_end (I.ok.hd hc) st (by simp; omega) fun h' eb => ⟨rfl, I.turned (t' := s.toks) (fun b o hb e => eb b o hb e) f0 f1 f3 f4 f5⟩
    · exact wpAny_pyNext_wide_end (I.ok.hd hc) st (by simp; omega) fun h' eb => ⟨rfl, I.turned (t' := s.toks) (fun b o hb e => eb b o hb e) f0 f1 f3 f4 f5⟩
  self := fun _ _ _ _ _ st h => by
    rcases hty with rfl | rfl
    · exact wpAny_pyIter_striter_ascii st h
    · exact wpAny_pyIter_striter_wide st h
section
variable {X : Cx} {tg : Expr}
def iStr (tl : TE) : TI := fun σ H R => tl σ H fun v H1 => ∃ x, v = .str x ∧ R (Its x) H1
theorem pi_str {l : Expr} {tl : TE} (hl : PE X l tl) : PI X tg l (iStr tl) := by
  intro pins s σ H R I h
  refine thn (hl pins s σ H _ I h) fun v s1 ⟨y, H1, I1, r1, q1⟩ => ?_
  obtain ⟨x, e, q⟩ := q1
  subst e
  obtain ⟨t, rfl⟩ := r1
  have fin : ∀ b ∈ [s1.heap.objs.size], FpOk X pins H1 b := fun b hb => by
    have e : b = s1.heap.objs.size := by simpa using hb
    subst e
    exact I1.fpOk (Nat.le_refl _) (I1.hok.fresh (Nat.le_refl _))
  cases ha : x.cps.all (· < 128)
  · refine wpAny_pyIter_wide ha ?_
    exact ⟨s1.heap.objs.size, [s1.heap.objs.size], _, _, H1, rfl, I1.kept (t' := s1.toks) fun b o e => Heap.get?_push_of_some _ e, turn_str (.inr rfl) _ x t, ⟨_, Heap.get?_push_size _ rfl, rfl, rfl⟩, fin, q⟩
  · refine wpAny_pyIter_ascii ha ?_
    exact ⟨s1.heap.objs.size, [s1.heap.objs.size], _, _, H1, rfl, I1.kept (t' := s1.toks) fun b o e => Heap.get?_push_of_some _ e, turn_str (.inl rfl) _ x t, ⟨_, Heap.get?_push_size _ rfl, rfl, rfl⟩, fin, q⟩
end
end L2

set_option Elab.async false
set_option linter.all false
set_option maxRecDepth 100000
set_option maxHeartbeats 4000000
/-! a list comprehension: one clause, at most one test -/
namespace L2
open PySem PySem.Spec PyProof.Rows

/-! ### the cells that a block sees -/
def clOf (env : Env) : List (Str × NameKind) → List (Str × Addr) → List (Str × Addr)
  | [], cs => cs
  | (n, k) :: r, cs => clOf env r (if k == .free then (match env.cells.lookup n with | some a => (n, a) :: cs | none => cs) else cs)
theorem forIn_fold {α β : Type} (f : α → β → Sem (ForInStep β)) (g : α → β → β) : ∀ (l : List α) (b : β), (∀ x ∈ l, ∀ r, f x r = pure (ForInStep.yield (g x r))) → forIn l b f = pure (l.foldl (fun r x => g x r) b)
  | [], b, _ => rfl
  | x :: l, b, h => by
    rw [List.forIn_cons, h x List.mem_cons_self, pure_bind]
    exact forIn_fold f g l _ fun y hy => h y (List.mem_cons_of_mem _ hy)
theorem clOf_fold {env : Env} : ∀ (names : List (Str × NameKind)) (cs : List (Str × Addr)), names.foldl (fun r x => if x.2 == .free then (match env.cells.lookup x.1 with | some a => (x.1, a) :: r | none => r) else r) cs = clOf env names cs
  | [], _ => rfl
  | (n, k) :: r, cs => by
    rw [List.foldl_cons]
    exact clOf_fold r _
theorem closure_of {env : Env} {scope : Scope} (h : ∀ x ∈ scope.names, x.2 = .free → ∃ a, env.cells.lookup x.1 = some a) : closureFor scope env = pure (clOf env scope.names []) := by
  simp only [closureFor]
  rw [forIn_fold _ (fun x r => if x.2 == .free then (match env.cells.lookup x.1 with | some a => (x.1, a) :: r | none => r) else r) scope.names [] (fun x hx r => by
    obtain ⟨n, k⟩ := x
    by_cases hk : k = .free
    · subst hk
      obtain ⟨a, ha⟩ := h (n, .free) hx rfl
      have ha' : env.cells.lookup n = some a := ha
      have e : cellOf env n = pure a := by unfold cellOf; rw [ha']
      simp only [beq_self_eq_true, if_true, e, pure_bind, ha']
    · have hb : (k == NameKind.free) = false := by simpa using hk
      simp only [hb, Bool.false_eq_true, if_false])]
  rw [clOf_fold]
  rfl
theorem clOf_mem {env : Env} : ∀ (names : List (Str × NameKind)) (cs : List (Str × Addr)) (x : Str) (c : Addr), (x, c) ∈ clOf env names cs → (x, c) ∈ cs ∨ ((x, NameKind.free) ∈ names ∧ env.cells.lookup x = some c)
  | [], cs, x, c, h => .inl h
  | (n, k) :: r, cs, x, c, h => by
    unfold clOf at h
    rcases clOf_mem r _ x c h with h1 | ⟨h1, h2⟩
    · by_cases hk : (k == NameKind.free) = true
      · rw [if_pos hk] at h1
        have hk' : k = .free := by simpa using hk
        subst hk'
        cases q : env.cells.lookup n with
        | none => rw [q] at h1; exact .inl h1
        | some a =>
          rw [q] at h1
          rcases List.mem_cons.mp h1 with e | h1
          · injection e with e1 e2
            subst e1 e2
            exact .inr ⟨List.mem_cons_self, q⟩
          · exact .inl h1
      · rw [if_neg hk] at h1; exact .inl h1
    · exact .inr ⟨List.mem_cons_of_mem _ h1, h2⟩
theorem clOf_keep {env : Env} : ∀ (names : List (Str × NameKind)) (cs : List (Str × Addr)) (x : Str), (∃ c, (x, c) ∈ cs) ∨ (x, NameKind.free) ∈ names → (∀ y ∈ names, y.2 = .free → ∃ a, env.cells.lookup y.1 = some a) → ∃ c, (x, c) ∈ clOf env names cs
  | [], cs, x, h, _ => by
    rcases h with h | h
    · exact h
    · exact nomatch h
  | (n, k) :: r, cs, x, h, hf => by
    unfold clOf
    refine clOf_keep r _ x ?_ fun y hy => hf y (List.mem_cons_of_mem _ hy)
    rcases h with ⟨c, h⟩ | h
    · refine .inl ⟨c, ?_⟩
      split
      · cases env.cells.lookup n with
        | none => exact h
        | some a => exact List.mem_cons_of_mem _ h
      · exact h
    · rcases List.mem_cons.mp h with e | h
      · injection e with e1 e2
        subst e1 e2
        obtain ⟨a, ha⟩ := hf (x, .free) List.mem_cons_self rfl
        refine .inl ⟨a, ?_⟩
        simp only [beq_self_eq_true, if_true, show env.cells.lookup x = some a from ha]
        exact List.mem_cons_self
      · exact .inr h
theorem lookup_of_mem {α β : Type} [BEq α] [LawfulBEq α] {x : α} : ∀ {l : List (α × β)} {c : β}, (x, c) ∈ l → ∃ d, l.lookup x = some d
  | (y, d) :: r, c, h => by
    by_cases e : x = y
    · subst e; exact ⟨d, by simp [List.lookup_cons]⟩
    · have hb : (x == y) = false := by simpa using e
      rcases List.mem_cons.mp h with h | h
      · injection h with h1 _; exact absurd h1 e
      · obtain ⟨d', q⟩ := lookup_of_mem h
        exact ⟨d', by simp [List.lookup_cons, hb, q]⟩

/-! ### the names of a block as they are relabelled -/
theorem relabel_seen {env : Env} {x : Str} : ∀ {names : List (Str × NameKind)}, (∀ y ∈ names, y.2 ≠ .cell) →
    ((names.map fun (n, k) => if (k == NameKind.free && env.scope.kind == .function && env.kindOf n == some .cell) then (n, NameKind.cell) else (n, k)).lookup x = some .cell ∨
     (names.map fun (n, k) => if (k == NameKind.free && env.scope.kind == .function && env.kindOf n == some .cell) then (n, NameKind.cell) else (n, k)).lookup x = some .free) → (x, NameKind.free) ∈ names
  | [], _, h => by simp at h
  | (n, k) :: r, hc, h => by
    have ih := relabel_seen (env := env) (x := x) (names := r) fun y hy => hc y (List.mem_cons_of_mem _ hy)
    have hk : k ≠ .cell := hc (n, k) List.mem_cons_self
    rw [List.map_cons] at h
    by_cases e : x = n
    · subst e
      by_cases hf : k = .free
      · subst hf; exact List.mem_cons_self
      · have hb : (k == NameKind.free) = false := by simpa using hf
        simp [List.lookup_cons, hb] at h
        rcases h with h | h
        · exact absurd h hk
        · exact absurd h hf
    · have hb : (x == n) = false := by simpa using e
      refine List.mem_cons_of_mem _ (ih ?_)
      by_cases c : (k == NameKind.free && env.scope.kind == .function && env.kindOf n == some .cell) = true
      · simpa [List.lookup_cons, hb, c] using h
      · simpa [List.lookup_cons, hb, c] using h
theorem relabel_free {env : Env} {x : Str} (he : env.kindOf x = some .cell ∨ env.kindOf x = some .free) (hk : env.scope.kind = .function) : ∀ {names : List (Str × NameKind)}, names.lookup x = some .free →
    ((names.map fun (n, k) => if (k == NameKind.free && env.scope.kind == .function && env.kindOf n == some .cell) then (n, NameKind.cell) else (n, k)).lookup x = some .cell ∨
     (names.map fun (n, k) => if (k == NameKind.free && env.scope.kind == .function && env.kindOf n == some .cell) then (n, NameKind.cell) else (n, k)).lookup x = some .free)
  | [], h => by simp at h
  | (n, k) :: r, h => by
    rw [List.map_cons]
    dsimp only
    by_cases e : x = n
    · subst e
      simp only [List.lookup_cons, beq_self_eq_true] at h
      have h' : k = .free := Option.some.inj h
      subst h'
      by_cases c : (NameKind.free == NameKind.free && env.scope.kind == .function && env.kindOf x == some .cell) = true
      · rw [if_pos c]; left; simp [List.lookup_cons]
      · rw [if_neg c]; right; simp [List.lookup_cons]
    · have hb : (x == n) = false := by simpa using e
      simp only [List.lookup_cons, hb] at h
      have ih := relabel_free he hk h
      by_cases c : (k == NameKind.free && env.scope.kind == .function && env.kindOf n == some .cell) = true
      · rw [if_pos c]; simp only [List.lookup_cons, hb]; exact ih
      · rw [if_neg c]; simp only [List.lookup_cons, hb]; exact ih

/-- the context of a block: s₀, H₀ the state at its entry (the iterator stands), C its own names, cl the cells that it sees, fp the iterator's records -/
def cxLc (X : Cx) (N : List Str) (scope : Scope) (C : Addr) (s₀ : Shared) (H₀ : Hp) (fp : List Addr) : Cx where
  prog := X.prog
  w := X.w
  K := X.K
  mg := X.mg
  base := X.base
  A := X.A
  N := N
  s₀ := s₀
  H₀ := H₀
  env := compEnvC scope (clOf X.env scope.names []) C X.env
  outer := X.stack
  stack := X.stack
  ex := fp
  fn := fun _ => false
  calm := X.calm
  pn := []
  xe := fun _ _ => False
/-- what a block's scope must be: its own name x, then the seen names ys, which stand at the places js of the def -/
structure LcScope (X : Cx) (scope : Scope) (x : Str) (ys : List Str) (js : List Nat) : Prop where
  kind : scope.kind = .function
  nocell : ∀ y ∈ scope.names, y.2 ≠ .cell
  locs : ∀ y ∈ scope.names, y.2 = .local → scope.names.lookup y.1 = some .local
  own : scope.names.lookup x = some .local
  seen : ∀ y ∈ ys, scope.names.lookup y = some .free
  out : ∀ y ∈ scope.names, y.2 = .free → X.env.kindOf y.1 = some .cell ∨ X.env.kindOf y.1 = some .free
  places : js.map (fun j => X.N[j]?) = ys.map some
  nd : (x :: ys).Nodup
/-- the values of the seen names -/
def seenV (σ : St) (js : List Nat) : St := js.map fun j => (σ[j]?).join

section
variable {X : Cx} {pins : List (Addr × Obj)} {σ : St} {H : Hp} {s : Shared} {scope : Scope} {x : Str} {ys : List Str} {js : List Nat} {fp : List Addr} {C D : Addr} {h1 : Heap}

theorem LcScope.cells (L : LcScope X scope x ys js) (I : Inv X pins σ H s) : ∀ y ∈ scope.names, y.2 = .free → ∃ a, X.env.cells.lookup y.1 = some a := fun y hy hf => I.ok.has y.1 (L.out y hy hf)
theorem LcScope.sub (L : LcScope X scope x ys js) {y : Str} {c : Addr} (h : (clOf X.env scope.names []).lookup y = some c) : X.env.cells.lookup y = some c ∧ (y, NameKind.free) ∈ scope.names := by
  rcases clOf_mem scope.names [] y c (PySem.mem_of_lookup h) with z | ⟨z1, z2⟩
  · exact nomatch z
  · exact ⟨z2, z1⟩
theorem LcScope.has (L : LcScope X scope x ys js) (I : Inv X pins σ H s) {y : Str} (h : (y, NameKind.free) ∈ scope.names) : ∃ c, (clOf X.env scope.names []).lookup y = some c := by
  obtain ⟨c, q⟩ := clOf_keep scope.names [] y (.inr h) (L.cells I)
  exact lookup_of_mem q

/-- the block's entry -/
theorem Inv.block (L : LcScope X scope x ys js) (I : Inv X pins σ H s) (hf : ∀ b ∈ fp, FpOk X pins H b) (ho : ∀ b ∈ fp, ∃ o, s.heap.get? b = some o) (hC : s.heap.objs.size ≤ C) (old : ∀ b o, s.heap.get? b = some o → h1.get? b = some o) {m : Str → Option Value} (hn : h1.Ns C m) {t' : Nat} :
    Inv (cxLc X (x :: ys) scope C s H fp) [] (none :: seenV σ js) H { s with heap := h1, toks := t' } := by
  have fpC : ∀ b ∈ fp, b ≠ C := fun b hb z => by
    obtain ⟨o, e⟩ := ho b hb
    exact absurd (Nat.lt_of_lt_of_le (Heap.lt_size e) (by rw [z]; exact hC)) (Nat.lt_irrefl _)
  refine ⟨⟨I.ok.mod, L.kind, I.ok.glob, I.ok.blt, hC, fun y z c h1 h2 => ?_, fun y hy => ?_, fun y c h => (nomatch h), I.ok.hd, I.ok.frames, .inl rfl, fun b hb => ⟨fpC b hb, fun y c e => ?_⟩, I.bs, Nat.le_trans I.ok.bsz I.sz, fun b o e hb => ?_, fun b hb z => ?_, I.stack, I.stkFree⟩,
    rfl, I.bare, Un.kept old, ⟨m, hn, fun i y v e1 e2 e3 => ?_⟩, fun y c e => ?_, I.hok.fresh hC, fun y c e => ?_, fun p hp => (nomatch hp), I.hok.kept old, ?_⟩
  · exact I.ok.inj y z c (L.sub h1).1 (L.sub h2).1
  · have hy' : (y, NameKind.free) ∈ scope.names := relabel_seen (env := X.env) L.nocell hy
    exact L.has I hy'
  · exact (hf b hb).2.2.2.2.1 y c (L.sub e).1
  · rcases (hf b hb).2.2.2.1 with z | z
    · exact I.ok.noex b o e z
    · exact absurd (Nat.lt_of_lt_of_le (Heap.lt_size e) (Nat.le_trans I.ok.bsz z)) (Nat.lt_irrefl _)
  · rcases List.mem_cons.mp (I.stkSub b z) with z | z
    · exact (hf b hb).2.1 z
    · exact (hf b hb).2.2.1 z
  · cases i with
    | zero => exact absurd e2 (by simp)
    | succ i =>
      have e1' : ys[i]? = some y := by simpa [cxLc] using e1
      have e2' : (seenV σ js)[i]? = some (some v) := by simpa using e2
      have hj : ∃ j, js[i]? = some j := by
        unfold seenV at e2'
        rw [List.getElem?_map] at e2'
        cases q : js[i]? with
        | none => rw [q] at e2'; cases e2'
        | some j => exact ⟨j, rfl⟩
      obtain ⟨j, hj⟩ := hj
      have pj : X.N[j]? = some y := by
        have q := congrArg (fun l => l[i]?) L.places
        simp only [List.getElem?_map, hj, e1', Option.map_some] at q
        exact Option.some.inj q
      have vj : σ[j]? = some (some v) := by
        unfold seenV at e2'
        rw [List.getElem?_map, hj, Option.map_some] at e2'
        have e3' := Option.some.inj e2'
        cases q : σ[j]? with
        | none => rw [q] at e3'; cases e3'
        | some o => rw [q] at e3'; exact congrArg some e3'
      have ym : y ∈ ys := List.mem_of_getElem? e1'
      have yl := L.seen y ym
      have yf : (y, NameKind.free) ∈ scope.names := PySem.mem_of_lookup yl
      have yo := L.out _ yf rfl
      obtain ⟨m0, hn0, hl0⟩ := I.loc
      have vis : Vis X.env.scope y := .inr yo
      obtain ⟨u, r, l⟩ := hl0 j y v pj vj vis
      refine ⟨u, r, ?_⟩
      rcases l with ⟨k, _⟩ | ⟨k, c, ec, z⟩
      · rcases yo with q | q <;> (rw [k] at q; cases q)
      · obtain ⟨c', ec'⟩ := L.has I yf
        have ecc := (L.sub ec').1
        rw [ec] at ecc
        cases ecc
        obtain ⟨oc, hoc, hd⟩ := z
        exact .inr ⟨relabel_free yo I.ok.kind yl, c, ec', ⟨oc, old _ _ hoc, hd⟩⟩
  · obtain ⟨v, oc, hoc, hd⟩ := I.cell y c (L.sub e).1
    exact ⟨v, oc, old _ _ hoc, hd⟩
  · exact I.freeC y c (L.sub e).1
  · show (none :: seenV σ js).length = (x :: ys).length
    have q := congrArg List.length L.places
    rw [List.length_map, List.length_map] at q
    unfold seenV
    rw [List.length_cons, List.length_cons, List.length_map, q]

/-- behind the block: D, which was laid in it, holds the list -/
theorem Inv.unblock {pc : List (Addr × Obj)} {σc : St} {H' : Hp} {s' : Shared} {N : List Str} {acc : List V} {its : List Value} {n : Nat} {h' : Heap} (I : Inv X pins σ H s) (hf : ∀ b ∈ fp, FpOk X pins H b) (hD : s.heap.objs.size ≤ D) (hC : s.heap.objs.size ≤ C) (hDC : D ≠ C)
    (J : Inv (cxLc X N scope C s H fp) pc σc H' s') (hHD : H' D = none) (rv : Vals acc its) (hz : acc.length ≤ sizeLine) (hd : s'.heap.get? D = some { cls := .type "list", data := .seq its.toArray n }) (sb : Heap.SameBut C s'.heap h') :
    Inv X pins σ (upd H' D (.lst acc)) { s' with heap := h' } := by
  have lt : ∀ b o, s.heap.get? b = some o → b ≠ C ∧ b ≠ D := fun b o e => ⟨Nat.ne_of_lt (Nat.lt_of_lt_of_le (Heap.lt_size e) hC), Nat.ne_of_lt (Nat.lt_of_lt_of_le (Heap.lt_size e) hD)⟩
  have B : Un (frs X.stack) fp H H' s.heap s'.heap := J.base
  refine I.call' (ch := fp) (s' := { s' with heap := h' }) J.os ⟨fun b o e n hb hx => ?_, fun b o e n hb hx => ?_, fun b o e n hx => ?_, fun b o e hx => ?_, fun b xs e => ?_, fun b o u e => ?_, fun b ps e => ?_⟩ ?_ J.bare ?_
  · exact (sb.2 b (lt b o e).1).trans (B.keep b o e n hb hx)
  · obtain ⟨sl, q⟩ := B.slot b o e n hb hx
    exact ⟨sl, (sb.2 b (lt b o e).1).trans q⟩
  · rw [upd_ne (lt b o e).2]; exact B.free b o e n hx
  · obtain ⟨o', q⟩ := B.there b o e hx
    exact ⟨o', (sb.2 b (lt b o e).1).trans q⟩
  · have q := B.tups b xs e
    rw [upd_ne (ne_of_none q hHD)]; exact q
  · have q := B.frzs b o u e
    rw [upd_ne (ne_of_none q hHD)]; exact q
  · obtain ⟨more, q⟩ := B.tbls b ps e
    exact ⟨more, by rw [upd_ne (ne_of_none q hHD)]; exact q⟩
  · intro b u e
    by_cases hb : b = D
    · subst hb
      rw [upd_same] at e
      cases e
      exact ⟨hz, its, n, rv, (sb.2 _ hDC).trans hd⟩
    · rw [upd_ne hb] at e
      have hCn : H' C = none := J.free
      refine (J.hok b u e).stay (fun c v hc q => (sb.2 c ?_).trans q) (fun c q => by rw [upd_ne (ne_of_none q hHD)]; exact q) fun c xs q => by rw [upd_ne (ne_of_none q hHD)]; exact q
      rcases hc with z | z
      · rw [z]; exact ne_of_none e hCn
      · exact ne_of_none z hCn
  · intro b hb
    obtain ⟨_, f1, _, f3, f4, f5⟩ := hf b hb
    exact ⟨f3, f1, f4, f5⟩
end

/-- a turn of the block, the step ahead of the store kept -/
theorem compLoop_tests {prog : Program} {w : World} {A : Around} {R : Result → Shared → Prop} {s : Shared} {elt target iter : Expr} {ifs : List Expr} {scope : Scope} {pos : Pos} {it acc : Value} {env : Env} (I : Nat → Shared → Prop)
    (turn : ∀ n s, I n s → wpAny (model prog w) A (pyNext it) (fun r s₁ => match r with
      | none => R (.ok .next) s₁
      | some v => wpAny (model prog w) A (letOwnedTupleGo target it v) (fun _ s₁' => wpAny (model prog w) A (assign target env v) (fun _ s₂ =>
          wpAny (model prog w) A (forIn ifs true fun c r => if r = true then do let ok ← isTrue c env (eval c env); pure (ForInStep.yield ok) else pure (ForInStep.yield r)) (fun ok s₃ =>
            if ok = true then wpAny (model prog w) A (eval elt env) (fun x s₄ =>
              wpAny (model prog w) A (call (.builtin "list.append") [acc, x]) (fun _ s₅ => ∃ m, m < n ∧ I m s₅) (notedBy (model prog w) A env fun e s' => R (.error e) s') s₄) (notedBy (model prog w) A env fun e s' => R (.error e) s') s₃
            else ∃ m, m < n ∧ I m s₃) (notedBy (model prog w) A env fun e s' => R (.error e) s') s₂) (notedBy (model prog w) A env fun e s' => R (.error e) s') s₁') (notedBy (model prog w) A env fun e s' => R (.error e) s') s₁) (notedBy (model prog w) A env fun e s' => R (.error e) s') s)
    (n : Nat) (h : I n s) :
    codeAny (model prog w) A (.compLoop (.ListComp elt [⟨target, iter, ifs, 0⟩] scope pos) 0 it acc env) R s := by
  refine codeAny_loop rfl I (fun n s hI => ?_) n h
  show wpAny _ A ((compTurn (.ListComp elt [⟨target, iter, ifs, 0⟩] scope pos) 0 it acc env).onRaise (fun x => do noteFrame x env; theTreesLotGoes x)) _ _ s
  refine wpAny_noted ?_
  rw [compTurn_list]
  refine wpAny_bind (wpAny_standAt (wpAny_bind (wpAny_mono (turn n s hI) (fun r s₁ h₁ => ?_) fun _ _ h' => h')))
  cases r with
  | none => exact wpAny_pure h₁
  | some v =>
    refine wpAny_bind (wpAny_mono h₁ (fun _ s₁' h₁' => ?_) fun _ _ h' => h')
    refine wpAny_bind (wpAny_mono h₁' (fun _ s₂ h₂ => wpAny_bind (wpAny_mono h₂ (fun ok s₃ h₃ => ?_) fun _ _ h' => h')) fun _ _ h' => h')
    cases ok with
    | false => exact wpAny_pure ⟨rfl, h₃⟩
    | true =>
      exact wpAny_bind (wpAny_bind (wpAny_mono h₃ (fun x s₄ h₄ => wpAny_bind (wpAny_mono h₄ (fun _ s₅ h₅ => wpAny_pure (wpAny_pure ⟨rfl, h₅⟩)) fun _ _ h' => h')) fun _ _ h' => h'))

/-- the reading: W by the turn, a measure, the list so far -/
def LcW (J : It) (tc : TT) (te : TE) (js : List Nat) (σ : St) (Q : VK) (H1 : Hp) : Prop := ∃ W : Nat → Nat → List V → Hp → Prop, (∃ m, W 0 m [] H1) ∧ ∀ i m acc H, W i m acc H → acc.length ≤ sizeLine ∧
  ((J.stop i H ∧ ∀ p, H p = none → Q (.ref p) (upd H p (.lst acc))) ∨
   (J.go i H ∧ acc.length < sizeLine ∧ ∀ x H', J.yld i H x H' → tc (some x :: seenV σ js) H' fun b H3 => if b = true then te (some x :: seenV σ js) H3 fun v H4 => ∃ m', m' < m ∧ W (i + 1) m' (acc ++ [v]) H4 else ∃ m', m' < m ∧ W (i + 1) m' acc H3))
def tLc (wi : TI) (tc : TT) (te : TE) (js : List Nat) : TE := fun σ H Q => wi σ H fun J H1 => LcW J tc te js σ Q H1
/-- no test -/
def tYes : TT := fun _ H Q => Q true H
/-- a list of tests, at most one -/
def PTs (X : Cx) (ifs : List Expr) (tc : TT) : Prop := (ifs = [] ∧ tc = tYes) ∨ ∃ c, ifs = [c] ∧ PT X c tc
theorem pts_none {X : Cx} : PTs X [] tYes := .inl ⟨rfl, rfl⟩
theorem PTs.run {X : Cx} {ifs : List Expr} {tc : TT} (h : PTs X ifs tc) {pins : List (Addr × Obj)} {s : Shared} {σ : St} {H : Hp} {Q : Bool → Hp → Prop} (I : Inv X pins σ H s) (q : tc σ H Q) :
    wpAny (model X.prog X.w) X.A (forIn ifs true fun c r => if r = true then do let ok ← isTrue c X.env (eval c X.env); pure (ForInStep.yield ok) else pure (ForInStep.yield r)) (TP X pins σ Q) X.xe s := by
  rcases h with ⟨rfl, rfl⟩ | ⟨c, rfl, h⟩
  · exact wpAny_tests_nil ⟨H, I, q⟩
  · exact wpAny_tests_one (h pins s σ H Q I q)

theorem pe_lc {X : Cx} {elt iter : Expr} {ifs : List Expr} {scope : Scope} {pos px : Pos} {x : Str} {ys : List Str} {js : List Nat} {wi : TI} {tc : TT} {te : TE} (hc : X.calm = true) (L : LcScope X scope x ys js) (hi : PI X (.Name x px) iter wi)
    (ht : ∀ C s₀ H₀ fp, PTs (cxLc X (x :: ys) scope C s₀ H₀ fp) ifs tc) (he : ∀ C s₀ H₀ fp, PE (cxLc X (x :: ys) scope C s₀ H₀ fp) elt te)
    (hs : ∀ z, foldedSetIterable iter X.env z = pure z := by intro _; rfl) :
    PE X (.ListComp elt [⟨.Name x px, iter, ifs, 0⟩] scope pos) (tLc wi tc te js) := by
  intro pins s σ H Q I h
  rw [eval_ListComp]
  refine wpAny_comprehension_free (use := none) rfl hs (closure_of (L.cells I)) L.kind L.locs (thn (hi pins s σ H _ I h) fun v s1 h1 => thn h1 fun itv s2 h2 => ?_)
  obtain ⟨it, fp, tn, J, H2, e, I2, T, st2, f2, W, ⟨m0, w0⟩, turn⟩ := h2
  subst e
  have ho2 : ∀ b ∈ fp, ∃ o, s2.heap.get? b = some o := fun b hb => let ⟨o, e, _⟩ := T.obj _ _ st2 b hb; ⟨o, e⟩
  refine wpAny_newObj_type (wpAny_newFunctionEnv L.nocell (by intro y hy; simp at hy) (fun h1 hns1 hsb1 => ?_) L.kind)
  dsimp only at hns1 hsb1 ⊢
  generalize hH2 : s2.heap.push { cls := .type "list", dict := none, data := .seq ([] : List Value).toArray } = G2 at hns1 hsb1 ⊢
  have hC : G2.objs.size = s2.heap.objs.size + 1 := by rw [← hH2, Heap.size_push]
  have hCle : s2.heap.objs.size ≤ G2.objs.size := by rw [hC]; exact Nat.le_succ _
  have hDC : s2.heap.objs.size ≠ G2.objs.size := by rw [hC]; exact Nat.ne_of_lt (Nat.lt_succ_self _)
  have old : ∀ b o, s2.heap.get? b = some o → h1.get? b = some o := fun b o e => hsb1.extBut b o (by rw [hC]; exact Nat.ne_of_lt (Nat.lt_succ_of_lt (Heap.lt_size e))) (Heap.get?_push_of_some _ (hH2 ▸ Heap.get?_push_of_some _ e))
  have hacc : h1.PlainList s2.heap.objs.size #[] := ⟨_, hsb1.extBut _ _ hDC (Heap.get?_push_of_some _ (hH2 ▸ Heap.get?_push_size _ rfl))⟩
  generalize hCe : G2.objs.size = C at *
  generalize hDe : s2.heap.objs.size = D at *
  have hDle : s2.heap.objs.size ≤ D := by rw [hDe]; exact Nat.le_refl _
  have hCle' : s2.heap.objs.size ≤ C := by rw [hDe]; exact hCle
  have fpD : ∀ b ∈ fp, b ≠ D := fun b hb z => by
    obtain ⟨o, e⟩ := ho2 b hb
    have := Heap.lt_size e
    rw [z, ← hDe] at this
    exact Nat.lt_irrefl _ this
  have fpC : ∀ b ∈ fp, b ≠ C := fun b hb z => by
    obtain ⟨o, e⟩ := ho2 b hb
    have := Nat.lt_of_lt_of_le (Heap.lt_size e) hCle'
    rw [z] at this
    exact Nat.lt_irrefl _ this
  have I3 : Inv (cxLc X (x :: ys) scope C s2 H2 fp) [] (none :: seenV σ js) H2 { s2 with heap := h1, toks := s2.toks + ([] : List (Str × Value)).length } := I2.block L f2 ho2 hCle' old hns1
  have cellD : ∀ y c, (cxLc X (x :: ys) scope C s2 H2 fp).env.cells.lookup y = some c → c ≠ D := fun y c e z => by
    obtain ⟨v, q⟩ := I2.cell y c (L.sub e).1
    have := q.lt
    rw [z, ← hDe] at this
    exact Nat.lt_irrefl _ this
  -- what stays true of the iterator's records through the block
  have stat : ∀ {H' : Hp} {pc : List (Addr × Obj)}, (∀ b ∈ fp, H' b = none) → (∀ p ∈ pc, p.1 = D) → ∀ b ∈ fp, FpOk (cxLc X (x :: ys) scope C s2 H2 fp) pc H' b := fun {H' pc} hn hp b hb =>
    ⟨hn b hb, fpC b hb, fun z => by
      rcases List.mem_cons.mp (I2.stkSub b z) with z | z
      · exact (f2 b hb).2.1 z
      · exact (f2 b hb).2.2.1 z, .inl hb, fun y c e => (f2 b hb).2.2.2.2.1 y c (L.sub e).1, fun p hq => by
      have hq' : p ∈ pc := hq
      rw [hp p hq']; exact Ne.symm (fpD b hb)⟩
  have loop : ∀ s3 : Shared, s3 = { s2 with heap := h1, toks := s2.toks + ([] : List (Str × Value)).length } →
      codeAny (model X.prog X.w) X.A (.compLoop (.ListComp elt [⟨.Name x px, iter, ifs, 0⟩] scope pos) 0 (.ref it) (.ref D) (compEnvC scope (clOf X.env scope.names []) C X.env))
        (compPost (model X.prog X.w) X.A X.xe none (EP X pins σ Q) (.ref D) C) s3 := by
    rintro s3 rfl
    refine compLoop_tests (fun n s' => ∃ i acc its H' k, Inv (cxLc X (x :: ys) scope C s2 H2 fp) [] (none :: seenV σ js) H' s' ∧ tn i s'.heap ∧ (∀ b ∈ fp, H' b = none) ∧ H' D = none ∧ s'.heap.get? D = some { cls := .type "list", data := .seq its k } ∧ Vals acc its.toList ∧ W i n acc H') ?_ m0 ?_
    · rintro n s4 ⟨i, acc, its, H4, k, I4, st4, fr4, hD4, ob4, rv4, w4⟩
      obtain ⟨hz, w4⟩ := turn i n acc H4 w4
      have I4' : Inv (cxLc X (x :: ys) scope C s2 H2 fp) [(D, { cls := .type "list", data := .seq its k })] (none :: seenV σ js) H4 s4 := I4.pins_of fun p hp => by
        have e : p = (D, { cls := .type "list", data := .seq its k }) := by simpa using hp
        subst e
        refine ⟨ob4, hD4, hDC, fun z => ?_, fun v z => (nomatch z)⟩
        obtain ⟨_, o, ho, _⟩ := I2.stack.mem (show D ∈ frs X.stack from z)
        have := Heap.lt_size ho
        rw [← hDe] at this
        exact Nat.lt_irrefl _ this
      have one : ∀ p ∈ ([(D, { cls := .type "list", data := .seq its k })] : List (Addr × Obj)), p.1 = D := fun p hp => by
        have e : p = (D, { cls := .type "list", data := .seq its k }) := by simpa using hp
        rw [e]
      rcases w4 with ⟨stop, qn⟩ | ⟨go, hlt, step⟩
      · refine thn (T.done (cxLc X (x :: ys) scope C s2 H2 fp) rfl rfl rfl hc i _ s4 _ H4 _ I4' (stat fr4 one) st4 stop) fun r s5 ⟨hr, I5⟩ => ?_
        subst hr
        obtain ⟨m, hn, _⟩ := I5.loc
        refine ⟨m, hn, fun h' sb => ⟨.ref D, _, ?_, rfl, qn D hD4⟩⟩
        exact I2.unblock (its := its.toList) f2 hDle hCle' hDC I5 hD4 rv4 hz (by
          have q := (I5.pin (D, { cls := .type "list", data := .seq its k }) (by simp)).1
          simpa using q) sb
      · refine thn (T.item (cxLc X (x :: ys) scope C s2 H2 fp) rfl rfl rfl hc i _ s4 _ H4 _ I4' (stat fr4 one) st4 go) fun r s5 ⟨u, hr, h5⟩ => ?_
        subst hr
        refine thn h5 fun _ s6 ⟨xv, H6, I6, r6, y6, st6, fr6⟩ => ?_
        have I6' := I6.pinned (stat fr6 one) (T.obj _ _ st6)
        have ownL : (cxLc X (x :: ys) scope C s2 H2 fp).env.scope.names.lookup x = some .local := lookup_relabel_local L.own
        have hg : PG (cxLc X (x :: ys) scope C s2 H2 fp) (.Name x px) (gName 0) := pg_name (i := 0) L.nd rfl (.inl ownL) (.inr ownL)
        refine wpAny_mono (hg _ s6 _ H6 xv u (fun σ2 H2' => σ2 = some xv :: seenV σ js ∧ H2' = H6) I6' r6 ⟨rfl, rfl⟩) (fun _ s7 ⟨σ7, H7, I7, e7, e7'⟩ => ?_) fun _ _ z => z.elim
        subst e7 e7'
        have q7 := step xv _ y6
        refine wpAny_mono ((ht C s2 H2 fp).run I7 q7) (fun ok s8 ⟨H8, I8, q8⟩ => ?_) fun _ _ z => z.elim
        -- the block's own names are forgotten behind a turn
        have hσ : ∀ {pc : List (Addr × Obj)} {Hc : Hp} {sc : Shared}, Inv (cxLc X (x :: ys) scope C s2 H2 fp) pc (some xv :: seenV σ js) Hc sc → Inv (cxLc X (x :: ys) scope C s2 H2 fp) pc (none :: seenV σ js) Hc sc := fun Ic => Ic.weak rfl fun i v e => by
          cases i with
          | zero => exact absurd e (by simp)
          | succ i => simpa using e
        have keepT : ∀ {Hc : Hp} {sc : Shared}, Inv (cxLc X (x :: ys) scope C s2 H2 fp) ([(D, { cls := .type "list", data := .seq its k })] ++ pinsAt fp s6.heap) (some xv :: seenV σ js) Hc sc → tn (i + 1) sc.heap ∧ (∀ b ∈ fp, Hc b = none) ∧ Hc D = none ∧ sc.heap.get? D = some { cls := .type "list", data := .seq its k } := fun {Hc sc} Ic => by
          refine ⟨T.keep _ _ _ st6 fun b hb o e => (Ic.pin (b, o) (List.mem_append_right _ (List.mem_append_right _ (mem_pinsAt hb e)))).1, fun b hb => ?_, (Ic.pin (D, { cls := .type "list", data := .seq its k }) (List.mem_append_right _ (List.mem_append_left _ List.mem_cons_self))).2.1, (Ic.pin (D, { cls := .type "list", data := .seq its k }) (List.mem_append_right _ (List.mem_append_left _ List.mem_cons_self))).1⟩
          obtain ⟨o, e, d⟩ := T.obj _ _ st6 b hb
          exact (Ic.pin (b, o) (List.mem_append_right _ (List.mem_append_right _ (mem_pinsAt hb e)))).2.1
        cases ok with
        | false =>
          obtain ⟨m', hm, w8⟩ := q8
          obtain ⟨a1, a2, a3, a4⟩ := keepT I8
          exact ⟨m', hm, i + 1, acc, its, H8, k, (hσ I8).pins_of (fun p hp => (nomatch hp)), a1, a2, a3, a4, rv4, w8⟩
        | true =>
          refine wpAny_mono (he C s2 H2 fp _ s8 _ H8 _ I8 q8) (fun ev s9 ⟨v9, H9, I9, r9, m', hm, w9⟩ => ?_) fun _ _ z => z.elim
          obtain ⟨a1, a2, a3, a4⟩ := keepT I9
          have hlen : its.size ≤ sizeLine := by
            have e1 := rv4.length
            have e2 : its.toList.length = its.size := by simp
            omega
          refine wpAny_list_append_plain (hsz := hlen) ⟨k, a4⟩ fun h10 pl sb => ?_
          obtain ⟨k', e10⟩ := pl
          have I10 : Inv (cxLc X (x :: ys) scope C s2 H2 fp) (pinsAt fp s6.heap) (none :: seenV σ js) H9 s9 := (hσ I9).pins_of fun p hp => I9.pin p (List.mem_append_right _ (List.mem_append_right _ hp))
          have I11 : Inv (cxLc X (x :: ys) scope C s2 H2 fp) (pinsAt fp s6.heap) (none :: seenV σ js) H9 { s9 with heap := h10 } :=
            I10.turned (t' := s9.toks) (it := D) (fun b o hb e => (sb.2 b hb).trans e) a3 hDC (.inr hDle) cellD fun p hp z => by
              have hp' : p ∈ pinsAt fp s6.heap := hp
              exact fpD p.1 (of_pinsAt hp').1 z
          refine ⟨m', hm, i + 1, acc ++ [v9], its.push ev, H9, k', I11.pins_of (fun p hp => (nomatch hp)), T.keep _ _ _ a1 (fun b hb o e => (sb.2 b (fpD b hb)).trans e), a2, a3, e10, ?_, w9⟩
          rw [Array.toList_push]
          exact rv4.append (.cons r9 .nil)
    · exact ⟨0, [], #[], H2, _, I3, T.keep _ _ _ st2 fun b hb o e => old b o e, fun b hb => (f2 b hb).1, I2.hok.fresh hDle, hacc.choose_spec, .nil, w0⟩
  exact codeAny_compStart_list (loop _ rfl) (T.self _ 0 _ _ _ (T.keep _ _ _ st2 fun b hb o e => old b o e) (loop _ rfl))
end L2

set_option Elab.async false
set_option linter.all false
set_option maxRecDepth 100000
set_option maxHeartbeats 4000000
/-! all, any, isinstance, == of data, join, a module's dict -/
namespace L2
open PySem PySem.Spec PyProof.Rows

/-! ### data: what a value reads as -/
mutual
def RdD (K : PySem.W.Frag) (H : Hp) : V → PyData → Prop
  | v, .none => v = .non
  | v, .bool b => v = .bl b
  | v, .int i => v = .int i
  | v, .str x => v = .str x ∧ PyData.strOk x = true
  | v, .list ds => ∃ a xs, v = .ref a ∧ SqL K H a xs ∧ RdDs K H xs ds
  | v, .tuple ds => ∃ a xs, v = .ref a ∧ SqT K H a xs ∧ RdDs K H xs ds
  | _, .dict _ => False
def RdDs (K : PySem.W.Frag) (H : Hp) : List V → List PyData → Prop
  | xs, [] => xs = []
  | xs, d :: ds => ∃ x r, xs = x :: r ∧ RdD K H x d ∧ RdDs K H r ds
end
section
variable {X : Cx} {pins : List (Addr × Obj)} {σ : St} {H : Hp} {s : Shared}
mutual
theorem RdD.reads (I : Inv X pins σ H s) : ∀ {v : V} {d : PyData} {u : Value}, RdD X.K H v d → RelV v u → ∃ as, Reads s.heap u d as
  | _, .none, _, h, r => by cases (show _ = _ from h); cases r; exact ⟨_, .none⟩
  | _, .bool b, _, h, r => by cases (show _ = _ from h); cases r; exact ⟨_, .bool b⟩
  | _, .int i, _, h, r => by cases (show _ = _ from h); obtain ⟨t, rfl⟩ := r; exact ⟨_, .int i t⟩
  | _, .str x, _, h, r => by cases h.1; obtain ⟨t, rfl⟩ := r; exact ⟨_, .str x t⟩
  | _, .list ds, _, h, r => by
    obtain ⟨a, xs, rfl, hq, hd⟩ := h
    cases r
    obtain ⟨its, rv, pl, _⟩ := I.list hq
    obtain ⟨as, ra⟩ := RdDs.reads I hd rv
    obtain ⟨o, n, e, c, _, dd⟩ := pl
    exact ⟨_, .list e c dd (by simpa using ra)⟩
  | _, .tuple ds, _, h, r => by
    obtain ⟨a, xs, rfl, hq, hd⟩ := h
    cases r
    obtain ⟨its, rv, pl, _⟩ := I.tuple hq
    obtain ⟨as, ra⟩ := RdDs.reads I hd rv
    obtain ⟨o, e, c, n, dd⟩ := pl
    exact ⟨_, .tuple e c dd (by simpa using ra)⟩
  | _, .dict _, _, h, _ => h.elim
theorem RdDs.reads (I : Inv X pins σ H s) : ∀ {xs : List V} {ds : List PyData} {us : List Value}, RdDs X.K H xs ds → Vals xs us → ∃ as, ReadsAll s.heap us ds as
  | _, [], _, h, r => by cases (show _ = _ from h); cases r; exact ⟨_, .nil⟩
  | _, d :: ds, _, h, r => by
    obtain ⟨x, rr, rfl, h1, h2⟩ := h
    cases r with
    | cons r1 r2 =>
      obtain ⟨as, a1⟩ := RdD.reads I h1 r1
      obtain ⟨bs, a2⟩ := RdDs.reads I h2 r2
      exact ⟨_, .cons a1 a2⟩
end
mutual
theorem RdD.lay : ∀ {v : V} {d : PyData}, RdD X.K H v d → d.canLay0 = true
  | _, .none, _ => rfl
  | _, .bool b, _ => rfl
  | _, .int i, _ => rfl
  | _, .str x, h => h.2
  | _, .list ds, h => by obtain ⟨a, xs, _, _, hd⟩ := h; exact RdDs.lay hd
  | _, .tuple ds, h => by obtain ⟨a, xs, _, _, hd⟩ := h; exact RdDs.lay hd
  | _, .dict _, h => h.elim
theorem RdDs.lay : ∀ {xs : List V} {ds : List PyData}, RdDs X.K H xs ds → PyData.canLayAll0 ds = true
  | _, [], _ => rfl
  | _, d :: ds, h => by
    obtain ⟨x, r, _, h1, h2⟩ := h
    show (d.canLay0 && PyData.canLayAll0 ds) = true
    rw [RdD.lay h1, RdDs.lay h2]
    rfl
end
/-- == and != of two data -/
def rEqD (K : PySem.W.Frag) (neg : Bool) : R2 := fun x y H Q => ∃ dx dy, RdD K H x dx ∧ RdD K H y dy ∧ dx.depth ≤ 60 ∧ Q (.bl (if neg then !PyData.eqv dx dy else PyData.eqv dx dy)) H
theorem op_eqD (hu : X.A.units + 64 < cLine) : OpR X (compareOp .Eq) (rEqD X.K false) := by
  intro pins s σ H x y v u Q I rx ry h
  obtain ⟨dx, dy, h1, h2, hd, q⟩ := h
  obtain ⟨as, r1⟩ := h1.reads I rx
  obtain ⟨bs, r2⟩ := h2.reads I ry
  exact SeqAt.compareEq_reads r1 r2 h1.lay h2.lay (by omega) ⟨.bl (PyData.eqv dx dy), H, I, rfl, q⟩
theorem op_neD (hu : X.A.units + 64 < cLine) : OpR X (compareOp .NotEq) (rEqD X.K true) := by
  intro pins s σ H x y v u Q I rx ry h
  obtain ⟨dx, dy, h1, h2, hd, q⟩ := h
  obtain ⟨as, r1⟩ := h1.reads I rx
  obtain ⟨bs, r2⟩ := h2.reads I ry
  exact SeqAt.compareNe_reads r1 r2 h1.lay h2.lay (by omega) ⟨.bl (!PyData.eqv dx dy), H, I, rfl, q⟩

/-! ### all, any over a list of truths -/
theorem range_all (bs : List Bool) : (List.range bs.length).all (fun i => (bs[i]?).getD false) = bs.all id := by
  rw [Bool.eq_iff_iff, List.all_eq_true, List.all_eq_true]
  constructor
  · intro h b hb
    obtain ⟨i, hi, rfl⟩ := List.mem_iff_getElem.mp hb
    have := h i (by simp [hi])
    simpa [hi] using this
  · intro h i hi
    have hi' : i < bs.length := by simpa using hi
    simpa [hi'] using h bs[i] (List.getElem_mem hi')
def rTruths (K : PySem.W.Frag) (f : List Bool → Bool) : List V → Hp → VK → Prop := fun xs H Q => ∃ p bs, xs = [V.ref p] ∧ SqL K H p (bs.map V.bl) ∧ Q (.bl (f bs)) H
theorem truths_of {bs : List Bool} : ∀ {its : List Value}, Vals (bs.map V.bl) its → its = bs.map Value.bool := by
  induction bs with
  | nil => intro its r; cases r; rfl
  | cons b r ih =>
    intro its h
    cases h with
    | cons h1 h2 => cases h1; rw [ih h2]; rfl
theorem truth_bools {prog : Program} {w : World} {A : Around} (bs : List Bool) : TruthOf prog w A (fun i v => (bs.map Value.bool).toArray[i]? = some v) (fun i => (bs[i]?).getD false) := by
  intro i v s Q E hP hQ
  have e : (bs[i]?).map Value.bool = some v := by simpa using hP
  cases q : bs[i]? with
  | none => rw [q] at e; cases e
  | some b =>
    rw [q] at e
    cases e
    have hQ' : Q ((bs[i]?).getD false) s := hQ
    rw [q] at hQ'
    exact wpAny_truthy_bool hQ'
theorem call_all (hc : X.calm = true) : CallR X (.builtin "all") (rTruths X.K fun bs => bs.all id) := by
  intro pins s σ H xs us Q I r h
  obtain ⟨p, bs, rfl, hq, q⟩ := h
  obtain ⟨u, rfl, ru⟩ := vals1 r
  cases ru
  obtain ⟨its, rv, pl, hz⟩ := I.list hq
  have ei := truths_of rv
  subst ei
  have hl := pl.isList
  have hp : p < s.heap.objs.size := let ⟨o, n, e, _⟩ := pl; Heap.lt_size e
  refine call_all_walk (wpAny_pyIter_list hl ?_)
  refine ⟨s.heap.objs.size, _, _, _, _, _, _, rfl, Walks.list (show X.A.in1.handled = none from I.ok.hd hc) s.heap.objs.size p (Nat.ne_of_lt hp) (bs.map Value.bool).toArray, ⟨⟨_, Heap.get?_push_size _ rfl, rfl, rfl⟩, hl.push _⟩, truth_bools bs, fun h' tk hk => ⟨.bl _, H, I.kept (fun b o e => hk b o (fun z => ?_) (Heap.get?_push_of_some _ e)), rfl, ?_⟩⟩
  · have z' : b = s.heap.objs.size := by simpa using z
    exact absurd (Heap.lt_size e) (by rw [z']; exact Nat.lt_irrefl _)
  · have e : (bs.map Value.bool).toArray.size = bs.length := by simp
    rw [e, range_all]
    exact q
/-! ### isinstance against a built-in class -/
def rIsi (K : PySem.W.Frag) : List V → Hp → VK → Prop := fun xs H Q => ∃ x n t b, xs = [x, V.ty n] ∧ TyOf K H x t ∧ PySem.W.kitOne K t (.type n) = some b ∧ Q (.bl b) H
theorem call_isi : CallR X (.builtin "isinstance") (rIsi X.K) := by
  intro pins s σ H xs us Q I r h
  obtain ⟨x, n, t, b, rfl, ty, e, q⟩ := h
  obtain ⟨u, w', rfl, ru, rw'⟩ := vals2 r
  cases (show w' = Value.type n from rw')
  exact isinst_ok I ru ty e fun tk => ⟨.bl b, H, I.tok tk, rfl, q⟩
theorem kit_same {K : PySem.W.Frag} (n : String) : PySem.W.kitOne K (.type n) (.type n) = some true := by
  unfold PySem.W.kitOne
  rw [if_pos (by simp)]

/-! ### join -/
/-! ### an item of a module's dict whose keys are texts -/
def rIxM (K : PySem.W.Frag) (P : Params) : R2 := fun x y H Q => ∃ a es n k v u, x = .ref a ∧ y = .str k ∧ K.lookup a = some ⟨.type "dict", none, .dict es n, #[]⟩ ∧ PySem.W.KeysLit P es.toList ∧ PySem.W.nsIn K a k = some (some u) ∧ RelV v u ∧ Q v H
theorem ix_mod : IxR X (rIxM X.K X.w.params) := by
  intro value slice pins s σ H x y v u Q I rx ry h hs
  obtain ⟨a, es, n, k, z, uz, rfl, rfl, lk, kl, ns, rz, q⟩ := h
  cases rx
  obtain ⟨t, rfl⟩ := ry
  obtain ⟨m, F⟩ := I.fr
  exact PySem.W.topItem_K F I.ok.mod.kin lk kl ns ⟨_, H, I.tok _, rz, q⟩ hs
end
end L2

set_option Elab.async false
set_option linter.all false
set_option maxRecDepth 100000
set_option maxHeartbeats 4000000
namespace PySem
open Sem (wp)
namespace RV
end RV
section
variable {prog : Program} {w : World} {A : Around} {E : Value → Shared → Prop} {s : Shared}
end
end PySem

set_option Elab.async false
set_option linter.all false
set_option maxRecDepth 100000
set_option maxHeartbeats 4000000
/-! reversed(text); rules by alternatives; callees in short -/
namespace L2
open PySem PySem.Spec PyProof.Rows

/-! ### reversed(text) -/
/-! ### a block's scope, over written scopes alone -/
structure LcS (os scope : Scope) (x : Str) (ys : List Str) : Prop where
  kind : scope.kind = .function
  nocell : ∀ y ∈ scope.names, y.2 ≠ .cell
  locs : ∀ y ∈ scope.names, y.2 = .local → scope.names.lookup y.1 = some .local
  own : scope.names.lookup x = some .local
  seen : ∀ y ∈ ys, scope.names.lookup y = some .free
  out : ∀ y ∈ scope.names, y.2 = .free → os.names.lookup y.1 = some .cell ∨ os.names.lookup y.1 = some .free
  nd : (x :: ys).Nodup
theorem LcS.to {X : Cx} {os scope : Scope} {x : Str} {ys : List Str} {js : List Nat} (h : LcS os scope x ys) (e : X.env.scope = os) (p : js.map (fun j => X.N[j]?) = ys.map some) : LcScope X scope x ys js :=
  ⟨h.kind, h.nocell, h.locs, h.own, h.seen, fun y hy hf => by
    have q := h.out y hy hf
    rw [← e] at q
    exact q, p, h.nd⟩

/-! ### a list made by a comprehension whose element leaves the heap as it is -/
theorem lc_on {J : It} {xs : List V} {Ok : Hp → Prop} (hJ : ItOn J xs Ok) {tc : TT} {te : TE} {js : List Nat} {σ : St} {H : Hp} {Q : VK} (f : V → V) (hok : Ok H) (hz : xs.length ≤ sizeLine)
    (he : ∀ (i : Nat) x Q', xs[i]? = some x → Q' (f x) H → tc (some x :: seenV σ js) H fun b H3 => if b = true then te (some x :: seenV σ js) H3 Q' else False)
    (mono : ∀ σ' H' (R R' : Bool → Hp → Prop), (∀ b h, R b h → R' b h) → tc σ' H' R → tc σ' H' R')
    (q : ∀ p, H p = none → Q (.ref p) (upd H p (.lst (xs.map f)))) : LcW J tc te js σ Q H := by
  refine ⟨fun i m acc H' => H' = H ∧ i ≤ xs.length ∧ m = xs.length - i ∧ acc = (xs.take i).map f, ⟨xs.length, rfl, Nat.zero_le _, by simp, by simp⟩, ?_⟩
  rintro i m acc H' ⟨rfl, hi, rfl, rfl⟩
  have hlen : ((xs.take i).map f).length = i := by simp; omega
  refine ⟨by omega, ?_⟩
  by_cases hlt : i < xs.length
  · refine .inr ⟨hJ.go i _ hok hlt, by omega, fun x H'' y => ?_⟩
    obtain ⟨e, hx⟩ := hJ.yld i _ x H'' hok hlt y
    subst e
    refine mono _ _ _ _ (fun b h z => ?_) (he i x (fun v H4 => ∃ m', m' < xs.length - i ∧ (H4 = H'' ∧ i + 1 ≤ xs.length ∧ m' = xs.length - (i + 1) ∧ (xs.take i).map f ++ [v] = (xs.take (i + 1)).map f)) hx ⟨xs.length - (i + 1), by omega, rfl, hlt, rfl, ?_⟩)
    · cases b with
      | true => exact z
      | false => exact z.elim
    · have e : xs.take (i + 1) = xs.take i ++ [x] := by
        rw [List.take_add_one, hx]
        rfl
      rw [e, List.map_append]
      rfl
  · have e : i = xs.length := by omega
    subst e
    refine .inl ⟨hJ.stop _ _ hok (Nat.le_refl _), fun p hp => ?_⟩
    rw [List.take_length]
    exact q p hp

/-- the same without a test -/
theorem lc_y {J : It} {xs : List V} {Ok : Hp → Prop} (hJ : ItOn J xs Ok) {te : TE} {js : List Nat} {σ : St} {H : Hp} {Q : VK} (f : V → V) (hok : Ok H) (hz : xs.length ≤ sizeLine)
    (he : ∀ (i : Nat) x Q', xs[i]? = some x → Q' (f x) H → te (some x :: seenV σ js) H Q') (q : ∀ p, H p = none → Q (.ref p) (upd H p (.lst (xs.map f)))) : LcW J tYes te js σ Q H :=
  lc_on hJ f hok hz (fun i x Q' hx hq => by
    show if true = true then te (some x :: seenV σ js) H Q' else False
    rw [if_pos rfl]
    exact he i x Q' hx hq) (fun _ _ _ _ hR z => hR _ _ z) q

/-! ### the names of built-ins -/
theorem bt_int : bootBuiltins "int" = some (.type "int") := by decide +kernel
theorem bt_str : bootBuiltins "str" = some (.type "str") := by decide +kernel
theorem bt_bool : bootBuiltins "bool" = some (.type "bool") := by decide +kernel
theorem bt_tuple : bootBuiltins "tuple" = some (.type "tuple") := by decide +kernel
theorem bt_len : bootBuiltins "len" = some (.builtin "len") := by decide +kernel
theorem bt_all : bootBuiltins "all" = some (.builtin "all") := by decide +kernel
theorem bt_isinstance : bootBuiltins "isinstance" = some (.builtin "isinstance") := by decide +kernel
theorem bt_abs : bootBuiltins "abs" = some (.builtin "abs") := by decide +kernel

/-! ### operators by alternatives -/
section
variable {X : Cx}
def rAddS : R2 := fun x y H Q => ∃ i j, x = .str i ∧ y = .str j ∧ i.length + j.length ≤ sizeLine ∧ Q (.str (i ++ j)) H
def rPlus : R2 := fun x y H Q => rI0 (fun i j => .int (i + j)) x y H Q ∨ rAddS x y H Q
theorem op_plus : OpR X (binaryOp .Add) rPlus := OpR.or op_add op_add_str
def rEqq (K : PySem.W.Frag) : R2 := fun x y H Q => rEq x y H Q ∨ rEqD K false x y H Q
theorem op_eqq (hu : X.A.units + 64 < cLine) : OpR X (compareOp .Eq) (rEqq X.K) := OpR.or op_eq (op_eqD hu)
def rNee (K : PySem.W.Frag) : R2 := fun x y H Q => rNe x y H Q ∨ rEqD K true x y H Q
theorem op_nee (hu : X.A.units + 64 < cLine) : OpR X (compareOp .NotEq) (rNee X.K) := OpR.or op_ne (op_neD hu)
def rInS : R2 := fun x y H Q => ∃ i j, x = .str i ∧ y = .str j ∧ Q (.bl (!(Builtin.Str.occurrences j i 0 j.length 1).isEmpty)) H
def rInn (K : PySem.W.Frag) : R2 := fun x y H Q => rIn K false x y H Q ∨ rInS x y H Q
theorem op_inn : OpR X (compareOp .In) (rInn X.K) := OpR.or op_in_seq op_in_str
def rIxA (K : PySem.W.Frag) (P : Params) : R2 := fun x y H Q => rIx K x y H Q ∨ rIxM K P x y H Q
theorem ix_any : IxR X (rIxA X.K X.w.params) := IxR.or ix_seq ix_mod
end

/-! ### the same with the written part named: within a block's element the reading may not hang on the block -/
section
variable {X : Cx} {K : PySem.W.Frag} {Pm : Params}
theorem op_eqqK (hu : X.A.units + 64 < cLine) (e : X.K = K) : OpR X (compareOp .Eq) (rEqq K) := e ▸ op_eqq hu
theorem op_neeK (hu : X.A.units + 64 < cLine) (e : X.K = K) : OpR X (compareOp .NotEq) (rNee K) := e ▸ op_nee hu
theorem op_innK (e : X.K = K) : OpR X (compareOp .In) (rInn K) := e ▸ op_inn
theorem ix_anyK (e : X.K = K) (e2 : X.w.params = Pm) : IxR X (rIxA K Pm) := e ▸ e2 ▸ ix_any
theorem call_isiK (e : X.K = K) : CallR X (.builtin "isinstance") (rIsi K) := e ▸ call_isi
def rLen (K : PySem.W.Frag) : List V → Hp → VK → Prop := fun xs H Q => ∃ x n, xs = [x] ∧ LenV K x H n ∧ Q (.int n) H
theorem call_lenK (e : X.K = K) : CallR X (.builtin "len") (rLen K) := e ▸ call_len
theorem call_allK (hc : X.calm = true) (e : X.K = K) : CallR X (.builtin "all") (rTruths K fun bs => bs.all id) := e ▸ call_all hc
end

/-! ### a callee in short -/
structure Callee (P : Program) (w : World) (K : PySem.W.Frag) (mg : Str → Option Value) (base : Heap) (k : Nat) (x : Str) (ps : List Str) (sp : Sp) : Prop where
  ex : ∃ f fd, FnOk P w K mg base CX0 k f fd ps sp ∧ mg x = some (.ref f) ∧ PySem.W.keepIn K (.ref f) = true ∧ Binds K fd ps []
theorem Callee.mono {P : Program} {w : World} {K : PySem.W.Frag} {mg : Str → Option Value} {base : Heap} {j k : Nat} {x : Str} {ps : List Str} {sp : Sp} (c : Callee P w K mg base j x ps sp) (h : j ≤ k) : Callee P w K mg base k x ps sp := by
  obtain ⟨f, fd, F, m, kp, b⟩ := c.ex
  exact ⟨f, fd, F.mono h, m, kp, b⟩
theorem pe_calls {X : Cx} {k : Nat} {x : Str} {ps : List Str} {sp : Sp} {e : Expr} {es : List Expr} {t : TA} {p pos : Pos} (c : Callee X.prog X.w X.K X.mg X.base k x ps sp) (hr : Room k X.A) (hg : Gl X x) (ha : PA X (e :: es) t)
    (hdb : (x == ("__debug__" : Str)) = false := by decide) (he : starEach (e :: es) X.env = (false, eval e X.env) :: starEach es X.env := by rfl) (hpl : (backTo pos (starEach es X.env)).any (·.1) = false := by rfl) :
    PE X (.Call (.Name x p) (e :: es) [] pos) (tCall sp [] E0 t) := by
  obtain ⟨f, fd, F, m, kp, b⟩ := c.ex
  exact pe_call F hr hg m kp b .nil (fun _ _ _ _ _ _ _ h => h.elim) ha hdb he hpl
theorem callee_of {P : Program} {w : World} {K : PySem.W.Frag} {mg : Str → Option Value} {base : Heap} {k : Nat} {x qual : Str} {st : Stmt} {f : Addr} {fd : FuncData} {ps : List Str} {sp : Sp} (F : Fun K x qual st f fd) (G : FnOk P w K mg base CX0 k f fd ps sp) (m : mg x = some (.ref f))
    (h : ∀ (kV doc pm : Value) (an : Option Addr) (cdv ct : Value) (us : List Value), us.length = ps.length → bindArgs (PySem.W.fnOf x qual (defArgs st) (defBody st) (defScope st) .none kV doc pm an cdv ct) ⟨us, []⟩ = pure (ps.zip us)) : Callee P w K mg base k x ps sp :=
  ⟨f, fd, G, m, F.kp, F.binds h⟩
end L2

set_option Elab.async false
set_option linter.all false
set_option maxRecDepth 100000
set_option maxHeartbeats 4000000
/-! an exception of an own class: raised, left, caught -/
namespace L2
open PySem PySem.Spec PyProof.Rows

/-- the record of an exception: its class, its traceback's record (where it has one) with the flight's mark -/
def ExcOf (h : Heap) (e : Addr) (C : Value) (T : Option Addr) (fl : Value) : Prop :=
  ∃ (oe : Obj) (vs : Array Value), h.get? e = some oe ∧ oe.cls = C ∧ oe.dict = none ∧ oe.data = .fields vs ∧ vs[2]? = some .none ∧
    (match T with
     | none => vs[1]? = some .none
     | some t => vs[1]? = some (.ref t) ∧ t ≠ e ∧ ∃ (ot : Obj) (ts : Array Value), h.get? t = some ot ∧ ot.data = .fields ts ∧ ts[3]? = some fl)

section
variable {M : Model} {A : Around} {E : Value → Shared → Prop} {s : Shared} {env : Env} {outer : List Env} {base : Heap} {L e : Addr} {oe : Obj} {vs : Array Value}

/-- what the new entry leaves -/
structure Entered (h h3 : Heap) (e : Addr) (oe : Obj) (vs : Array Value) (fs : List Addr) (fl : Value) (T : Addr) : Prop where
  ex : h3.get? e = some { oe with data := .fields (vs.setIfInBounds 1 (.ref T)) }
  tb : ∃ (ot : Obj) (ts : Array Value), h3.get? T = some ot ∧ ot.data = .fields ts ∧ ts[3]? = some fl
  ne : T ≠ e
  big : h.objs.size ≤ T
  keep : ∀ b o, b ≠ e → b ∉ fs → h.get? b = some o → h3.get? b = some o
  slot : ∀ b o, b ≠ e → h.get? b = some o → ∃ sl, h3.get? b = some { o with slots := sl }

theorem entry_step {head : Value} {hadNext : Bool} {Q : Unit → Shared → Prop} (hfr : A.frames = some (env :: outer)) (hl : s.heap.FunFrames base (env :: outer)) (hf : env.frame = some L)
    (he : s.heap.get? e = some oe) (hd : oe.data = .fields vs) (hsz : 1 < vs.size)
    (h : ∀ h3 T, Entered s.heap h3 e oe vs ((env :: outer).filterMap (·.frame)) (rawInt L) T → Q () { s with heap := h3 }) :
    wpAny M A (do let a ← frameOf env; let q ← entryPlaceOf L hadNext; let b ← EntryCells.newEntry head a .none (rawInt L) .none q; setField (.ref e) 1 b) Q E s := by
  have hne : e ∉ (env :: outer).filterMap (·.frame) := fun hm => by
    obtain ⟨_, o, ho, hnf⟩ := hl.mem hm
    rw [he] at ho
    exact hnf vs (Option.some.inj ho ▸ hd)
  refine wpAny_bind (wpAny_frameOf_fun hfr hl hf fun g1 k1 => wpAny_bind (wpAny_entryPlaceOf fun q hq => ?_))
  unfold EntryCells.newEntry newFields
  refine wpAny_bind (wpAny_newObj_type ?_ (hq.sizeOk5 _ _ _ _ _))
  generalize hts : ([head, Value.ref L, .none, rawInt L, .none] ++ (if q.isEmpty then List.replicate 6 Value.none else q)).toArray = ts
  have t3 : ts[3]? = some (rawInt L) := by rw [← hts]; simp
  have e1 : g1.get? e = some oe := (k1.2.1 e hne).trans he
  have e2 := Heap.get?_push_of_some (h := g1) { cls := .type "traceback", dict := none, data := .fields ts } e1
  have hTe : g1.objs.size ≠ e := Nat.ne_of_gt (Heap.lt_size e1)
  refine wpAny_setField e2 hd hsz (h _ g1.objs.size ⟨?_, ?_, hTe, ?_, ?_, ?_⟩)
  · have z := Heap.get?_update_self (Obj.mapFields (·.setIfInBounds 1 (Value.ref g1.objs.size))) e2 (Obj.isFreed_of_fields (Obj.data_mapFields hd _))
    rw [z]
    obtain ⟨c, d, dt, sl⟩ := oe
    cases hd
    rfl
  · exact ⟨_, ts, (Heap.get?_update_other _ _ (Ne.symm hTe)).trans (Heap.get?_push_size g1 rfl), rfl, t3⟩
  · rw [k1.1]; exact Nat.le_refl _
  · intro b o hb hbf ho
    have z : g1.get? b = some o := (k1.2.1 b hbf).trans ho
    rw [Heap.get?_update_other _ _ (Ne.symm hb)]
    exact Heap.get?_push_of_some _ z
  · intro b o hb ho
    obtain ⟨sl, z⟩ := k1.2.2 b o ho
    refine ⟨sl, ?_⟩
    rw [Heap.get?_update_other _ _ (Ne.symm hb)]
    exact Heap.get?_push_of_some _ z

theorem note_step {T0 : Option Addr} {C : Value} {Q : Unit → Shared → Prop} (hfr : A.frames = some (env :: outer)) (hl : s.heap.FunFrames base (env :: outer)) (hf : env.frame = some L) (hx : ExcOf s.heap e C T0 .none)
    (h : ∀ h3 T1, ExcOf h3 e C (some T1) (rawInt L) → s.heap.objs.size ≤ T1 → (∀ b o, b ≠ e → T0 ≠ some b → b ∉ (env :: outer).filterMap (·.frame) → s.heap.get? b = some o → h3.get? b = some o) →
      (∀ b o, b ≠ e → T0 ≠ some b → s.heap.get? b = some o → ∃ sl, h3.get? b = some { o with slots := sl }) → Q () { s with heap := h3 }) : wpAny M A (noteFrame (.ref e) env) Q E s := by
  obtain ⟨oe, vs, he, hc, hdc, hd, h2, hT⟩ := hx
  have fin : ∀ {h0 h3 : Heap} {T1 : Addr}, Entered h0 h3 e oe vs ((env :: outer).filterMap (·.frame)) (rawInt L) T1 → 1 < vs.size → ExcOf h3 e C (some T1) (rawInt L) := fun {h0 h3 T1} X hz => by
    obtain ⟨ot, ts, z1, z2, z3⟩ := X.tb
    refine ⟨_, _, X.ex, hc, hdc, rfl, ?_, ?_, X.ne, ot, ts, z1, z2, z3⟩
    · rw [Array.getElem?_setIfInBounds_ne (by decide)]; exact h2
    · simp [hz]
  unfold noteFrame
  simp only [hf]
  cases T0 with
  | none =>
    have h1 : vs[1]? = some .none := hT
    have hz : 1 < vs.size := (Array.getElem?_eq_some_iff.mp h1).1
    refine wpAny_bind (wpAny_field he hd h1 ?_)
    rw [if_neg (by decide)]
    exact entry_step hfr hl hf he hd hz fun h3 T1 X => h h3 T1 (fin X hz) X.big (fun b o hb _ => X.keep b o hb) fun b o hb _ => X.slot b o hb
  | some t =>
    obtain ⟨h1, hte, ot, ts, ht, hdt, h3⟩ := hT
    have hz : 1 < vs.size := (Array.getElem?_eq_some_iff.mp h1).1
    refine wpAny_bind (wpAny_field he hd h1 ?_)
    rw [if_pos (by simp)]
    refine wpAny_bind (wpAny_field ht hdt h3 ?_)
    rw [if_neg (by simp [rawInt])]
    refine wpAny_bind (wpAny_setField ht hdt (Array.getElem?_eq_some_iff.mp h3).1 ?_)
    have oth : ∀ b, b ≠ t → (s.heap.update t (Obj.mapFields (·.setIfInBounds 3 Value.none))).get? b = s.heap.get? b := fun b hb => Heap.get?_update_other _ _ (Ne.symm hb)
    have nrec : ∀ b o, s.heap.get? b = some o → (∀ ws, o.data ≠ .fields ws) → b ≠ t := fun b o hb hn z => by
      rw [z, ht] at hb
      exact hn ts (Option.some.inj hb ▸ hdt)
    refine entry_step (s := { s with heap := s.heap.update t (Obj.mapFields (·.setIfInBounds 3 Value.none)) }) hfr (hl.of_keeps fun b o hb hn => ⟨o, (oth b (nrec b o hb hn)).trans hb, rfl⟩) hf ((oth e (Ne.symm hte)).trans he) hd hz fun g T1 X => h g T1 (fin X hz) ?_ ?_ ?_
    · have z := X.big
      rw [Heap.size_update] at z
      exact z
    · exact fun b o hb hbt hbf ho => X.keep b o hb hbf ((oth b fun z => hbt (by rw [z])).trans ho)
    · exact fun b o hb hbt ho => X.slot b o hb ((oth b fun z => hbt (by rw [z])).trans ho)
theorem flight_step {T : Addr} {C fl : Value} {Q : Unit → Shared → Prop} (hx : ExcOf s.heap e C (some T) fl)
    (h : ∀ h3, ExcOf h3 e C (some T) .none → (∀ b o, b ≠ T → s.heap.get? b = some o → h3.get? b = some o) → Q () { s with heap := h3 }) : wpAny M A (setFlight (.ref e) none) Q E s := by
  obtain ⟨oe, vs, he, hc, hdc, hd, h2, h1, hte, ot, ts, ht, hdt, h3⟩ := hx
  have hz : 3 < ts.size := (Array.getElem?_eq_some_iff.mp h3).1
  have oth : ∀ b, b ≠ T → (s.heap.update T (Obj.mapFields (·.setIfInBounds 3 ((none : Option Addr).elim Value.none fun f => rawInt f)))).get? b = s.heap.get? b := fun b hb => Heap.get?_update_other _ _ (Ne.symm hb)
  unfold setFlight
  refine wpAny_bind (wpAny_field he hd h1 ?_)
  rw [if_pos (by simp)]
  refine wpAny_setField ht hdt hz (h _ ?_ fun b o hb ho => (oth b hb).trans ho)
  exact ⟨oe, vs, (oth e (Ne.symm hte)).trans he, hc, hdc, hd, h2, h1, hte, _, _, Heap.get?_update_self _ ht (Obj.isFreed_of_fields (Obj.data_mapFields hdt _)), Obj.data_mapFields hdt _, by simp [hz]⟩
theorem leave_step {T0 : Option Addr} {C : Value} {Q : Unit → Shared → Prop} (hfr : A.frames = some (env :: outer)) (hl : s.heap.FunFrames base (env :: outer)) (hf : env.frame = some L) (hx : ExcOf s.heap e C T0 .none)
    (h : ∀ h3 T1, ExcOf h3 e C (some T1) .none → s.heap.objs.size ≤ T1 → (∀ b o, b ≠ e → T0 ≠ some b → b ∉ (env :: outer).filterMap (·.frame) → s.heap.get? b = some o → h3.get? b = some o) →
      (∀ b o, b ≠ e → T0 ≠ some b → s.heap.get? b = some o → ∃ sl, h3.get? b = some { o with slots := sl }) → Q () { s with heap := h3 }) : wpAny M A (leaving env (.ref e)) Q E s := by
  unfold leaving
  refine wpAny_bind (note_step hfr hl hf hx fun g T1 x new keep slot => ?_)
  have nt : ∀ b o, s.heap.get? b = some o → b ≠ T1 := fun b o ho z => absurd (Heap.lt_size ho) (by rw [z]; exact Nat.not_lt.mpr new)
  refine flight_step (s := { s with heap := g }) x fun g2 x2 k2 => h g2 T1 x2 new (fun b o hb ht hbf ho => k2 b o (nt b o ho) (keep b o hb ht hbf ho)) fun b o hb ht ho => ?_
  obtain ⟨sl, z⟩ := slot b o hb ht ho
  exact ⟨sl, k2 b _ (nt b o ho) z⟩
end
end L2

namespace L2
open PySem PySem.Spec PyProof.Rows
theorem ObjOk.has {P : Program} {w : World} {H : Hp} {h : Heap} {a : Addr} {o : HO} (x : ObjOk P w H h a o) : ∃ ob, h.get? a = some ob := by
  cases o with
  | lst xs => obtain ⟨_, _, _, _, e⟩ := x; exact ⟨_, e⟩
  | tup xs => obtain ⟨_, _, _, ob, e, _⟩ := x; exact ⟨_, e⟩
  | dK kvs => obtain ⟨_, _, _, _, ob, _, _, e, _⟩ := x; exact ⟨_, e⟩
  | dT kvs => obtain ⟨_, _, _, _, ob, _, _, e, _⟩ := x; exact ⟨_, e⟩
  | set S n => obtain ⟨ob, _, _, _, e, _⟩ := x; exact ⟨_, e⟩
  | ins C dx fs => obtain ⟨_, _, _, e, _⟩ := x; exact ⟨_, e⟩
  | own y => exact x
  | xd fs => obtain ⟨_, ⟨ob, _, _, e, _⟩, _⟩ := x; exact ⟨_, e⟩
  | rng lo hi => obtain ⟨_, _, _, e⟩ := x; exact ⟨_, e⟩
  | frz ob u => obtain ⟨e, _⟩ := x; exact ⟨_, e⟩
  | tbl ps => exact ⟨_, (show h.get? a = some _ from x)⟩
  | met f y => exact ⟨_, (show h.get? a = some _ from x)⟩
  | ext φ => exact x.2.1
theorem HOk.none_of {P : Program} {w : World} {H : Hp} {h : Heap} {a : Addr} (x : HOk P w H h) (e : h.get? a = none) : H a = none := by
  cases q : H a with
  | none => rfl
  | some o =>
    obtain ⟨ob, z⟩ := (x a o q).has
    rw [e] at z
    cases z

/-- how an exception lies behind a call -/
def CXb (P : Program) (w : World) : CXT := fun outer H s E e s' => ∃ (a : Addr) (C : Value) (T : Addr) (H' : Hp), e = .ref a ∧ s'.os = s.os ∧ AllBare s'.gens ∧ Un (frs outer) [] H H' s.heap s'.heap ∧ HOk P w H' s'.heap ∧
  ExcOf s'.heap a C (some T) .none ∧ H' a = none ∧ H' T = none ∧ s.heap.get? a = none ∧ s.heap.get? T = none ∧ E C none H'

section
variable {CX : CXT} {P : Program} {w : World} {K : PySem.W.Frag} {mg : Str → Option Value} {base : Heap} {N : List Str} {qual : Str} {scope : Scope} {f : Addr} {cd : Value} {A : Around} {outer : List Env} {s s1 : Shared} {H H1 : Hp} {E : XK}
  {pins : List (Addr × Obj)} {σ : St} {e : Addr} {C : Value} {T0 : Option Addr}
/-- an exception leaves a def's body -/
theorem leave_cx (I : Inv (cxOf (CXb P w) P w K mg base N qual scope f cd A outer s H E) pins σ H1 s1) (hx : ExcOf s1.heap e C T0 .none) (hHe : H1 e = none) (hHT : ∀ t, T0 = some t → H1 t = none)
    (ne : s.heap.get? e = none) (nt : ∀ t, T0 = some t → s.heap.get? t = none) (q : E C none H1) : (cxOf (CXb P w) P w K mg base N qual scope f cd A outer s H E).xe (.ref e) s1 := by
  show wpAny (model P w) (A.deeper (envOfC qual scope s.heap.objs.size f cd)) (leaving (envOfC qual scope s.heap.objs.size f cd) (.ref e)) _ _ s1
  refine leave_step (outer := outer) (L := s.heap.objs.size) I.ok.frames I.stack rfl hx fun h3 T1 x big keep slot => ?_
  have B : Un (frs outer) [] H H1 s.heap s1.heap := I.base
  have hT1 : s1.heap.get? T1 = none := Heap.get?_none_of_le big
  have old : ∀ b o, s.heap.get? b = some o → b ≠ e ∧ T0 ≠ some b ∧ b ≠ s.heap.objs.size := fun b o h => ⟨(fun z => by rw [z, ne] at h; cases h), (fun z => by rw [nt b z] at h; cases h), Nat.ne_of_lt (Heap.lt_size h)⟩
  have nfr : ∀ b, b ∉ frs outer → b ≠ s.heap.objs.size → b ∉ (envOfC qual scope s.heap.objs.size f cd :: outer).filterMap (·.frame) := fun b h1 h2 z => by
    rw [List.filterMap_cons] at z
    rcases List.mem_cons.mp z with z | z
    · exact h2 z
    · exact h1 z
  have trk : ∀ b u, H1 b = some u → b ≠ e ∧ T0 ≠ some b ∧ b ∉ (envOfC qual scope s.heap.objs.size f cd :: outer).filterMap (·.frame) := fun b u h => by
    refine ⟨fun z => ?_, fun z => ?_, fun z => ?_⟩
    · rw [z, hHe] at h; cases h
    · rw [hHT b z] at h; cases h
    · have z2 := I.stkFree b z
      rw [h] at z2; cases z2
  refine ⟨e, C, T1, H1, rfl, I.os, I.bare, ⟨fun b o h n hb hx => ?_, fun b o h n hb hx => ?_, B.free, fun b o h hx => ?_, B.tups, B.frzs, B.tbls⟩, fun b u h => ?_, x, hHe, I.hok.none_of hT1, ne, ?_, q⟩
  · obtain ⟨z1, z2, z3⟩ := old b o h
    exact keep b o z1 z2 (nfr b hb z3) (B.keep b o h n hb hx)
  · obtain ⟨z1, z2, z3⟩ := old b o h
    obtain ⟨sl, z⟩ := B.slot b o h n hb hx
    obtain ⟨sl', z'⟩ := slot b _ z1 z2 z
    exact ⟨sl', z'⟩
  · obtain ⟨z1, z2, z3⟩ := old b o h
    obtain ⟨o', z⟩ := B.there b o h hx
    obtain ⟨sl', z'⟩ := slot b _ z1 z2 z
    exact ⟨_, z'⟩
  · refine (I.hok b u h).stay (fun c v hc z => ?_) (fun _ z => z) fun _ _ z => z
    rcases hc with rfl | hc
    · obtain ⟨z1, z2, z3⟩ := trk c u h
      exact keep c v z1 z2 z3 z
    · obtain ⟨z1, z2, z3⟩ := trk c _ hc
      exact keep c v z1 z2 z3 z
  · exact Heap.get?_none_of_le (Nat.le_trans (Nat.le_trans (Nat.le_refl _) I.sz) big)
/-- .. that a callee let go passes on -/
theorem pass_cx {E' : XK} (h : ∀ C H', E' C none H' → E C none H') : Passes (CXb P w) (cxOf (CXb P w) P w K mg base N qual scope f cd A outer s H E) E' := by
  intro pins σ H1 s1 e s2 I hc
  obtain ⟨a, C, T, H2, rfl, os, bare, un, hok, x, ha, hT, na, nT, q⟩ := hc
  have I2 : Inv (cxOf (CXb P w) P w K mg base N qual scope f cd A outer s H E) pins σ H2 s2 := I.call' os un hok bare (fun b z => absurd z (by simp))
  have old : ∀ b, s1.heap.get? b = none → s.heap.get? b = none := fun b z => by
    cases y : s.heap.get? b with
    | none => rfl
    | some o =>
      obtain ⟨o', z'⟩ := I.base.there b o y (fun q => nomatch q)
      rw [z] at z'; cases z'
  exact leave_cx I2 x ha (fun t z => by cases z; exact hT) (old a na) (fun t z => by cases z; exact old _ nT) (h C H2 q)

/-- a def whose body may raise -/
theorem Fun.okX {x qual : Str} {st : Stmt} {f : Addr} {fd : FuncData} {N ps : List Str} {k : Nat} {sp : Sp} (F : Fun K x qual st f fd) (S : FnScope N ps (defScope st)) (len : ∀ vs H Q E, sp vs H Q E → vs.length = ps.length)
    (hbody : ∀ (cdv : Value) (A : Around) (outer : List Env) (s : Shared) (H : Hp) (vs : List V) (Q : VK) (E : XK), Room k (A.deeper (envOfC qual (defScope st) s.heap.objs.size f cdv)) → sp vs H Q E →
      ∃ t, PSs (cxOf (CXb P w) P w K mg base N qual (defScope st) f cdv A outer s H E) (defBody st) t ∧ t { nx := fun _ H' => Q .non H', rt := Q } (start N vs) H) : FnOk P w K mg base (CXb P w) (k + 1) f fd ps sp := by
  obtain ⟨oc, od, kV, doc, pm, an, cdv, ct, osl, rfl, lk, hcd⟩ := F.ex
  exact fn_of lk hcd S len fun A outer s H vs Q E hr hsp => hbody cdv A outer s H vs Q E hr hsp

/-! ### raise C(..), C a class of the text over ValueError -/
theorem topread_of (M : Mod K mg base) (p : Program) : ∃ loose mb, PySem.W.TopRead p loose mg mb base := by
  obtain ⟨o, es, ep, ho, hd, hk, hm⟩ := id M.glob
  obtain ⟨mb, h1, h2⟩ := M.blt
  refine ⟨es.toList.filterMap (fun d => match d.key with | .str x _ => some x | _ => none), mb, M.glob, h1, M.nolimit, h2, fun x _ hx _ _ _ => ?_⟩
  rw [← hm x]
  cases q : nsFind es x with
  | none => rfl
  | some v =>
    unfold nsFind findBy at q
    obtain ⟨d, hd1, _⟩ := Option.map_eq_some_iff.mp q
    have hmem := Array.mem_of_find?_eq_some hd1
    have hp := Array.find?_some hd1
    obtain ⟨n, t, ek⟩ := hk d hmem
    have en : n = x := by
      rw [ek] at hp
      simpa [Value.isStr] using hp
    exact absurd (List.mem_filterMap.mpr ⟨d, Array.mem_toList_iff.mpr hmem, by rw [ek, en]⟩) hx
theorem own_cls {x : Str} {C : Addr} {bm : List Value} {newId : String} (M : Mod K mg base) (e : PySem.W.nsIn K mainGlobals x = some (some (.ref C))) (q : PySem.W.excIn K C bm newId = true) : OwnCls x C bm newId mg base := by
  obtain ⟨loose, mb, T⟩ := topread_of M default
  exact PySem.W.own_of_in M.kin T e q
end
end L2

set_option Elab.async false
set_option linter.all false
set_option maxRecDepth 100000
set_option maxHeartbeats 4000000
namespace L2
open PySem PySem.Spec PyProof.Rows
section
variable {P : Program} {w : World} {K : PySem.W.Frag} {mg : Str → Option Value} {base : Heap} {N : List Str} {qual : Str} {scope : Scope} {f : Addr} {cd : Value} {A : Around} {outer : List Env} {s : Shared} {H : Hp} {E : XK}
/-- raise C(e, ..) in a def's own body -/
theorem ps_raise {x : Str} {np cpos pos : Pos} {e0 : Expr} {es : List Expr} {ta : TA} {C : Addr} {bm : List Value} {newId B initId : String} (O : OwnCls x C bm newId mg base) (FB : ExcBaseFacts B newId initId bm)
    (hg : Gl (cxOf (CXb P w) P w K mg base N qual scope f cd A outer s H E) x) (ha : PA (cxOf (CXb P w) P w K mg base N qual scope f cd A outer s H E) (e0 :: es) ta)
    (hst : starEach (e0 :: es) (cxOf (CXb P w) P w K mg base N qual scope f cd A outer s H E).env = (false, eval e0 (cxOf (CXb P w) P w K mg base N qual scope f cd A outer s H E).env) :: starEach es (cxOf (CXb P w) P w K mg base N qual scope f cd A outer s H E).env := by rfl)
    (hpl : (backTo cpos (starEach es (cxOf (CXb P w) P w K mg base N qual scope f cd A outer s H E).env)).any (·.1) = false := by rfl) (hdb : (x == ("__debug__" : Str)) = false := by decide) :
    PS (cxOf (CXb P w) P w K mg base N qual scope f cd A outer s H E) (.Raise (some (.Call (.Name x np) (e0 :: es) [] cpos)) none pos) (fun _ σ H1 => ta σ H1 fun vs H2 => vs.length ≤ sizeLine ∧ E (.ref C) none H2) := by
  intro pins s1 σ H1 D I h
  obtain ⟨y1, y2, y3, y4, y5, y6, y7, y8, y9, y10, y11, y12, y13, y14, y15, y16, y17, hC, hN, hni, hT⟩ := O.obj
  refine wpAny_Raise_call_subT (C := C) (nm := y3) (q := y4) (N := y2) (bs := y5) (bm := y1) (hdct := y6) (sn := y7) (sub := y8) (ab := y9) (col := y10) (dd := y11) (k0 := y12) (k1 := y13) (k2 := y14) (k3 := y15) (k5 := y16)
    FB (mN := y17) (hT.hasType FB.hasBase) (I.ok.hd rfl) (by rw [hst]; show (false || (backTo cpos (starEach es _)).any (·.1)) = false; rw [hpl]; rfl) hni (ld_glob I hg O.bound ⟨rfl, ?_⟩ hdb)
  have hA := ha cpos pins s1 σ H1 _ I h
  rw [hst] at hA ⊢
  refine Calls.evalArgs_plain (thn hA fun us s2 ⟨vs, H2, I2, r, hz, q⟩ => ?_)
  have kp : ∀ b o, base.get? b = some o → s2.heap.get? b = some o := I2.bk
  refine ⟨rfl, by rw [← r.length]; exact hz, kp _ _ hC, hN.keeps kp, hT.keeps kp, fun h' e hm => ?_⟩
  obtain ⟨t, he, _, _⟩ := hm.there
  have I3 : Inv (cxOf (CXb P w) P w K mg base N qual scope f cd A outer s H E) pins σ H2 { s2 with heap := h' } := I2.kept (t' := s2.toks) hm.keeps
  refine leave_cx (T0 := none) I3 ⟨_, _, he, rfl, rfl, rfl, rfl, rfl⟩ (I2.hok.none_of hm.new) (fun t z => nomatch z) ?_ (fun t z => nomatch z) q
  cases y : s.heap.get? e with
  | none => rfl
  | some o =>
    obtain ⟨o', z'⟩ := I2.base.there e o y (fun q => nomatch q)
    rw [hm.new] at z'
    cases z'
end

/-! ### try, except -/
/-- a caught exception as an object -/
def excφ (a : Addr) (C : Value) (h : Heap) : Prop := ∃ (oe : Obj) (vs : Array Value), h.get? a = some oe ∧ oe.cls = C ∧ oe.dict = none ∧ oe.data = .fields vs ∧ vs[2]? = some .none
def excO (a : Addr) (C : Value) : HO := .ext (excφ a C)
theorem ExcOf.phi {h : Heap} {e : Addr} {C fl : Value} {T : Option Addr} (x : ExcOf h e C T fl) : excφ e C h := by
  obtain ⟨oe, vs, he, hc, hdc, hd, h2, _⟩ := x
  exact ⟨oe, vs, he, hc, hdc, hd, h2⟩
theorem excO_ok {P : Program} {w : World} {H : Hp} {h : Heap} {a : Addr} {C : Value} (x : excφ a C h) : ObjOk P w H h a (excO a C) := by
  refine ⟨x, ?_, fun h1 h2 y k => ?_⟩
  · obtain ⟨oe, _, e, _⟩ := x; exact ⟨oe, e⟩
  · obtain ⟨oe, vs, e, r⟩ := y; exact ⟨oe, vs, k oe e, r⟩
/-- the context of a handler's suite -/
def cxHand (X : Cx) (e : Addr) : Cx := { X with A := X.A.mark (some (.ref e)), calm := false, xe := fun _ _ => False }
section
variable {X : Cx} {pins : List (Addr × Obj)} {σ : St} {H : Hp} {s : Shared}
theorem Inv.hand (I : Inv X pins σ H s) (e : Addr) : Inv (cxHand X e) pins σ H s :=
  ⟨⟨I.ok.mod, I.ok.kind, I.ok.glob, I.ok.blt, I.ok.above, I.ok.inj, I.ok.has, I.ok.cab, fun z => (nomatch z), I.ok.frames, I.ok.stk, I.ok.exf, I.ok.bs, I.ok.bsz, I.ok.noex, I.ok.exfs, I.ok.funs, I.ok.frf⟩, I.os, I.bare, I.base, I.loc, I.cell, I.free, I.freeC, I.pin, I.hok, I.len⟩
/-- behind the suite the names are forgotten -/
theorem Inv.lost {e : Addr} {h' : Heap} {m' : Str → Option Value} {t' : Nat} (ok : X.Ok) (I : Inv (cxHand X e) pins σ H s) (hn : h'.Ns X.env.locals m') (hs : Heap.SameBut X.env.locals s.heap h') : Inv X pins (List.replicate X.N.length none) H { s with heap := h', toks := t' } := by
  have ab : ∀ b o, X.s₀.heap.get? b = some o → b ≠ X.env.locals := fun b o h => Nat.ne_of_lt (Nat.lt_of_lt_of_le (Heap.lt_size h) ok.above)
  have B : Un X.fs X.ex X.H₀ H X.s₀.heap s.heap := I.base
  refine ⟨ok, I.os, I.bare, ⟨fun b o h n hb hx => (hs.2 b (ab b o h)).trans (B.keep b o h n hb hx), fun b o h n hb hx => ?_, B.free, fun b o h hx => ?_, B.tups, B.frzs, B.tbls⟩, ⟨m', hn, fun i y v e1 e2 e3 => ?_⟩, fun y c h => ?_, I.free, I.freeC, fun p hp => ?_, fun b u h => ?_, by simp⟩
  · obtain ⟨sl, z⟩ := B.slot b o h n hb hx
    exact ⟨sl, (hs.2 b (ab b o h)).trans z⟩
  · obtain ⟨o', z⟩ := B.there b o h hx
    exact ⟨o', (hs.2 b (ab b o h)).trans z⟩
  · rw [List.getElem?_replicate] at e2
    split at e2 <;> cases e2
  · obtain ⟨v, z⟩ := I.cell y c h
    exact ⟨v, z.sameBut hs (I.cne y c h)⟩
  · obtain ⟨h1, h2, h3, h4, h5⟩ := I.pin p hp
    exact ⟨(hs.2 p.1 h3).trans h1, h2, h3, h4, h5⟩
  · have fr : H X.env.locals = none := I.free
    refine (I.hok b u h).stay (fun c v hc z => (hs.2 c ?_).trans z) (fun _ z => z) fun _ _ z => z
    rcases hc with rfl | hc
    · exact ne_of_none h fr
    · exact ne_of_none hc fr
end
theorem pass0b {P : Program} {w : World} {X : Cx} : Passes (CXb P w) X E0 := fun _ _ _ _ _ _ _ h => by
  obtain ⟨_, _, _, _, _, _, _, _, _, _, _, _, _, _, q⟩ := h
  exact q.elim

/-- try: f(..) / except C as n: a suite that returns -/
def tTry (K : PySem.W.Frag) (sp : Sp) (D0 : Addr) (j : Nat) (ta : TA) (ts : Addr → TS) : TS := fun D σ H => ta σ H fun vs H1 => sp (vs ++ []) H1 (fun _ H2 => D.nx σ H2) fun C _ H2 => PySem.W.exmOne K C (.ref D0) = some true ∧
  ∀ a, H2 a = none → ts a { nx := fun _ _ => False, rt := D.rt } (σ.set j (some (.ref a))) (upd H2 a (excO a C))
theorem ps_try {X : Cx} {x c n : Str} {p cp sp0 cpos hp pos : Pos} {e0 : Expr} {es : List Expr} {b0 : Stmt} {suite : List Stmt} {ta : TA} {ts : Addr → TS} {k j : Nat} {f D0 : Addr} {fd : FuncData} {ps : List Str} {sp : Sp}
    (hstk : X.stack = X.env :: X.outer) (hfr : X.env.frame = some X.env.locals) (F : FnOk X.prog X.w X.K X.mg X.base (CXb X.prog X.w) k f fd ps sp) (hr : Room k X.A) (hg : Gl X x) (hm : X.mg x = some (.ref f)) (hk : PySem.W.keepIn X.K (.ref f) = true) (hb : Binds X.K fd ps [])
    (ha : ∀ E, PA (X.wish E) (e0 :: es) ta) (hgc : Gl X c) (hmc : X.mg c = some (.ref D0)) (hN : X.N.Nodup) (hj : X.N[j]? = some n) (hl : X.env.scope.names.lookup n = some .local) (hsu : ∀ a, PSs (cxHand X a) (b0 :: suite) (ts a))
    (hst : starEach (e0 :: es) X.env = (false, eval e0 X.env) :: starEach es X.env := by rfl) (hpl : (backTo cp (starEach es X.env)).any (·.1) = false := by rfl) (hsw : swapsWith (.Call (.Name x p) (e0 :: es) [] cp) none sp0.line X.env = pure false := by rfl)
    (hdb : (x == ("__debug__" : Str)) = false := by decide) (hdc : (c == ("__debug__" : Str)) = false := by decide) :
    PS X (.Try [.Expr (.Call (.Name x p) (e0 :: es) [] cp) sp0] [.ExceptHandler (some (.Name c cpos)) (some n) (b0 :: suite) hp] [] [] pos) (tTry X.K sp D0 j ta ts) := by
  intro pins s σ H D I h
  refine wpAny_Try_except ?_
  generalize hEy : (fun (e : Value) (s₁ : Shared) => wpAny (model X.prog X.w) X.A (noteFrame e X.env) (fun _ s₂ => wpAny (model X.prog X.w) X.A (setFlight e none) (fun _ s₃ =>
    wpAny (model X.prog X.w) X.A (handleBy e X.env [.ExceptHandler (some (.Name c cpos)) (some n) (b0 :: suite) hp]) (SP X pins D) X.xe s₃) X.xe s₂) X.xe s₁) = Ey
  have Iw := I.wish Ey
  refine wpAny_execs_cons (wpAny_Expr_any (wpAny_Call_Name_kw (ld_glob I hg hm ?_ hdb)) I.quiet hsw)
  refine PySem.W.callWith_K (h₀ := X.base) I.ok.mod.kin hk (thn (ha Ey cp pins s σ H _ Iw h) fun us s1 ⟨vs, H1, I1w, r, q⟩ => ⟨I1w.kIn, ?_⟩) hst hpl
  have I1 := I1w.unwish
  have r2 : Vals (vs ++ []) us := by rw [List.append_nil]; exact r
  have hlen : (us ++ []).length = ps.length := by rw [List.append_nil, ← r2.length]; exact F.len _ _ _ _ q
  refine wpAny_call (codeAny_mono (F.run X.A X.stack s1 H1 ⟨us, []⟩ (us ++ []) (vs ++ []) _ _ hr I1.env0 (hb s1 us I1.kIn hlen) (by rw [List.append_nil us]; exact r2) q) fun rs s2 hq => ?_)
  cases rs with
  | ok fl =>
    cases fl with
    | ret u =>
      obtain ⟨v, H2, I2, rv, q2⟩ := I1.after hq
      exact wpAny_execs_nil (wpAny_execs_nil ⟨σ, H2, I2, q2⟩)
    | next => exact False.elim hq
    | brk => exact False.elim hq
    | cont => exact False.elim hq
  | error e =>
    obtain ⟨a, C, T, H2, rfl, os, bare, un, hok, xe, hHa, hHT, na, nT, hexm, qs⟩ := hq
    show Ey (.ref a) s2
    rw [← hEy]
    have I2 : Inv X pins σ H2 s2 := I1.call' os un hok bare (fun b z => absurd z (by simp))
    have fsE : (X.env :: X.outer).filterMap (·.frame) = frs X.stack := by rw [hstk]; rfl
    have trk : ∀ b u, H2 b = some u → b ≠ a ∧ some T ≠ some b ∧ b ∉ (X.env :: X.outer).filterMap (·.frame) := fun b u h => by
      refine ⟨fun z => ?_, fun z => ?_, fun z => ?_⟩
      · rw [z, hHa] at h; cases h
      · rw [← Option.some.inj z, hHT] at h; cases h
      · rw [fsE] at z
        have z2 := I2.stkFree b z
        rw [h] at z2; cases z2
    have old : ∀ b o, s1.heap.get? b = some o → b ≠ a ∧ some T ≠ some b := fun b o h => by
      refine ⟨fun z => ?_, fun z => ?_⟩
      · rw [z, na] at h; cases h
      · rw [← Option.some.inj z, nT] at h; cases h
    -- from the call on: another heap that keeps all but the exception's records
    have again : ∀ (g : Heap) (s' : Shared), s'.os = s2.os → AllBare s'.gens → s'.heap = g → (∀ b o, b ≠ a → some T ≠ some b → b ∉ frs X.stack → s2.heap.get? b = some o → g.get? b = some o) → (∀ b o, b ≠ a → some T ≠ some b → s2.heap.get? b = some o → ∃ sl, g.get? b = some { o with slots := sl }) →
        excφ a C g → Inv X pins σ (upd H2 a (excO a C)) s' := by
      intro g s' ho hb hg keep slot hphi
      subst hg
      refine I1.call' (ch := []) (ho.trans os) ⟨fun b o h n hf hx => ?_, fun b o h n hf hx => ?_, fun b o h n hx => ?_, fun b o h hx => ?_, fun b xs h => ?_, fun b o u h => ?_, fun b p h => ?_⟩ ?_ hb (fun b z => absurd z (by simp))
      · exact keep b o (old b o h).1 (old b o h).2 hf (un.keep b o h n hf hx)
      · obtain ⟨sl, z⟩ := un.slot b o h n hf hx
        obtain ⟨sl', z'⟩ := slot b _ (old b o h).1 (old b o h).2 z
        exact ⟨sl', z'⟩
      · rw [upd_ne (old b o h).1]; exact un.free b o h n hx
      · obtain ⟨o', z⟩ := un.there b o h hx
        obtain ⟨sl', z'⟩ := slot b _ (old b o h).1 (old b o h).2 z
        exact ⟨_, z'⟩
      · have z := un.tups b xs h
        rw [upd_ne (ne_of_none z hHa)]; exact z
      · have z := un.frzs b o u h
        rw [upd_ne (ne_of_none z hHa)]; exact z
      · obtain ⟨more, z⟩ := un.tbls b p h
        exact ⟨more, by rw [upd_ne (ne_of_none z hHa)]; exact z⟩
      · intro b u h
        by_cases hba : b = a
        · subst hba
          rw [upd_same] at h
          cases h
          exact excO_ok hphi
        · rw [upd_ne hba] at h
          refine (hok b u h).stay (fun c v hc z => ?_) (fun c z => by rw [upd_ne (ne_of_none z hHa)]; exact z) fun c xs z => by rw [upd_ne (ne_of_none z hHa)]; exact z
          have tc : ∃ u', H2 c = some u' := by
            rcases hc with rfl | hc
            · exact ⟨u, h⟩
            · exact ⟨_, hc⟩
          obtain ⟨u', hu'⟩ := tc
          obtain ⟨z1, z2, z3⟩ := trk c u' hu'
          rw [fsE] at z3
          exact keep c v z1 z2 z3 z
    refine note_step (outer := X.outer) (L := X.env.locals) (base := X.base) (by rw [← hstk]; exact I2.ok.frames) (by rw [← hstk]; exact I2.stack) hfr xe fun g3 T1 x3 big keep3 slot3 => ?_
    rw [fsE] at keep3
    refine flight_step (s := { s2 with heap := g3 }) x3 fun g4 x4 k4 => ?_
    have nt1 : ∀ b o, s2.heap.get? b = some o → b ≠ T1 := fun b o h z => absurd (Heap.lt_size h) (by rw [z]; exact Nat.not_lt.mpr big)
    have keep4 : ∀ b o, b ≠ a → some T ≠ some b → b ∉ frs X.stack → s2.heap.get? b = some o → g4.get? b = some o := fun b o h1 h2 h3 h => k4 b o (nt1 b o h) (keep3 b o h1 h2 h3 h)
    have slot4 : ∀ b o, b ≠ a → some T ≠ some b → s2.heap.get? b = some o → ∃ sl, g4.get? b = some { o with slots := sl } := fun b o h1 h2 h => let ⟨sl, z⟩ := slot3 b o h1 h2 h; ⟨sl, k4 b _ (nt1 b o h) z⟩
    have I4 : Inv X pins σ (upd H2 a (excO a C)) { s2 with heap := g4 } := again g4 _ rfl bare rfl keep4 slot4 x4.phi
    refine wpAny_handleBy_cons (codeAny_handlers_test (ld_glob (X := cxHand X a) (I4.hand a) hgc hmc ?_ hdc)) (by intro z; cases z)
    obtain ⟨oe, vs', he, hcl, _⟩ := x4.phi
    have LT : PySem.W.Looks (model X.prog X.w) g4 (typeOf (.ref a)) C := hcl ▸ (PySem.W.Looks.ld he).andThen .now
    refine (PySem.W.exm_one (h := g4) I4.kIn LT hexm) _ _ _ _ (fun _ _ z => z) ?_
    refine codeAny_handlers_suite_as ?_
    refine flight_step (s := { s2 with heap := g4 }) x4 fun g5 x5 k5 => ?_
    have I5 : Inv X pins σ (upd H2 a (excO a C)) { s2 with heap := g5 } := again g5 _ rfl bare rfl (fun b o h1 h2 h3 h => k5 b o (nt1 b o h) (keep4 b o h1 h2 h3 h)) (fun b o h1 h2 h => let ⟨sl, z⟩ := slot4 b o h1 h2 h; ⟨sl, k5 b _ (nt1 b o h) z⟩) x5.phi
    refine store_ok (X := cxHand X a) (i := j) (v := .ref a) (I5.hand a) hN hj (.inl hl) rfl (fun s6 I6 => ?_) (.inr hl)
    refine wpAny_mono (hsu a pins s6 _ _ _ I6 (qs a hHa)) (fun fl s7 q7 => ?_) fun _ _ z => z.elim
    cases fl with
    | next => obtain ⟨_, _, _, z⟩ := q7; exact z.elim
    | brk => obtain ⟨_, _, _, z⟩ := q7; exact z.elim
    | cont => obtain ⟨_, _, _, z⟩ := q7; exact z.elim
    | ret u =>
      obtain ⟨v, σ7, H7, I7, rv, q7⟩ := q7
      obtain ⟨m7, hn7, _⟩ := I7.loc
      refine wpAny_nameGoes hl hn7 (by rw [I.ok.kind]; rfl) fun h8 m8 hn8 hs8 => ?_
      exact ⟨v, _, H7, Inv.lost I.ok I7 hn8 hs8, rv, q7⟩
end L2

set_option Elab.async false
set_option linter.all false
set_option maxRecDepth 100000
set_option maxHeartbeats 4000000
namespace L2
open PySem PySem.Spec PyProof.Rows

/-! ### __class__ of a caught exception of an own class -/
/-- what the fragment says of an own exception class -/
structure XCls (K : PySem.W.Frag) (C : Addr) : Prop where
  ga : PySem.W.findIn K (.ref C) "__getattribute__" = some (some (.builtin "BaseException.__getattribute__"))
  gt : PySem.W.findIn K (.ref C) "__getattr__" = some none
  at_ : PySem.W.findIn K (.ref C) "__class__" = some (some (.builtin "object.__class__"))
  sp : PySem.W.specialIn K (.builtin "object.__class__") "__get__" = some (some (.builtin "getset_descriptor.__get__"))
  tk : PySem.W.takesIn K (.builtin "object.__class__") = some true
  ob : PySem.W.mroIn K C (.type "object") = some true
  bx : PySem.W.mroIn K C (.type "BaseException") = some true
  cl : (PySem.W.clsIn K C).isSome = true

section
variable {prog : Program} {w : World} {A : Around} {E : Value → Shared → Prop} {s : Shared} {K : PySem.W.Frag} {x C : Addr} {ox : Obj} {tk : Tok}
theorem xc_entry {Q : Fin → Shared → Prop} (Z : XCls K C) (X : K.In s.heap) (I : PySem.W.InstAt s.heap x ox C none) (h : Q (.done (.ret (.ref C))) s) :
    wpAny (model prog w) A (Builtin.«object.__getattribute__» ⟨[.ref x, .str "__class__" tk], []⟩) Q E s := by
  obtain ⟨cd, hcd⟩ := Option.isSome_iff_exists.mp Z.cl
  have hf : PySem.W.findObj K C none "__class__" = some (.bind (.builtin "getset_descriptor.__get__") (.builtin "object.__class__")) := by
    unfold PySem.W.findObj
    simp only [hcd, Option.bind_some, Z.at_, Z.sp, Z.tk]
  obtain ⟨hh, gg, d, t, os⟩ := s
  have L0 := I.type (M := model prog w)
  have L1 := PySem.W.looks_find (M := model prog w) X I hf
  refine wpAny_bind (wpAny_pure (wpAny_bind (wpAny_pure (wpAny_bind (L0.at (wpAny_bind (L1.at ?_)))))))
  show wpAny _ _ (holding [Value.builtin "object.__class__"] (call (.builtin "getset_descriptor.__get__") [.builtin "object.__class__", .ref x, .ref C]) >>= ret) _ _ _
  exact wpAny_bind (wpAny_holding (wpAny_call (PySem.W.class_get X I Z.ob (wpAny_pure h))))
theorem xc_check {M : Model} {v : Value} {Q : Unit → Shared → Prop} (Z : XCls K C) (X : K.In s.heap) (I : PySem.W.InstAt s.heap x ox C none) (h : Q () s) : wpAny M A (checkBuiltinCall "BaseException.__getattribute__" ⟨[.ref x, v], []⟩) Q E s := by
  have hk : builtinKind "BaseException.__getattribute__" = some .slot := by decide +kernel
  have hs : splitId "BaseException.__getattribute__" = some ("BaseException", "__getattribute__") := by decide +kernel
  have ha := F.args_bexc_ga (.ref x) v
  obtain ⟨hh, gg, d, t, os⟩ := s
  have L0 := I.type (M := M)
  have L1 := PySem.W.looks_mroIn (M := M) X Z.bx
  have LI : PySem.W.Looks M hh (isInstance (.ref x) (.type "BaseException")) true := L0.andThen L1
  simp only [checkBuiltinCall, hk, hs]
  refine wpAny_bind (LI.at ?_)
  repeat (first | wp_step | assumption)
theorem xc_attr {Q : Option Value → Shared → Prop} (Z : XCls K C) (X : K.In s.heap) (I : PySem.W.InstAt s.heap x ox C none) (h : Q (some (.ref C)) { s with toks := s.toks + 1 }) :
    wpAny (model prog w) A (getAttr? (.ref x) "__class__") Q E s := by
  obtain ⟨hh, gg, d, t, os⟩ := s
  have L0 := I.type (M := model prog w)
  have L1 := PySem.W.looks_findIn (M := model prog w) X Z.ga
  have L2 := PySem.W.looks_findIn (M := model prog w) X Z.gt
  unfold getAttr? getAttrBy? getAttrBy
  refine wpAny_bind (wpAny_mkText (wpAny_bind (wpAny_attempt (wpAny_holding (wpAny_bind (L0.at (wpAny_bind (L1.at ?_))))))))
  show wpAny _ _ (if onTheHeap (.ref C) && Value.builtin "BaseException.__getattribute__" == .builtin "object.__getattribute__" then _ else _) _ _ _
  have ne : (Value.builtin "BaseException.__getattribute__" == Value.builtin "object.__getattribute__") = false := by decide +kernel
  rw [ne, Bool.and_false, if_neg Bool.false_ne_true]
  unfold getAttrByItsOwn
  refine wpAny_bind ?_
  show wpAny _ _ (typeLookup (.ref C) "__getattr__") _ _ _
  refine L2.at (wpAny_bind (wpAny_attempt (wpAny_holding ?_)))
  show wpAny _ _ (boundAndCalled _ _ _) _ _ _
  unfold boundAndCalled
  rw [F.excAttr_ValueError.ga.bind]
  refine wpAny_bind (wpAny_pure (wpAny_call (codeAny_call_builtin F.excAttr_ValueError.ga.plain F.entry_bexc_ga (xc_check Z X I (xc_entry Z X I ?_)))))
  exact PySem.W.handed_on rfl (wpAny_pure h)
end

theorem excφ.inst {h : Heap} {a C : Addr} (x : excφ a (.ref C) h) : ∃ ox, PySem.W.InstAt h a ox C none := by
  obtain ⟨oe, vs, e, c, d, f, _⟩ := x
  refine ⟨oe, e, c, ?_, ?_⟩
  · unfold PySem.W.notCls; rw [f]
  · rw [d]; trivial
theorem kitx_exc {K : PySem.W.Frag} {a C : Addr} (Z : XCls K C) : PySem.W.KitX K (.ref a) (.ref C) (excφ a (.ref C)) where
  ty := fun _ _ _ p => let ⟨_, I⟩ := p.inst; I.type
  it := fun _ _ X _ => by
    have e1 := Z.cl
    unfold PySem.W.clsIn at e1
    split at e1
    · rename_i c' d' cd' sl' ho
      intro A' Q' E' s' k q
      unfold isType loadHead
      exact wpAny_bind (wpAny_loadPart (k _ _ (X _ _ ho)) (wpAny_pure q))
    · cases e1
  ne := fun h tp dd its n sl X htp => by
    have e1 := Z.cl
    refine Bool.eq_false_iff.mpr fun q => ?_
    have e : C = tp := Value.ref.inj (beq_iff_eq.mp q)
    subst e
    unfold PySem.W.clsIn at e1
    split at e1
    · rename_i c' d' cd' sl' ho
      cases (X _ _ ho).symm.trans htp
    · cases e1
  ca := fun X p k => let ⟨_, I⟩ := p.inst; xc_attr Z X I k

/-! isinstance(error, own class) -/
section
variable {X : Cx}
def rIsx (K : PySem.W.Frag) : List V → Hp → VK → Prop := fun xs H Q => ∃ a C D b, xs = [V.ref a, V.ref D] ∧ H a = some (excO a (.ref C)) ∧ XCls K C ∧ PySem.W.kitOne K (.ref C) (.ref D) = some b ∧ Q (.bl b) H
theorem call_isx : CallR X (.builtin "isinstance") (rIsx X.K) := by
  intro pins s σ H xs us Q I r h
  obtain ⟨a, C, D, b, rfl, ea, Z, e, q⟩ := h
  obtain ⟨u, w', rfl, ru, rw'⟩ := vals2 r
  cases ru
  cases rw'
  have hx : excφ a (.ref C) s.heap := (I.hok a _ ea).1
  exact PySem.W.kia_one (kitx_exc Z) I.kIn hx e (fun z => nomatch z) fun tk => ⟨.bl b, H, I.tok tk, rfl, q⟩
theorem call_isxK {K : PySem.W.Frag} (e : X.K = K) : CallR X (.builtin "isinstance") (rIsx K) := e ▸ call_isx
end
end L2

/-! ### any in a handler's suite: the end of the list is told by an exception that is chained to the one at hand -/
namespace L2
open PySem PySem.Spec PyProof.Rows
section
variable {prog : Program} {w : World} {A : Around} {E : Value → Shared → Prop} {s : Shared}
end
end L2

set_option Elab.async false
set_option linter.all false
set_option maxRecDepth 100000
set_option maxHeartbeats 4000000
/-! slices of texts, index; callees that may raise -/
namespace L2
open PySem PySem.Spec PyProof.Rows
def rSlS : V → Option Int → Option Int → Hp → VK → Prop := fun x lo hi H Q => ∃ y, x = .str y ∧ y.length ≤ sizeLine ∧ Q (.str (Txt.slice y lo hi)) H
theorem part_of {v : Value} {o : Option Int} (h : IsPart v o) : ∃ l : Option (Int × Tok), v = partValue l ∧ l.map (·.1) = o := by
  cases h with
  | none => exact ⟨none, rfl, rfl⟩
  | int i t => exact ⟨some (i, t), rfl, rfl⟩
theorem sl_str {X : Cx} : SlR X rSlS := by
  intro pins s σ H x v vl vu lo hi sl Q I rx hs pl pu h
  obtain ⟨y, rfl, hz, q⟩ := h
  obtain ⟨t, rfl⟩ := rx
  obtain ⟨l, rfl, rfl⟩ := part_of pl
  obtain ⟨u, rfl, rfl⟩ := part_of pu
  obtain ⟨o, ho, hc, hd⟩ := hs
  refine ⟨"str", _, F.slot_str_getitem.lookup, typeIs_str _ _ _, wpAny_getItem_str_slice (l := l) (u := u) (st := none) ⟨o, ho, hc, hd⟩ rfl ?_⟩
  exact post_val_or_str ⟨Nat.le_trans (Txt.slice_le y _ _) hz, fun t' k => ⟨.str (Txt.slice y (l.map (·.1)) (u.map (·.1))), H, I.tok k, ⟨t', rfl⟩, q⟩⟩
def rSl (K : PySem.W.Frag) : V → Option Int → Option Int → Hp → VK → Prop := fun x lo hi H Q => rSlS x lo hi H Q ∨ rSlL K x lo hi H Q
theorem sl_any {X : Cx} {K : PySem.W.Frag} (e : X.K = K) : SlR X (rSl K) := e ▸ SlR.or sl_str sl_list

/-! ### the letters of a slice -/
open Builtin Builtin.Str in
theorem cut_hi (l : Option Int) {b len : Nat} (h : len ≤ b) : strSliceIndices l (some (b : Int)) 1 len = strSliceIndices l (some (len : Int)) 1 len := by
  have a : ¬ ((len : Int) < 0) := by omega
  have c : ¬ ((b : Int) < 0) := by omega
  have e : min (b : Int) (len : Int) = min (len : Int) (len : Int) := by omega
  simp only [strSliceIndices, a, c, if_false, e, show ((1 : Int) > 0) = True from by simp, if_true]
theorem cut_mid (x : Str) {a m : Nat} (ha : a ≤ x.length) : Txt.slice x (some (a : Int)) (some ((a : Int) + (m : Int))) = ⟨((x.cps.toList.drop a).take m).toArray⟩ := by
  have e0 : (a : Int) + (m : Int) = ((a + m : Nat) : Int) := by omega
  rw [e0]
  by_cases h : a + m ≤ x.length
  · have z := StrLaws.sliceText_nat x (a := a) (b := a + m) (by omega) h
    rw [show a + m - a = m by omega] at z
    exact z
  · have z := StrLaws.sliceText_nat x (a := a) (b := x.length) ha (Nat.le_refl _)
    have e : Txt.slice x (some (a : Int)) (some ((a + m : Nat) : Int)) = Txt.slice x (some (a : Int)) (some (x.length : Int)) := by
      unfold Txt.slice
      rw [cut_hi _ (show x.length ≤ a + m by omega)]
    rw [e]
    refine Eq.trans z ?_
    have l : (x.cps.toList.drop a).length ≤ x.length - a := by rw [List.length_drop]; show x.cps.toList.length - a ≤ x.cps.size - a; rw [Array.length_toList]; exact Nat.le_refl _
    rw [List.take_of_length_le l, List.take_of_length_le (Nat.le_trans l (by omega))]
theorem cut_to (x : Str) {a : Nat} (ha : a ≤ x.length) : Txt.slice x none (some (a : Int)) = ⟨(x.cps.toList.take a).toArray⟩ := by
  have z := StrLaws.sliceText_nat x (a := 0) (b := a) (Nat.zero_le _) ha
  have e : Txt.slice x none (some (a : Int)) = Txt.slice x (some ((0 : Nat) : Int)) (some (a : Int)) := by
    unfold Txt.slice
    rw [StrLaws.sliceIdx_none_lo]
    rfl
  rw [e]
  exact z
theorem cut_from (x : Str) {a : Nat} (ha : a ≤ x.length) : Txt.slice x (some (a : Int)) none = ⟨(x.cps.toList.drop a).toArray⟩ := by
  have z := StrLaws.sliceText_nat x (a := a) (b := x.length) ha (Nat.le_refl _)
  have e : Txt.slice x (some (a : Int)) none = Txt.slice x (some (a : Int)) (some (x.length : Int)) := by
    unfold Txt.slice
    rw [StrLaws.sliceIdx_none_hi]
  rw [e]
  refine Eq.trans z ?_
  have l : (x.cps.toList.drop a).length ≤ x.length - a := by rw [List.length_drop]; show x.cps.toList.length - a ≤ x.cps.size - a; rw [Array.length_toList]; exact Nat.le_refl _
  rw [List.take_of_length_le l]

/-! ### index of a text -/
/-! ### a callee that may raise -/
structure CalleeX (P : Program) (w : World) (K : PySem.W.Frag) (mg : Str → Option Value) (base : Heap) (k : Nat) (x : Str) (ps : List Str) (sp : Sp) : Prop where
  ex : ∃ f fd, FnOk P w K mg base (CXb P w) k f fd ps sp ∧ mg x = some (.ref f) ∧ PySem.W.keepIn K (.ref f) = true ∧ Binds K fd ps []
theorem CalleeX.mono {P : Program} {w : World} {K : PySem.W.Frag} {mg : Str → Option Value} {base : Heap} {j k : Nat} {x : Str} {ps : List Str} {sp : Sp} (c : CalleeX P w K mg base j x ps sp) (h : j ≤ k) : CalleeX P w K mg base k x ps sp := by
  obtain ⟨f, fd, F, m, kp, b⟩ := c.ex
  exact ⟨f, fd, F.mono h, m, kp, b⟩
/-- .. and doesn't at this call -/
theorem pe_callX0 {X : Cx} {k : Nat} {x : Str} {ps : List Str} {sp : Sp} {e : Expr} {es : List Expr} {t : TA} {p pos : Pos} (c : CalleeX X.prog X.w X.K X.mg X.base k x ps sp) (hr : Room k X.A) (hg : Gl X x) (ha : PA X (e :: es) t)
    (hdb : (x == ("__debug__" : Str)) = false := by decide) (he : starEach (e :: es) X.env = (false, eval e X.env) :: starEach es X.env := by rfl) (hpl : (backTo pos (starEach es X.env)).any (·.1) = false := by rfl) :
    PE X (.Call (.Name x p) (e :: es) [] pos) (tCall sp [] E0 t) := by
  obtain ⟨f, fd, F, m, kp, b⟩ := c.ex
  exact pe_call F hr hg m kp b .nil pass0b ha hdb he hpl
theorem calleeX_of {P : Program} {w : World} {K : PySem.W.Frag} {mg : Str → Option Value} {base : Heap} {k : Nat} {x qual : Str} {st : Stmt} {f : Addr} {fd : FuncData} {ps : List Str} {sp : Sp} (F : Fun K x qual st f fd) (G : FnOk P w K mg base (CXb P w) k f fd ps sp) (m : mg x = some (.ref f))
    (h : ∀ (kV doc pm : Value) (an : Option Addr) (cdv ct : Value) (us : List Value), us.length = ps.length → bindArgs (PySem.W.fnOf x qual (defArgs st) (defBody st) (defScope st) .none kV doc pm an cdv ct) ⟨us, []⟩ = pure (ps.zip us)) : CalleeX P w K mg base k x ps sp :=
  ⟨f, fd, G, m, F.kp, F.binds h⟩
/-- try: f(..) / except C as n, by the callee in short -/
theorem ps_tryc {X : Cx} {x c n : Str} {p cp sp0 cpos hp pos : Pos} {e0 : Expr} {es : List Expr} {b0 : Stmt} {suite : List Stmt} {ta : TA} {ts : Addr → TS} {k j : Nat} {D0 : Addr} {ps : List Str} {sp : Sp}
    (hstk : X.stack = X.env :: X.outer) (hfr : X.env.frame = some X.env.locals) (C : CalleeX X.prog X.w X.K X.mg X.base k x ps sp) (hr : Room k X.A) (hg : Gl X x)
    (ha : ∀ E, PA (X.wish E) (e0 :: es) ta) (hgc : Gl X c) (hmc : X.mg c = some (.ref D0)) (hN : X.N.Nodup) (hj : X.N[j]? = some n) (hl : X.env.scope.names.lookup n = some .local) (hsu : ∀ a, PSs (cxHand X a) (b0 :: suite) (ts a))
    (hst : starEach (e0 :: es) X.env = (false, eval e0 X.env) :: starEach es X.env := by rfl) (hpl : (backTo cp (starEach es X.env)).any (·.1) = false := by rfl) (hsw : swapsWith (.Call (.Name x p) (e0 :: es) [] cp) none sp0.line X.env = pure false := by rfl)
    (hdb : (x == ("__debug__" : Str)) = false := by decide) (hdc : (c == ("__debug__" : Str)) = false := by decide) :
    PS X (.Try [.Expr (.Call (.Name x p) (e0 :: es) [] cp) sp0] [.ExceptHandler (some (.Name c cpos)) (some n) (b0 :: suite) hp] [] [] pos) (tTry X.K sp D0 j ta ts) := by
  obtain ⟨f, fd, F, m, kp, b⟩ := C.ex
  exact ps_try hstk hfr F hr hg m kp b ha hgc hmc hN hj hl hsu hst hpl hsw hdb hdc
end L2
namespace L2
open PySem PySem.Spec PyProof.Rows
/-- raise C(e, ..), by what the fragment says of the class -/
theorem ps_raiseK {P : Program} {w : World} {K : PySem.W.Frag} {mg : Str → Option Value} {base : Heap} {N : List Str} {qual : Str} {scope : Scope} {f : Addr} {cd : Value} {A : Around} {outer : List Env} {s : Shared} {H : Hp} {E : XK}
    {x : Str} {np cpos pos : Pos} {e0 : Expr} {es : List Expr} {ta : TA} {C : Addr} {bm : List Value} {newId B initId : String} (ns : PySem.W.nsIn K mainGlobals x = some (some (.ref C))) (ex : PySem.W.excIn K C bm newId = true) (FB : ExcBaseFacts B newId initId bm)
    (hg : Gl (cxOf (CXb P w) P w K mg base N qual scope f cd A outer s H E) x) (ha : PA (cxOf (CXb P w) P w K mg base N qual scope f cd A outer s H E) (e0 :: es) ta)
    (hst : starEach (e0 :: es) (cxOf (CXb P w) P w K mg base N qual scope f cd A outer s H E).env = (false, eval e0 (cxOf (CXb P w) P w K mg base N qual scope f cd A outer s H E).env) :: starEach es (cxOf (CXb P w) P w K mg base N qual scope f cd A outer s H E).env := by rfl)
    (hpl : (backTo cpos (starEach es (cxOf (CXb P w) P w K mg base N qual scope f cd A outer s H E).env)).any (·.1) = false := by rfl) (hdb : (x == ("__debug__" : Str)) = false := by decide) :
    PS (cxOf (CXb P w) P w K mg base N qual scope f cd A outer s H E) (.Raise (some (.Call (.Name x np) (e0 :: es) [] cpos)) none pos) (fun _ σ H1 => ta σ H1 fun vs H2 => vs.length ≤ sizeLine ∧ E (.ref C) none H2) := by
  intro pins s1 σ H1 D I h
  exact ps_raise (own_cls I.ok.mod ns ex) FB hg ha hst hpl hdb pins s1 σ H1 D I h
end L2
namespace L2
open PySem PySem.Spec PyProof.Rows
/-- a comprehension whose element makes new things -/
theorem lc_grow {J : It} {xs : List V} {Ok : Hp → Prop} (hJ : ItOn J xs Ok) {te : TE} {js : List Nat} {σ : St} {H : Hp} {Q : VK} (f : V → V) (hok : ∀ H', Same H H' → Ok H') (hz : xs.length ≤ sizeLine)
    (he : ∀ (i : Nat) x H' Q', xs[i]? = some x → Same H H' → (∀ H'', Same H' H'' → Q' (f x) H'') → te (some x :: seenV σ js) H' Q')
    (q : ∀ H' p, Same H H' → H' p = none → Q (.ref p) (upd H' p (.lst (xs.map f)))) : LcW J tYes te js σ Q H := by
  refine ⟨fun i m acc H' => Same H H' ∧ i ≤ xs.length ∧ m = xs.length - i ∧ acc = (xs.take i).map f, ⟨xs.length, Same.refl _, Nat.zero_le _, by simp, by simp⟩, ?_⟩
  rintro i m acc H' ⟨hs, hi, rfl, rfl⟩
  have hlen : ((xs.take i).map f).length = i := by simp; omega
  refine ⟨by omega, ?_⟩
  by_cases hlt : i < xs.length
  · refine .inr ⟨hJ.go i _ (hok _ hs) hlt, by omega, fun x H'' y => ?_⟩
    obtain ⟨e, hx⟩ := hJ.yld i _ x H'' (hok _ hs) hlt y
    subst e
    unfold tYes
    dsimp only
    rw [if_pos rfl]
    refine he i x H'' _ hx hs fun H4 s4 => ⟨xs.length - (i + 1), by omega, hs.trans s4, hlt, rfl, ?_⟩
    have e : xs.take (i + 1) = xs.take i ++ [x] := by
      rw [List.take_add_one, hx]
      rfl
    rw [e, List.map_append]
    rfl
  · have e : i = xs.length := by omega
    subst e
    refine .inl ⟨hJ.stop _ _ (hok _ hs) (Nat.le_refl _), fun p hp => ?_⟩
    rw [List.take_length]
    exact q H' p hs hp
end L2

/-! fractions, letters, walks: plain mathematics -/
namespace TW
abbrev Fr := Int × Int
def IsL (c : Nat) : Prop := c = 116 ∨ c = 117 ∨ c = 114
def IsW (w : List Nat) : Prop := ∀ c ∈ w, IsL c
def IsF (f : Fr) : Prop := (f.1 = 1 ∧ f.2 = 0) ∨ (0 < f.2 ∧ Int.gcd f.1 f.2 = 1)

theorem F_nought : IsF (0, 1) := Or.inr ⟨by decide, by decide⟩
/-- one turn of the divisor's loop -/
theorem gcd_turn {a b : Int} (ha : 0 ≤ a) (hb : 0 < b) : Int.gcd b (a % b) = Int.gcd a b := by
  rw [Int.gcd_comm b, Int.emod_def]; simp
end TW

set_option Elab.async false
/-! the quiet pieces, and steps -/
namespace TW
def pcs : List (List Nat) := [[116, 117], [117, 116], [114, 114], [116, 114, 116, 114, 116, 114]]
theorem pcs_len {p : List Nat} (hp : p ∈ pcs) : p.length ≤ 6 ∧ 2 ≤ p.length := by
  have e : p = [116, 117] ∨ p = [117, 116] ∨ p = [114, 114] ∨ p = [116, 114, 116, 114, 116, 114] := by simpa [pcs] using hp
  rcases e with rfl | rfl | rfl | rfl <;> simp
/-- the word behind a step -/
def due (u : List Nat) (isIn : Bool) (i : Int) (p : List Nat) : Option (List Nat) :=
  if i < 0 ∨ (u.length : Int) < i then none
  else if isIn = true then some (u.take i.toNat ++ p ++ u.drop i.toNat)
  else if (u.drop i.toNat).take p.length = p then some (u.take i.toNat ++ u.drop (i.toNat + p.length)) else none
theorem due_off {u p : List Nat} {b : Bool} {i : Int} (h : i < 0 ∨ (u.length : Int) < i) : due u b i p = none := by
  unfold due
  rw [if_pos h]
theorem due_in {u p : List Nat} {i : Int} (h0 : 0 ≤ i) (h1 : i ≤ u.length) : due u true i p = some (u.take i.toNat ++ p ++ u.drop i.toNat) := by
  unfold due
  rw [if_neg (by omega), if_pos rfl]
theorem due_out {u p : List Nat} {i : Int} (h0 : 0 ≤ i) (h1 : i ≤ u.length) : due u false i p = if (u.drop i.toNat).take p.length = p then some (u.take i.toNat ++ u.drop (i.toNat + p.length)) else none := by
  unfold due
  rw [if_neg (by omega), if_neg (by decide)]
theorem out_room {u p : List Nat} {i : Int} (h0 : 0 ≤ i) (h1 : i ≤ u.length) (e : (u.drop i.toNat).take p.length = p) : i + p.length ≤ u.length := by
  have l := congrArg List.length e
  rw [List.length_take, List.length_drop] at l
  omega
end TW

set_option Elab.async false
set_option linter.all false
set_option maxRecDepth 100000
set_option maxHeartbeats 4000000
/-! texts as lists of codes, fractions as pairs: what the laws' proofs share -/
namespace TX
open PySem L2 TW
/-! ### texts as lists of codes -/
def S (w : List Nat) : Str := ⟨w.toArray⟩
theorem S_app (a b : List Nat) : S a ++ S b = S (a ++ b) := by
  show (⟨a.toArray ++ b.toArray⟩ : Str) = ⟨(a ++ b).toArray⟩
  simp
theorem S_len (w : List Nat) : (S w).length = w.length := by show w.toArray.size = w.length; simp
theorem S_inj {a b : List Nat} (h : S a = S b) : a = b := by
  have q := congrArg (fun x : Str => x.cps.toList) h
  simpa [S] using q
theorem S_eq (a b : List Nat) : (S a = S b) ↔ a = b := ⟨S_inj, fun h => by rw [h]⟩
theorem sg_S (w : List Nat) : sgV (S w) = w.map fun c => V.str (S [c]) := by unfold sgV S; simp
theorem small {n : Nat} (h : n ≤ 1000) : n ≤ sizeLine := Nat.le_of_lt (small1000 h)
/-! ### fractions -/
def fT (f : Fr) : HO := .tup [.int f.1, .int f.2]
def fD (f : Fr) : PyData := .tuple [.int f.1, .int f.2]
theorem fD_rd {K : PySem.W.Frag} {H : Hp} {p : Addr} {f : Fr} (h : H p = some (fT f)) : RdD K H (.ref p) (fD f) := by
  unfold fD RdD
  refine ⟨p, _, rfl, SqT.of h, ?_⟩
  unfold RdDs
  refine ⟨_, _, rfl, by unfold RdD; rfl, ?_⟩
  unfold RdDs
  refine ⟨_, _, rfl, by unfold RdD; rfl, ?_⟩
  unfold RdDs
  rfl
theorem fD_depth (f : Fr) : (fD f).depth ≤ 60 := by
  unfold fD
  simp [PyData.depth, PyData.depthAll]
theorem fD_eqv (f g : Fr) : PyData.eqv (fD f) (fD g) = decide (f = g) := by
  obtain ⟨a, b⟩ := f
  obtain ⟨c, d⟩ := g
  unfold fD
  simp only [PyData.eqv, PyData.eqvAll, Bool.and_true]
  rw [Bool.eq_iff_iff]
  simp
theorem same_new {H : Hp} {p : Addr} (h : H p = none) (o : HO) : Same H (upd H p o) := fun b u q => by rw [upd_ne (ne_of_none q h)]; exact q
theorem kit_int_bool {K : PySem.W.Frag} : PySem.W.kitOne K (.type "int") (.type "bool") = some false := by
  unfold PySem.W.kitOne PySem.W.kitCls
  rfl
theorem all_true (n : Nat) : (List.replicate n true).all id = true := by simp
theorem two_ok : 2 ≤ sizeLine := by decide
theorem lit_t : ("t" : Str) = S [116] := by decide +kernel
theorem lit_u : ("u" : Str) = S [117] := by decide +kernel
theorem lit_r : ("r" : Str) = S [114] := by decide +kernel
theorem sg_at {u : List Nat} {i : Nat} {x : V} (h : (sgV (S u))[i]? = some x) : ∃ c, u[i]? = some c ∧ x = .str (S [c]) := by
  rw [sg_S, List.getElem?_map] at h
  cases e : u[i]? with
  | none => rw [e] at h; cases h
  | some c => rw [e] at h; cases h; exact ⟨c, rfl, rfl⟩
theorem three_ok : 3 ≤ sizeLine := by decide
theorem four_ok : 4 ≤ sizeLine := by decide
theorem S_tu : ("tu" : Str) = S [116, 117] := by decide +kernel
theorem S_list (u : List Nat) : (S u).cps.toList = u := by simp [S]
/-! slices of a text that is written as a list -/
theorem S_to {u : List Nat} {i : Int} (h0 : 0 ≤ i) (h : i ≤ u.length) : Txt.slice (S u) none (some i) = S (u.take i.toNat) := by
  have e : i = ((i.toNat : Nat) : Int) := by omega
  rw [e, cut_to (S u) (by rw [S_len]; omega), S_list]
  rfl
theorem S_from {u : List Nat} {i : Int} (h0 : 0 ≤ i) (h : i ≤ u.length) : Txt.slice (S u) (some i) none = S (u.drop i.toNat) := by
  have e : i = ((i.toNat : Nat) : Int) := by omega
  rw [e, cut_from (S u) (by rw [S_len]; omega), S_list]
  rfl
theorem S_mid {u : List Nat} {i : Int} {m : Nat} (h0 : 0 ≤ i) (h : i ≤ u.length) : Txt.slice (S u) (some i) (some (i + (m : Int))) = S ((u.drop i.toNat).take m) := by
  have e : i = ((i.toNat : Nat) : Int) := by omega
  rw [e, cut_mid (S u) (by rw [S_len]; omega), S_list]
  rfl
theorem eqS (x y : Str) : decide (V.str x = V.str y) = decide (x = y) := by
  rw [Bool.eq_iff_iff]
  simp
theorem inV_str (x : Str) (ts : List Str) : inV (.str x) (ts.map V.str) = ts.contains x := by
  unfold inV
  rw [List.any_map, Bool.eq_iff_iff, List.any_eq_true, List.contains_iff_mem]
  constructor
  · rintro ⟨y, hy, e⟩
    have e' : (y == x) = true := e
    rw [← eq_of_beq e']
    exact hy
  · intro h
    exact ⟨x, h, (show (x == x) = true from beq_self_eq_true x)⟩
end TX

set_option Elab.async false
set_option linter.all false
set_option maxRecDepth 100000
set_option maxHeartbeats 4000000
/-! is True, is not True; a text some times -/
namespace L2
open PySem PySem.Spec PyProof.Rows
section
variable {X : Cx}
end
end L2

set_option Elab.async false
set_option linter.all false
set_option maxRecDepth 100000
set_option maxHeartbeats 4000000
/-! range with a step -/
namespace L2
open PySem PySem.Spec PyProof.Rows
section
variable {X : Cx} {tg : Expr}
end
end L2

set_option Elab.async false
set_option linter.all false
set_option maxRecDepth 100000
set_option maxHeartbeats 4000000
/-! reversed(list), division of large numbers, lists joined, own classes -/
namespace L2
open PySem PySem.Spec PyProof.Rows
/-! ### reversed(list), the list left as it is -/
section
variable {X : Cx}
/-! ### // of numbers of any size that occurs -/
theorem log2_lt {n k : Nat} (h : n < 2 ^ k) (hk : 0 < k) : n.log2 < k := by
  by_cases h0 : n = 0
  · subst h0; simpa using hk
  · exact (Nat.log2_lt h0).mpr h
/-! ### + also of lists -/
/-! ### isinstance, also of own classes -/
end
end L2
namespace L2
open PySem PySem.Spec PyProof.Rows
/-! ### readings that keep what they are asked for -/
end L2

set_option Elab.async false
set_option linter.all false
set_option maxRecDepth 100000
set_option maxHeartbeats 4000000
/-! what the laws of stage 2 share: names of built-ins, constants, promises -/
namespace TX
open PySem L2 TW
structure Glo (mg : Str → Option Value) : Prop where
  n_len : mg "len" = none
  n_all : mg "all" = none
  n_any : mg "any" = none
  n_isinstance : mg "isinstance" = none
  n_abs : mg "abs" = none
  n_int : mg "int" = none
  n_bool : mg "bool" = none
  n_str : mg "str" = none
  n_tuple : mg "tuple" = none
  n_list : mg "list" = none
  n_reversed : mg "reversed" = none
  n_range : mg "range" = none
  n_max : mg "max" = none
def Letters (K : PySem.W.Frag) (mg : Str → Option Value) : Prop := ∃ a, mg "LETTERS" = some (.ref a) ∧ ∀ H, SqT K H a [.str (S [116]), .str (S [117]), .str (S [114])]
theorem big {n : Nat} (h : n ≤ 1000000) : n ≤ sizeLine := by have := sizeLine_eq; omega
theorem len1 {α : Type} {us : List α} (h : us.length = 1) : ∃ a, us = [a] := List.length_eq_one_iff.mp h
theorem lenS {α : Type} {us : List α} {n : Nat} (h : us.length = n + 1) : ∃ a r, us = a :: r ∧ r.length = n := by
  cases us with
  | nil => cases h
  | cons a r => exact ⟨a, r, rfl, Nat.succ.inj h⟩
theorem len2 {α : Type} {us : List α} (h : us.length = 2) : ∃ a b, us = [a, b] := by
  obtain ⟨a, r, rfl, h'⟩ := lenS h
  obtain ⟨b, rfl⟩ := len1 h'
  exact ⟨a, b, rfl⟩
theorem len3 {α : Type} {us : List α} (h : us.length = 3) : ∃ a b c, us = [a, b, c] := by
  obtain ⟨a, r, rfl, h'⟩ := lenS h
  obtain ⟨b, c, rfl⟩ := len2 h'
  exact ⟨a, b, c, rfl⟩
theorem gcd_abs (a b : Int) : Int.gcd (if a < 0 then -a else a) b = Int.gcd a b := by
  split
  · rw [Int.neg_gcd]
  · rfl
theorem abs_nonneg (a : Int) : 0 ≤ (if a < 0 then -a else a) := by split <;> omega
/-! ### promises -/
def spGcd : Sp := fun vs H Q _ => ∃ a b : Int, vs = [.int a, .int b] ∧ 0 ≤ a ∧ 0 ≤ b ∧ Q (.int (Int.gcd a b)) H
def spLaw (K : PySem.W.Frag) : Sp := fun vs H Q _ => ∃ (a : Addr) (ns : List Int), vs = [.ref a] ∧ SqL K H a (ns.map V.int) ∧ ns.length ≤ 63 ∧ ∀ H', Q (.bl true) H'
end TX

set_option Elab.async false
set_option linter.all false
set_option maxRecDepth 100000
set_option maxHeartbeats 4000000
/-! comprehensions by the place, with a test, that make new things -/
namespace L2
open PySem PySem.Spec PyProof.Rows
end L2

set_option Elab.async false
set_option linter.all false
set_option maxRecDepth 100000
set_option maxHeartbeats 4000000
/-! a pair turned round by [::-1]; a short text many times -/
namespace HT
open PySem PySem.Spec PyProof.Rows
section
variable {prog : Program} {w : World} {A : Around} {E : Value → Shared → Prop} {s : Shared}
end
end HT
namespace L2
open PySem PySem.Spec PyProof.Rows
section
variable {X : Cx} {e st : Expr} {te ts : TE} {pos p2 : Pos}
end
end L2
namespace L2
open PySem PySem.Spec PyProof.Rows
/-! ### a cut between two statements -/
end L2
namespace L2
open PySem PySem.Spec PyProof.Rows
section
variable {X : Cx} {K : PySem.W.Frag}
theorem ix_tupK (e : X.K = K) : IxR X (rIxT K) := e ▸ ix_tup
theorem op_eqDK (hu : X.A.units + 64 < cLine) (e : X.K = K) : OpR X (compareOp .Eq) (rEqD K false) := e ▸ op_eqD hu
end
end L2

/-! runs: words as whole numbers with a turn between each two -/
namespace TW
/-! ### how many letters it takes -/
end TW

/-! one run towards the end -/
namespace TW
end TW

set_option Elab.async false
set_option linter.all false
set_option maxRecDepth 100000
set_option maxHeartbeats 4000000
/-! runs: promises -/
namespace TX
open PySem L2 TW
end TX

set_option Elab.async false
set_option linter.all false
set_option maxRecDepth 100000
set_option maxHeartbeats 4000000
/-! a list made by a comprehension and given a name at once: the name is stored ahead of the block's own ones going -/
namespace L2
open PySem PySem.Spec PyProof.Rows
end L2

set_option Elab.async false
/-! words as matrices; three fractions tell all; what comes back does so within three -/
namespace TW
end TW

set_option Elab.async false
/-! what comes back does so within three times -/
namespace TW
end TW
set_option Elab.async false
set_option linter.all false
set_option maxRecDepth 100000
set_option maxHeartbeats 4000000
/-! alike, quiet; answers that are objects: promises -/
namespace TX
open PySem L2 TW
end TX

set_option Elab.async false
set_option linter.all false
set_option maxRecDepth 100000
set_option maxHeartbeats 4000000
/-! in a module's dict; find; lists that are changed by a callee -/
namespace L2
open PySem PySem.Spec PyProof.Rows
section
variable {X : Cx}
end
end L2

set_option Elab.async false
/-! words by syllables r, s = tr, z = ru: what acts alike has one and the same plain row of them -/
namespace TW
namespace Syl
end Syl
open Syl
/-! ### one row alone -/
/-! ### the row of a word, the last syllable first -/
end TW
set_option Elab.async false
set_option linter.all false
/-! rows begun elsewhere: rows without loose ends are one another's, from another place -/
namespace TW
open Syl
end TW
set_option Elab.async false
set_option linter.all false
/-! rounds -/
namespace TW
open Syl
end TW
set_option Elab.async false
set_option linter.all false
/-! beats: the row of a dance, made a round by putting beats from the front behind the others -/
namespace TW
open Syl
/-! ### the round -/
/-! ### a round told from another place -/
/-! ### begun elsewhere -/
end TW

set_option Elab.async false
set_option linter.all false
/-! the plainest word: pairs go, trt and uru are turned over; the steps that do it. Words here from the last letter on -/
namespace TW
abbrev Stp := Bool × Int × List Nat
end TW

set_option Elab.async false
set_option linter.all false
set_option maxRecDepth 100000
set_option maxHeartbeats 4000000
/-! beats, rounds, plain words: promises -/
namespace TX
open PySem L2 TW
/-! ### a module's dict that does not hold a key -/
/-! ### lists of texts -/
/-! ### a text in another one -/
/-! ### rounds, by their letters -/
/-! ### constants -/
/-- the four steps of a piece turned over, as they stand in the module -/
def stM (t : Stp) : List V := [.str (if t.1 = true then "in" else "out"), .int t.2.1, .str (S t.2.2)]
/-! ### promises -/
def stV (t : Stp) : HO := .tup (stM t)
end TX

set_option Elab.async false
set_option linter.all false
set_option maxRecDepth 100000
set_option maxHeartbeats 4000000
/-! texts with their tokens: what replace asks for -/
namespace L2
open PySem PySem.Spec PyProof.Rows
open Builtin Builtin.Str
section
variable {X : Cx} {a b e : Expr} {es : List Expr} {ta tb te : TE} {t : TA} {pos : Pos}
/-! ### rules under 'tokens are given out' (toks is not 0), and rules behind which they are -/
end
end L2

set_option Elab.async false
set_option linter.all false
/-! plain words: words that lead alike have one plain word; steps undone -/
namespace TW
open Syl
/-! ### steps undone -/
end TW

set_option Elab.async false
set_option linter.all false
set_option maxRecDepth 100000
set_option maxHeartbeats 4000000
/-! alike: steps, promises -/
namespace L2
open PySem PySem.Spec PyProof.Rows
/-- a comprehension whose elements are told of by what stands in the memory -/
theorem lc_rel {J : It} {xs : List V} {Ok : Hp → Prop} (hJ : ItOn J xs Ok) {te : TE} {js : List Nat} {σ : St} {H : Hp} {Q : VK} (R : Hp → Nat → List V → Prop) (hok : ∀ H', Same H H' → Ok H') (hz : xs.length ≤ sizeLine) (h0 : R H 0 [])
    (he : ∀ (i : Nat) x H' acc (Q' : VK), xs[i]? = some x → Same H H' → R H' i acc → (∀ v H'', Same H' H'' → R H'' (i + 1) (acc ++ [v]) → Q' v H'') → te (some x :: seenV σ js) H' Q')
    (q : ∀ H' p acc, Same H H' → H' p = none → R H' xs.length acc → acc.length = xs.length → Q (.ref p) (upd H' p (.lst acc))) : LcW J tYes te js σ Q H := by
  refine ⟨fun i m acc H' => Same H H' ∧ i ≤ xs.length ∧ m = xs.length - i ∧ acc.length = i ∧ R H' i acc, ⟨xs.length, Same.refl _, Nat.zero_le _, by simp, rfl, h0⟩, ?_⟩
  rintro i m acc H' ⟨hs, hi, rfl, hlen, hR⟩
  refine ⟨by omega, ?_⟩
  by_cases hlt : i < xs.length
  · refine .inr ⟨hJ.go i _ (hok _ hs) hlt, by omega, fun x H'' y => ?_⟩
    obtain ⟨e, hx⟩ := hJ.yld i _ x H'' (hok _ hs) hlt y
    subst e
    unfold tYes
    dsimp only
    rw [if_pos rfl]
    refine he i x H'' acc _ hx hs hR fun v H4 s4 r4 => ⟨xs.length - (i + 1), by omega, hs.trans s4, hlt, rfl, ?_, r4⟩
    rw [List.length_append, hlen]
    rfl
  · have e : i = xs.length := by omega
    subst e
    exact .inl ⟨hJ.stop _ _ (hok _ hs) (Nat.le_refl _), fun p hp => q H' p acc hs hp hR hlen⟩
end L2
namespace TX
open PySem L2 TW
def dS (b : Bool) : Str := if b = true then "in" else "out"
def dS2 : List Str := ["out", "in"]
def pcS : List Str := ["tu", "ut", "rr", "trtrtr"]
theorem dS_in (b : Bool) : decide (V.str (dS b) = V.str "in") = b := by cases b <;> decide +kernel
theorem flat_strs (ts : List Str) : (ts.map V.str).all flatV = true := by
  rw [List.all_map, List.all_eq_true]
  exact fun _ _ => rfl
theorem has_deed (b : Bool) : dS2.contains (dS b) = true := by cases b <;> decide +kernel
theorem has_piece {pc : List Nat} (h : pc ∈ pcs) : pcS.contains (S pc) = true := by
  have e : pc = [116, 117] ∨ pc = [117, 116] ∨ pc = [114, 114] ∨ pc = [116, 114, 116, 114, 116, 114] := by simpa [pcs] using h
  rcases e with rfl | rfl | rfl | rfl <;> decide +kernel
theorem len_S {K : PySem.W.Frag} {H : Hp} {u : List Nat} (h : u.length ≤ 1000000) : LenV K (.str (S u)) H u.length := ⟨by rw [S_len]; exact big h, (S_len u).symm⟩
theorem sz2 {a c : List Nat} (h : a.length + c.length ≤ 1000000) : (S a).length + (S c).length ≤ sizeLine := by
  rw [S_len, S_len]
  exact big h
def Deeds (K : PySem.W.Frag) (mg : Str → Option Value) : Prop := ∃ a, mg "DEEDS" = some (.ref a) ∧ ∀ H, SqT K H a (dS2.map V.str)
def Pieces (K : PySem.W.Frag) (mg : Str → Option Value) : Prop := ∃ a, mg "PIECES" = some (.ref a) ∧ ∀ H, SqT K H a (pcS.map V.str)
/-! ### lists of steps -/
/-! ### promises -/
def spAfter : Sp := fun vs H Q _ => ∃ u p b i pc v, vs = [.str (S u), .ref p] ∧ H p = some (stV (b, i, pc)) ∧ pc ∈ pcs ∧ u.length ≤ 100000 ∧ due u b i pc = some v ∧ Q (.str (S v)) H
/-! ### the words of a script -/
end TX

set_option Elab.async false
set_option linter.all false
set_option maxRecDepth 100000
set_option maxHeartbeats 4000000
/-! a list turned round by [::-1] -/
namespace L2
open PySem PySem.Spec PyProof.Rows
section
variable {X : Cx} {e st : Expr} {te ts : TE} {pos p2 : Pos}
end
/-! ### a list taken apart -/
section
variable {prog : Program} {w : World} {A : Around} {E : Value → Shared → Prop}
end
end L2

set_option Elab.async false
set_option linter.all false
set_option maxRecDepth 100000
set_option maxHeartbeats 4000000
/-! texts taken apart, texts read as numbers -/
namespace L2
open PySem PySem.Spec PyProof.Rows
open Builtin Builtin.Str
section
variable {X : Cx}
end
end L2

set_option Elab.async false
set_option linter.all false
/-! numbers and their figures -/
namespace TW
def dg (m : Nat) : List Nat := (Nat.toDigits 10 m).map Char.toNat
theorem digit_code : ∀ d : Nat, d < 10 → (Nat.digitChar d).toNat = 48 + d := by decide
theorem dg_small {m : Nat} (h : m < 10) : dg m = [48 + m] := by
  unfold dg
  rw [Nat.toDigits_of_lt_base h, List.map_cons, List.map_nil, digit_code m h]
theorem dg_step {m : Nat} (h : 10 ≤ m) : dg m = dg (m / 10) ++ [48 + m % 10] := by
  have hm : m % 10 < 10 := Nat.mod_lt m (by decide)
  have t : Nat.toDigits 10 (m / 10) ++ Nat.toDigits 10 (m % 10) = Nat.toDigits 10 (10 * (m / 10) + m % 10) := Nat.toDigits_append_toDigits (by decide) (by omega) hm
  rw [Nat.div_add_mod] at t
  unfold dg
  rw [← t, List.map_append, Nat.toDigits_of_lt_base hm, List.map_cons, List.map_nil, digit_code _ hm]
def Dig (c : Nat) : Prop := 48 ≤ c ∧ c ≤ 57
def Digs (u : List Nat) : Prop := ∀ c ∈ u, Dig c
theorem dg_ne (m : Nat) : dg m ≠ [] := by
  by_cases h : m < 10
  · rw [dg_small h]; simp
  · rw [dg_step (by omega)]; simp
theorem dg_digs (m : Nat) : Digs (dg m) := by
  induction m using Nat.strongRecOn with
  | _ m ih =>
    by_cases h : m < 10
    · rw [dg_small h]
      intro c hc
      rw [List.mem_singleton.mp hc]
      unfold Dig
      omega
    · rw [dg_step (by omega)]
      intro c hc
      rcases List.mem_append.mp hc with hc | hc
      · exact ih _ (by omega) c hc
      · rw [List.mem_singleton.mp hc]
        unfold Dig
        omega
theorem dg_len {m : Nat} : ∀ {k : Nat}, 1 ≤ k → m < 10 ^ k → (dg m).length ≤ k := by
  induction m using Nat.strongRecOn with
  | _ m ih =>
    intro k hk h
    by_cases h1 : m < 10
    · rw [dg_small h1]
      exact hk
    · rw [dg_step (by omega), List.length_append, List.length_singleton]
      have k2 : 2 ≤ k := by
        refine Classical.byContradiction fun z => ?_
        have : k = 1 := by omega
        subst this
        omega
      obtain ⟨j, rfl⟩ : ∃ j, k = j + 1 := ⟨k - 1, by omega⟩
      have := ih (m / 10) (by omega) (k := j) (by omega) (by rw [Nat.pow_succ] at h; omega)
      omega
/-! ### numbers with their sign -/
def numT (n : Int) : List Nat := if n < 0 then 45 :: dg n.natAbs else dg n.natAbs
def fig (w : List Nat) : List Nat := if w.take 1 = [45] then w.drop 1 else w
def isDig (c : Nat) : Bool := decide (48 ≤ c) && decide (c ≤ 57)
theorem isDig_iff (c : Nat) : isDig c = true ↔ Dig c := by
  unfold isDig Dig
  rw [Bool.and_eq_true, decide_eq_true_eq, decide_eq_true_eq]
def isNum (w : List Nat) : Bool := (decide (0 < (fig w).length) && decide ((fig w).length ≤ 60)) && (fig w).all isDig
theorem isNum_iff (w : List Nat) : isNum w = true ↔ fig w ≠ [] ∧ (fig w).length ≤ 60 ∧ Digs (fig w) := by
  unfold isNum
  rw [Bool.and_eq_true, Bool.and_eq_true, decide_eq_true_eq, decide_eq_true_eq, List.all_eq_true, ← List.length_pos_iff]
  constructor
  · rintro ⟨⟨a, b⟩, c⟩
    exact ⟨a, b, fun d hd => (isDig_iff d).mp (c d hd)⟩
  · rintro ⟨a, b, c⟩
    exact ⟨⟨a, b⟩, fun d hd => (isDig_iff d).mpr (c d hd)⟩
theorem dg_take (m : Nat) : (dg m).take 1 ≠ [45] := by
  intro z
  have hm : 45 ∈ (dg m).take 1 := by rw [z]; simp
  have := dg_digs m 45 (List.mem_of_mem_take hm)
  unfold Dig at this
  omega
theorem fig_numT (n : Int) : fig (numT n) = dg n.natAbs := by
  unfold fig numT
  split
  · rw [if_pos (show List.take 1 (45 :: dg n.natAbs) = [45] from rfl)]; rfl
  · rw [if_neg (dg_take _)]
theorem isNum_numT {n : Int} (h : n.natAbs < 10 ^ 60) : isNum (numT n) = true := by
  rw [isNum_iff, fig_numT]
  exact ⟨dg_ne _, dg_len (by decide) h, dg_digs _⟩
/-! ### texts of fractions -/
end TW

set_option Elab.async false
set_option linter.all false
set_option maxRecDepth 100000
set_option maxHeartbeats 4000000
/-! texts of fractions: promises, and what the library's texts are as lists -/
namespace L2
open PySem PySem.Spec PyProof.Rows
/-- str(n) -/
theorem call_strI {X : Cx} : CallR X (.type "str") (fun xs H Q => ∃ n : Int, xs = [.int n] ∧ n.natAbs.log2 < 1920 ∧ Q (.str (Str.ofString (toString n))) H) := by
  intro pins s σ H xs us Q I r h
  obtain ⟨n, rfl, hn, q⟩ := h
  obtain ⟨u, rfl, t, rfl⟩ := vals1 r
  exact PySem.P.str_of_int hn ⟨.str _, H, I.tok _, ⟨_, rfl⟩, q⟩
end L2
namespace TX
open PySem L2 TW
theorem S_of (x : Str) : x = S x.cps.toList := by
  obtain ⟨c⟩ := x
  show (⟨c⟩ : Str) = ⟨c.toList.toArray⟩
  simp
theorem str_num (n : Int) : Str.ofString (toString n) = S (numT n) := by
  have e : (Str.ofString (toString n)).cps.toList = numT n := by
    cases n with
    | ofNat m =>
      refine Eq.trans (PySem.W.KIN.signs_num m) ?_
      unfold numT
      rw [if_neg (show ¬ (Int.ofNat m) < 0 from Int.not_lt.mpr (Int.natCast_nonneg m))]
      rfl
    | negSucc m =>
      rw [PyProof.Rows.signs_ofString]
      unfold numT
      rw [if_pos (by omega)]
      show (("-" ++ Nat.repr (m + 1) : String)).toList.map Char.toNat = 45 :: dg (m + 1)
      rw [String.toList_append, List.map_append, Nat.toList_repr]
      rfl
  rw [S_of (Str.ofString _), e]
theorem lit_no : ("" : Str) = S [] := by decide +kernel
/-! ### split, partition -/
/-! ### texts and numbers -/
theorem num_len {w : List Nat} (h : isNum w = true) : w.length ≤ 61 := by
  obtain ⟨_, b, _⟩ := (isNum_iff w).mp h
  unfold fig at b
  split at b
  · rw [List.length_drop] at b; omega
  · omega
theorem numT_len {n : Int} (h : n.natAbs < 10 ^ 60) : (numT n).length ≤ 61 := num_len (isNum_numT h)
def isF (f : Fr) : Bool := if f.2 = 0 then decide (f.1 = 1) else decide (0 < f.2) && decide (Int.gcd f.1 f.2 = 1)
theorem isF_iff (f : Fr) : isF f = true ↔ IsF f := by
  unfold isF IsF
  by_cases h : f.2 = 0
  · rw [if_pos h, decide_eq_true_eq]
    constructor
    · intro e; exact .inl ⟨e, h⟩
    · rintro (⟨e, _⟩ | ⟨e, _⟩)
      · exact e
      · omega
  · rw [if_neg h, Bool.and_eq_true, decide_eq_true_eq, decide_eq_true_eq]
    constructor
    · intro e; exact .inr e
    · rintro (⟨_, e⟩ | e)
      · exact absurd e h
      · exact e
theorem isF_of {f : Fr} (h : IsF f) : isF f = true := (isF_iff f).mpr h
theorem isF_no {f : Fr} (h : ¬ IsF f) : isF f = false := Bool.eq_false_iff.mpr fun z => h ((isF_iff f).mp z)
theorem eqI (x y : Int) : decide (V.int x = V.int y) = decide (x = y) := by
  rw [Bool.eq_iff_iff]
  simp
theorem fits {u v : List Nat} (h : u.length + v.length ≤ 1000000) : (S u).length + (S v).length ≤ sizeLine := by rw [S_len, S_len]; exact big h
theorem kit_self {K : PySem.W.Frag} (t : Value) : PySem.W.kitOne K t t = some true := by
  unfold PySem.W.kitOne
  rw [if_pos (beq_self_eq_true t)]
theorem at_some {α : Type} (xs : List α) {i : Int} (h0 : 0 ≤ i) (h1 : i < xs.length) : ∃ v, v ∈ xs ∧ atI xs i = some v := by
  have hj : i.toNat < xs.length := by omega
  refine ⟨xs[i.toNat], List.getElem_mem hj, ?_⟩
  unfold atI ixN
  rw [if_pos h0, if_pos h1]
  show xs[i.toNat]? = _
  exact List.getElem?_eq_getElem hj
theorem mod_in (n : Int) {m : Int} (h : 0 < m) : 0 ≤ n % m ∧ n % m < m := ⟨Int.emod_nonneg n (by omega), Int.emod_lt_of_pos n h⟩
theorem len_list (y : Str) : y.cps.toList.length = y.length := Array.length_toList
theorem kit_non_str {K : PySem.W.Frag} : PySem.W.kitOne K (.type "NoneType") (.type "str") = some false := by unfold PySem.W.kitOne PySem.W.kitCls; rfl
theorem kit_int_str {K : PySem.W.Frag} : PySem.W.kitOne K (.type "int") (.type "str") = some false := by unfold PySem.W.kitOne PySem.W.kitCls; rfl
theorem kit_bool_str {K : PySem.W.Frag} : PySem.W.kitOne K (.type "bool") (.type "str") = some false := by unfold PySem.W.kitOne PySem.W.kitCls; rfl
theorem kit_list_str {K : PySem.W.Frag} : PySem.W.kitOne K (.type "list") (.type "str") = some false := by unfold PySem.W.kitOne PySem.W.kitCls; rfl
/-! ### promises -/
/-! ### own exceptions -/
structure Exc (K : PySem.W.Frag) (mg : Str → Option Value) (x : Str) (C D : Addr) : Prop where
  ns : PySem.W.nsIn K mainGlobals x = some (some (.ref C))
  ex : PySem.W.excIn K C [.type "ValueError", .type "Exception", .type "BaseException", .type "object"] "ValueError.__new__" = true
  xc : XCls K C
  m : mg x = some (.ref C)
  md : mg "DanceError" = some (.ref D)
  hit : PySem.W.exmOne K (.ref C) (.ref D) = some true
  own : PySem.W.kitOne K (.ref C) (.ref C) = some true
end TX

set_option Elab.async false
set_option linter.all false
set_option maxRecDepth 100000
set_option maxHeartbeats 4000000
/-! refusals: rules (a call by an expression, a call in a handler), what is no word, no fraction, no step, no pair; promises -/
namespace L2
open PySem PySem.Spec PyProof.Rows
/-- the callee is the value of an expression -/
def tCallE (R : Addr → Prop) (sp : Addr → List V → Hp → VK → Prop) (tf : TE) (t : TA) : TE := fun σ H Q => tf σ H fun v H1 => ∃ f, v = .ref f ∧ R f ∧ t σ H1 fun vs H2 => sp f vs H2 Q
theorem pe_callE {X : Cx} {CX : CXT} {fe e : Expr} {es : List Expr} {tf : TE} {t : TA} {pos : Pos} {R : Addr → Prop} {sp : Addr → List V → Hp → VK → Prop} {E : XK} (hf : PE X fe tf) (hk : ∀ f, R f → PySem.W.keepIn X.K (.ref f) = true)
    (hF : ∀ f vs H Q, R f → sp f vs H Q → ∃ k fd ps sp', FnOk X.prog X.w X.K X.mg X.base CX k f fd ps sp' ∧ Room k X.A ∧ Binds X.K fd ps [] ∧ sp' (vs ++ []) H Q E) (hx : Passes CX X E) (ha : PA X (e :: es) t)
    (hev : eval (.Call fe (e :: es) [] pos) X.env = (eval fe X.env >>= fun f => callWith pos f [] (backTo pos (starEach (e :: es) X.env)) (backToKw pos (keywordEach [] X.env))) := by rfl)
    (he : starEach (e :: es) X.env = (false, eval e X.env) :: starEach es X.env := by rfl) (hpl : (backTo pos (starEach es X.env)).any (·.1) = false := by rfl) :
    PE X (.Call fe (e :: es) [] pos) (tCallE R sp tf t) := by
  intro pins s σ H Q I h
  rw [hev]
  refine wpAny_bind (thn (hf pins s σ H _ I h) fun u s1 ⟨v, H1, I1, r, f, ev, hR, q⟩ => ?_)
  subst ev
  cases r
  refine PySem.W.callWith_K (h₀ := X.base) I1.ok.mod.kin (hk f hR) (thn (ha pos pins s1 σ H1 _ I1 q) fun us s2 ⟨vs, H2, I2, r2, q2⟩ => ⟨I2.kIn, ?_⟩) he hpl
  obtain ⟨k, fd, ps, sp', F, hr, b, q3⟩ := hF f vs H2 Q hR q2
  exact run_fn F hr b .nil hx I2 r2 q3
/-- a callee whose exceptions pass on -/
theorem pe_callXE {P : Program} {w : World} {K : PySem.W.Frag} {mg : Str → Option Value} {base : Heap} {N : List Str} {qual : Str} {scope : Scope} {f : Addr} {cd : Value} {A : Around} {outer : List Env} {s : Shared} {H : Hp} {E : XK}
    {k : Nat} {x : Str} {ps : List Str} {sp : Sp} {e : Expr} {es : List Expr} {t : TA} {p pos : Pos} (c : CalleeX P w K mg base k x ps sp) (hr : Room k (cxOf (CXb P w) P w K mg base N qual scope f cd A outer s H E).A)
    (hg : Gl (cxOf (CXb P w) P w K mg base N qual scope f cd A outer s H E) x) (ha : PA (cxOf (CXb P w) P w K mg base N qual scope f cd A outer s H E) (e :: es) t) (hdb : (x == ("__debug__" : Str)) = false := by decide)
    (he : starEach (e :: es) (cxOf (CXb P w) P w K mg base N qual scope f cd A outer s H E).env = (false, eval e (cxOf (CXb P w) P w K mg base N qual scope f cd A outer s H E).env) :: starEach es (cxOf (CXb P w) P w K mg base N qual scope f cd A outer s H E).env := by rfl)
    (hpl : (backTo pos (starEach es (cxOf (CXb P w) P w K mg base N qual scope f cd A outer s H E).env)).any (·.1) = false := by rfl) :
    PE (cxOf (CXb P w) P w K mg base N qual scope f cd A outer s H E) (.Call (.Name x p) (e :: es) [] pos) (tCall sp [] E t) := by
  obtain ⟨f', fd, F, m, kp, b⟩ := c.ex
  exact pe_call F hr hg m kp b .nil (pass_cx fun _ _ z => z) ha hdb he hpl
/-! ### a def that is called in a handler -/
/-- the same surroundings, none at hand -/
def unH (A : Around) : Around := { A with handled := none }
structure RoomH (k : Nat) (A : Around) : Prop where
  dp : A.depth + 3 * k + 5 < recursionLimit
  un : A.units + 16 * k + 200 < cLine
structure FnOkH (P : Program) (w : World) (K : PySem.W.Frag) (mg : Str → Option Value) (base : Heap) (k : Nat) (f : Addr) (fd : FuncData) (ps : List Str) (sp : Sp) : Prop where
  len : ∀ vs H Q E, sp vs H Q E → vs.length = ps.length
  run : ∀ (A : Around) (outer : List Env) (s : Shared) (H : Hp) (args : Args) (us : List Value) (vs : List V) (Q : VK), RoomH k A → Env0 P w K mg base A outer s H → BindsTo s fd args (ps.zip us) → Vals vs us → sp vs H Q E0 →
    codeAny (model P w) A (.call (.ref f) args) (CR CX0 outer P w H s Q E0) s
def cxOfH (P : Program) (w : World) (K : PySem.W.Frag) (mg : Str → Option Value) (base : Heap) (N : List Str) (qual : Str) (scope : Scope) (f : Addr) (cd : Value) (A : Around) (outer : List Env) (s : Shared) (H : Hp) : Cx :=
  { cxOf CX0 P w K mg base N qual scope f cd A outer s H E0 with calm := false, xe := fun _ _ => False }
theorem Env0.unmark {P : Program} {w : World} {K : PySem.W.Frag} {mg : Str → Option Value} {base : Heap} {A : Around} {outer : List Env} {s : Shared} {H : Hp} (e : Env0 P w K mg base A outer s H) : Env0 P w K mg base (unH A) outer s H :=
  ⟨e.frames, e.mod, e.bs, e.bsz, e.funs, e.frf, e.hok, e.bare⟩
theorem Inv.inH {P : Program} {w : World} {K : PySem.W.Frag} {mg : Str → Option Value} {base : Heap} {N : List Str} {qual : Str} {scope : Scope} {f : Addr} {cd : Value} {A : Around} {outer : List Env} {s s1 : Shared} {H H1 : Hp} {pins : List (Addr × Obj)} {σ : St}
    (I : Inv (cxOf CX0 P w K mg base N qual scope f cd (unH A) outer s H E0) pins σ H1 s1) : Inv (cxOfH P w K mg base N qual scope f cd A outer s H) pins σ H1 s1 :=
  ⟨⟨I.ok.mod, I.ok.kind, I.ok.glob, I.ok.blt, I.ok.above, I.ok.inj, I.ok.has, I.ok.cab, fun z => (nomatch z), I.ok.frames, I.ok.stk, I.ok.exf, I.ok.bs, I.ok.bsz, I.ok.noex, I.ok.exfs, I.ok.funs, I.ok.frf⟩, I.os, I.bare, I.base, I.loc, I.cell, I.free, I.freeC, I.pin, I.hok, I.len⟩
/-- a def that neither raises nor asks whether one is at hand -/
theorem Fun.okH {P : Program} {w : World} {K : PySem.W.Frag} {mg : Str → Option Value} {base : Heap} {x qual : Str} {st : Stmt} {f : Addr} {fd : FuncData} {N ps : List Str} {k : Nat} {sp : Sp} (F : Fun K x qual st f fd) (S : FnScope N ps (defScope st)) (len : ∀ vs H Q E, sp vs H Q E → vs.length = ps.length)
    (hbody : ∀ (cdv : Value) (A : Around) (outer : List Env) (s : Shared) (H : Hp) (vs : List V) (Q : VK), sp vs H Q E0 →
      ∃ t, PSs (cxOfH P w K mg base N qual (defScope st) f cdv A outer s H) (defBody st) t ∧ t { nx := fun _ H' => Q .non H', rt := Q } (start N vs) H) : FnOkH P w K mg base (k + 1) f fd ps sp := by
  obtain ⟨oc, od, kV, doc, pm, an, cdv, ct, osl, rfl, lk, hcd⟩ := F.ex
  refine ⟨len, fun A outer s H args us vs Q hr e0 hb r hsp => ?_⟩
  have KX : K.In s.heap := e0.mod.kin.keeps fun b o e => (e0.bs b o e).1
  have dep : A.depth < recursionLimit := by have := hr.dp; omega
  have kinds : ∀ y ∈ ps.zip us, (defScope st).names.lookup y.1 = some .local ∨ ((defScope st).names.lookup y.1 = some .cell ∧ ((cellsFrom (s.heap.objs.size + 1) (defScope st).names []).lookup y.1).isSome = true) := fun ⟨n, v⟩ hy => by
    rcases S.par n (List.of_mem_zip hy).1 with q | q
    · exact .inl q
    · exact .inr ⟨q, PySem.W.cellsFrom_some _ _ _ (.inl q)⟩
  refine codeAny_call_function dep (KX _ _ lk) rfl S.co S.gen rfl (PySem.W.codeRec_of KX hcd) (hb _ _ _ _ (wpAny_newFunctionEnv_cells S.kind kinds fun env he s1 y => ?_))
  subst he
  refine ⟨(e0.mod.nolimit.keeps fun b o e => (e0.bs b o e).1).keeps y.toInCall.keep, codeAny_func ?_⟩
  obtain ⟨t, ht, hq⟩ := hbody cdv A outer s H vs Q hsp
  have I := (inv_start (CX := CX0) (A := unH A) (E := E0) S rfl e0.unmark (len _ _ _ _ hsp) r y).inH
  refine wpAny_mono (ht [] s1 _ H _ I hq) (fun fl s' hs => ?_) fun e s' hs => hs.elim
  cases fl with
  | ret u =>
    obtain ⟨v, σ', H', J, rv, q⟩ := hs
    exact ⟨v, H', J.os, J.bare, J.base, J.hok, rv, q⟩
  | next =>
    obtain ⟨σ', H', J, q⟩ := hs
    exact ⟨.non, H', J.os, J.bare, J.base, J.hok, rfl, q⟩
  | brk => obtain ⟨_, _, _, q⟩ := hs; exact q.elim
  | cont => obtain ⟨_, _, _, q⟩ := hs; exact q.elim
structure CalleeH (P : Program) (w : World) (K : PySem.W.Frag) (mg : Str → Option Value) (base : Heap) (k : Nat) (x : Str) (ps : List Str) (sp : Sp) : Prop where
  ex : ∃ f fd, FnOkH P w K mg base k f fd ps sp ∧ mg x = some (.ref f) ∧ PySem.W.keepIn K (.ref f) = true ∧ Binds K fd ps []
theorem CalleeH.mono {P : Program} {w : World} {K : PySem.W.Frag} {mg : Str → Option Value} {base : Heap} {j k : Nat} {x : Str} {ps : List Str} {sp : Sp} (c : CalleeH P w K mg base j x ps sp) (h : j ≤ k) : CalleeH P w K mg base k x ps sp := by
  obtain ⟨f, fd, F, m, kp, b⟩ := c.ex
  exact ⟨f, fd, ⟨F.len, fun A outer s H args us vs Q hr => F.run A outer s H args us vs Q ⟨by have := hr.dp; omega, by have := hr.un; omega⟩⟩, m, kp, b⟩
theorem calleeH_of {P : Program} {w : World} {K : PySem.W.Frag} {mg : Str → Option Value} {base : Heap} {k : Nat} {x qual : Str} {st : Stmt} {f : Addr} {fd : FuncData} {ps : List Str} {sp : Sp} (F : Fun K x qual st f fd) (G : FnOkH P w K mg base k f fd ps sp) (m : mg x = some (.ref f))
    (h : ∀ (kV doc pm : Value) (an : Option Addr) (cdv ct : Value) (us : List Value), us.length = ps.length → bindArgs (PySem.W.fnOf x qual (defArgs st) (defBody st) (defScope st) .none kV doc pm an cdv ct) ⟨us, []⟩ = pure (ps.zip us)) : CalleeH P w K mg base k x ps sp :=
  ⟨f, fd, G, m, F.kp, F.binds h⟩
theorem Room.hand {k : Nat} {A : Around} (r : Room k A) (v : Option Value) : RoomH k (A.mark v) := ⟨r.dp, r.un⟩
theorem pe_callsH {X : Cx} {k : Nat} {x : Str} {ps : List Str} {sp : Sp} {e : Expr} {es : List Expr} {t : TA} {p pos : Pos} (c : CalleeH X.prog X.w X.K X.mg X.base k x ps sp) (hr : RoomH k X.A) (hg : Gl X x) (ha : PA X (e :: es) t)
    (hdb : (x == ("__debug__" : Str)) = false := by decide) (he : starEach (e :: es) X.env = (false, eval e X.env) :: starEach es X.env := by rfl) (hpl : (backTo pos (starEach es X.env)).any (·.1) = false := by rfl) :
    PE X (.Call (.Name x p) (e :: es) [] pos) (tCall sp [] E0 t) := by
  obtain ⟨f, fd, F, m, kp, b⟩ := c.ex
  intro pins s σ H Q I h
  refine wpAny_Call_Name_kw (ld_glob I hg m ?_ hdb)
  refine PySem.W.callWith_K (h₀ := X.base) I.ok.mod.kin kp (thn (ha pos pins s σ H _ I h) fun us s1 ⟨vs, H1, I1, r, q⟩ => ⟨I1.kIn, ?_⟩) he hpl
  have r2 : Vals (vs ++ []) us := by rw [List.append_nil]; exact r
  have hl : (us ++ []).length = ps.length := by rw [List.append_nil, ← r2.length]; exact F.len _ _ _ _ q
  refine wpAny_call (codeAny_mono (F.run X.A X.stack s1 H1 ⟨us, []⟩ (us ++ []) (vs ++ []) Q hr I1.env0 (b s1 us I1.kIn hl) (by rw [List.append_nil us]; exact r2) q) fun rs s2 hq => ?_)
  cases rs with
  | error e => exact hq.elim
  | ok fl =>
    cases fl with
    | ret u => exact I1.after hq
    | next => exact hq.elim
    | brk => exact hq.elim
    | cont => exact hq.elim
/-! ### isinstance of a caught exception, a built-in class -/
def rIsxT (K : PySem.W.Frag) : List V → Hp → VK → Prop := fun xs H Q => ∃ a C T b, xs = [V.ref a, V.ty T] ∧ H a = some (excO a (.ref C)) ∧ XCls K C ∧ PySem.W.kitOne K (.ref C) (.type T) = some b ∧ Q (.bl b) H
theorem call_isxT {X : Cx} : CallR X (.builtin "isinstance") (rIsxT X.K) := by
  intro pins s σ H xs us Q I r h
  obtain ⟨a, C, T, b, rfl, ea, Z, e, q⟩ := h
  obtain ⟨u, w', rfl, ru, rw'⟩ := vals2 r
  cases ru
  cases rw'
  have hx : excφ a (.ref C) s.heap := (I.hok a _ ea).1
  exact PySem.W.kia_one (kitx_exc Z) I.kIn hx e (fun z => nomatch z) fun tk => ⟨.bl b, H, I.tok tk, rfl, q⟩
theorem call_isxTK {X : Cx} {K : PySem.W.Frag} (e : X.K = K) : CallR X (.builtin "isinstance") (rIsxT K) := e ▸ call_isxT
end L2
namespace TX
open PySem L2 TW
theorem bt_ValueError : bootBuiltins "ValueError" = some (.type "ValueError") := by decide +kernel
/-! ### what is of another kind -/
def NotTy (K : PySem.W.Frag) (T : String) (H : Hp) (x : V) : Prop := ∃ t, TyOf K H x t ∧ PySem.W.kitOne K t (.type T) = some false
theorem ty_same {K : PySem.W.Frag} {H H' : Hp} {x : V} {t : Value} (h : TyOf K H x t) (s : Same H H') : TyOf K H' x t := by
  cases h with
  | non => exact .non
  | bl b => exact .bl b
  | int i => exact .int i
  | str y => exact .str y
  | flt y => exact .flt y
  | lst e => exact .lst (s _ _ e)
  | frz e => exact .frz (s _ _ e)
  | tup e => exact .tup (s _ _ e)
  | dK e => exact .dK (s _ _ e)
  | dT e => exact .dT (s _ _ e)
  | ins e cl ha hn htk hm => exact .ins (s _ _ e) cl ha hn htk hm
theorem NotTy.same {K : PySem.W.Frag} {T : String} {H H' : Hp} {x : V} (h : NotTy K T H x) (s : Same H H') : NotTy K T H' x := let ⟨t, a, b⟩ := h; ⟨t, ty_same a s, b⟩
section
variable {K : PySem.W.Frag} {H : Hp} {a : Addr} {xs : List V}
theorem kit_tuple_str : PySem.W.kitOne K (.type "tuple") (.type "str") = some false := by unfold PySem.W.kitOne PySem.W.kitCls; rfl
theorem kit_dict_str : PySem.W.kitOne K (.type "dict") (.type "str") = some false := by unfold PySem.W.kitOne PySem.W.kitCls; rfl
theorem kit_non_tuple : PySem.W.kitOne K (.type "NoneType") (.type "tuple") = some false := by unfold PySem.W.kitOne PySem.W.kitCls; rfl
theorem kit_int_tuple : PySem.W.kitOne K (.type "int") (.type "tuple") = some false := by unfold PySem.W.kitOne PySem.W.kitCls; rfl
theorem kit_str_tuple : PySem.W.kitOne K (.type "str") (.type "tuple") = some false := by unfold PySem.W.kitOne PySem.W.kitCls; rfl
theorem kit_list_tuple : PySem.W.kitOne K (.type "list") (.type "tuple") = some false := by unfold PySem.W.kitOne PySem.W.kitCls; rfl
theorem kit_dict_tuple : PySem.W.kitOne K (.type "dict") (.type "tuple") = some false := by unfold PySem.W.kitOne PySem.W.kitCls; rfl
theorem kit_non_int : PySem.W.kitOne K (.type "NoneType") (.type "int") = some false := by unfold PySem.W.kitOne PySem.W.kitCls; rfl
theorem kit_str_int : PySem.W.kitOne K (.type "str") (.type "int") = some false := by unfold PySem.W.kitOne PySem.W.kitCls; rfl
theorem kit_bool_int : PySem.W.kitOne K (.type "bool") (.type "int") = some true := by unfold PySem.W.kitOne PySem.W.kitCls; rfl
theorem ns_non : NotTy K "str" H .non := ⟨_, .non, kit_non_str⟩
theorem ns_int {i : Int} : NotTy K "str" H (.int i) := ⟨_, .int i, kit_int_str⟩
theorem ns_bl {b : Bool} : NotTy K "str" H (.bl b) := ⟨_, .bl b, kit_bool_str⟩
theorem ns_lst (e : H a = some (.lst xs)) : NotTy K "str" H (.ref a) := ⟨_, .lst e, kit_list_str⟩
theorem ns_tup (e : H a = some (.tup xs)) : NotTy K "str" H (.ref a) := ⟨_, .tup e, kit_tuple_str⟩
theorem ns_dK {kvs : List (Key × V)} (e : H a = some (.dK kvs)) : NotTy K "str" H (.ref a) := ⟨_, .dK e, kit_dict_str⟩
theorem nt_non : NotTy K "tuple" H .non := ⟨_, .non, kit_non_tuple⟩
theorem nt_int {i : Int} : NotTy K "tuple" H (.int i) := ⟨_, .int i, kit_int_tuple⟩
theorem nt_str {x : Str} : NotTy K "tuple" H (.str x) := ⟨_, .str x, kit_str_tuple⟩
theorem nt_lst (e : H a = some (.lst xs)) : NotTy K "tuple" H (.ref a) := ⟨_, .lst e, kit_list_tuple⟩
theorem nt_dK {kvs : List (Key × V)} (e : H a = some (.dK kvs)) : NotTy K "tuple" H (.ref a) := ⟨_, .dK e, kit_dict_tuple⟩
theorem ni_non : NotTy K "int" H .non := ⟨_, .non, kit_non_int⟩
theorem ni_str {x : Str} : NotTy K "int" H (.str x) := ⟨_, .str x, kit_str_int⟩
end
def NoInt (K : PySem.W.Frag) (H : Hp) (x : V) : Prop := NotTy K "int" H x ∨ ∃ b, x = .bl b
def NoWord (K : PySem.W.Frag) (H : Hp) (x : V) : Prop := NotTy K "str" H x ∨ ∃ u : List Nat, x = .str (S u) ∧ u.length ≤ 1000 ∧ ¬ IsW u
def GoodW (x : V) (u : List Nat) : Prop := x = .str (S u) ∧ u.length ≤ 100000 ∧ IsW u
def NoFr (K : PySem.W.Frag) (H : Hp) (x : V) : Prop := NotTy K "tuple" H x ∨ ∃ p xs, x = .ref p ∧ H p = some (.tup xs) ∧ (xs.length ≠ 2 ∨ ∃ v w, xs = [v, w] ∧ (NoInt K H v ∨ ((∃ i, v = .int i) ∧ NoInt K H w) ∨ ∃ a b, v = .int a ∧ w = .int b ∧ ¬ IsF (a, b)))
def Fr1 (H : Hp) (x : V) (g : Fr) : Prop := ∃ p, x = .ref p ∧ H p = some (fT g) ∧ IsF g
def NoPair (K : PySem.W.Frag) (H : Hp) (x : V) : Prop := NotTy K "tuple" H x ∨ ∃ p xs, x = .ref p ∧ H p = some (.tup xs) ∧ (xs.length ≠ 2 ∨ ∃ v w, xs = [v, w] ∧ (NoFr K H v ∨ ((∃ g, Fr1 H v g) ∧ NoFr K H w)))
def Pair1 (H : Hp) (x : V) (g h : Fr) : Prop := ∃ p v w, x = .ref p ∧ H p = some (.tup [v, w]) ∧ Fr1 H v g ∧ Fr1 H w h
def TxNo (K : PySem.W.Frag) (H : Hp) (x : V) (ts : List Str) : Prop := NotTy K "str" H x ∨ ∃ y, x = .str y ∧ ts.contains y = false
def NoSt (K : PySem.W.Frag) (H : Hp) (x : V) : Prop := NotTy K "tuple" H x ∨ ∃ p xs, x = .ref p ∧ H p = some (.tup xs) ∧ (xs.length ≠ 3 ∨ ∃ d a c, xs = [d, a, c] ∧
  (TxNo K H d dS2 ∨ ((∃ y, d = .str y ∧ dS2.contains y = true) ∧ (NoInt K H a ∨ ((∃ i, a = .int i) ∧ TxNo K H c pcS)))))
def GoodSt (H : Hp) (x : V) (t : Stp) : Prop := ∃ p, x = .ref p ∧ H p = some (stV t) ∧ t.2.2 ∈ pcs
def BadSt (K : PySem.W.Frag) (H : Hp) (u : List Nat) (x : V) : Prop := NoSt K H x ∨ ∃ b i pc, GoodSt H x (b, i, pc) ∧ due u b i pc = none
section
variable {K : PySem.W.Frag} {H H' : Hp} {x : V}
theorem NoInt.same (h : NoInt K H x) (s : Same H H') : NoInt K H' x := h.imp (fun a => a.same s) id
theorem NoWord.same (h : NoWord K H x) (s : Same H H') : NoWord K H' x := h.imp (fun a => a.same s) id
theorem NoFr.same (h : NoFr K H x) (s : Same H H') : NoFr K H' x := by
  rcases h with h | ⟨p, xs, e, hp, h⟩
  · exact .inl (h.same s)
  · refine .inr ⟨p, xs, e, s _ _ hp, ?_⟩
    rcases h with h | ⟨v, w, e2, h | ⟨h1, h⟩ | h⟩
    · exact .inl h
    · exact .inr ⟨v, w, e2, .inl (h.same s)⟩
    · exact .inr ⟨v, w, e2, .inr (.inl ⟨h1, h.same s⟩)⟩
    · exact .inr ⟨v, w, e2, .inr (.inr h)⟩
theorem Fr1.same {g : Fr} (h : Fr1 H x g) (s : Same H H') : Fr1 H' x g := let ⟨p, a, b, c⟩ := h; ⟨p, a, s _ _ b, c⟩
theorem NoPair.same (h : NoPair K H x) (s : Same H H') : NoPair K H' x := by
  rcases h with h | ⟨p, xs, e, hp, h⟩
  · exact .inl (h.same s)
  · refine .inr ⟨p, xs, e, s _ _ hp, ?_⟩
    rcases h with h | ⟨v, w, e2, h | ⟨⟨g, h1⟩, h⟩⟩
    · exact .inl h
    · exact .inr ⟨v, w, e2, .inl (h.same s)⟩
    · exact .inr ⟨v, w, e2, .inr ⟨⟨g, h1.same s⟩, h.same s⟩⟩
theorem Pair1.same {g h : Fr} (z : Pair1 H x g h) (s : Same H H') : Pair1 H' x g h := let ⟨p, v, w, e, hp, a, b⟩ := z; ⟨p, v, w, e, s _ _ hp, a.same s, b.same s⟩
theorem TxNo.same {ts : List Str} (h : TxNo K H x ts) (s : Same H H') : TxNo K H' x ts := h.imp (fun a => a.same s) id
theorem NoSt.same (h : NoSt K H x) (s : Same H H') : NoSt K H' x := by
  rcases h with h | ⟨p, xs, e, hp, h⟩
  · exact .inl (h.same s)
  · refine .inr ⟨p, xs, e, s _ _ hp, ?_⟩
    rcases h with h | ⟨d, a, c, e2, h | ⟨h1, h | ⟨h2, h⟩⟩⟩
    · exact .inl h
    · exact .inr ⟨d, a, c, e2, .inl (h.same s)⟩
    · exact .inr ⟨d, a, c, e2, .inr ⟨h1, .inl (h.same s)⟩⟩
    · exact .inr ⟨d, a, c, e2, .inr ⟨h1, .inr ⟨h2, h.same s⟩⟩⟩
theorem GoodSt.same {t : Stp} (h : GoodSt H x t) (s : Same H H') : GoodSt H' x t := let ⟨p, a, b, c⟩ := h; ⟨p, a, s _ _ b, c⟩
theorem BadSt.same {u : List Nat} (h : BadSt K H u x) (s : Same H H') : BadSt K H' u x := by
  rcases h with h | ⟨b, i, pc, h, e⟩
  · exact .inl (h.same s)
  · exact .inr ⟨b, i, pc, h.same s, e⟩
end
/-! ### promises -/
def spWholeX (K : PySem.W.Frag) : Sp := fun vs H Q _ => ∃ x, vs = [x] ∧ (((∃ i, x = .int i) ∧ Q (.bl true) H) ∨ (NoInt K H x ∧ Q (.bl false) H))
def spWordX (K : PySem.W.Frag) : Sp := fun vs H Q _ => ∃ x, vs = [x] ∧ (((∃ u, GoodW x u) ∧ ∀ H', Same H H' → Q (.bl true) H') ∨ (NoWord K H x ∧ ∀ H', Same H H' → Q (.bl false) H'))
def spFracX (K : PySem.W.Frag) : Sp := fun vs H Q _ => ∃ x, vs = [x] ∧ (((∃ g, Fr1 H x g) ∧ Q (.bl true) H) ∨ (NoFr K H x ∧ Q (.bl false) H))
def spAmongX (K : PySem.W.Frag) : Sp := fun vs H Q _ => ∃ (x : V) (a : Addr) (ts : List Str), vs = [x, .ref a] ∧ SqT K H a (ts.map V.str) ∧ ((∃ y, x = .str y ∧ Q (.bl (ts.contains y)) H) ∨ (NotTy K "str" H x ∧ Q (.bl false) H))
def spStepX (K : PySem.W.Frag) : Sp := fun vs H Q _ => ∃ x, vs = [x] ∧ (((∃ t, GoodSt H x t) ∧ Q (.bl true) H) ∨ (NoSt K H x ∧ Q (.bl false) H))
def spChkWX (K : PySem.W.Frag) (C : Addr) : Sp := fun vs H Q E => ∃ x, vs = [x] ∧ (((∃ u, GoodW x u) ∧ ∀ H', Same H H' → Q .non H') ∨ (NoWord K H x ∧ ∀ H', Same H H' → E (.ref C) none H'))
def spChkFX (K : PySem.W.Frag) (C : Addr) : Sp := fun vs H Q E => ∃ x, vs = [x] ∧ (((∃ g, Fr1 H x g) ∧ Q .non H) ∨ (NoFr K H x ∧ E (.ref C) none H))
def spDancedX (K : PySem.W.Frag) (CW CF : Addr) : Sp := fun vs H _ E => ∃ x y, vs = [x, y] ∧ ((NoWord K H x ∧ ∀ H', Same H H' → E (.ref CW) none H') ∨ ((∃ u, GoodW x u) ∧ NoFr K H y ∧ ∀ H', Same H H' → E (.ref CF) none H'))
def spRefW (K : PySem.W.Frag) (C : Addr) : Sp := fun vs H _ E => ∃ x, vs = [x] ∧ NoWord K H x ∧ ∀ H', Same H H' → E (.ref C) none H'
def spRefW2 (K : PySem.W.Frag) (C : Addr) : Sp := fun vs H _ E => ∃ x y, vs = [x, y] ∧ (NoWord K H x ∨ ((∃ u, GoodW x u) ∧ NoWord K H y)) ∧ ∀ H', Same H H' → E (.ref C) none H'
def spRefF (K : PySem.W.Frag) (C : Addr) : Sp := fun vs H _ E => ∃ x, vs = [x] ∧ NoFr K H x ∧ ∀ H', Same H H' → E (.ref C) none H'
def spRefF2 (K : PySem.W.Frag) (C : Addr) : Sp := fun vs H _ E => ∃ x y, vs = [x, y] ∧ (NoFr K H x ∨ ((∃ g, Fr1 H x g) ∧ NoFr K H y)) ∧ ∀ H', Same H H' → E (.ref C) none H'
def spNotF (K : PySem.W.Frag) : Sp := fun vs H Q _ => ∃ x, vs = [x] ∧ NoFr K H x ∧ Q (.bl false) H
def spPairX (K : PySem.W.Frag) : Sp := fun vs H Q _ => ∃ x, vs = [x] ∧ (((∃ g h, Pair1 H x g h) ∧ Q (.bl true) H) ∨ (NoPair K H x ∧ Q (.bl false) H))
def spLedX (K : PySem.W.Frag) (CF CM : Addr) : Sp := fun vs H _ E => ∃ x y, vs = [x, y] ∧ (((NoPair K H x ∨ ((∃ g h, Pair1 H x g h) ∧ NoPair K H y)) ∧ ∀ H', Same H H' → E (.ref CF) none H') ∨
  ((∃ g h g' h', Pair1 H x g h ∧ Pair1 H y g' h' ∧ (g = h ∨ g' = h')) ∧ ∀ H', Same H H' → E (.ref CM) none H'))
def spCanX (K : PySem.W.Frag) : Sp := fun vs H Q _ => ∃ u x, vs = [.str (S u), x] ∧ u.length ≤ 100000 ∧ ((∃ b i pc, GoodSt H x (b, i, pc) ∧ Q (.bl (due u b i pc).isSome) H) ∨ (NoSt K H x ∧ Q (.bl false) H))
def spSteppedX (K : PySem.W.Frag) (CW CS : Addr) : Sp := fun vs H Q E => ∃ x y, vs = [x, y] ∧ ((NoWord K H x ∧ ∀ H', Same H H' → E (.ref CW) none H') ∨ ∃ u, GoodW x u ∧
  ((BadSt K H u y ∧ ∀ H', Same H H' → E (.ref CS) none H') ∨ ∃ b i pc v, GoodSt H y (b, i, pc) ∧ due u b i pc = some v ∧ ∀ H', Same H H' → Q (.str (S v)) H'))
/-- the four classes that are raised, and BadText -/
structure Four5 (K : PySem.W.Frag) (mg : Str → Option Value) (W F S M T D : Addr) : Prop where
  w : Exc K mg "BadWord" W D
  f : Exc K mg "BadFraction" F D
  s : Exc K mg "BadStep" S D
  m : Exc K mg "Same" M D
  t : mg "BadText" = some (.ref T)
  v : mg "ValueError" = none
  wf : PySem.W.kitOne K (.ref W) (.ref F) = some false
  ws : PySem.W.kitOne K (.ref W) (.ref S) = some false
  wm : PySem.W.kitOne K (.ref W) (.ref M) = some false
  wt : PySem.W.kitOne K (.ref W) (.ref T) = some false
  wv : PySem.W.kitOne K (.ref W) (.type "ValueError") = some true
  fw : PySem.W.kitOne K (.ref F) (.ref W) = some false
  fs : PySem.W.kitOne K (.ref F) (.ref S) = some false
  fm : PySem.W.kitOne K (.ref F) (.ref M) = some false
  ft : PySem.W.kitOne K (.ref F) (.ref T) = some false
  fv : PySem.W.kitOne K (.ref F) (.type "ValueError") = some true
  sw : PySem.W.kitOne K (.ref S) (.ref W) = some false
  sf : PySem.W.kitOne K (.ref S) (.ref F) = some false
  sm : PySem.W.kitOne K (.ref S) (.ref M) = some false
  st : PySem.W.kitOne K (.ref S) (.ref T) = some false
  sv : PySem.W.kitOne K (.ref S) (.type "ValueError") = some true
  mw : PySem.W.kitOne K (.ref M) (.ref W) = some false
  mf : PySem.W.kitOne K (.ref M) (.ref F) = some false
  ms : PySem.W.kitOne K (.ref M) (.ref S) = some false
  mt : PySem.W.kitOne K (.ref M) (.ref T) = some false
  mv : PySem.W.kitOne K (.ref M) (.type "ValueError") = some true
def clsJ (W F S M : Addr) (j : Nat) : Addr := if j = 0 then W else if j = 1 then F else if j = 2 then S else M
theorem Four5.kits {K : PySem.W.Frag} {mg : Str → Option Value} {W F S M T D : Addr} (z : Four5 K mg W F S M T D) {j : Nat} (hj : j < 4) :
    XCls K (clsJ W F S M j) ∧ PySem.W.kitOne K (.ref (clsJ W F S M j)) (.ref W) = some (decide (0 = j)) ∧ PySem.W.kitOne K (.ref (clsJ W F S M j)) (.ref F) = some (decide (1 = j)) ∧ PySem.W.kitOne K (.ref (clsJ W F S M j)) (.ref S) = some (decide (2 = j)) ∧
    PySem.W.kitOne K (.ref (clsJ W F S M j)) (.ref M) = some (decide (3 = j)) ∧ PySem.W.kitOne K (.ref (clsJ W F S M j)) (.ref T) = some false ∧ PySem.W.kitOne K (.ref (clsJ W F S M j)) (.type "ValueError") = some true ∧ PySem.W.exmOne K (.ref (clsJ W F S M j)) (.ref D) = some true := by
  match j, hj with
  | 0, _ => exact ⟨z.w.xc, z.w.own, z.wf, z.ws, z.wm, z.wt, z.wv, z.w.hit⟩
  | 1, _ => exact ⟨z.f.xc, z.fw, z.f.own, z.fs, z.fm, z.ft, z.fv, z.f.hit⟩
  | 2, _ => exact ⟨z.s.xc, z.sw, z.sf, z.s.own, z.sm, z.st, z.sv, z.s.hit⟩
  | 3, _ => exact ⟨z.m.xc, z.mw, z.mf, z.ms, z.m.own, z.mt, z.mv, z.m.hit⟩
/-- what the law's list of kinds is -/
def kindB (j : Nat) : List Bool := [decide (0 = j), decide (1 = j), decide (2 = j), decide (3 = j), false, true]
def spKinds (W F S M : Addr) : Sp := fun vs H Q _ => ∃ a j, vs = [.ref a] ∧ j < 4 ∧ H a = some (excO a (.ref (clsJ W F S M j))) ∧ ∀ p H', Same H H' → H' p = some (.lst ((kindB j).map V.bl)) → Q (.ref p) H'
def turr : List Nat := [116, 117, 114, 114]
/-- a door's own refusal -/
def Bad (K : PySem.W.Frag) (H : Hp) (d : Int) (x : V) (j : Nat) : Prop :=
  (j = 0 ∧ (d = 0 ∨ d = 1 ∨ d = 2 ∨ d = 3 ∨ d = 5 ∨ d = 6 ∨ d = 7 ∨ d = 8 ∨ d = 9) ∧ NoWord K H x) ∨ (j = 1 ∧ (d = 4 ∨ d = 10 ∨ d = 11 ∨ d = 12) ∧ NoFr K H x) ∨
  (j = 1 ∧ (d = 13 ∨ d = 14 ∨ d = 16) ∧ NoPair K H x) ∨ (j = 2 ∧ d = 15 ∧ BadSt K H turr x) ∨ (j = 3 ∧ ((d = 13 ∧ ∃ g h, Pair1 H x g h) ∨ (d = 14 ∧ ∃ g h, Pair1 H x g h) ∨ (d = 16 ∧ ∃ g, Pair1 H x g g)))
theorem Bad.lt {K : PySem.W.Frag} {H : Hp} {d : Int} {x : V} {j : Nat} (h : Bad K H d x j) : j < 4 := by
  rcases h with ⟨rfl, _⟩ | ⟨rfl, _⟩ | ⟨rfl, _⟩ | ⟨rfl, _⟩ | ⟨rfl, _⟩ <;> decide
theorem Bad.same {K : PySem.W.Frag} {H H' : Hp} {d : Int} {x : V} {j : Nat} (h : Bad K H d x j) (s : Same H H') : Bad K H' d x j := by
  rcases h with ⟨a, b, h⟩ | ⟨a, b, h⟩ | ⟨a, b, h⟩ | ⟨a, b, h⟩ | ⟨a, ⟨b, g, g', h⟩ | ⟨b, g, g', h⟩ | ⟨b, g, h⟩⟩
  · exact .inl ⟨a, b, h.same s⟩
  · exact .inr (.inl ⟨a, b, h.same s⟩)
  · exact .inr (.inr (.inl ⟨a, b, h.same s⟩))
  · exact .inr (.inr (.inr (.inl ⟨a, b, h.same s⟩)))
  · exact .inr (.inr (.inr (.inr ⟨a, .inl ⟨b, g, g', h.same s⟩⟩)))
  · exact .inr (.inr (.inr (.inr ⟨a, .inr (.inl ⟨b, g, g', h.same s⟩)⟩)))
  · exact .inr (.inr (.inr (.inr ⟨a, .inr (.inr ⟨b, g, h.same s⟩)⟩)))
def spAsk (K : PySem.W.Frag) (W F S M : Addr) : Sp := fun vs H _ E => ∃ d x j, vs = [.int d, x] ∧ Bad K H d x j ∧ ∀ H', Same H H' → E (.ref (clsJ W F S M j)) none H'
def spAsked (K : PySem.W.Frag) : Sp := fun vs H Q _ => ∃ d x j, vs = [.int d, x] ∧ Bad K H d x j ∧ ∀ p H', Same H H' → H' p = some (.lst ((kindB j).map V.bl)) → Q (.ref p) H'
def spDue (K : PySem.W.Frag) : Sp := fun vs H Q _ => ∃ d x j, vs = [.int d, x, .int (j : Nat)] ∧ Bad K H d x j ∧ ∀ H', Same H H' → Q (.bl true) H'
def spThings (m : Nat) (B : Hp → V → Prop) : Sp := fun vs H Q _ => ∃ n : Int, vs = [.int n] ∧ ∀ p xs H', Same H H' → H' p = some (.lst xs) → 1 ≤ xs.length → xs.length ≤ m → (∀ x ∈ xs, B H' x) → Q (.ref p) H'
theorem same_gen {H H' : Hp} {l : Addr} {o : HO} (h : H l = none) (e : upd H l o = H') : Same H H' := e ▸ same_new h o
theorem at_gen {H H' : Hp} {l : Addr} {o : HO} (e : upd H l o = H') : H' l = some o := e ▸ upd_same
theorem kd (i j : Nat) : decide (V.int (0 + (i : Int)) = V.int (j : Int)) = decide (i = j) := by
  rw [Bool.eq_iff_iff]
  simp
  omega
theorem lit_turr : ("turr" : Str) = S [116, 117, 114, 114] := by decide +kernel
instance isL_dec (c : Nat) : Decidable (IsL c) := by unfold TW.IsL; infer_instance
instance isW_dec (u : List Nat) : Decidable (IsW u) := by unfold IsW; infer_instance
instance isF_dec (g : Fr) : Decidable (IsF g) := by unfold IsF; infer_instance
/-! ### lists of bools -/
theorem rd_bools {K : PySem.W.Frag} {H : Hp} (bs : List Bool) : RdDs K H (bs.map V.bl) (bs.map PyData.bool) := by
  induction bs with
  | nil => unfold RdDs; rfl
  | cons k r ih => unfold RdDs; exact ⟨_, _, rfl, by unfold RdD; rfl, ih⟩
theorem rd_boolL {K : PySem.W.Frag} {H : Hp} {a : Addr} {bs : List Bool} (h : H a = some (.lst (bs.map V.bl))) : RdD K H (.ref a) (.list (bs.map PyData.bool)) := by
  unfold RdD
  exact ⟨a, _, rfl, SqL.of h, rd_bools bs⟩
theorem kind_eqv (j : Nat) : PyData.eqv (.list ((kindB j).map PyData.bool)) (.list ((kindB j).map PyData.bool)) = true := by
  unfold kindB
  simp [PyData.eqv, PyData.eqvAll]
theorem kind_depth (j : Nat) : (PyData.list ((kindB j).map PyData.bool)).depth ≤ 60 := by
  unfold kindB
  simp [PyData.depth, PyData.depthAll]
/-! ### letters -/
def isLb (c : Nat) : Bool := decide (c = 116) || (decide (c = 117) || decide (c = 114))
theorem in_tur3 (c : Nat) : inV (.str (S [c])) [.str (S [116]), .str (S [117]), .str (S [114])] = isLb c := by
  have z := inV_str (S [c]) [S [116], S [117], S [114]]
  refine Eq.trans z ?_
  unfold isLb
  rw [Bool.eq_iff_iff]
  simp [S_eq]
theorem lb_signs (u : List Nat) : (sgV (S u)).map (fun x => V.bl (inV x [.str (S [116]), .str (S [117]), .str (S [114])])) = (u.map isLb).map V.bl := by
  rw [sg_S, List.map_map, List.map_map]
  refine List.map_congr_left fun c _ => ?_
  exact congrArg V.bl (in_tur3 c)
theorem all_lb (u : List Nat) : (u.map isLb).all id = true ↔ IsW u := by
  rw [List.all_map, List.all_eq_true]
  constructor
  · intro h c hc
    have := h c hc
    simpa [isLb, TW.IsL] using this
  · intro h c hc
    have := h c hc
    simpa [isLb, TW.IsL] using this
theorem not_W {u : List Nat} {c : Nat} (hc : c ∈ u) (h : ¬ IsL c) : ¬ IsW u := fun z => h (z c hc)
theorem nw_str {K : PySem.W.Frag} {H : Hp} {x : Str} (h : x.length ≤ 1000) (hb : (x.cps.toList.all isLb) = false) : NoWord K H (.str x) := by
  refine .inr ⟨x.cps.toList, by rw [← S_of], by rw [len_list]; exact h, fun z => ?_⟩
  have e := (all_lb x.cps.toList).mpr z
  rw [List.all_map] at e
  have e' : x.cps.toList.all isLb = true := e
  rw [hb] at e'
  cases e'
/-- a group of the law: a list of doors, a def of things, the kind that is due -/
structure Grp (K : PySem.W.Frag) (ds : List Int) (B : Hp → V → Prop) (j : Nat) : Prop where
  ne : 1 ≤ ds.length
  few : ds.length ≤ 10
  bad : ∀ d ∈ ds, ∀ H x, B H x → Bad K H d x j
theorem grp0 {K : PySem.W.Frag} : Grp K [0, 1, 2, 3, 5, 6, 7, 8, 9] (NoWord K) 0 := ⟨by decide, by decide, fun d hd H x h => .inl ⟨rfl, by simpa using hd, h⟩⟩
theorem grp1 {K : PySem.W.Frag} : Grp K [4, 10, 11, 12] (NoFr K) 1 := ⟨by decide, by decide, fun d hd H x h => .inr (.inl ⟨rfl, by simpa using hd, h⟩)⟩
theorem grp2 {K : PySem.W.Frag} : Grp K [13, 14, 16] (NoPair K) 1 := ⟨by decide, by decide, fun d hd H x h => .inr (.inr (.inl ⟨rfl, by simpa using hd, h⟩))⟩
theorem grp3 {K : PySem.W.Frag} : Grp K [15] (fun H x => BadSt K H turr x) 2 := ⟨by decide, by decide, fun d hd H x h => .inr (.inr (.inr (.inl ⟨rfl, by simpa using hd, h⟩)))⟩
theorem small_log (n : Int) : (n % 1000).natAbs.log2 < 1920 := by
  have h := mod_in n (show (0 : Int) < 1000 by decide)
  exact Nat.lt_of_lt_of_le (log2_lt (k := 10) (Nat.lt_of_lt_of_le (show (n % 1000).natAbs < 1000 by omega) (by decide)) (by decide)) (by decide)
theorem tu_len (n : Int) : (numT (n % 1000)).length ≤ 61 := by
  have h := mod_in n (show (0 : Int) < 1000 by decide)
  exact numT_len (Nat.lt_of_lt_of_le (show (n % 1000).natAbs < 1000 by omega) (by decide))
theorem fits_tu (n : Int) : ("tu" : Str).length + (S (numT (n % 1000))).length ≤ sizeLine := by
  rw [S_tu]
  exact fits (by have := tu_len n; show 2 + _ ≤ _; omega)
theorem nw_tu {K : PySem.W.Frag} {H : Hp} (n : Int) : NoWord K H (.str ("tu" ++ S (numT (n % 1000)))) := by
  refine .inr ⟨[116, 117] ++ numT (n % 1000), by rw [S_tu, S_app], by have := tu_len n; rw [List.length_append]; show 2 + _ ≤ _; omega, ?_⟩
  have h := mod_in n (show (0 : Int) < 1000 by decide)
  have e : numT (n % 1000) = dg (n % 1000).natAbs := by unfold numT; rw [if_neg (by omega)]
  obtain ⟨c, hc⟩ := List.exists_mem_of_ne_nil _ (dg_ne (n % 1000).natAbs)
  refine not_W (c := c) (List.mem_append_right _ (by rw [e]; exact hc)) (fun z => ?_)
  have d := dg_digs _ c hc
  unfold Dig at d
  unfold TW.IsL at z
  omega
theorem nf_nought (n : Int) : ¬ IsF (0, 2 + n % 7) := by
  have h := mod_in n (show (0 : Int) < 7 by decide)
  rintro (⟨a, _⟩ | ⟨_, b⟩)
  · cases a
  · have b' : Int.gcd 0 (2 + n % 7) = 1 := b
    rw [Int.gcd_zero_left] at b'
    omega
theorem nf_below (n : Int) : ¬ IsF (1, -1 - n % 9) := by
  have h := mod_in n (show (0 : Int) < 9 by decide)
  rintro (⟨_, a⟩ | ⟨a, _⟩)
  · have a' : -1 - n % 9 = 0 := a
    omega
  · have a' : 0 < -1 - n % 9 := a
    omega
theorem nf_even (n : Int) : ¬ IsF (2 + 2 * n, 4) := by
  rintro (⟨_, a⟩ | ⟨_, b⟩)
  · cases a
  · have b' : Int.gcd (2 + 2 * n) 4 = 1 := b
    have d : (2 : Int) ∣ ((Int.gcd (2 + 2 * n) 4 : Nat) : Int) := Int.dvd_coe_gcd ⟨1 + n, by omega⟩ ⟨2, by decide⟩
    rw [b'] at d
    obtain ⟨m, hm⟩ := d
    omega
theorem nst_below (n : Int) : -1 - n % 9 < 0 := by
  have h := mod_in n (show (0 : Int) < 9 by decide)
  omega
theorem nst_above (n : Int) : ((turr.length : Nat) : Int) < 5 + n % 9 := by
  have h := mod_in n (show (0 : Int) < 9 by decide)
  show (4 : Int) < _
  omega
theorem st_at {H : Hp} {p : Addr} {b : Bool} {i : Int} {pc : List Nat} {d c : Str} (hd : d = dS b ∧ c = S pc) (h : H p = some (.tup [.str d, .int i, .str c])) : H p = some (stV (b, i, pc)) := by
  rw [hd.1, hd.2] at h
  exact h
end TX

set_option Elab.async false
set_option linter.all false
set_option maxRecDepth 100000
set_option maxHeartbeats 4000000
namespace K10
open PySem L2 TW TX
seal L2.PE L2.PT L2.PA L2.PS L2.PSs L2.PI L2.PG L2.PGs L2.PW L2.PTs L2.PO
def top (i : Nat) : Stmt := PySem.Challenge.pw_twistturn_k10_refused.main.body.getD i (.Pass ⟨0, 0, 0, 0⟩)
section
variable {P : Program} {w : World} {K : PySem.W.Frag} {mg : Str → Option Value} {base : Heap} {f : Addr} {fd : FuncData} {k : Nat}
abbrev s_is_whole : Stmt := top 14
theorem sc_is_whole : FnScope ["value"] ["value"] (defScope s_is_whole) := ⟨rfl, rfl, rfl, by decide +kernel, rfl, by decide +kernel, by decide +kernel⟩
theorem ok_is_whole (G : Glo mg) (F : Fun K "is_whole" "is_whole" s_is_whole f fd) : FnOk P w K mg base CX0 (k + 1) f fd ["value"] (spWholeX K) := by
  refine F.ok sc_is_whole (fun vs H Q E h => ?_) (fun cdv A outer s H vs Q E hr h => ?_)
  · obtain ⟨x, rfl, _⟩ := h; rfl
  obtain ⟨x, rfl, h⟩ := h
  refine ⟨_, (pss_one (ps_ret (pe_and (pe_callB (call_isiK (K := K) rfl) rfl G.n_isinstance bt_isinstance (pa_cons (pv 0) (pa_cons (pe_bltn (v := .ty "int") rfl G.n_int bt_int rfl) pa_nil))) (pe_one (pe_not (pe_callB (call_isiK (K := K) rfl) rfl G.n_isinstance bt_isinstance (pa_cons (pv 0) (pa_cons (pe_bltn (v := .ty "bool") rfl G.n_bool bt_bool rfl) pa_nil)))))))), ?_⟩
  rcases h with ⟨⟨i, rfl⟩, q⟩ | ⟨⟨t, ty, kt⟩ | ⟨b, rfl⟩, q⟩
  · refine ⟨_, rfl, _, _, _, _, rfl, .int i, kit_same "int", _, rfl, ?_⟩
    refine iteT ?_
    exact ⟨_, rfl, _, _, _, _, rfl, .int i, kit_int_bool, _, rfl, q⟩
  · refine ⟨_, rfl, _, _, _, _, rfl, ty, kt, _, rfl, ?_⟩
    exact iteF q
  · refine ⟨_, rfl, _, _, _, _, rfl, .bl b, kit_bool_int, _, rfl, ?_⟩
    refine iteT ?_
    exact ⟨_, rfl, _, _, _, _, rfl, .bl b, kit_same "bool", _, rfl, q⟩

abbrev s_is_word : Stmt := top 15
theorem sc_is_word : FnScope ["value"] ["value"] (defScope s_is_word) := ⟨rfl, rfl, rfl, by decide +kernel, rfl, by decide +kernel, by decide +kernel⟩
theorem ok_is_word (G : Glo mg) (cLETTERS : Letters K mg) (F : Fun K "is_word" "is_word" s_is_word f fd) : FnOk P w K mg base CX0 (k + 1) f fd ["value"] (spWordX K) := by
  refine F.ok sc_is_word (fun vs H Q E h => ?_) (fun cdv A outer s H vs Q E hr h => ?_)
  · obtain ⟨x, rfl, _⟩ := h; rfl
  obtain ⟨x, rfl, h⟩ := h
  obtain ⟨aL, gL, hL⟩ := cLETTERS
  refine ⟨_, (pss_one (ps_ret (pe_and (pe_callB (call_isiK (K := K) rfl) rfl G.n_isinstance bt_isinstance (pa_cons (pv 0) (pa_cons (pe_bltn (v := .ty "str") rfl G.n_str bt_str rfl) pa_nil))) (pe_one (pe_callB (call_allK (K := K) rfl rfl) rfl G.n_all bt_all (pa_cons (pe_lc (ys := []) (js := []) rfl (LcS.to (os := defScope s_is_word) ⟨rfl, by decide +kernel, by decide +kernel, rfl, by decide +kernel, by decide +kernel, by decide +kernel⟩ rfl rfl) (pi_str (pv 0)) (fun _ _ _ _ => pts_none) (fun _ _ _ _ => (pe_cmpR (op_innK (K := K) rfl) (pv 0) (pe_glob (v := .ref aL) rfl gL rfl) rfl))) pa_nil)))))), ?_⟩
  have h2 : (∃ u : List Nat, x = .str (S u) ∧ u.length ≤ 100000 ∧ ∀ H', Same H H' → Q (.bl ((u.map isLb).all id)) H') ∨ (NotTy K "str" H x ∧ ∀ H', Same H H' → Q (.bl false) H') := by
    rcases h with ⟨⟨u, e, hl, hw⟩, q⟩ | ⟨h | ⟨u, e, hl, hw⟩, q⟩
    · refine .inl ⟨u, e, hl, fun H' hs => ?_⟩
      rw [(all_lb u).mpr hw]
      exact q _ hs
    · exact .inr ⟨h, q⟩
    · refine .inl ⟨u, e, by omega, fun H' hs => ?_⟩
      rw [Bool.eq_false_iff.mpr fun z => hw ((all_lb u).mp z)]
      exact q _ hs
  rcases h2 with ⟨u, rfl, hl, q⟩ | ⟨⟨t, ty, kt⟩, q⟩
  · refine ⟨_, rfl, _, _, _, _, rfl, .str _, kit_same "str", _, rfl, ?_⟩
    refine iteT ?_
    refine ⟨_, rfl, _, rfl, ?_⟩
    refine lc_y (Ok := fun _ => True) ItOn.str (fun x => V.bl (inV x [.str (S [116]), .str (S [117]), .str (S [114])])) trivial (by rw [sgV_length]; show (S u).length ≤ _; rw [S_len]; exact big (by omega)) (fun i x Q' hx hq => ?_) (fun p hp => ?_)
    · refine ⟨_, rfl, ?_⟩
      obtain ⟨c, _, rfl⟩ := sg_at hx
      exact .inl ⟨aL, _, rfl, .inr (hL _), rfl, rfl, hq⟩
    · rw [lb_signs]
      exact ⟨p, _, rfl, SqL.of upd_same, q _ (same_new hp _)⟩
  · refine ⟨_, rfl, _, _, _, _, rfl, ty, kt, _, rfl, ?_⟩
    exact iteF (q _ (Same.refl _))

abbrev s_common_divisor : Stmt := top 16
theorem sc_common_divisor : FnScope ["one", "other", "larger", "smaller", "rest"] ["one", "other"] (defScope s_common_divisor) := ⟨rfl, rfl, rfl, by decide +kernel, rfl, by decide +kernel, by decide +kernel⟩
theorem ok_common_divisor (F : Fun K "common_divisor" "common_divisor" s_common_divisor f fd) : FnOk P w K mg base CX0 (k + 1) f fd ["one", "other"] spGcd := by
  refine F.ok sc_common_divisor (fun vs H Q E h => ?_) (fun cdv A outer s H vs Q E hr h => ?_)
  · obtain ⟨a, b, rfl, _⟩ := h; rfl
  obtain ⟨a, b, rfl, ha, hb, q⟩ := h
  have nd := sc_common_divisor.nd
  have hu := hr.units
  refine ⟨_, (pss_cons (ps_set (i := 2) nd rfl (Or.inl rfl) (pv 0))
      (pss_cons (ps_set (i := 3) nd rfl (Or.inl rfl) (pv 1))
      (pss_cons (ps_while PassesOwn.never (pt_cmpR (op_neeK (K := K) hu rfl) (pv 3) pe_int (nomark _)) (pss_cons (ps_set (i := 4) nd rfl (Or.inl rfl) (pe_op op_mod (pv 2) (pv 3)))
      (pss_cons (ps_set (i := 2) nd rfl (Or.inl rfl) (pv 3))
      (pss_one (ps_set (i := 3) nd rfl (Or.inl rfl) (pv 4))))))
      (pss_one (ps_ret (pv 2)))))), ?_⟩
  refine ⟨_, rfl, _, rfl, ?_⟩
  refine while_by (fun σ' H' => H' = H ∧ ∃ (x y : Int) (r : Option V), σ' = [some (.int a), some (.int b), some (.int x), some (.int y), r] ∧ 0 ≤ x ∧ 0 ≤ y ∧ Int.gcd x y = Int.gcd a b) (fun σ' _ => match σ' with | [_, _, _, some (.int y), _] => y.toNat | _ => 0) ⟨rfl, a, b, _, rfl, ha, hb, rfl⟩ ?_ ?_
  · rintro σ' H' ⟨rfl, x, y, r, rfl, hx, hy, hg⟩
    refine ⟨_, rfl, .inl ⟨rfl, _, rfl, ?_⟩⟩
    by_cases hy0 : y = 0
    · subst hy0
      refine iteF ?_
      refine ⟨_, rfl, ?_⟩
      have e : x = ((Int.gcd a b : Nat) : Int) := by
        rw [← hg, Int.gcd_zero_right]
        omega
      rw [e]
      exact q
    · have c : (!decide (V.int y = V.int 0)) = true := by simp [hy0]
      show if (!decide (V.int y = V.int 0)) = true then _ else _
      rw [if_pos c]
      refine ⟨_, rfl, _, rfl, _, _, rfl, rfl, (by omega), _, rfl, _, rfl, ⟨rfl, y, x % y, _, rfl, hy, Int.emod_nonneg _ hy0, ?_⟩, ?_⟩
      · rw [gcd_turn hx (by omega)]; exact hg
      · have := Int.emod_lt_of_pos x (show 0 < y by omega)
        have := Int.emod_nonneg x hy0
        show (x % y).toNat < y.toNat
        omega
  · intro σ' H' R R' hR z
    obtain ⟨v, e, z⟩ := z
    refine ⟨v, e, ?_⟩
    rcases z with ⟨z1, k, z2, z3⟩ | ⟨dx, dy, z1, z2, z3, k, z4, z5⟩
    · exact .inl ⟨z1, k, z2, hR _ _ z3⟩
    · exact .inr ⟨dx, dy, z1, z2, z3, k, z4, hR _ _ z5⟩

abbrev s_is_fraction : Stmt := top 17
theorem sc_is_fraction : FnScope ["value", "a", "b"] ["value"] (defScope s_is_fraction) := ⟨rfl, rfl, rfl, by decide +kernel, rfl, by decide +kernel, by decide +kernel⟩
theorem ok_is_fraction (G : Glo mg) (F : Fun K "is_fraction" "is_fraction" s_is_fraction f fd) (c_is_whole : Callee P w K mg base k "is_whole" ["value"] (spWholeX K)) (c_common_divisor : Callee P w K mg base k "common_divisor" ["one", "other"] spGcd) : FnOk P w K mg base CX0 (k + 1) f fd ["value"] (spFracX K) := by
  refine F.ok sc_is_fraction (fun vs H Q E h => ?_) (fun cdv A outer s H vs Q E hr h => ?_)
  · obtain ⟨x, rfl, _⟩ := h; rfl
  obtain ⟨x, rfl, h⟩ := h
  have nd := sc_is_fraction.nd
  have hu := hr.units
  refine ⟨_, (pss_cons (ps_if (PW.pt (pw_or (pt_not (pt_val (pe_callB (call_isiK (K := K) rfl) rfl G.n_isinstance bt_isinstance (pa_cons (pv 0) (pa_cons (pe_bltn (v := .ty "tuple") rfl G.n_tuple bt_tuple rfl) pa_nil))))) (pw_or1 (pt_cmpR op_ne (pe_callB (call_lenK (K := K) rfl) rfl G.n_len bt_len (pa_cons (pv 0) pa_nil)) pe_int (nomark _))))) (pss_one (ps_ret pe_bl)) pss_nil)
      (pss_cons (ps_set (i := 1) nd rfl (Or.inl rfl) (pe_ix (ix_tupK (K := K) rfl) (pv 0) pe_int (fun _ _ => rfl)))
      (pss_cons (ps_set (i := 2) nd rfl (Or.inl rfl) (pe_ix (ix_tupK (K := K) rfl) (pv 0) pe_int (fun _ _ => rfl)))
      (pss_cons (ps_if (PW.pt (pw_or (pt_not (pt_val (pe_calls c_is_whole hr rfl (pa_cons (pv 1) pa_nil)))) (pw_or1 (pt_not (pt_val (pe_calls c_is_whole hr rfl (pa_cons (pv 2) pa_nil))))))) (pss_one (ps_ret pe_bl)) pss_nil)
      (pss_cons (ps_if (pt_cmpR op_eq (pv 2) pe_int (nomark _)) (pss_one (ps_ret (pe_cmpR op_eq (pv 1) pe_int (nomark _)))) pss_nil)
      (pss_one (ps_ret (pe_and (pe_cmpR op_gt (pv 2) pe_int (nomark _)) (pe_one (pe_cmpR op_eq (pe_calls c_common_divisor hr rfl (pa_cons (pe_callB call_abs rfl G.n_abs bt_abs (pa_cons (pv 1) pa_nil)) (pa_cons (pv 2) pa_nil))) pe_int (nomark _))))))))))), ?_⟩
  have h2 : (∃ p a b, x = .ref p ∧ H p = some (.tup [.int a, .int b]) ∧ Q (.bl (isF (a, b))) H) ∨ (NotTy K "tuple" H x ∧ Q (.bl false) H) ∨ ∃ p xs, x = .ref p ∧ H p = some (.tup xs) ∧ (xs.length ≠ 2 ∨ ∃ v w, xs = [v, w] ∧ (NoInt K H v ∨ ((∃ i, v = .int i) ∧ NoInt K H w))) ∧ Q (.bl false) H := by
    rcases h with ⟨⟨g, p, e, hp, hF⟩, q⟩ | ⟨h | ⟨p, xs, e, hp, h⟩, q⟩
    · refine .inl ⟨p, g.1, g.2, e, hp, ?_⟩
      rw [isF_of (f := (g.1, g.2)) hF]
      exact q
    · exact .inr (.inl ⟨h, q⟩)
    · rcases h with h | ⟨v, w', e2, h | h | ⟨a, b, e3, e4, h⟩⟩
      · exact .inr (.inr ⟨p, xs, e, hp, .inl h, q⟩)
      · exact .inr (.inr ⟨p, xs, e, hp, .inr ⟨v, w', e2, .inl h⟩, q⟩)
      · exact .inr (.inr ⟨p, xs, e, hp, .inr ⟨v, w', e2, .inr h⟩, q⟩)
      · subst e3; subst e4; subst e2
        refine .inl ⟨p, a, b, e, hp, ?_⟩
        rw [isF_no h]
        exact q
  rcases h2 with ⟨p, a, b, rfl, hp', qq⟩ | ⟨⟨t, ty, kt⟩, q⟩ | ⟨p, xs, rfl, hp, h, q⟩
  · refine ⟨_, rfl, _, _, _, _, rfl, .tup hp', kit_same "tuple", _, rfl, ?_⟩
    refine iteF ?_
    refine ⟨_, rfl, .ref p, 2, rfl, .inr ⟨_, SqT.of hp', rfl⟩, ⟨rfl, _, rfl, ?_⟩⟩
    refine iteF ?_
    refine ⟨_, rfl, ⟨p, _, 0, .int a, rfl, rfl, SqT.of hp', rfl, ?_⟩⟩
    refine ⟨_, rfl, ⟨p, _, 1, .int b, rfl, rfl, SqT.of hp', rfl, ?_⟩⟩
    refine ⟨_, rfl, _, rfl, .inl ⟨⟨_, rfl⟩, _, rfl, ?_⟩⟩
    refine iteF ?_
    refine ⟨_, rfl, _, rfl, .inl ⟨⟨_, rfl⟩, _, rfl, ?_⟩⟩
    refine iteF ?_
    refine ⟨_, rfl, ⟨rfl, _, rfl, ?_⟩⟩
    unfold isF at qq
    refine ite2 (fun c => ?_) (fun c => ?_)
    · have hb : b = 0 := by simpa using c
      rw [if_pos hb] at qq
      refine ⟨_, rfl, ⟨rfl, ?_⟩⟩
      rw [eqI]
      exact qq
    · have hb : b ≠ 0 := by simpa using c
      rw [if_neg hb] at qq
      refine ⟨_, rfl, _, _, rfl, rfl, _, rfl, ?_⟩
      refine ite2 (fun d => ?_) (fun d => ?_)
      · have d' : 0 < b := of_decide_eq_true d
        refine ⟨_, rfl, _, rfl, _, rfl, _, _, rfl, abs_nonneg a, by omega, ⟨rfl, ?_⟩⟩
        rw [gcd_abs, eqI]
        rw [decide_eq_true d', Bool.true_and] at qq
        have e : decide (((Int.gcd a b : Nat) : Int) = 1) = decide (Int.gcd a b = 1) := by
          rw [Bool.eq_iff_iff]
          simp only [decide_eq_true_eq]
          omega
        rw [e]
        exact qq
      · have d' : ¬ 0 < b := of_decide_eq_false (Bool.eq_false_iff.mpr d)
        rw [decide_eq_false d', Bool.false_and] at qq
        exact qq
  · refine ⟨_, rfl, _, _, _, _, rfl, ty, kt, _, rfl, ?_⟩
    exact iteT (iteT q)
  · rcases h with h | ⟨v, w', rfl, h⟩
    · refine ⟨_, rfl, _, _, _, _, rfl, .tup hp, kit_same "tuple", _, rfl, ?_⟩
      refine iteF ?_
      refine ⟨_, rfl, .ref p, xs.length, rfl, .inr ⟨_, SqT.of hp, rfl⟩, ⟨rfl, _, rfl, ?_⟩⟩
      rw [eqI, decide_eq_false (show ¬ ((xs.length : Nat) : Int) = 2 by omega)]
      exact iteT q
    · rcases h with h | ⟨⟨i, rfl⟩, h⟩
      · refine ⟨_, rfl, _, _, _, _, rfl, .tup hp, kit_same "tuple", _, rfl, ?_⟩
        refine iteF ?_
        refine ⟨_, rfl, .ref p, 2, rfl, .inr ⟨_, SqT.of hp, rfl⟩, ⟨rfl, _, rfl, ?_⟩⟩
        refine iteF ?_
        refine ⟨_, rfl, ⟨p, _, 0, v, rfl, rfl, SqT.of hp, rfl, ?_⟩⟩
        refine ⟨_, rfl, ⟨p, _, 1, w', rfl, rfl, SqT.of hp, rfl, ?_⟩⟩
        exact ⟨_, rfl, _, rfl, .inr ⟨h, _, rfl, iteT (iteT q)⟩⟩
      · refine ⟨_, rfl, _, _, _, _, rfl, .tup hp, kit_same "tuple", _, rfl, ?_⟩
        refine iteF ?_
        refine ⟨_, rfl, .ref p, 2, rfl, .inr ⟨_, SqT.of hp, rfl⟩, ⟨rfl, _, rfl, ?_⟩⟩
        refine iteF ?_
        refine ⟨_, rfl, ⟨p, _, 0, .int i, rfl, rfl, SqT.of hp, rfl, ?_⟩⟩
        refine ⟨_, rfl, ⟨p, _, 1, w', rfl, rfl, SqT.of hp, rfl, ?_⟩⟩
        refine ⟨_, rfl, _, rfl, .inl ⟨⟨_, rfl⟩, _, rfl, ?_⟩⟩
        refine iteF ?_
        exact ⟨_, rfl, _, rfl, .inr ⟨h, _, rfl, iteT q⟩⟩

abbrev s_is_text_among : Stmt := top 18
theorem sc_is_text_among : FnScope ["value", "texts"] ["value", "texts"] (defScope s_is_text_among) := ⟨rfl, rfl, rfl, by decide +kernel, rfl, by decide +kernel, by decide +kernel⟩
theorem ok_is_text_among (G : Glo mg) (F : Fun K "is_text_among" "is_text_among" s_is_text_among f fd) : FnOk P w K mg base CX0 (k + 1) f fd ["value", "texts"] (spAmongX K) := by
  refine F.ok sc_is_text_among (fun vs H Q E h => ?_) (fun cdv A outer s H vs Q E hr h => ?_)
  · obtain ⟨x, a, ts, rfl, _⟩ := h; rfl
  obtain ⟨x, a, ts, rfl, hS, h⟩ := h
  refine ⟨_, (pss_one (ps_ret (pe_and (pe_callB (call_isiK (K := K) rfl) rfl G.n_isinstance bt_isinstance (pa_cons (pv 0) (pa_cons (pe_bltn (v := .ty "str") rfl G.n_str bt_str rfl) pa_nil))) (pe_one (pe_cmpR (op_innK (K := K) rfl) (pv 0) (pv 1) rfl))))), ?_⟩
  rcases h with ⟨y, rfl, q⟩ | ⟨⟨t, ty, kt⟩, q⟩
  · refine ⟨_, rfl, _, _, _, _, rfl, .str _, kit_same "str", _, rfl, ?_⟩
    refine iteT ?_
    refine ⟨_, rfl, _, rfl, .inl ⟨a, _, rfl, .inr hS, rfl, flat_strs _, ?_⟩⟩
    show Q (V.bl (inV (.str y) (ts.map V.str))) H
    rw [inV_str]
    exact q
  · refine ⟨_, rfl, _, _, _, _, rfl, ty, kt, _, rfl, ?_⟩
    exact iteF q

abbrev s_is_step : Stmt := top 19
theorem sc_is_step : FnScope ["value"] ["value"] (defScope s_is_step) := ⟨rfl, rfl, rfl, by decide +kernel, rfl, by decide +kernel, by decide +kernel⟩
theorem ok_is_step (G : Glo mg) (cD : Deeds K mg) (cP : Pieces K mg) (F : Fun K "is_step" "is_step" s_is_step f fd) (c_is_whole : Callee P w K mg base k "is_whole" ["value"] (spWholeX K)) (c_is_text_among : Callee P w K mg base k "is_text_among" ["value", "texts"] (spAmongX K)) : FnOk P w K mg base CX0 (k + 1) f fd ["value"] (spStepX K) := by
  refine F.ok sc_is_step (fun vs H Q E h => ?_) (fun cdv A outer s H vs Q E hr h => ?_)
  · obtain ⟨x, rfl, _⟩ := h; rfl
  obtain ⟨x, rfl, h⟩ := h
  obtain ⟨aD, gD, hD⟩ := cD
  obtain ⟨aP, gP, hP⟩ := cP
  refine ⟨_, (pss_cons (ps_if (PW.pt (pw_or (pt_not (pt_val (pe_callB (call_isiK (K := K) rfl) rfl G.n_isinstance bt_isinstance (pa_cons (pv 0) (pa_cons (pe_bltn (v := .ty "tuple") rfl G.n_tuple bt_tuple rfl) pa_nil))))) (pw_or1 (pt_cmpR op_ne (pe_callB (call_lenK (K := K) rfl) rfl G.n_len bt_len (pa_cons (pv 0) pa_nil)) pe_int (nomark _))))) (pss_one (ps_ret pe_bl)) pss_nil)
      (pss_one (ps_ret (pe_and (pe_calls c_is_text_among hr rfl (pa_cons (pe_ix (ix_tupK (K := K) rfl) (pv 0) pe_int (fun _ _ => rfl)) (pa_cons (pe_glob (v := .ref aD) rfl gD rfl) pa_nil))) (pe_and (pe_calls c_is_whole hr rfl (pa_cons (pe_ix (ix_tupK (K := K) rfl) (pv 0) pe_int (fun _ _ => rfl)) pa_nil)) (pe_one (pe_calls c_is_text_among hr rfl (pa_cons (pe_ix (ix_tupK (K := K) rfl) (pv 0) pe_int (fun _ _ => rfl)) (pa_cons (pe_glob (v := .ref aP) rfl gP rfl) pa_nil))))))))), ?_⟩
  rcases h with ⟨⟨⟨b, i, pc⟩, p, rfl, hp, hpc⟩, q⟩ | ⟨⟨t, ty, kt⟩ | ⟨p, xs, rfl, hp, h⟩, q⟩
  · have hp' : H p = some (.tup [.str (dS b), .int i, .str (S pc)]) := hp
    refine ⟨_, rfl, _, _, _, _, rfl, .tup hp', kit_same "tuple", _, rfl, ?_⟩
    refine iteF ?_
    refine ⟨_, rfl, .ref p, 3, rfl, .inr ⟨_, SqT.of hp', rfl⟩, ⟨rfl, _, rfl, ?_⟩⟩
    refine iteF ?_
    refine ⟨_, rfl, ⟨p, _, 0, .str (dS b), rfl, rfl, SqT.of hp', rfl, ?_⟩⟩
    refine ⟨_, aD, _, rfl, hD H, .inl ⟨_, rfl, _, rfl, ?_⟩⟩
    rw [has_deed]
    refine iteT ?_
    refine ⟨_, rfl, ⟨p, _, 1, .int i, rfl, rfl, SqT.of hp', rfl, ?_⟩⟩
    refine ⟨_, rfl, .inl ⟨⟨_, rfl⟩, _, rfl, ?_⟩⟩
    refine iteT ?_
    refine ⟨_, rfl, ⟨p, _, 2, .str (S pc), rfl, rfl, SqT.of hp', rfl, ?_⟩⟩
    refine ⟨_, aP, _, rfl, hP H, .inl ⟨_, rfl, ?_⟩⟩
    rw [has_piece hpc]
    exact q
  · refine ⟨_, rfl, _, _, _, _, rfl, ty, kt, _, rfl, ?_⟩
    exact iteT (iteT q)
  · refine ⟨_, rfl, _, _, _, _, rfl, .tup hp, kit_same "tuple", _, rfl, ?_⟩
    refine iteF ?_
    refine ⟨_, rfl, .ref p, xs.length, rfl, .inr ⟨_, SqT.of hp, rfl⟩, ⟨rfl, _, rfl, ?_⟩⟩
    rw [eqI]
    rcases h with h | ⟨d, a, c, rfl, h⟩
    · rw [decide_eq_false (show ¬ ((xs.length : Nat) : Int) = 3 by omega)]
      exact iteT q
    · rw [decide_eq_true (show ((([d, a, c] : List V).length : Nat) : Int) = 3 from rfl)]
      refine iteF ?_
      refine ⟨_, rfl, ⟨p, _, 0, d, rfl, rfl, SqT.of hp, rfl, ?_⟩⟩
      rcases h with (h | ⟨y, rfl, h⟩) | ⟨⟨y, rfl, hy⟩, h⟩
      · exact ⟨_, aD, _, rfl, hD H, .inr ⟨h, _, rfl, iteF q⟩⟩
      · refine ⟨_, aD, _, rfl, hD H, .inl ⟨_, rfl, _, rfl, ?_⟩⟩
        rw [h]
        exact iteF q
      · refine ⟨_, aD, _, rfl, hD H, .inl ⟨_, rfl, _, rfl, ?_⟩⟩
        rw [hy]
        refine iteT ?_
        refine ⟨_, rfl, ⟨p, _, 1, a, rfl, rfl, SqT.of hp, rfl, ?_⟩⟩
        rcases h with h | ⟨⟨i, rfl⟩, h⟩
        · exact ⟨_, rfl, .inr ⟨h, _, rfl, iteF q⟩⟩
        · refine ⟨_, rfl, .inl ⟨⟨_, rfl⟩, _, rfl, ?_⟩⟩
          refine iteT ?_
          refine ⟨_, rfl, ⟨p, _, 2, c, rfl, rfl, SqT.of hp, rfl, ?_⟩⟩
          rcases h with h | ⟨z, rfl, h⟩
          · exact ⟨_, aP, _, rfl, hP H, .inr ⟨h, q⟩⟩
          · refine ⟨_, aP, _, rfl, hP H, .inl ⟨_, rfl, ?_⟩⟩
            rw [h]
            exact q

abbrev s_check_word : Stmt := top 20
theorem sc_check_word : FnScope ["word"] ["word"] (defScope s_check_word) := ⟨rfl, rfl, rfl, by decide +kernel, rfl, by decide +kernel, by decide +kernel⟩
theorem ok_check_word {C D : Addr} (X : Exc K mg "BadWord" C D) (F : Fun K "check_word" "check_word" s_check_word f fd) (c_is_word : Callee P w K mg base k "is_word" ["value"] (spWordX K)) : FnOk P w K mg base (CXb P w) (k + 1) f fd ["word"] (spChkWX K C) := by
  refine F.okX sc_check_word (fun vs H Q E h => ?_) (fun cdv A outer s H vs Q E hr h => ?_)
  · obtain ⟨x, rfl, _⟩ := h; rfl
  obtain ⟨x, rfl, h⟩ := h
  refine ⟨_, (pss_one (ps_if (pt_not (pt_val (pe_calls c_is_word hr rfl (pa_cons (pv 0) pa_nil)))) (pss_one (ps_raiseK X.ns X.ex PySem.F.excBase_ValueError rfl (pa_cons pe_str pa_nil))) pss_nil)), ?_⟩
  rcases h with ⟨hw, q⟩ | ⟨hw, q⟩
  · exact ⟨_, rfl, x, rfl, .inl ⟨hw, fun H' hs => ⟨_, rfl, iteF (q _ hs)⟩⟩⟩
  · exact ⟨_, rfl, x, rfl, .inr ⟨hw, fun H' hs => ⟨_, rfl, iteT ⟨by show 1 ≤ sizeLine; decide, q _ hs⟩⟩⟩⟩

abbrev s_check_fraction : Stmt := top 21
theorem sc_check_fraction : FnScope ["fraction"] ["fraction"] (defScope s_check_fraction) := ⟨rfl, rfl, rfl, by decide +kernel, rfl, by decide +kernel, by decide +kernel⟩
theorem ok_check_fraction {C D : Addr} (X : Exc K mg "BadFraction" C D) (F : Fun K "check_fraction" "check_fraction" s_check_fraction f fd) (c_is_fraction : Callee P w K mg base k "is_fraction" ["value"] (spFracX K)) : FnOk P w K mg base (CXb P w) (k + 1) f fd ["fraction"] (spChkFX K C) := by
  refine F.okX sc_check_fraction (fun vs H Q E h => ?_) (fun cdv A outer s H vs Q E hr h => ?_)
  · obtain ⟨x, rfl, _⟩ := h; rfl
  obtain ⟨x, rfl, h⟩ := h
  refine ⟨_, (pss_one (ps_if (pt_not (pt_val (pe_calls c_is_fraction hr rfl (pa_cons (pv 0) pa_nil)))) (pss_one (ps_raiseK X.ns X.ex PySem.F.excBase_ValueError rfl (pa_cons pe_str pa_nil))) pss_nil)), ?_⟩
  rcases h with ⟨hw, q⟩ | ⟨hw, q⟩
  · exact ⟨_, rfl, x, rfl, .inl ⟨hw, _, rfl, iteF q⟩⟩
  · exact ⟨_, rfl, x, rfl, .inr ⟨hw, _, rfl, iteT ⟨by show 1 ≤ sizeLine; decide, q⟩⟩⟩

end
end K10

set_option Elab.async false
set_option linter.all false
set_option maxRecDepth 100000
set_option maxHeartbeats 4000000
namespace K10
open PySem L2 TW TX
seal L2.PE L2.PT L2.PA L2.PS L2.PSs L2.PI L2.PG L2.PGs L2.PW L2.PTs L2.PO
section
variable {P : Program} {w : World} {K : PySem.W.Frag} {mg : Str → Option Value} {base : Heap} {f : Addr} {fd : FuncData} {k : Nat}
abbrev s_danced : Stmt := top 25
theorem sc_danced : FnScope ["word", "fraction"] ["word", "fraction"] (defScope s_danced) := ⟨rfl, rfl, rfl, by decide +kernel, rfl, by decide +kernel, by decide +kernel⟩
theorem ok_danced {CW CF : Addr} (F : Fun K "danced" "danced" s_danced f fd) (c_check_word : CalleeX P w K mg base k "check_word" ["word"] (spChkWX K CW)) (c_check_fraction : CalleeX P w K mg base k "check_fraction" ["fraction"] (spChkFX K CF)) : FnOk P w K mg base (CXb P w) (k + 1) f fd ["word", "fraction"] (spDancedX K CW CF) := by
  refine F.okX sc_danced (fun vs H Q E h => ?_) (fun cdv A outer s H vs Q E hr h => ?_)
  · obtain ⟨x, y, rfl, _⟩ := h; rfl
  obtain ⟨x, y, rfl, h⟩ := h
  refine ⟨_, (pss_cons (ps_expr (pe_callXE c_check_word hr rfl (pa_cons (pv 0) pa_nil)))
      (pss_cons (ps_expr (pe_callXE c_check_fraction hr rfl (pa_cons (pv 1) pa_nil))) pss_never)), ?_⟩
  rcases h with ⟨hw, q⟩ | ⟨hw, hy, q⟩
  · exact ⟨_, rfl, x, rfl, .inr ⟨hw, q⟩⟩
  · exact ⟨_, rfl, x, rfl, .inl ⟨hw, fun H1 s1 => ⟨_, rfl, y, rfl, .inr ⟨hy.same s1, q _ s1⟩⟩⟩⟩

abbrev s_back : Stmt := top 28
theorem sc_back : FnScope ["word"] ["word"] (defScope s_back) := ⟨rfl, rfl, rfl, by decide +kernel, rfl, by decide +kernel, by decide +kernel⟩
theorem ok_back {C : Addr} (F : Fun K "back" "back" s_back f fd) (c_check_word : CalleeX P w K mg base k "check_word" ["word"] (spChkWX K C)) : FnOk P w K mg base (CXb P w) (k + 1) f fd ["word"] (spRefW K C) := by
  refine F.okX sc_back (fun vs H Q E h => ?_) (fun cdv A outer s H vs Q E hr h => ?_)
  · obtain ⟨x, rfl, _⟩ := h; rfl
  obtain ⟨x, rfl, h, q⟩ := h
  refine ⟨_, (pss_cons (ps_expr (pe_callXE c_check_word hr rfl (pa_cons (pv 0) pa_nil))) pss_never), ?_⟩
  exact ⟨_, rfl, x, rfl, .inr ⟨h, q⟩⟩

abbrev s_can_step : Stmt := top 29
theorem sc_can_step : FnScope ["word", "step", "at", "piece"] ["word", "step"] (defScope s_can_step) := ⟨rfl, rfl, rfl, by decide +kernel, rfl, by decide +kernel, by decide +kernel⟩
theorem ok_can_step (G : Glo mg) (F : Fun K "can_step" "can_step" s_can_step f fd) (c_is_step : Callee P w K mg base k "is_step" ["value"] (spStepX K)) : FnOk P w K mg base CX0 (k + 1) f fd ["word", "step"] (spCanX K) := by
  refine F.ok sc_can_step (fun vs H Q E h => ?_) (fun cdv A outer s H vs Q E hr h => ?_)
  · obtain ⟨u, x, rfl, _⟩ := h; rfl
  obtain ⟨u, x, rfl, hl, h⟩ := h
  have nd := sc_can_step.nd
  have hu := hr.units
  have hz : (S u).length ≤ sizeLine := by rw [S_len]; exact big (by omega)
  refine ⟨_, (pss_cons (ps_if (pt_not (pt_val (pe_calls c_is_step hr rfl (pa_cons (pv 1) pa_nil)))) (pss_one (ps_ret pe_bl)) pss_nil)
      (pss_cons (ps_set (i := 2) nd rfl (Or.inl rfl) (pe_ix (ix_anyK (K := K) (Pm := w.params) rfl rfl) (pv 1) pe_int (fun _ _ => rfl)))
      (pss_cons (ps_set (i := 3) nd rfl (Or.inl rfl) (pe_ix (ix_anyK (K := K) (Pm := w.params) rfl rfl) (pv 1) pe_int (fun _ _ => rfl)))
      (pss_cons (ps_if (PW.pt (pw_or (pt_cmpR op_lt (pv 2) pe_int (nomark _)) (pw_or1 (pt_cmpR op_gt (pv 2) (pe_callB (call_lenK (K := K) rfl) rfl G.n_len bt_len (pa_cons (pv 0) pa_nil)) (nomark _))))) (pss_one (ps_ret pe_bl)) pss_nil)
      (pss_one (ps_ret (pe_or (pe_cmpR (op_eqqK (K := K) hu rfl) (pe_ix (ix_anyK (K := K) (Pm := w.params) rfl rfl) (pv 1) pe_int (fun _ _ => rfl)) pe_str (nomark _)) (pe_one (pe_cmpR (op_eqqK (K := K) hu rfl) (pe_slice (sl_any (K := K) rfl) (pv 0) (po_some (pv 2)) (po_some (pe_op op_plus (pv 2) (pe_callB (call_lenK (K := K) rfl) rfl G.n_len bt_len (pa_cons (pv 3) pa_nil))))) (pv 3) (nomark _)))))))))), ?_⟩
  rcases h with ⟨b, i, pc, ⟨p, rfl, hp, hpc⟩, q⟩ | ⟨h, q⟩
  case inr => exact ⟨_, rfl, x, rfl, .inr ⟨h, _, rfl, iteT q⟩⟩
  have hp' : H p = some (.tup [.str (dS b), .int i, .str (S pc)]) := hp
  have lp := (pcs_len (show pc ∈ pcs from hpc)).1
  refine ⟨_, rfl, _, rfl, .inl ⟨⟨(b, i, pc), p, rfl, hp, hpc⟩, _, rfl, ?_⟩⟩
  refine iteF ?_
  refine ⟨_, rfl, .inl (.inr (.inl ⟨p, _, 1, .int i, rfl, rfl, SqT.of hp', rfl, ?_⟩))⟩
  refine ⟨_, rfl, .inl (.inr (.inl ⟨p, _, 2, .str (S pc), rfl, rfl, SqT.of hp', rfl, ?_⟩))⟩
  refine ⟨_, rfl, _, _, rfl, rfl, _, rfl, ?_⟩
  refine ite2 (fun c => ?_) (fun c => ?_)
  · have c' : i < 0 := of_decide_eq_true c
    rw [due_off (.inl c')] at q
    exact q
  have c0 : ¬ i < 0 := of_decide_eq_false (Bool.eq_false_iff.mpr c)
  refine ⟨_, rfl, _, rfl, .str (S u), u.length, rfl, len_S (by omega), _, _, rfl, rfl, _, rfl, ?_⟩
  refine ite2 (fun d => ?_) (fun d => ?_)
  · have d' : (u.length : Int) < i := of_decide_eq_true d
    rw [due_off (.inr d')] at q
    exact q
  have d0 : ¬ (u.length : Int) < i := of_decide_eq_false (Bool.eq_false_iff.mpr d)
  refine ⟨_, rfl, .inl (.inr (.inl ⟨p, _, 0, .str (dS b), rfl, rfl, SqT.of hp', rfl, .inl ⟨rfl, _, rfl, ?_⟩⟩))⟩
  rw [dS_in]
  cases b with
  | true =>
    rw [due_in (by omega) (by omega)] at q
    exact iteT q
  | false =>
    refine iteF ?_
    refine ⟨_, rfl, _, rfl, i, rfl, _, rfl, _, rfl, .str (S pc), pc.length, rfl, len_S (by omega), .inl ⟨_, _, rfl, rfl, _, rfl, .inl ⟨_, rfl, hz, _, rfl, .inl ⟨rfl, ?_⟩⟩⟩⟩
    rw [S_mid (by omega) (by omega), eqS]
    rw [due_out (by omega) (by omega)] at q
    by_cases e : (u.drop i.toNat).take pc.length = pc
    · rw [if_pos e] at q
      rw [e, decide_eq_true rfl]
      exact q
    · rw [if_neg e] at q
      rw [decide_eq_false (fun z => e (S_inj z))]
      exact q

abbrev s_after_step : Stmt := top 30
theorem sc_after_step : FnScope ["word", "step", "at", "piece"] ["word", "step"] (defScope s_after_step) := ⟨rfl, rfl, rfl, by decide +kernel, rfl, by decide +kernel, by decide +kernel⟩
theorem ok_after_step (G : Glo mg) (F : Fun K "after_step" "after_step" s_after_step f fd) : FnOk P w K mg base CX0 (k + 1) f fd ["word", "step"] spAfter := by
  refine F.ok sc_after_step (fun vs H Q E h => ?_) (fun cdv A outer s H vs Q E hr h => ?_)
  · obtain ⟨u, p, b, i, pc, v, rfl, _⟩ := h; rfl
  obtain ⟨u, p, b, i, pc, v, rfl, hp, hpc, hl, hd, q⟩ := h
  have nd := sc_after_step.nd
  have hu := hr.units
  have hz : (S u).length ≤ sizeLine := by rw [S_len]; exact big (by omega)
  have hp' : H p = some (.tup [.str (dS b), .int i, .str (S pc)]) := hp
  have lp := (pcs_len hpc).1
  have i0 : 0 ≤ i := by
    by_cases h : i < 0
    · rw [due_off (.inl h)] at hd; cases hd
    · omega
  have i1 : i ≤ u.length := by
    by_cases h : (u.length : Int) < i
    · rw [due_off (.inr h)] at hd; cases hd
    · omega
  refine ⟨_, (pss_cons (ps_set (i := 2) nd rfl (Or.inl rfl) (pe_ix (ix_anyK (K := K) (Pm := w.params) rfl rfl) (pv 1) pe_int (fun _ _ => rfl)))
      (pss_cons (ps_set (i := 3) nd rfl (Or.inl rfl) (pe_ix (ix_anyK (K := K) (Pm := w.params) rfl rfl) (pv 1) pe_int (fun _ _ => rfl)))
      (pss_cons (ps_if (pt_cmpR (op_eqqK (K := K) hu rfl) (pe_ix (ix_anyK (K := K) (Pm := w.params) rfl rfl) (pv 1) pe_int (fun _ _ => rfl)) pe_str (nomark _)) (pss_one (ps_ret (pe_op op_plus (pe_op op_plus (pe_slice (sl_any (K := K) rfl) (pv 0) po_none (po_some (pv 2))) (pv 3)) (pe_slice (sl_any (K := K) rfl) (pv 0) (po_some (pv 2)) po_none)))) pss_nil)
      (pss_one (ps_ret (pe_op op_plus (pe_slice (sl_any (K := K) rfl) (pv 0) po_none (po_some (pv 2))) (pe_slice (sl_any (K := K) rfl) (pv 0) (po_some (pe_op op_plus (pv 2) (pe_callB (call_lenK (K := K) rfl) rfl G.n_len bt_len (pa_cons (pv 3) pa_nil)))) po_none))))))), ?_⟩
  refine ⟨_, rfl, .inl (.inr (.inl ⟨p, _, 1, .int i, rfl, rfl, SqT.of hp', rfl, ?_⟩))⟩
  refine ⟨_, rfl, .inl (.inr (.inl ⟨p, _, 2, .str (S pc), rfl, rfl, SqT.of hp', rfl, ?_⟩))⟩
  refine ⟨_, rfl, .inl (.inr (.inl ⟨p, _, 0, .str (dS b), rfl, rfl, SqT.of hp', rfl, .inl ⟨rfl, _, rfl, ?_⟩⟩))⟩
  rw [dS_in]
  cases b with
  | true =>
    rw [due_in i0 i1] at hd
    cases hd
    refine iteT ?_
    refine ⟨_, rfl, _, rfl, i, rfl, .inl ⟨_, rfl, hz, ?_⟩⟩
    rw [S_to i0 i1]
    refine ⟨_, rfl, .inr ⟨_, _, rfl, rfl, sz2 (by rw [List.length_take]; omega), ?_⟩⟩
    refine ⟨_, rfl, _, rfl, i, rfl, .inl ⟨_, rfl, hz, ?_⟩⟩
    rw [S_from i0 i1, S_app]
    refine .inr ⟨_, _, rfl, rfl, sz2 (by rw [List.length_append, List.length_take, List.length_drop]; omega), ?_⟩
    rw [S_app]
    exact q
  | false =>
    rw [due_out i0 i1] at hd
    by_cases e : (u.drop i.toNat).take pc.length = pc
    · rw [if_pos e] at hd
      cases hd
      have room := out_room i0 i1 e
      refine iteF ?_
      refine ⟨_, rfl, _, rfl, i, rfl, .inl ⟨_, rfl, hz, ?_⟩⟩
      rw [S_to i0 i1]
      refine ⟨_, rfl, _, rfl, _, rfl, .str (S pc), pc.length, rfl, len_S (by omega), .inl ⟨_, _, rfl, rfl, _, rfl, .inl ⟨_, rfl, hz, ?_⟩⟩⟩
      rw [S_from (by omega) room, show (i + (pc.length : Int)).toNat = i.toNat + pc.length by omega]
      refine .inr ⟨_, _, rfl, rfl, sz2 (by rw [List.length_take, List.length_drop]; omega), ?_⟩
      rw [S_app]
      exact q
    · rw [if_neg e] at hd
      cases hd

abbrev s_stepped : Stmt := top 31
theorem sc_stepped : FnScope ["word", "step"] ["word", "step"] (defScope s_stepped) := ⟨rfl, rfl, rfl, by decide +kernel, rfl, by decide +kernel, by decide +kernel⟩
theorem ok_stepped {CW CS D : Addr} (X : Exc K mg "BadStep" CS D) (F : Fun K "stepped" "stepped" s_stepped f fd) (c_check_word : CalleeX P w K mg base k "check_word" ["word"] (spChkWX K CW)) (c_can_step : Callee P w K mg base k "can_step" ["word", "step"] (spCanX K)) (c_after_step : Callee P w K mg base k "after_step" ["word", "step"] spAfter) : FnOk P w K mg base (CXb P w) (k + 1) f fd ["word", "step"] (spSteppedX K CW CS) := by
  refine F.okX sc_stepped (fun vs H Q E h => ?_) (fun cdv A outer s H vs Q E hr h => ?_)
  · obtain ⟨x, y, rfl, _⟩ := h; rfl
  obtain ⟨x, y, rfl, h⟩ := h
  refine ⟨_, (pss_cons (ps_expr (pe_callXE c_check_word hr rfl (pa_cons (pv 0) pa_nil)))
      (pss_cons (ps_if (pt_not (pt_val (pe_calls c_can_step hr rfl (pa_cons (pv 0) (pa_cons (pv 1) pa_nil))))) (pss_one (ps_raiseK X.ns X.ex PySem.F.excBase_ValueError rfl (pa_cons pe_str pa_nil))) pss_nil)
      (pss_one (ps_ret (pe_calls c_after_step hr rfl (pa_cons (pv 0) (pa_cons (pv 1) pa_nil))))))), ?_⟩
  have one : 1 ≤ sizeLine := by decide
  rcases h with ⟨h, q⟩ | ⟨u, hu, h⟩
  · exact ⟨_, rfl, x, rfl, .inr ⟨h, q⟩⟩
  · obtain ⟨rfl, hl, hw⟩ := hu
    refine ⟨_, rfl, _, rfl, .inl ⟨⟨u, rfl, hl, hw⟩, fun H1 s1 => ?_⟩⟩
    rcases h with ⟨h | ⟨b, i, pc, h, e⟩, q⟩ | ⟨b, i, pc, v, h, e, q⟩
    · exact ⟨_, rfl, _, rfl, u, y, rfl, hl, .inr ⟨h.same s1, _, rfl, iteT ⟨one, q _ s1⟩⟩⟩
    · refine ⟨_, rfl, _, rfl, u, y, rfl, hl, .inl ⟨b, i, pc, h.same s1, _, rfl, ?_⟩⟩
      rw [e]
      exact iteT ⟨one, q _ s1⟩
    · refine ⟨_, rfl, _, rfl, u, y, rfl, hl, .inl ⟨b, i, pc, h.same s1, _, rfl, ?_⟩⟩
      rw [e]
      refine iteF ?_
      obtain ⟨p, rfl, hp, hpc⟩ := h
      exact ⟨_, rfl, _, rfl, u, p, b, i, pc, v, rfl, s1 _ _ hp, hpc, hl, e, q _ s1⟩

abbrev s_word_to : Stmt := top 51
theorem sc_word_to : FnScope ["one", "other"] ["one", "other"] (defScope s_word_to) := ⟨rfl, rfl, rfl, by decide +kernel, rfl, by decide +kernel, by decide +kernel⟩
theorem ok_word_to {C : Addr} (F : Fun K "word_to" "word_to" s_word_to f fd) (c_check_fraction : CalleeX P w K mg base k "check_fraction" ["fraction"] (spChkFX K C)) : FnOk P w K mg base (CXb P w) (k + 1) f fd ["one", "other"] (spRefF2 K C) := by
  refine F.okX sc_word_to (fun vs H Q E h => ?_) (fun cdv A outer s H vs Q E hr h => ?_)
  · obtain ⟨x, y, rfl, _⟩ := h; rfl
  obtain ⟨x, y, rfl, h, q⟩ := h
  refine ⟨_, (pss_cons (ps_expr (pe_callXE c_check_fraction hr rfl (pa_cons (pv 0) pa_nil))) (pss_cons (ps_expr (pe_callXE c_check_fraction hr rfl (pa_cons (pv 1) pa_nil))) pss_never)), ?_⟩
  rcases h with h | ⟨hw, h⟩
  · exact ⟨_, rfl, x, rfl, .inr ⟨h, q _ (Same.refl _)⟩⟩
  · exact ⟨_, rfl, x, rfl, .inl ⟨hw, _, rfl, y, rfl, .inr ⟨h, q _ (Same.refl _)⟩⟩⟩

abbrev s_is_pair : Stmt := top 52
theorem sc_is_pair : FnScope ["value"] ["value"] (defScope s_is_pair) := ⟨rfl, rfl, rfl, by decide +kernel, rfl, by decide +kernel, by decide +kernel⟩
theorem ok_is_pair (G : Glo mg) (F : Fun K "is_pair" "is_pair" s_is_pair f fd) (c_is_fraction : Callee P w K mg base k "is_fraction" ["value"] (spFracX K)) : FnOk P w K mg base CX0 (k + 1) f fd ["value"] (spPairX K) := by
  refine F.ok sc_is_pair (fun vs H Q E h => ?_) (fun cdv A outer s H vs Q E hr h => ?_)
  · obtain ⟨x, rfl, _⟩ := h; rfl
  obtain ⟨x, rfl, h⟩ := h
  refine ⟨_, (pss_one (ps_ret (pe_and (pe_callB (call_isiK (K := K) rfl) rfl G.n_isinstance bt_isinstance (pa_cons (pv 0) (pa_cons (pe_bltn (v := .ty "tuple") rfl G.n_tuple bt_tuple rfl) pa_nil))) (pe_and (pe_cmpR op_eq (pe_callB (call_lenK (K := K) rfl) rfl G.n_len bt_len (pa_cons (pv 0) pa_nil)) pe_int (nomark _)) (pe_and (pe_calls c_is_fraction hr rfl (pa_cons (pe_ix (ix_tupK (K := K) rfl) (pv 0) pe_int (fun _ _ => rfl)) pa_nil)) (pe_one (pe_calls c_is_fraction hr rfl (pa_cons (pe_ix (ix_tupK (K := K) rfl) (pv 0) pe_int (fun _ _ => rfl)) pa_nil)))))))), ?_⟩
  rcases h with ⟨⟨g, g', p, v, w', rfl, hp, hv, hw⟩, q⟩ | ⟨⟨t, ty, kt⟩ | ⟨p, xs, rfl, hp, h⟩, q⟩
  · refine ⟨_, rfl, _, _, _, _, rfl, .tup hp, kit_same "tuple", _, rfl, ?_⟩
    refine iteT ?_
    refine ⟨_, rfl, .ref p, 2, rfl, .inr ⟨_, SqT.of hp, rfl⟩, ⟨rfl, _, rfl, ?_⟩⟩
    refine iteT ?_
    refine ⟨_, rfl, ⟨p, _, 0, v, rfl, rfl, SqT.of hp, rfl, _, rfl, .inl ⟨⟨g, hv⟩, _, rfl, ?_⟩⟩⟩
    refine iteT ?_
    exact ⟨_, rfl, ⟨p, _, 1, w', rfl, rfl, SqT.of hp, rfl, _, rfl, .inl ⟨⟨g', hw⟩, q⟩⟩⟩
  · refine ⟨_, rfl, _, _, _, _, rfl, ty, kt, _, rfl, ?_⟩
    exact iteF q
  · refine ⟨_, rfl, _, _, _, _, rfl, .tup hp, kit_same "tuple", _, rfl, ?_⟩
    refine iteT ?_
    refine ⟨_, rfl, .ref p, xs.length, rfl, .inr ⟨_, SqT.of hp, rfl⟩, ⟨rfl, _, rfl, ?_⟩⟩
    rw [eqI]
    rcases h with h | ⟨v, w', rfl, h⟩
    · rw [decide_eq_false (show ¬ ((xs.length : Nat) : Int) = 2 by omega)]
      exact iteF q
    · rw [decide_eq_true (show ((([v, w'] : List V).length : Nat) : Int) = 2 from rfl)]
      refine iteT ?_
      rcases h with h | ⟨hg, h⟩
      · exact ⟨_, rfl, ⟨p, _, 0, v, rfl, rfl, SqT.of hp, rfl, _, rfl, .inr ⟨h, _, rfl, iteF q⟩⟩⟩
      · refine ⟨_, rfl, ⟨p, _, 0, v, rfl, rfl, SqT.of hp, rfl, _, rfl, .inl ⟨hg, _, rfl, ?_⟩⟩⟩
        refine iteT ?_
        exact ⟨_, rfl, ⟨p, _, 1, w', rfl, rfl, SqT.of hp, rfl, _, rfl, .inr ⟨h, q⟩⟩⟩

abbrev s_led : Stmt := top 53
theorem sc_led : FnScope ["pair", "other", "there", "here"] ["pair", "other"] (defScope s_led) := ⟨rfl, rfl, rfl, by decide +kernel, rfl, by decide +kernel, by decide +kernel⟩
theorem ok_led {CF CM D : Addr} (XF : Exc K mg "BadFraction" CF D) (XM : Exc K mg "Same" CM D) (F : Fun K "led" "led" s_led f fd) (c_is_pair : Callee P w K mg base k "is_pair" ["value"] (spPairX K)) : FnOk P w K mg base (CXb P w) (k + 1) f fd ["pair", "other"] (spLedX K CF CM) := by
  refine F.okX sc_led (fun vs H Q E h => ?_) (fun cdv A outer s H vs Q E hr h => ?_)
  · obtain ⟨x, y, rfl, _⟩ := h; rfl
  obtain ⟨x, y, rfl, h⟩ := h
  have hu := hr.units
  refine ⟨_, (pss_cons (ps_if (PW.pt (pw_or (pt_not (pt_val (pe_calls c_is_pair hr rfl (pa_cons (pv 0) pa_nil)))) (pw_or1 (pt_not (pt_val (pe_calls c_is_pair hr rfl (pa_cons (pv 1) pa_nil))))))) (pss_one (ps_raiseK XF.ns XF.ex PySem.F.excBase_ValueError rfl (pa_cons pe_str pa_nil))) pss_nil)
      (pss_cons (ps_if (PW.pt (pw_or (pt_cmpR (op_eqDK (K := K) hu rfl) (pe_ix (ix_tupK (K := K) rfl) (pv 0) pe_int (fun _ _ => rfl)) (pe_ix (ix_tupK (K := K) rfl) (pv 0) pe_int (fun _ _ => rfl)) (nomark _)) (pw_or1 (pt_cmpR (op_eqDK (K := K) hu rfl) (pe_ix (ix_tupK (K := K) rfl) (pv 1) pe_int (fun _ _ => rfl)) (pe_ix (ix_tupK (K := K) rfl) (pv 1) pe_int (fun _ _ => rfl)) (nomark _))))) (pss_one (ps_raiseK XM.ns XM.ex PySem.F.excBase_ValueError rfl (pa_cons pe_str pa_nil))) pss_nil) pss_never)), ?_⟩
  have one : 1 ≤ sizeLine := by decide
  rcases h with ⟨h | ⟨⟨g, g', hg⟩, h⟩, q⟩ | ⟨⟨g, g', e, e', hx, hy, h⟩, q⟩
  · exact ⟨_, rfl, x, rfl, .inr ⟨h, _, rfl, iteT (iteT ⟨one, q _ (Same.refl _)⟩)⟩⟩
  · refine ⟨_, rfl, x, rfl, .inl ⟨⟨g, g', hg⟩, _, rfl, ?_⟩⟩
    refine iteF ?_
    exact ⟨_, rfl, y, rfl, .inr ⟨h, _, rfl, iteT ⟨one, q _ (Same.refl _)⟩⟩⟩
  · refine ⟨_, rfl, x, rfl, .inl ⟨⟨g, g', hx⟩, _, rfl, ?_⟩⟩
    refine iteF ?_
    refine ⟨_, rfl, y, rfl, .inl ⟨⟨e, e', hy⟩, _, rfl, ?_⟩⟩
    refine iteF ?_
    obtain ⟨p, v, w', rfl, hp, ⟨pv', rfl, hv, _⟩, ⟨pw', rfl, hw, _⟩⟩ := hx
    obtain ⟨p2, v2, w2, rfl, hp2, ⟨pv2, rfl, hv2, _⟩, ⟨pw2, rfl, hw2, _⟩⟩ := hy
    refine ⟨_, rfl, ⟨p, _, 0, _, rfl, rfl, SqT.of hp, rfl, ?_⟩⟩
    refine ⟨_, rfl, ⟨p, _, 1, _, rfl, rfl, SqT.of hp, rfl, ?_⟩⟩
    refine ⟨fD g, fD g', fD_rd hv, fD_rd hw, fD_depth _, _, rfl, ?_⟩
    show if PyData.eqv (fD g) (fD g') = true then _ else _
    rw [fD_eqv]
    by_cases c : g = g'
    · rw [decide_eq_true c]
      exact iteT (iteT ⟨one, q _ (Same.refl _)⟩)
    · rw [decide_eq_false c]
      refine iteF ?_
      have c2 : e = e' := h.resolve_left c
      refine ⟨_, rfl, ⟨p2, _, 0, _, rfl, rfl, SqT.of hp2, rfl, ?_⟩⟩
      refine ⟨_, rfl, ⟨p2, _, 1, _, rfl, rfl, SqT.of hp2, rfl, ?_⟩⟩
      refine ⟨fD e, fD e', fD_rd hv2, fD_rd hw2, fD_depth _, _, rfl, ?_⟩
      show if PyData.eqv (fD e) (fD e') = true then _ else _
      rw [fD_eqv, decide_eq_true c2]
      exact iteT ⟨one, q _ (Same.refl _)⟩

abbrev s_alike : Stmt := top 69
theorem sc_alike : FnScope ["one", "other", "fraction"] ["one", "other"] (defScope s_alike) := ⟨rfl, rfl, rfl, by decide +kernel, rfl, by decide +kernel, by decide +kernel⟩
theorem ok_alike {C : Addr} (F : Fun K "alike" "alike" s_alike f fd) (c_check_word : CalleeX P w K mg base k "check_word" ["word"] (spChkWX K C)) : FnOk P w K mg base (CXb P w) (k + 1) f fd ["one", "other"] (spRefW2 K C) := by
  refine F.okX sc_alike (fun vs H Q E h => ?_) (fun cdv A outer s H vs Q E hr h => ?_)
  · obtain ⟨x, y, rfl, _⟩ := h; rfl
  obtain ⟨x, y, rfl, h, q⟩ := h
  refine ⟨_, (pss_cons (ps_expr (pe_callXE c_check_word hr rfl (pa_cons (pv 0) pa_nil))) (pss_cons (ps_expr (pe_callXE c_check_word hr rfl (pa_cons (pv 1) pa_nil))) pss_never)), ?_⟩
  rcases h with h | ⟨hw, h⟩
  · exact ⟨_, rfl, x, rfl, .inr ⟨h, q⟩⟩
  · exact ⟨_, rfl, x, rfl, .inl ⟨hw, fun H1 s1 => ⟨_, rfl, y, rfl, .inr ⟨h.same s1, fun H2 s2 => q _ (s1.trans s2)⟩⟩⟩⟩

abbrev s_comes_back : Stmt := top 70
theorem sc_comes_back : FnScope ["dance", "many"] ["dance"] (defScope s_comes_back) := ⟨rfl, rfl, rfl, by decide +kernel, rfl, by decide +kernel, by decide +kernel⟩
theorem ok_comes_back {C : Addr} (F : Fun K "comes_back" "comes_back" s_comes_back f fd) (c_check_word : CalleeX P w K mg base k "check_word" ["word"] (spChkWX K C)) : FnOk P w K mg base (CXb P w) (k + 1) f fd ["dance"] (spRefW K C) := by
  refine F.okX sc_comes_back (fun vs H Q E h => ?_) (fun cdv A outer s H vs Q E hr h => ?_)
  · obtain ⟨x, rfl, _⟩ := h; rfl
  obtain ⟨x, rfl, h, q⟩ := h
  refine ⟨_, (pss_cons (ps_expr (pe_callXE c_check_word hr rfl (pa_cons (pv 0) pa_nil))) pss_never), ?_⟩
  exact ⟨_, rfl, x, rfl, .inr ⟨h, q⟩⟩

abbrev s_elsewhere : Stmt := top 71
theorem sc_elsewhere : FnScope ["one", "other", "first", "second", "behind"] ["one", "other"] (defScope s_elsewhere) := ⟨rfl, rfl, rfl, by decide +kernel, rfl, by decide +kernel, by decide +kernel⟩
theorem ok_elsewhere {C : Addr} (F : Fun K "elsewhere" "elsewhere" s_elsewhere f fd) (c_check_word : CalleeX P w K mg base k "check_word" ["word"] (spChkWX K C)) : FnOk P w K mg base (CXb P w) (k + 1) f fd ["one", "other"] (spRefW2 K C) := by
  refine F.okX sc_elsewhere (fun vs H Q E h => ?_) (fun cdv A outer s H vs Q E hr h => ?_)
  · obtain ⟨x, y, rfl, _⟩ := h; rfl
  obtain ⟨x, y, rfl, h, q⟩ := h
  refine ⟨_, (pss_cons (ps_expr (pe_callXE c_check_word hr rfl (pa_cons (pv 0) pa_nil))) (pss_cons (ps_expr (pe_callXE c_check_word hr rfl (pa_cons (pv 1) pa_nil))) pss_never)), ?_⟩
  rcases h with h | ⟨hw, h⟩
  · exact ⟨_, rfl, x, rfl, .inr ⟨h, q⟩⟩
  · exact ⟨_, rfl, x, rfl, .inl ⟨hw, fun H1 s1 => ⟨_, rfl, y, rfl, .inr ⟨h.same s1, fun H2 s2 => q _ (s1.trans s2)⟩⟩⟩⟩

abbrev s_is_writable : Stmt := top 73
theorem sc_is_writable : FnScope ["fraction"] ["fraction"] (defScope s_is_writable) := ⟨rfl, rfl, rfl, by decide +kernel, rfl, by decide +kernel, by decide +kernel⟩
theorem ok_is_writable (G : Glo mg) (F : Fun K "is_writable" "is_writable" s_is_writable f fd) (c_is_fraction : Callee P w K mg base k "is_fraction" ["value"] (spFracX K)) : FnOk P w K mg base CX0 (k + 1) f fd ["fraction"] (spNotF K) := by
  refine F.ok sc_is_writable (fun vs H Q E h => ?_) (fun cdv A outer s H vs Q E hr h => ?_)
  · obtain ⟨x, rfl, _⟩ := h; rfl
  obtain ⟨x, rfl, h, q⟩ := h
  refine ⟨_, (pss_one (ps_ret (pe_and (pe_calls c_is_fraction hr rfl (pa_cons (pv 0) pa_nil)) (pe_and (pe_cmpR op_lt (pe_callB call_abs rfl G.n_abs bt_abs (pa_cons (pe_ix (ix_tupK (K := K) rfl) (pv 0) pe_int (fun _ _ => rfl)) pa_nil)) (pe_op op_pow pe_int pe_int) (nomark _)) (pe_one (pe_cmpR op_lt (pe_ix (ix_tupK (K := K) rfl) (pv 0) pe_int (fun _ _ => rfl)) (pe_op op_pow pe_int pe_int) (nomark _))))))), ?_⟩
  exact ⟨_, rfl, x, rfl, .inr ⟨h, _, rfl, iteF q⟩⟩

abbrev s_written : Stmt := top 74
theorem sc_written : FnScope ["fraction"] ["fraction"] (defScope s_written) := ⟨rfl, rfl, rfl, by decide +kernel, rfl, by decide +kernel, by decide +kernel⟩
theorem ok_written {C D : Addr} (X : Exc K mg "BadFraction" C D) (F : Fun K "written" "written" s_written f fd) (c_is_writable : Callee P w K mg base k "is_writable" ["fraction"] (spNotF K)) : FnOk P w K mg base (CXb P w) (k + 1) f fd ["fraction"] (spRefF K C) := by
  refine F.okX sc_written (fun vs H Q E h => ?_) (fun cdv A outer s H vs Q E hr h => ?_)
  · obtain ⟨x, rfl, _⟩ := h; rfl
  obtain ⟨x, rfl, h, q⟩ := h
  refine ⟨_, (pss_cons (ps_if (pt_not (pt_val (pe_calls c_is_writable hr rfl (pa_cons (pv 0) pa_nil)))) (pss_one (ps_raiseK X.ns X.ex PySem.F.excBase_ValueError rfl (pa_cons pe_str pa_nil))) pss_nil) pss_never), ?_⟩
  exact ⟨_, rfl, x, rfl, h, _, rfl, iteT ⟨by show 1 ≤ sizeLine; decide, q _ (Same.refl _)⟩⟩

end
end K10

set_option Elab.async false
set_option linter.all false
set_option maxRecDepth 100000
set_option maxHeartbeats 4000000
namespace K10
open PySem L2 TW TX
seal L2.PE L2.PT L2.PA L2.PS L2.PSs L2.PI L2.PG L2.PGs L2.PW L2.PTs L2.PO
section
variable {P : Program} {w : World} {K : PySem.W.Frag} {mg : Str → Option Value} {base : Heap} {f : Addr} {fd : FuncData} {k : Nat}
abbrev s_law_kinds : Stmt := top 76
theorem sc_law_kinds : FnScope ["_law_error", "_law_found"] ["_law_error"] (defScope s_law_kinds) := ⟨rfl, rfl, rfl, by decide +kernel, rfl, by decide +kernel, by decide +kernel⟩
theorem ok_law_kinds {W Fr S M T D : Addr} (G : Glo mg) (Z : Four5 K mg W Fr S M T D) (F : Fun K "_law_kinds" "_law_kinds" s_law_kinds f fd) : FnOkH P w K mg base (k + 1) f fd ["_law_error"] (spKinds W Fr S M) := by
  refine F.okH sc_law_kinds (fun vs H Q E h => ?_) (fun cdv A outer s H vs Q h => ?_)
  · obtain ⟨a, j, rfl, _⟩ := h; rfl
  obtain ⟨a, j, rfl, hj, ha, q⟩ := h
  have nd := sc_law_kinds.nd
  obtain ⟨xc, k1, k2, k3, k4, k5, k6, _⟩ := Z.kits hj
  refine ⟨_, (pss_cons (ps_set (i := 1) nd rfl (Or.inl rfl) (pe_lst (pa_cons (pe_callB (call_isxK (K := K) rfl) rfl G.n_isinstance bt_isinstance (pa_cons (pv 0) (pa_cons (pe_glob (v := .ref W) rfl Z.w.m rfl) pa_nil))) (pa_cons (pe_callB (call_isxK (K := K) rfl) rfl G.n_isinstance bt_isinstance (pa_cons (pv 0) (pa_cons (pe_glob (v := .ref Fr) rfl Z.f.m rfl) pa_nil))) (pa_cons (pe_callB (call_isxK (K := K) rfl) rfl G.n_isinstance bt_isinstance (pa_cons (pv 0) (pa_cons (pe_glob (v := .ref S) rfl Z.s.m rfl) pa_nil))) pa_nil)))))
      (pss_one (ps_ret (pe_op op_cat (pv 1) (pe_lst (pa_cons (pe_callB (call_isxK (K := K) rfl) rfl G.n_isinstance bt_isinstance (pa_cons (pv 0) (pa_cons (pe_glob (v := .ref M) rfl Z.m.m rfl) pa_nil))) (pa_cons (pe_callB (call_isxK (K := K) rfl) rfl G.n_isinstance bt_isinstance (pa_cons (pv 0) (pa_cons (pe_glob (v := .ref T) rfl Z.t rfl) pa_nil))) (pa_cons (pe_callB (call_isxTK (K := K) rfl) rfl G.n_isinstance bt_isinstance (pa_cons (pv 0) (pa_cons (pe_bltn (v := .ty "ValueError") rfl Z.v bt_ValueError rfl) pa_nil))) pa_nil)))))))), ?_⟩
  refine ⟨_, rfl, a, _, W, _, rfl, ha, xc, k1, ?_⟩
  refine ⟨_, rfl, a, _, Fr, _, rfl, ha, xc, k2, ?_⟩
  refine ⟨_, rfl, a, _, S, _, rfl, ha, xc, k3, ?_⟩
  refine ⟨three_ok, fun l1 h1 => ?_⟩
  generalize hE1 : upd H l1 _ = H1
  have s1 := same_gen h1 hE1
  have e1 := at_gen hE1
  clear hE1
  have ha1 := s1 _ _ ha
  refine ⟨_, rfl, _, rfl, a, _, M, _, rfl, ha1, xc, k4, ?_⟩
  refine ⟨_, rfl, a, _, T, _, rfl, ha1, xc, k5, ?_⟩
  refine ⟨_, rfl, a, _, "ValueError", _, rfl, ha1, xc, k6, ?_⟩
  refine ⟨three_ok, fun l2 h2 => ⟨l1, l2, _, _, rfl, rfl, same_new h2 _ _ _ e1, upd_same, small (show 6 ≤ 1000 by decide), fun l3 h3 => ?_⟩⟩
  exact q l3 _ (s1.trans ((same_new h2 _).trans (same_new h3 _))) upd_same

abbrev s_law_ask : Stmt := top 78
theorem sc_law_ask : FnScope ["_law_door", "_law_thing", "_law_good", "_law_pair"] ["_law_door", "_law_thing"] (defScope s_law_ask) := ⟨rfl, rfl, rfl, by decide +kernel, rfl, by decide +kernel, by decide +kernel⟩
theorem ok_law_ask {W Fr S M : Addr} (F : Fun K "_law_ask" "_law_ask" s_law_ask f fd) (c_back : CalleeX P w K mg base k "back" ["word"] (spRefW K W)) (c_comes_back : CalleeX P w K mg base k "comes_back" ["dance"] (spRefW K W)) (c_written : CalleeX P w K mg base k "written" ["fraction"] (spRefF K Fr))
    (c_danced : CalleeX P w K mg base k "danced" ["word", "fraction"] (spDancedX K W Fr)) (c_alike : CalleeX P w K mg base k "alike" ["one", "other"] (spRefW2 K W)) (c_elsewhere : CalleeX P w K mg base k "elsewhere" ["one", "other"] (spRefW2 K W))
    (c_stepped : CalleeX P w K mg base k "stepped" ["word", "step"] (spSteppedX K W S)) (c_word_to : CalleeX P w K mg base k "word_to" ["one", "other"] (spRefF2 K Fr)) (c_led : CalleeX P w K mg base k "led" ["pair", "other"] (spLedX K Fr M)) : FnOk P w K mg base (CXb P w) (k + 1) f fd ["_law_door", "_law_thing"] (spAsk K W Fr S M) := by
  refine F.okX sc_law_ask (fun vs H Q E h => ?_) (fun cdv A outer s H vs Q E hr h => ?_)
  · obtain ⟨d, x, j, rfl, _⟩ := h; rfl
  obtain ⟨d, x, j, rfl, hb, q⟩ := h
  have nd := sc_law_ask.nd
  obtain ⟨fB, fdB, FB, mB, kB, bB⟩ := c_back.ex
  obtain ⟨fC, fdC, FC, mC, kC, bC⟩ := c_comes_back.ex
  obtain ⟨fN, fdN, FN, mN, kN, bN⟩ := c_written.ex
  have hk : ∀ f, (f = fB ∨ f = fC ∨ f = fN) → PySem.W.keepIn K (.ref f) = true := fun f z => by
    rcases z with rfl | rfl | rfl
    · exact kB
    · exact kC
    · exact kN
  have hF : ∀ (f' : Addr) (vs : List V) (H : Hp) (Q : VK), (f' = fB ∨ f' = fC ∨ f' = fN) → ((f' = fB ∧ spRefW K W vs H Q E) ∨ (f' = fC ∧ spRefW K W vs H Q E) ∨ (f' = fN ∧ spRefF K Fr vs H Q E)) → ∃ (k' : Nat) (fd' : FuncData) (ps : List Str) (sp' : Sp), FnOk P w K mg base (CXb P w) k' f' fd' ps sp' ∧ Room k' (A.deeper (PyProof.Rows.envOfC "_law_ask" (defScope s_law_ask) s.heap.objs.size f cdv)) ∧ Binds K fd' ps [] ∧ sp' (vs ++ []) H Q E := fun f' vs H Q _ z => by
    rw [List.append_nil]
    rcases z with ⟨rfl, z⟩ | ⟨rfl, z⟩ | ⟨rfl, z⟩
    · exact ⟨k, fdB, _, _, FB, hr, bB, z⟩
    · exact ⟨k, fdC, _, _, FC, hr, bC, z⟩
    · exact ⟨k, fdN, _, _, FN, hr, bN, z⟩
  refine ⟨_, (pss_cons (ps_set (i := 2) nd rfl (Or.inl rfl) (pe_tup (pa_cons pe_int (pa_cons pe_int pa_nil))))
      (pss_cons (ps_if (pt_cmpR op_lt (pv 0) pe_int (nomark _)) (pss_one (ps_ret (pe_ifExp (pt_cmpR op_gt (pv 0) pe_int (nomark _)) (pe_callE (R := fun f => f = fB ∨ f = fC ∨ f = fN) (sp := fun f vs H Q => (f = fB ∧ spRefW K W vs H Q E) ∨ (f = fC ∧ spRefW K W vs H Q E) ∨ (f = fN ∧ spRefF K Fr vs H Q E)) (pe_ix (ix_anyK (K := K) (Pm := w.params) rfl rfl) (pe_lst (pa_cons (pe_glob (v := .ref fB) rfl mB rfl) (pa_cons (pe_glob (v := .ref fC) rfl mC rfl) (pa_cons (pe_glob (v := .ref fN) rfl mN rfl) pa_nil)))) (pe_op op_sub (pv 0) pe_int) (fun _ _ => rfl)) hk hF (pass_cx fun _ _ z => z) (pa_cons (pv 1) pa_nil)) (pe_callXE c_danced hr rfl (pa_cons (pv 1) (pa_cons (pe_ix (ix_anyK (K := K) (Pm := w.params) rfl rfl) (pe_tup (pa_cons pe_non (pa_cons (pe_tup (pa_cons pe_int (pa_cons pe_int pa_nil))) pa_nil))) (pv 0) (fun _ _ => rfl)) pa_nil)))))) pss_nil)
      (pss_cons (ps_if (pt_cmpR op_lt (pv 0) pe_int (nomark _)) (pss_cons (ps_set (i := 3) nd rfl (Or.inl rfl) (pe_ix (ix_anyK (K := K) (Pm := w.params) rfl rfl) (pe_lst (pa_cons (pe_lst (pa_cons (pv 1) (pa_cons pe_str pa_nil))) (pa_cons (pe_lst (pa_cons pe_str (pa_cons (pv 1) pa_nil))) pa_nil))) (pe_op op_mod (pv 0) pe_int) (fun _ _ => rfl)))
      (pss_one (ps_ret (pe_ifExp (pt_cmpR op_lt (pv 0) pe_int (nomark _)) (pe_callXE c_alike hr rfl (pa_cons (pe_ix (ix_anyK (K := K) (Pm := w.params) rfl rfl) (pv 3) pe_int (fun _ _ => rfl)) (pa_cons (pe_ix (ix_anyK (K := K) (Pm := w.params) rfl rfl) (pv 3) pe_int (fun _ _ => rfl)) pa_nil))) (pe_callXE c_elsewhere hr rfl (pa_cons (pe_ix (ix_anyK (K := K) (Pm := w.params) rfl rfl) (pv 3) pe_int (fun _ _ => rfl)) (pa_cons (pe_ix (ix_anyK (K := K) (Pm := w.params) rfl rfl) (pv 3) pe_int (fun _ _ => rfl)) pa_nil))))))) pss_nil)
      (pss_cons (ps_if (pt_cmpR op_eq (pv 0) pe_int (nomark _)) (pss_one (ps_ret (pe_callXE c_stepped hr rfl (pa_cons (pv 1) (pa_cons pe_non pa_nil))))) pss_nil)
      (pss_cons (ps_if (pt_cmpR op_eq (pv 0) pe_int (nomark _)) (pss_one (ps_ret (pe_callXE c_danced hr rfl (pa_cons pe_str (pa_cons (pv 1) pa_nil))))) pss_nil)
      (pss_cons (ps_if (pt_cmpR op_lt (pv 0) pe_int (nomark _)) (pss_one (ps_ret (pe_ifExp (pt_cmpR op_eq (pv 0) pe_int (nomark _)) (pe_callXE c_word_to hr rfl (pa_cons (pv 1) (pa_cons (pv 2) pa_nil))) (pe_callXE c_word_to hr rfl (pa_cons (pv 2) (pa_cons (pv 1) pa_nil)))))) pss_nil)
      (pss_cons (ps_if (pt_cmpR op_lt (pv 0) pe_int (nomark _)) (pss_one (ps_ret (pe_ifExp (pt_cmpR op_eq (pv 0) pe_int (nomark _)) (pe_callXE c_led hr rfl (pa_cons (pv 1) (pa_cons (pe_tup (pa_cons (pv 2) (pa_cons (pv 2) pa_nil))) pa_nil))) (pe_callXE c_led hr rfl (pa_cons (pe_tup (pa_cons (pv 2) (pa_cons (pv 2) pa_nil))) (pa_cons (pv 1) pa_nil)))))) pss_nil)
      (pss_one (ps_ret (pe_ifExp (pt_cmpR op_eq (pv 0) pe_int (nomark _)) (pe_callXE c_stepped hr rfl (pa_cons pe_str (pa_cons (pv 1) pa_nil))) (pe_callXE c_led hr rfl (pa_cons (pe_tup (pa_cons (pv 2) (pa_cons (pe_tup (pa_cons pe_int (pa_cons pe_int pa_nil))) pa_nil))) (pa_cons (pv 1) pa_nil))))))))))))), ?_⟩
  refine ⟨two_ok, fun g hg => ?_⟩
  generalize hE1 : upd H g _ = H1
  have s1 := same_gen hg hE1
  have eg := at_gen hE1
  clear hE1
  have hG : Fr1 H1 (.ref g) (1, 2) := ⟨g, rfl, eg, by decide⟩
  have good_t : GoodW (.str "t") [116] := ⟨by rw [lit_t], by decide, by decide⟩
  have good_turr : GoodW (.str "turr") turr := ⟨by rw [lit_turr]; rfl, by decide, by decide⟩
  rcases hb with ⟨rfl, hd, hw⟩ | ⟨rfl, hd, hw⟩ | ⟨rfl, hd, hw⟩ | ⟨rfl, rfl, hw⟩ | ⟨rfl, hd⟩
  · rcases hd with rfl | rfl | rfl | rfl | rfl | rfl | rfl | rfl | rfl
    · refine ⟨_, rfl, _, _, rfl, rfl, _, rfl, iteT ?_⟩
      refine ⟨_, rfl, _, _, rfl, rfl, _, rfl, iteF ?_⟩
      refine ⟨_, rfl, two_ok, fun l1 h1 => ⟨two_ok, fun l2 h2 => ⟨_, rfl, .inl (.inr (.inl ⟨l2, _, _, _, rfl, rfl, SqT.of upd_same, rfl, ?_⟩))⟩⟩⟩
      exact ⟨x, _, rfl, .inl ⟨(hw.same s1).same ((same_new h1 _).trans (same_new h2 _)), fun H' hs => q _ (s1.trans ((same_new h1 _).trans ((same_new h2 _).trans hs)))⟩⟩
    · refine ⟨_, rfl, _, _, rfl, rfl, _, rfl, iteT ?_⟩
      refine ⟨_, rfl, _, _, rfl, rfl, _, rfl, iteF ?_⟩
      refine ⟨_, rfl, two_ok, fun l1 h1 => ⟨two_ok, fun l2 h2 => ⟨_, rfl, .inl (.inr (.inl ⟨l2, _, _, _, rfl, rfl, SqT.of upd_same, rfl, ?_⟩))⟩⟩⟩
      exact ⟨x, _, rfl, .inl ⟨(hw.same s1).same ((same_new h1 _).trans (same_new h2 _)), fun H' hs => q _ (s1.trans ((same_new h1 _).trans ((same_new h2 _).trans hs)))⟩⟩
    · refine ⟨_, rfl, _, _, rfl, rfl, _, rfl, iteT ?_⟩
      refine ⟨_, rfl, _, _, rfl, rfl, _, rfl, iteT ?_⟩
      refine ⟨three_ok, fun l hl => ⟨_, rfl, _, _, rfl, rfl, .inl (.inl ⟨l, _, _, _, rfl, rfl, SqL.of upd_same, rfl, ?_⟩)⟩⟩
      exact ⟨fB, rfl, .inl rfl, _, rfl, .inl ⟨rfl, x, rfl, (hw.same s1).same (same_new hl _), fun H' hs => q _ (s1.trans ((same_new hl _).trans hs))⟩⟩
    · refine ⟨_, rfl, _, _, rfl, rfl, _, rfl, iteT ?_⟩
      refine ⟨_, rfl, _, _, rfl, rfl, _, rfl, iteT ?_⟩
      refine ⟨three_ok, fun l hl => ⟨_, rfl, _, _, rfl, rfl, .inl (.inl ⟨l, _, _, _, rfl, rfl, SqL.of upd_same, rfl, ?_⟩)⟩⟩
      exact ⟨fC, rfl, .inr (.inl rfl), _, rfl, .inr <| .inl ⟨rfl, x, rfl, (hw.same s1).same (same_new hl _), fun H' hs => q _ (s1.trans ((same_new hl _).trans hs))⟩⟩
    · refine ⟨_, rfl, _, _, rfl, rfl, _, rfl, iteF ?_⟩
      refine ⟨_, rfl, _, _, rfl, rfl, _, rfl, iteT ?_⟩
      refine ⟨_, rfl, two_ok, fun l1 h1 => ⟨_, rfl, two_ok, fun l2 h2 => ⟨two_ok, fun l3 h3 => ⟨_, rfl, _, _, rfl, rfl, by show (0 : Int) < 2; decide, .inl (.inl ⟨l3, _, _, _, rfl, rfl, SqL.of upd_same, rfl, ?_⟩)⟩⟩⟩⟩
      have s4 := (same_new h1 (.lst [x, .str "t"])).trans ((same_new h2 (.lst [.str "t", x])).trans (same_new h3 (.lst [.ref l1, .ref l2])))
      have e1 := ((same_new h2 (.lst [.str "t", x])).trans (same_new h3 (.lst [.ref l1, .ref l2]))) _ _ (@upd_same H1 l1 (.lst [x, .str "t"]))
      have e2 := (same_new h3 (.lst [.ref l1, .ref l2])) _ _ (@upd_same (upd H1 l1 (.lst [x, .str "t"])) l2 (.lst [.str "t", x]))
      refine ⟨_, rfl, _, _, rfl, rfl, _, rfl, iteT ?_⟩
      refine ⟨_, rfl, .inl (.inl ⟨l2, _, 0, _, rfl, rfl, SqL.of e2, rfl, ?_⟩)⟩
      refine ⟨_, rfl, .inl (.inl ⟨l2, _, 1, _, rfl, rfl, SqL.of e2, rfl, ?_⟩)⟩
      exact ⟨_, x, rfl, .inr ⟨⟨_, good_t⟩, (hw.same s1).same s4⟩, fun H' hs => q _ (s1.trans (s4.trans hs))⟩
    · refine ⟨_, rfl, _, _, rfl, rfl, _, rfl, iteF ?_⟩
      refine ⟨_, rfl, _, _, rfl, rfl, _, rfl, iteT ?_⟩
      refine ⟨_, rfl, two_ok, fun l1 h1 => ⟨_, rfl, two_ok, fun l2 h2 => ⟨two_ok, fun l3 h3 => ⟨_, rfl, _, _, rfl, rfl, by show (0 : Int) < 2; decide, .inl (.inl ⟨l3, _, _, _, rfl, rfl, SqL.of upd_same, rfl, ?_⟩)⟩⟩⟩⟩
      have s4 := (same_new h1 (.lst [x, .str "t"])).trans ((same_new h2 (.lst [.str "t", x])).trans (same_new h3 (.lst [.ref l1, .ref l2])))
      have e1 := ((same_new h2 (.lst [.str "t", x])).trans (same_new h3 (.lst [.ref l1, .ref l2]))) _ _ (@upd_same H1 l1 (.lst [x, .str "t"]))
      have e2 := (same_new h3 (.lst [.ref l1, .ref l2])) _ _ (@upd_same (upd H1 l1 (.lst [x, .str "t"])) l2 (.lst [.str "t", x]))
      refine ⟨_, rfl, _, _, rfl, rfl, _, rfl, iteT ?_⟩
      refine ⟨_, rfl, .inl (.inl ⟨l1, _, 0, _, rfl, rfl, SqL.of e1, rfl, ?_⟩)⟩
      refine ⟨_, rfl, .inl (.inl ⟨l1, _, 1, _, rfl, rfl, SqL.of e1, rfl, ?_⟩)⟩
      exact ⟨x, _, rfl, .inl ((hw.same s1).same s4), fun H' hs => q _ (s1.trans (s4.trans hs))⟩
    · refine ⟨_, rfl, _, _, rfl, rfl, _, rfl, iteF ?_⟩
      refine ⟨_, rfl, _, _, rfl, rfl, _, rfl, iteT ?_⟩
      refine ⟨_, rfl, two_ok, fun l1 h1 => ⟨_, rfl, two_ok, fun l2 h2 => ⟨two_ok, fun l3 h3 => ⟨_, rfl, _, _, rfl, rfl, by show (0 : Int) < 2; decide, .inl (.inl ⟨l3, _, _, _, rfl, rfl, SqL.of upd_same, rfl, ?_⟩)⟩⟩⟩⟩
      have s4 := (same_new h1 (.lst [x, .str "t"])).trans ((same_new h2 (.lst [.str "t", x])).trans (same_new h3 (.lst [.ref l1, .ref l2])))
      have e1 := ((same_new h2 (.lst [.str "t", x])).trans (same_new h3 (.lst [.ref l1, .ref l2]))) _ _ (@upd_same H1 l1 (.lst [x, .str "t"]))
      have e2 := (same_new h3 (.lst [.ref l1, .ref l2])) _ _ (@upd_same (upd H1 l1 (.lst [x, .str "t"])) l2 (.lst [.str "t", x]))
      refine ⟨_, rfl, _, _, rfl, rfl, _, rfl, iteF ?_⟩
      refine ⟨_, rfl, .inl (.inl ⟨l2, _, 0, _, rfl, rfl, SqL.of e2, rfl, ?_⟩)⟩
      refine ⟨_, rfl, .inl (.inl ⟨l2, _, 1, _, rfl, rfl, SqL.of e2, rfl, ?_⟩)⟩
      exact ⟨_, x, rfl, .inr ⟨⟨_, good_t⟩, (hw.same s1).same s4⟩, fun H' hs => q _ (s1.trans (s4.trans hs))⟩
    · refine ⟨_, rfl, _, _, rfl, rfl, _, rfl, iteF ?_⟩
      refine ⟨_, rfl, _, _, rfl, rfl, _, rfl, iteT ?_⟩
      refine ⟨_, rfl, two_ok, fun l1 h1 => ⟨_, rfl, two_ok, fun l2 h2 => ⟨two_ok, fun l3 h3 => ⟨_, rfl, _, _, rfl, rfl, by show (0 : Int) < 2; decide, .inl (.inl ⟨l3, _, _, _, rfl, rfl, SqL.of upd_same, rfl, ?_⟩)⟩⟩⟩⟩
      have s4 := (same_new h1 (.lst [x, .str "t"])).trans ((same_new h2 (.lst [.str "t", x])).trans (same_new h3 (.lst [.ref l1, .ref l2])))
      have e1 := ((same_new h2 (.lst [.str "t", x])).trans (same_new h3 (.lst [.ref l1, .ref l2]))) _ _ (@upd_same H1 l1 (.lst [x, .str "t"]))
      have e2 := (same_new h3 (.lst [.ref l1, .ref l2])) _ _ (@upd_same (upd H1 l1 (.lst [x, .str "t"])) l2 (.lst [.str "t", x]))
      refine ⟨_, rfl, _, _, rfl, rfl, _, rfl, iteF ?_⟩
      refine ⟨_, rfl, .inl (.inl ⟨l1, _, 0, _, rfl, rfl, SqL.of e1, rfl, ?_⟩)⟩
      refine ⟨_, rfl, .inl (.inl ⟨l1, _, 1, _, rfl, rfl, SqL.of e1, rfl, ?_⟩)⟩
      exact ⟨x, _, rfl, .inl ((hw.same s1).same s4), fun H' hs => q _ (s1.trans (s4.trans hs))⟩
    · refine ⟨_, rfl, _, _, rfl, rfl, _, rfl, iteF ?_⟩
      refine ⟨_, rfl, _, _, rfl, rfl, _, rfl, iteF ?_⟩
      refine ⟨_, rfl, rfl, _, rfl, iteT ?_⟩
      exact ⟨_, rfl, x, _, rfl, .inl ⟨hw.same s1, fun H' hs => q _ (s1.trans hs)⟩⟩
  · rcases hd with rfl | rfl | rfl | rfl
    · refine ⟨_, rfl, _, _, rfl, rfl, _, rfl, iteT ?_⟩
      refine ⟨_, rfl, _, _, rfl, rfl, _, rfl, iteT ?_⟩
      refine ⟨three_ok, fun l hl => ⟨_, rfl, _, _, rfl, rfl, .inl (.inl ⟨l, _, _, _, rfl, rfl, SqL.of upd_same, rfl, ?_⟩)⟩⟩
      exact ⟨fN, rfl, .inr (.inr rfl), _, rfl, .inr (.inr ⟨rfl, x, rfl, (hw.same s1).same (same_new hl _), fun H' hs => q _ (s1.trans ((same_new hl _).trans hs))⟩)⟩
    · refine ⟨_, rfl, _, _, rfl, rfl, _, rfl, iteF ?_⟩
      refine ⟨_, rfl, _, _, rfl, rfl, _, rfl, iteF ?_⟩
      refine ⟨_, rfl, rfl, _, rfl, iteF ?_⟩
      refine ⟨_, rfl, rfl, _, rfl, iteT ?_⟩
      exact ⟨_, rfl, _, x, rfl, .inr ⟨⟨_, good_t⟩, hw.same s1, fun H' hs => q _ (s1.trans hs)⟩⟩
    · refine ⟨_, rfl, _, _, rfl, rfl, _, rfl, iteF ?_⟩
      refine ⟨_, rfl, _, _, rfl, rfl, _, rfl, iteF ?_⟩
      refine ⟨_, rfl, rfl, _, rfl, iteF ?_⟩
      refine ⟨_, rfl, rfl, _, rfl, iteF ?_⟩
      refine ⟨_, rfl, _, _, rfl, rfl, _, rfl, iteT ?_⟩
      refine ⟨_, rfl, rfl, _, rfl, iteT ?_⟩
      exact ⟨_, rfl, _, rfl, x, _, rfl, .inl (hw.same s1), fun H' hs => q _ (s1.trans hs)⟩
    · refine ⟨_, rfl, _, _, rfl, rfl, _, rfl, iteF ?_⟩
      refine ⟨_, rfl, _, _, rfl, rfl, _, rfl, iteF ?_⟩
      refine ⟨_, rfl, rfl, _, rfl, iteF ?_⟩
      refine ⟨_, rfl, rfl, _, rfl, iteF ?_⟩
      refine ⟨_, rfl, _, _, rfl, rfl, _, rfl, iteT ?_⟩
      refine ⟨_, rfl, rfl, _, rfl, iteF ?_⟩
      exact ⟨_, rfl, _, rfl, _, x, rfl, .inr ⟨⟨_, hG⟩, hw.same s1⟩, fun H' hs => q _ (s1.trans hs)⟩
  · rcases hd with rfl | rfl | rfl
    · refine ⟨_, rfl, _, _, rfl, rfl, _, rfl, iteF ?_⟩
      refine ⟨_, rfl, _, _, rfl, rfl, _, rfl, iteF ?_⟩
      refine ⟨_, rfl, rfl, _, rfl, iteF ?_⟩
      refine ⟨_, rfl, rfl, _, rfl, iteF ?_⟩
      refine ⟨_, rfl, _, _, rfl, rfl, _, rfl, iteF ?_⟩
      refine ⟨_, rfl, _, _, rfl, rfl, _, rfl, iteT ?_⟩
      refine ⟨_, rfl, rfl, _, rfl, iteT ?_⟩
      refine ⟨_, rfl, _, rfl, _, rfl, two_ok, fun l hl => ?_⟩
      have s2 := same_new hl (.tup [.ref g, .ref g])
      have hP : Pair1 (upd H1 l (.tup [.ref g, .ref g])) (.ref l) (1, 2) (1, 2) := ⟨l, _, _, rfl, upd_same, hG.same s2, hG.same s2⟩
      exact ⟨x, _, rfl, .inl ⟨.inl ((hw.same s1).same s2), fun H' hs => q _ (s1.trans (s2.trans hs))⟩⟩
    · refine ⟨_, rfl, _, _, rfl, rfl, _, rfl, iteF ?_⟩
      refine ⟨_, rfl, _, _, rfl, rfl, _, rfl, iteF ?_⟩
      refine ⟨_, rfl, rfl, _, rfl, iteF ?_⟩
      refine ⟨_, rfl, rfl, _, rfl, iteF ?_⟩
      refine ⟨_, rfl, _, _, rfl, rfl, _, rfl, iteF ?_⟩
      refine ⟨_, rfl, _, _, rfl, rfl, _, rfl, iteT ?_⟩
      refine ⟨_, rfl, rfl, _, rfl, iteF ?_⟩
      refine ⟨_, rfl, _, rfl, two_ok, fun l hl => ?_⟩
      have s2 := same_new hl (.tup [.ref g, .ref g])
      have hP : Pair1 (upd H1 l (.tup [.ref g, .ref g])) (.ref l) (1, 2) (1, 2) := ⟨l, _, _, rfl, upd_same, hG.same s2, hG.same s2⟩
      exact ⟨_, rfl, _, x, rfl, .inl ⟨.inr ⟨⟨_, _, hP⟩, (hw.same s1).same s2⟩, fun H' hs => q _ (s1.trans (s2.trans hs))⟩⟩
    · refine ⟨_, rfl, _, _, rfl, rfl, _, rfl, iteF ?_⟩
      refine ⟨_, rfl, _, _, rfl, rfl, _, rfl, iteF ?_⟩
      refine ⟨_, rfl, rfl, _, rfl, iteF ?_⟩
      refine ⟨_, rfl, rfl, _, rfl, iteF ?_⟩
      refine ⟨_, rfl, _, _, rfl, rfl, _, rfl, iteF ?_⟩
      refine ⟨_, rfl, _, _, rfl, rfl, _, rfl, iteF ?_⟩
      refine ⟨_, rfl, rfl, _, rfl, iteF ?_⟩
      refine ⟨_, rfl, two_ok, fun l0 hl0 => ⟨two_ok, fun l hl => ?_⟩⟩
      have s2 := (same_new hl0 (.tup [.int 0, .int 1])).trans (same_new hl (.tup [.ref g, .ref l0]))
      have hP : Pair1 (upd (upd H1 l0 (.tup [.int 0, .int 1])) l (.tup [.ref g, .ref l0])) (.ref l) (1, 2) (0, 1) := ⟨l, _, _, rfl, upd_same, hG.same s2, ⟨l0, rfl, same_new hl _ _ _ upd_same, F_nought⟩⟩
      exact ⟨_, rfl, _, x, rfl, .inl ⟨.inr ⟨⟨_, _, hP⟩, (hw.same s1).same s2⟩, fun H' hs => q _ (s1.trans (s2.trans hs))⟩⟩
  · refine ⟨_, rfl, _, _, rfl, rfl, _, rfl, iteF ?_⟩
    refine ⟨_, rfl, _, _, rfl, rfl, _, rfl, iteF ?_⟩
    refine ⟨_, rfl, rfl, _, rfl, iteF ?_⟩
    refine ⟨_, rfl, rfl, _, rfl, iteF ?_⟩
    refine ⟨_, rfl, _, _, rfl, rfl, _, rfl, iteF ?_⟩
    refine ⟨_, rfl, _, _, rfl, rfl, _, rfl, iteF ?_⟩
    refine ⟨_, rfl, rfl, _, rfl, iteT ?_⟩
    exact ⟨_, rfl, _, x, rfl, .inr ⟨turr, good_turr, .inl ⟨hw.same s1, fun H' hs => q _ (s1.trans hs)⟩⟩⟩
  · rcases hd with ⟨rfl, a, b, hw⟩ | ⟨rfl, a, b, hw⟩ | ⟨rfl, a, hw⟩
    · refine ⟨_, rfl, _, _, rfl, rfl, _, rfl, iteF ?_⟩
      refine ⟨_, rfl, _, _, rfl, rfl, _, rfl, iteF ?_⟩
      refine ⟨_, rfl, rfl, _, rfl, iteF ?_⟩
      refine ⟨_, rfl, rfl, _, rfl, iteF ?_⟩
      refine ⟨_, rfl, _, _, rfl, rfl, _, rfl, iteF ?_⟩
      refine ⟨_, rfl, _, _, rfl, rfl, _, rfl, iteT ?_⟩
      refine ⟨_, rfl, rfl, _, rfl, iteT ?_⟩
      refine ⟨_, rfl, _, rfl, _, rfl, two_ok, fun l hl => ?_⟩
      have s2 := same_new hl (.tup [.ref g, .ref g])
      have hP : Pair1 (upd H1 l (.tup [.ref g, .ref g])) (.ref l) (1, 2) (1, 2) := ⟨l, _, _, rfl, upd_same, hG.same s2, hG.same s2⟩
      exact ⟨x, _, rfl, .inr ⟨⟨_, _, _, _, (hw.same s1).same s2, hP, .inr rfl⟩, fun H' hs => q _ (s1.trans (s2.trans hs))⟩⟩
    · refine ⟨_, rfl, _, _, rfl, rfl, _, rfl, iteF ?_⟩
      refine ⟨_, rfl, _, _, rfl, rfl, _, rfl, iteF ?_⟩
      refine ⟨_, rfl, rfl, _, rfl, iteF ?_⟩
      refine ⟨_, rfl, rfl, _, rfl, iteF ?_⟩
      refine ⟨_, rfl, _, _, rfl, rfl, _, rfl, iteF ?_⟩
      refine ⟨_, rfl, _, _, rfl, rfl, _, rfl, iteT ?_⟩
      refine ⟨_, rfl, rfl, _, rfl, iteF ?_⟩
      refine ⟨_, rfl, _, rfl, two_ok, fun l hl => ?_⟩
      have s2 := same_new hl (.tup [.ref g, .ref g])
      have hP : Pair1 (upd H1 l (.tup [.ref g, .ref g])) (.ref l) (1, 2) (1, 2) := ⟨l, _, _, rfl, upd_same, hG.same s2, hG.same s2⟩
      exact ⟨_, rfl, _, x, rfl, .inr ⟨⟨_, _, _, _, hP, (hw.same s1).same s2, .inl rfl⟩, fun H' hs => q _ (s1.trans (s2.trans hs))⟩⟩
    · refine ⟨_, rfl, _, _, rfl, rfl, _, rfl, iteF ?_⟩
      refine ⟨_, rfl, _, _, rfl, rfl, _, rfl, iteF ?_⟩
      refine ⟨_, rfl, rfl, _, rfl, iteF ?_⟩
      refine ⟨_, rfl, rfl, _, rfl, iteF ?_⟩
      refine ⟨_, rfl, _, _, rfl, rfl, _, rfl, iteF ?_⟩
      refine ⟨_, rfl, _, _, rfl, rfl, _, rfl, iteF ?_⟩
      refine ⟨_, rfl, rfl, _, rfl, iteF ?_⟩
      refine ⟨_, rfl, two_ok, fun l0 hl0 => ⟨two_ok, fun l hl => ?_⟩⟩
      have s2 := (same_new hl0 (.tup [.int 0, .int 1])).trans (same_new hl (.tup [.ref g, .ref l0]))
      have hP : Pair1 (upd (upd H1 l0 (.tup [.int 0, .int 1])) l (.tup [.ref g, .ref l0])) (.ref l) (1, 2) (0, 1) := ⟨l, _, _, rfl, upd_same, hG.same s2, ⟨l0, rfl, same_new hl _ _ _ upd_same, F_nought⟩⟩
      exact ⟨_, rfl, _, x, rfl, .inr ⟨⟨_, _, _, _, hP, (hw.same s1).same s2, .inr rfl⟩, fun H' hs => q _ (s1.trans (s2.trans hs))⟩⟩

abbrev s_law_asked : Stmt := top 77
theorem sc_law_asked : FnScope ["_law_door", "_law_thing", "_law_error"] ["_law_door", "_law_thing"] (defScope s_law_asked) := ⟨rfl, rfl, rfl, by decide +kernel, rfl, by decide +kernel, by decide +kernel⟩
theorem ok_law_asked {W Fr S M T D : Addr} (Z : Four5 K mg W Fr S M T D) (F : Fun K "_law_asked" "_law_asked" s_law_asked f fd) (c_law_ask : CalleeX P w K mg base k "_law_ask" ["_law_door", "_law_thing"] (spAsk K W Fr S M)) (c_law_kinds : CalleeH P w K mg base k "_law_kinds" ["_law_error"] (spKinds W Fr S M)) : FnOk P w K mg base CX0 (k + 1) f fd ["_law_door", "_law_thing"] (spAsked K) := by
  refine F.ok sc_law_asked (fun vs H Q E h => ?_) (fun cdv A outer s H vs Q E hr h => ?_)
  · obtain ⟨d, x, j, rfl, _⟩ := h; rfl
  obtain ⟨d, x, j, rfl, hb, q⟩ := h
  have nd := sc_law_asked.nd
  refine ⟨_, (pss_cons (ps_tryc (j := 2) rfl rfl c_law_ask hr rfl (fun _ => pa_cons (pv 0) (pa_cons (pv 1) pa_nil)) rfl Z.w.md nd rfl rfl (fun a =>
        (pss_one (ps_ret (pe_callsH c_law_kinds (hr.hand _) rfl (pa_cons (pv 2) pa_nil)))))) pss_never), ?_⟩
  refine ⟨_, rfl, _, rfl, d, x, j, rfl, hb, fun H2 s2 => ⟨(Z.kits hb.lt).2.2.2.2.2.2.2, fun a ha => ?_⟩⟩
  exact ⟨_, rfl, a, j, rfl, hb.lt, upd_same, fun p H3 s3 hp => q p H3 (s2.trans ((same_new ha _).trans s3)) hp⟩

abbrev s_law_due : Stmt := top 79
theorem sc_law_due : FnScope ["_law_door", "_law_thing", "_law_due_here"] ["_law_door", "_law_thing", "_law_due_here"] (defScope s_law_due) := ⟨rfl, rfl, rfl, by decide +kernel, rfl, by decide +kernel, by decide +kernel⟩
theorem ok_law_due (G : Glo mg) (F : Fun K "_law_due" "_law_due" s_law_due f fd) (c_law_asked : Callee P w K mg base k "_law_asked" ["_law_door", "_law_thing"] (spAsked K)) : FnOk P w K mg base CX0 (k + 1) f fd ["_law_door", "_law_thing", "_law_due_here"] (spDue K) := by
  refine F.ok sc_law_due (fun vs H Q E h => ?_) (fun cdv A outer s H vs Q E hr h => ?_)
  · obtain ⟨d, x, j, rfl, _⟩ := h; rfl
  obtain ⟨d, x, j, rfl, hb, q⟩ := h
  have hu := hr.units
  refine ⟨_, (pss_one (ps_ret (pe_cmpR (op_eqDK (K := K) hu rfl) (pe_calls c_law_asked hr rfl (pa_cons (pv 0) (pa_cons (pv 1) pa_nil))) (pe_op op_cat (pe_lc (ys := ["_law_due_here"]) (js := [2]) rfl (LcS.to (os := defScope s_law_due) ⟨rfl, by decide +kernel, by decide +kernel, rfl, by decide +kernel, by decide +kernel, by decide +kernel⟩ rfl rfl) (pi_range1 rfl G.n_range (pa_cons pe_int pa_nil)) (fun _ _ _ _ => pts_none) (fun _ _ _ _ => (pe_cmpR op_eq (pv 0) (pv 1) (nomark _)))) (pe_lst (pa_cons pe_bl (pa_cons pe_bl pa_nil)))) (nomark _)))), ?_⟩
  refine ⟨_, rfl, _, rfl, d, x, j, rfl, hb, fun p H1 s1 hp => ?_⟩
  refine ⟨4, rfl, by decide, by decide, ?_⟩
  refine lc_y ItOn.rng (fun x => V.bl (decide (x = V.int (j : Nat)))) trivial (by rw [rngV_length]; exact four_ok) (fun i y Q' hy hq => ?_) (fun l1 h1 => ?_)
  · have ey : ∃ n : Int, y = .int n := by
      unfold rngV at hy
      rw [List.getElem?_map] at hy
      obtain ⟨m, _, e⟩ := Option.map_eq_some_iff.mp hy
      exact ⟨_, e.symm⟩
    obtain ⟨n, rfl⟩ := ey
    exact ⟨_, rfl, _, rfl, rfl, hq⟩
  · have eL : (rngV 0 (4 : Int).toNat).map (fun x => V.bl (decide (x = V.int (j : Nat)))) = [V.bl (decide (0 = j)), V.bl (decide (1 = j)), V.bl (decide (2 = j)), V.bl (decide (3 = j))] := by
      show [V.bl (decide (V.int (0 + ((0 : Nat) : Int)) = V.int (j : Nat))), V.bl (decide (V.int (0 + ((1 : Nat) : Int)) = V.int (j : Nat))), V.bl (decide (V.int (0 + ((2 : Nat) : Int)) = V.int (j : Nat))), V.bl (decide (V.int (0 + ((3 : Nat) : Int)) = V.int (j : Nat)))] = _
      rw [kd, kd, kd, kd]
    rw [eL]
    generalize hE1 : upd H1 l1 _ = H2
    have s2 := same_gen h1 hE1
    have e2 := at_gen hE1
    clear hE1
    refine ⟨two_ok, fun l2 h2 => ⟨l1, l2, _, _, rfl, rfl, same_new h2 _ _ _ e2, upd_same, small (show 6 ≤ 1000 by decide), fun l3 h3 => ?_⟩⟩
    have s3 := (same_new h2 (.lst [.bl false, .bl true])).trans (same_new h3 (.lst ((kindB j).map V.bl)))
    refine ⟨_, _, rd_boolL (s3 _ _ (s2 _ _ hp)), rd_boolL (bs := kindB j) upd_same, kind_depth j, ?_⟩
    show Q (V.bl (PyData.eqv (.list ((kindB j).map PyData.bool)) (.list ((kindB j).map PyData.bool)))) _
    rw [kind_eqv]
    exact q _ (s1.trans (s2.trans s3))

end
end K10

set_option Elab.async false
set_option linter.all false
set_option maxRecDepth 100000
set_option maxHeartbeats 4000000
namespace K10
open PySem L2 TW TX
seal L2.PE L2.PT L2.PA L2.PS L2.PSs L2.PI L2.PG L2.PGs L2.PW L2.PTs L2.PO
section
variable {P : Program} {w : World} {K : PySem.W.Frag} {mg : Str → Option Value} {base : Heap} {f : Addr} {fd : FuncData} {k : Nat}
abbrev s_law_words : Stmt := top 80
theorem sc_law_words : FnScope ["_law_cell"] ["_law_cell"] (defScope s_law_words) := ⟨rfl, rfl, rfl, by decide +kernel, rfl, by decide +kernel, by decide +kernel⟩
theorem ok_law_words (G : Glo mg) (F : Fun K "_law_words" "_law_words" s_law_words f fd) : FnOk P w K mg base CX0 (k + 1) f fd ["_law_cell"] (spThings 100 (NoWord K)) := by
  refine F.ok sc_law_words (fun vs H Q E h => ?_) (fun cdv A outer s H vs Q E hr h => ?_)
  · obtain ⟨n, rfl, _⟩ := h; rfl
  obtain ⟨n, rfl, q⟩ := h
  have nd := sc_law_words.nd
  refine ⟨_, (pss_one (ps_ret (pe_lst (pa_cons pe_non (pa_cons pe_int (pa_cons (pv 0) (pa_cons pe_bl (pa_cons pe_str (pa_cons pe_str (pa_cons pe_str (pa_cons (pe_op op_plus pe_str (pe_callTy call_strI rfl G.n_str bt_str (pa_cons (pe_op op_mod (pv 0) pe_int) pa_nil))) (pa_cons (pe_lst (pa_cons pe_str pa_nil)) (pa_cons (pe_tup (pa_cons pe_str (pa_cons pe_str pa_nil))) (pa_cons pe_dnewK (pa_cons pe_str pa_nil))))))))))))))), ?_⟩
  refine ⟨_, rfl, _, rfl, _, _, rfl, rfl, (by show (0 : Int) < 1000; decide), _, rfl, small_log n, ?_⟩
  rw [str_num]
  refine .inr ⟨_, _, rfl, rfl, fits_tu n, ?_⟩
  refine ⟨small (show 1 ≤ 1000 by decide), fun l1 h1 => ?_⟩
  generalize hE1 : upd H l1 _ = H1
  have s1 := same_gen h1 hE1
  have e1 := at_gen hE1
  clear hE1
  refine ⟨small (show 2 ≤ 1000 by decide), fun l2 h2 => ?_⟩
  generalize hE2 : upd H1 l2 _ = H2
  have s2 := same_gen h2 hE2
  have e2 := at_gen hE2
  clear hE2
  refine fun l3 h3 => ?_
  generalize hE3 : upd H2 l3 _ = H3
  have s3 := same_gen h3 hE3
  have e3 := at_gen hE3
  clear hE3
  refine ⟨small (show 12 ≤ 1000 by decide), fun l4 h4 => ?_⟩
  generalize hE4 : upd H3 l4 _ = H4
  have s4 := same_gen h4 hE4
  have e4 := at_gen hE4
  clear hE4
  have t4 := Same.refl H4
  have t3 := s4.trans t4
  have t2 := s3.trans t3
  have t1 := s2.trans t2
  refine q l4 _ _ (s1.trans t1) e4 (show 1 ≤ 12 by decide) (show 12 ≤ 100 by decide) (fun x hx => ?_)
  rcases List.mem_cons.mp hx with rfl | hx
  · exact .inl ns_non
  rcases List.mem_cons.mp hx with rfl | hx
  · exact .inl ns_int
  rcases List.mem_cons.mp hx with rfl | hx
  · exact .inl ns_int
  rcases List.mem_cons.mp hx with rfl | hx
  · exact .inl ns_bl
  rcases List.mem_cons.mp hx with rfl | hx
  · exact nw_str (by decide) (by decide +kernel)
  rcases List.mem_cons.mp hx with rfl | hx
  · exact nw_str (by decide) (by decide +kernel)
  rcases List.mem_cons.mp hx with rfl | hx
  · exact nw_str (by decide) (by decide +kernel)
  rcases List.mem_cons.mp hx with rfl | hx
  · exact nw_tu n
  rcases List.mem_cons.mp hx with rfl | hx
  · exact .inl (ns_lst (t1 _ _ e1))
  rcases List.mem_cons.mp hx with rfl | hx
  · exact .inl (ns_tup (t2 _ _ e2))
  rcases List.mem_cons.mp hx with rfl | hx
  · exact .inl (ns_dK (t3 _ _ e3))
  rcases List.mem_cons.mp hx with rfl | hx
  · exact nw_str (by decide) (by decide +kernel)
  cases hx

abbrev s_law_fractions : Stmt := top 81
theorem sc_law_fractions : FnScope ["_law_cell", "_law_some"] ["_law_cell"] (defScope s_law_fractions) := ⟨rfl, rfl, rfl, by decide +kernel, rfl, by decide +kernel, by decide +kernel⟩
theorem ok_law_fractions (G : Glo mg) (F : Fun K "_law_fractions" "_law_fractions" s_law_fractions f fd) : FnOk P w K mg base CX0 (k + 1) f fd ["_law_cell"] (spThings 100 (NoFr K)) := by
  refine F.ok sc_law_fractions (fun vs H Q E h => ?_) (fun cdv A outer s H vs Q E hr h => ?_)
  · obtain ⟨n, rfl, _⟩ := h; rfl
  obtain ⟨n, rfl, q⟩ := h
  have nd := sc_law_fractions.nd
  refine ⟨_, (pss_cons (ps_set (i := 1) nd rfl (Or.inl rfl) (pe_lst (pa_cons pe_non (pa_cons (pv 0) (pa_cons pe_str (pa_cons (pe_lst (pa_cons pe_int (pa_cons pe_int pa_nil))) (pa_cons (pe_tup (pa_cons pe_int pa_nil)) (pa_cons (pe_tup (pa_cons pe_int (pa_cons pe_int (pa_cons pe_int pa_nil)))) (pa_cons (pe_tup (pa_cons pe_bl (pa_cons pe_int pa_nil))) (pa_cons (pe_tup (pa_cons pe_int (pa_cons pe_bl pa_nil))) (pa_cons (pe_tup (pa_cons pe_int (pa_cons pe_int pa_nil))) (pa_cons (pe_tup (pa_cons pe_int (pa_cons pe_int pa_nil))) (pa_cons (pe_tup (pa_cons (pe_un un_neg pe_int) (pa_cons pe_int pa_nil))) (pa_cons (pe_tup (pa_cons pe_int (pa_cons pe_int pa_nil))) pa_nil))))))))))))))
      (pss_one (ps_ret (pe_op op_cat (pv 1) (pe_lst (pa_cons (pe_tup (pa_cons pe_int (pa_cons (pe_op op_add pe_int (pe_op op_mod (pv 0) pe_int)) pa_nil))) (pa_cons (pe_tup (pa_cons pe_int (pa_cons (pe_op op_sub (pe_un un_neg pe_int) (pe_op op_mod (pv 0) pe_int)) pa_nil))) (pa_cons (pe_tup (pa_cons pe_str (pa_cons pe_int pa_nil))) (pa_cons (pe_tup (pa_cons pe_int (pa_cons pe_non pa_nil))) (pa_cons (pe_tup (pa_cons (pe_op op_add pe_int (pe_op op_mul pe_int (pv 0))) (pa_cons pe_int pa_nil))) (pa_cons pe_dnewK pa_nil))))))))))), ?_⟩
  refine ⟨_, rfl, small (show 2 ≤ 1000 by decide), fun l1 h1 => ?_⟩
  generalize hE1 : upd H l1 _ = H1
  have s1 := same_gen h1 hE1
  have e1 := at_gen hE1
  clear hE1
  refine ⟨small (show 1 ≤ 1000 by decide), fun l2 h2 => ?_⟩
  generalize hE2 : upd H1 l2 _ = H2
  have s2 := same_gen h2 hE2
  have e2 := at_gen hE2
  clear hE2
  refine ⟨small (show 3 ≤ 1000 by decide), fun l3 h3 => ?_⟩
  generalize hE3 : upd H2 l3 _ = H3
  have s3 := same_gen h3 hE3
  have e3 := at_gen hE3
  clear hE3
  refine ⟨small (show 2 ≤ 1000 by decide), fun l4 h4 => ?_⟩
  generalize hE4 : upd H3 l4 _ = H4
  have s4 := same_gen h4 hE4
  have e4 := at_gen hE4
  clear hE4
  refine ⟨small (show 2 ≤ 1000 by decide), fun l5 h5 => ?_⟩
  generalize hE5 : upd H4 l5 _ = H5
  have s5 := same_gen h5 hE5
  have e5 := at_gen hE5
  clear hE5
  refine ⟨small (show 2 ≤ 1000 by decide), fun l6 h6 => ?_⟩
  generalize hE6 : upd H5 l6 _ = H6
  have s6 := same_gen h6 hE6
  have e6 := at_gen hE6
  clear hE6
  refine ⟨small (show 2 ≤ 1000 by decide), fun l7 h7 => ?_⟩
  generalize hE7 : upd H6 l7 _ = H7
  have s7 := same_gen h7 hE7
  have e7 := at_gen hE7
  clear hE7
  refine ⟨_, rfl, small (show 2 ≤ 1000 by decide), fun l8 h8 => ?_⟩
  generalize hE8 : upd H7 l8 _ = H8
  have s8 := same_gen h8 hE8
  have e8 := at_gen hE8
  clear hE8
  refine ⟨small (show 2 ≤ 1000 by decide), fun l9 h9 => ?_⟩
  generalize hE9 : upd H8 l9 _ = H9
  have s9 := same_gen h9 hE9
  have e9 := at_gen hE9
  clear hE9
  refine ⟨small (show 12 ≤ 1000 by decide), fun l10 h10 => ?_⟩
  generalize hE10 : upd H9 l10 _ = H10
  have s10 := same_gen h10 hE10
  have e10 := at_gen hE10
  clear hE10
  refine ⟨_, rfl, _, rfl, _, _, rfl, rfl, (by show (0 : Int) < 7; decide), _, _, rfl, rfl, small (show 2 ≤ 1000 by decide), fun l11 h11 => ?_⟩
  generalize hE11 : upd H10 l11 _ = H11
  have s11 := same_gen h11 hE11
  have e11 := at_gen hE11
  clear hE11
  refine ⟨_, rfl, _, rfl, _, _, rfl, rfl, (by show (0 : Int) < 9; decide), _, _, rfl, rfl, small (show 2 ≤ 1000 by decide), fun l12 h12 => ?_⟩
  generalize hE12 : upd H11 l12 _ = H12
  have s12 := same_gen h12 hE12
  have e12 := at_gen hE12
  clear hE12
  refine ⟨small (show 2 ≤ 1000 by decide), fun l13 h13 => ?_⟩
  generalize hE13 : upd H12 l13 _ = H13
  have s13 := same_gen h13 hE13
  have e13 := at_gen hE13
  clear hE13
  refine ⟨small (show 2 ≤ 1000 by decide), fun l14 h14 => ?_⟩
  generalize hE14 : upd H13 l14 _ = H14
  have s14 := same_gen h14 hE14
  have e14 := at_gen hE14
  clear hE14
  refine ⟨_, rfl, _, _, rfl, rfl, .inl ⟨by decide, by decide⟩, _, _, rfl, rfl, small (show 2 ≤ 1000 by decide), fun l15 h15 => ?_⟩
  generalize hE15 : upd H14 l15 _ = H15
  have s15 := same_gen h15 hE15
  have e15 := at_gen hE15
  clear hE15
  refine fun l16 h16 => ?_
  generalize hE16 : upd H15 l16 _ = H16
  have s16 := same_gen h16 hE16
  have e16 := at_gen hE16
  clear hE16
  refine ⟨small (show 6 ≤ 1000 by decide), fun l17 h17 => ?_⟩
  generalize hE17 : upd H16 l17 _ = H17
  have s17 := same_gen h17 hE17
  have e17 := at_gen hE17
  clear hE17
  refine ⟨l10, l17, _, _, rfl, rfl, (s17 _ _ (s16 _ _ (s15 _ _ (s14 _ _ (s13 _ _ (s12 _ _ (s11 _ _ e10))))))), e17, small (show 18 ≤ 1000 by decide), fun l18 h18 => ?_⟩
  generalize hE18 : upd H17 l18 _ = H18
  have s18 := same_gen h18 hE18
  have e18 := at_gen hE18
  clear hE18
  have t18 := Same.refl H18
  have t17 := s18.trans t18
  have t16 := s17.trans t17
  have t15 := s16.trans t16
  have t14 := s15.trans t15
  have t13 := s14.trans t14
  have t12 := s13.trans t13
  have t11 := s12.trans t12
  have t10 := s11.trans t11
  have t9 := s10.trans t10
  have t8 := s9.trans t9
  have t7 := s8.trans t8
  have t6 := s7.trans t7
  have t5 := s6.trans t6
  have t4 := s5.trans t5
  have t3 := s4.trans t4
  have t2 := s3.trans t3
  have t1 := s2.trans t2
  refine q l18 _ _ (s1.trans t1) e18 (show 1 ≤ 18 by decide) (show 18 ≤ 100 by decide) (fun x hx => ?_)
  rcases List.mem_append.mp hx with hx | hx
  rotate_left
  · skip
    rcases List.mem_cons.mp hx with rfl | hx
    · exact .inr ⟨_, _, rfl, (t11 _ _ e11), .inr ⟨_, _, rfl, .inr (.inr ⟨_, _, rfl, rfl, nf_nought n⟩)⟩⟩
    rcases List.mem_cons.mp hx with rfl | hx
    · exact .inr ⟨_, _, rfl, (t12 _ _ e12), .inr ⟨_, _, rfl, .inr (.inr ⟨_, _, rfl, rfl, nf_below n⟩)⟩⟩
    rcases List.mem_cons.mp hx with rfl | hx
    · exact .inr ⟨_, _, rfl, (t13 _ _ e13), .inr ⟨_, _, rfl, .inl (.inl ni_str)⟩⟩
    rcases List.mem_cons.mp hx with rfl | hx
    · exact .inr ⟨_, _, rfl, (t14 _ _ e14), .inr ⟨_, _, rfl, .inr (.inl ⟨⟨_, rfl⟩, .inl ni_non⟩)⟩⟩
    rcases List.mem_cons.mp hx with rfl | hx
    · exact .inr ⟨_, _, rfl, (t15 _ _ e15), .inr ⟨_, _, rfl, .inr (.inr ⟨_, _, rfl, rfl, nf_even n⟩)⟩⟩
    rcases List.mem_cons.mp hx with rfl | hx
    · exact .inl (nt_dK (t16 _ _ e16))
    cases hx
  rcases List.mem_cons.mp hx with rfl | hx
  · exact .inl nt_non
  rcases List.mem_cons.mp hx with rfl | hx
  · exact .inl nt_int
  rcases List.mem_cons.mp hx with rfl | hx
  · exact .inl nt_str
  rcases List.mem_cons.mp hx with rfl | hx
  · exact .inl (nt_lst (t1 _ _ e1))
  rcases List.mem_cons.mp hx with rfl | hx
  · exact .inr ⟨_, _, rfl, (t2 _ _ e2), .inl (show 1 ≠ 2 by decide)⟩
  rcases List.mem_cons.mp hx with rfl | hx
  · exact .inr ⟨_, _, rfl, (t3 _ _ e3), .inl (show 3 ≠ 2 by decide)⟩
  rcases List.mem_cons.mp hx with rfl | hx
  · exact .inr ⟨_, _, rfl, (t4 _ _ e4), .inr ⟨_, _, rfl, .inl (.inr ⟨_, rfl⟩)⟩⟩
  rcases List.mem_cons.mp hx with rfl | hx
  · exact .inr ⟨_, _, rfl, (t5 _ _ e5), .inr ⟨_, _, rfl, .inr (.inl ⟨⟨_, rfl⟩, .inr ⟨_, rfl⟩⟩)⟩⟩
  rcases List.mem_cons.mp hx with rfl | hx
  · exact .inr ⟨_, _, rfl, (t6 _ _ e6), .inr ⟨_, _, rfl, .inr (.inr ⟨_, _, rfl, rfl, by decide⟩)⟩⟩
  rcases List.mem_cons.mp hx with rfl | hx
  · exact .inr ⟨_, _, rfl, (t7 _ _ e7), .inr ⟨_, _, rfl, .inr (.inr ⟨_, _, rfl, rfl, by decide⟩)⟩⟩
  rcases List.mem_cons.mp hx with rfl | hx
  · exact .inr ⟨_, _, rfl, (t8 _ _ e8), .inr ⟨_, _, rfl, .inr (.inr ⟨_, _, rfl, rfl, by decide⟩)⟩⟩
  rcases List.mem_cons.mp hx with rfl | hx
  · exact .inr ⟨_, _, rfl, (t9 _ _ e9), .inr ⟨_, _, rfl, .inr (.inr ⟨_, _, rfl, rfl, by decide⟩)⟩⟩
  cases hx

abbrev s_law_steps : Stmt := top 83
theorem sc_law_steps : FnScope ["_law_cell", "_law_some"] ["_law_cell"] (defScope s_law_steps) := ⟨rfl, rfl, rfl, by decide +kernel, rfl, by decide +kernel, by decide +kernel⟩
theorem ok_law_steps (G : Glo mg) (F : Fun K "_law_steps" "_law_steps" s_law_steps f fd) : FnOk P w K mg base CX0 (k + 1) f fd ["_law_cell"] (spThings 100 fun H x => BadSt K H turr x) := by
  refine F.ok sc_law_steps (fun vs H Q E h => ?_) (fun cdv A outer s H vs Q E hr h => ?_)
  · obtain ⟨n, rfl, _⟩ := h; rfl
  obtain ⟨n, rfl, q⟩ := h
  have nd := sc_law_steps.nd
  refine ⟨_, (pss_cons (ps_set (i := 1) nd rfl (Or.inl rfl) (pe_lst (pa_cons pe_non (pa_cons (pe_tup (pa_cons pe_str (pa_cons pe_int pa_nil))) (pa_cons (pe_lst (pa_cons pe_str (pa_cons pe_int (pa_cons pe_str pa_nil)))) (pa_cons (pe_tup (pa_cons pe_str (pa_cons pe_int (pa_cons pe_str pa_nil)))) (pa_cons (pe_tup (pa_cons pe_str (pa_cons pe_str (pa_cons pe_str pa_nil)))) (pa_cons (pe_tup (pa_cons pe_str (pa_cons pe_bl (pa_cons pe_str pa_nil)))) (pa_cons (pe_tup (pa_cons pe_str (pa_cons pe_int (pa_cons pe_str pa_nil)))) pa_nil)))))))))
      (pss_cons (ps_set (i := 1) nd rfl (Or.inl rfl) (pe_op op_cat (pv 1) (pe_lst (pa_cons (pe_tup (pa_cons pe_str (pa_cons (pe_op op_sub (pe_un un_neg pe_int) (pe_op op_mod (pv 0) pe_int)) (pa_cons pe_str pa_nil)))) (pa_cons (pe_tup (pa_cons pe_str (pa_cons (pe_op op_add pe_int (pe_op op_mod (pv 0) pe_int)) (pa_cons pe_str pa_nil)))) (pa_cons (pe_tup (pa_cons pe_str (pa_cons pe_int (pa_cons pe_str pa_nil)))) (pa_cons (pe_tup (pa_cons pe_str (pa_cons pe_int (pa_cons pe_non pa_nil)))) (pa_cons (pv 0) pa_nil))))))))
      (pss_one (ps_ret (pe_op op_cat (pv 1) (pe_lst (pa_cons (pe_tup (pa_cons pe_str (pa_cons (pe_un un_neg pe_int) (pa_cons pe_str pa_nil)))) (pa_cons (pe_tup (pa_cons pe_int (pa_cons pe_int (pa_cons pe_str pa_nil)))) (pa_cons (pe_tup (pa_cons pe_str (pa_cons pe_non (pa_cons pe_str pa_nil)))) (pa_cons (pe_tup (pa_cons pe_str (pa_cons pe_int (pa_cons (pe_lst (pa_cons pe_str pa_nil)) pa_nil)))) pa_nil)))))))))), ?_⟩
  refine ⟨small (show 2 ≤ 1000 by decide), fun l1 h1 => ?_⟩
  generalize hE1 : upd H l1 _ = H1
  have s1 := same_gen h1 hE1
  have e1 := at_gen hE1
  clear hE1
  refine ⟨small (show 3 ≤ 1000 by decide), fun l2 h2 => ?_⟩
  generalize hE2 : upd H1 l2 _ = H2
  have s2 := same_gen h2 hE2
  have e2 := at_gen hE2
  clear hE2
  refine ⟨small (show 3 ≤ 1000 by decide), fun l3 h3 => ?_⟩
  generalize hE3 : upd H2 l3 _ = H3
  have s3 := same_gen h3 hE3
  have e3 := at_gen hE3
  clear hE3
  refine ⟨small (show 3 ≤ 1000 by decide), fun l4 h4 => ?_⟩
  generalize hE4 : upd H3 l4 _ = H4
  have s4 := same_gen h4 hE4
  have e4 := at_gen hE4
  clear hE4
  refine ⟨small (show 3 ≤ 1000 by decide), fun l5 h5 => ?_⟩
  generalize hE5 : upd H4 l5 _ = H5
  have s5 := same_gen h5 hE5
  have e5 := at_gen hE5
  clear hE5
  refine ⟨small (show 3 ≤ 1000 by decide), fun l6 h6 => ?_⟩
  generalize hE6 : upd H5 l6 _ = H6
  have s6 := same_gen h6 hE6
  have e6 := at_gen hE6
  clear hE6
  refine ⟨small (show 7 ≤ 1000 by decide), fun l7 h7 => ?_⟩
  generalize hE7 : upd H6 l7 _ = H7
  have s7 := same_gen h7 hE7
  have e7 := at_gen hE7
  clear hE7
  refine ⟨_, rfl, _, rfl, _, rfl, _, _, rfl, rfl, (by show (0 : Int) < 9; decide), _, _, rfl, rfl, small (show 3 ≤ 1000 by decide), fun l8 h8 => ?_⟩
  generalize hE8 : upd H7 l8 _ = H8
  have s8 := same_gen h8 hE8
  have e8 := at_gen hE8
  clear hE8
  refine ⟨_, rfl, _, _, rfl, rfl, (by show (0 : Int) < 9; decide), _, _, rfl, rfl, small (show 3 ≤ 1000 by decide), fun l9 h9 => ?_⟩
  generalize hE9 : upd H8 l9 _ = H9
  have s9 := same_gen h9 hE9
  have e9 := at_gen hE9
  clear hE9
  refine ⟨small (show 3 ≤ 1000 by decide), fun l10 h10 => ?_⟩
  generalize hE10 : upd H9 l10 _ = H10
  have s10 := same_gen h10 hE10
  have e10 := at_gen hE10
  clear hE10
  refine ⟨small (show 3 ≤ 1000 by decide), fun l11 h11 => ?_⟩
  generalize hE11 : upd H10 l11 _ = H11
  have s11 := same_gen h11 hE11
  have e11 := at_gen hE11
  clear hE11
  refine ⟨_, rfl, small (show 5 ≤ 1000 by decide), fun l12 h12 => ?_⟩
  generalize hE12 : upd H11 l12 _ = H12
  have s12 := same_gen h12 hE12
  have e12 := at_gen hE12
  clear hE12
  refine ⟨l7, l12, _, _, rfl, rfl, (s12 _ _ (s11 _ _ (s10 _ _ (s9 _ _ (s8 _ _ e7))))), e12, small (show 12 ≤ 1000 by decide), fun l13 h13 => ?_⟩
  generalize hE13 : upd H12 l13 _ = H13
  have s13 := same_gen h13 hE13
  have e13 := at_gen hE13
  clear hE13
  refine ⟨_, rfl, _, rfl, small (show 3 ≤ 1000 by decide), fun l14 h14 => ?_⟩
  generalize hE14 : upd H13 l14 _ = H14
  have s14 := same_gen h14 hE14
  have e14 := at_gen hE14
  clear hE14
  refine ⟨small (show 3 ≤ 1000 by decide), fun l15 h15 => ?_⟩
  generalize hE15 : upd H14 l15 _ = H15
  have s15 := same_gen h15 hE15
  have e15 := at_gen hE15
  clear hE15
  refine ⟨small (show 3 ≤ 1000 by decide), fun l16 h16 => ?_⟩
  generalize hE16 : upd H15 l16 _ = H16
  have s16 := same_gen h16 hE16
  have e16 := at_gen hE16
  clear hE16
  refine ⟨small (show 1 ≤ 1000 by decide), fun l17 h17 => ?_⟩
  generalize hE17 : upd H16 l17 _ = H17
  have s17 := same_gen h17 hE17
  have e17 := at_gen hE17
  clear hE17
  refine ⟨small (show 3 ≤ 1000 by decide), fun l18 h18 => ?_⟩
  generalize hE18 : upd H17 l18 _ = H18
  have s18 := same_gen h18 hE18
  have e18 := at_gen hE18
  clear hE18
  refine ⟨small (show 4 ≤ 1000 by decide), fun l19 h19 => ?_⟩
  generalize hE19 : upd H18 l19 _ = H19
  have s19 := same_gen h19 hE19
  have e19 := at_gen hE19
  clear hE19
  refine ⟨l13, l19, _, _, rfl, rfl, (s19 _ _ (s18 _ _ (s17 _ _ (s16 _ _ (s15 _ _ (s14 _ _ e13)))))), e19, small (show 16 ≤ 1000 by decide), fun l20 h20 => ?_⟩
  generalize hE20 : upd H19 l20 _ = H20
  have s20 := same_gen h20 hE20
  have e20 := at_gen hE20
  clear hE20
  have t20 := Same.refl H20
  have t19 := s20.trans t20
  have t18 := s19.trans t19
  have t17 := s18.trans t18
  have t16 := s17.trans t17
  have t15 := s16.trans t16
  have t14 := s15.trans t15
  have t13 := s14.trans t14
  have t12 := s13.trans t13
  have t11 := s12.trans t12
  have t10 := s11.trans t11
  have t9 := s10.trans t10
  have t8 := s9.trans t9
  have t7 := s8.trans t8
  have t6 := s7.trans t7
  have t5 := s6.trans t6
  have t4 := s5.trans t5
  have t3 := s4.trans t4
  have t2 := s3.trans t3
  have t1 := s2.trans t2
  refine q l20 _ _ (s1.trans t1) e20 (show 1 ≤ 16 by decide) (show 16 ≤ 100 by decide) (fun x hx => ?_)
  rcases List.mem_append.mp hx with hx | hx
  rotate_left
  · skip
    rcases List.mem_cons.mp hx with rfl | hx
    · exact .inr ⟨false, _, [114, 114], ⟨_, rfl, st_at (by decide +kernel) (t14 _ _ e14), (by show ([114, 114] : List Nat) ∈ pcs; decide)⟩, by decide⟩
    rcases List.mem_cons.mp hx with rfl | hx
    · exact .inl (.inr ⟨_, _, rfl, (t15 _ _ e15), .inr ⟨_, _, _, rfl, .inl (.inl ns_int)⟩⟩)
    rcases List.mem_cons.mp hx with rfl | hx
    · exact .inl (.inr ⟨_, _, rfl, (t16 _ _ e16), .inr ⟨_, _, _, rfl, .inr ⟨⟨_, rfl, by decide +kernel⟩, .inl (.inl ni_non)⟩⟩⟩)
    rcases List.mem_cons.mp hx with rfl | hx
    · exact .inl (.inr ⟨_, _, rfl, (t18 _ _ e18), .inr ⟨_, _, _, rfl, .inr ⟨⟨_, rfl, by decide +kernel⟩, .inr ⟨⟨_, rfl⟩, .inl (ns_lst (t17 _ _ e17))⟩⟩⟩⟩)
    cases hx
  rcases List.mem_append.mp hx with hx | hx
  rotate_left
  · skip
    rcases List.mem_cons.mp hx with rfl | hx
    · exact .inr ⟨true, _, [114, 114], ⟨_, rfl, st_at (by decide +kernel) (t8 _ _ e8), (by show ([114, 114] : List Nat) ∈ pcs; decide)⟩, due_off (.inl (nst_below n))⟩
    rcases List.mem_cons.mp hx with rfl | hx
    · exact .inr ⟨true, _, [114, 114], ⟨_, rfl, st_at (by decide +kernel) (t9 _ _ e9), (by show ([114, 114] : List Nat) ∈ pcs; decide)⟩, due_off (.inr (nst_above n))⟩
    rcases List.mem_cons.mp hx with rfl | hx
    · exact .inr ⟨false, _, [114, 114], ⟨_, rfl, st_at (by decide +kernel) (t10 _ _ e10), (by show ([114, 114] : List Nat) ∈ pcs; decide)⟩, by decide⟩
    rcases List.mem_cons.mp hx with rfl | hx
    · exact .inl (.inr ⟨_, _, rfl, (t11 _ _ e11), .inr ⟨_, _, _, rfl, .inr ⟨⟨_, rfl, by decide +kernel⟩, .inr ⟨⟨_, rfl⟩, .inl ns_non⟩⟩⟩⟩)
    rcases List.mem_cons.mp hx with rfl | hx
    · exact .inl (.inl nt_int)
    cases hx
  rcases List.mem_cons.mp hx with rfl | hx
  · exact .inl (.inl nt_non)
  rcases List.mem_cons.mp hx with rfl | hx
  · exact .inl (.inr ⟨_, _, rfl, (t1 _ _ e1), .inl (show 2 ≠ 3 by decide)⟩)
  rcases List.mem_cons.mp hx with rfl | hx
  · exact .inl (.inl (nt_lst (t2 _ _ e2)))
  rcases List.mem_cons.mp hx with rfl | hx
  · exact .inl (.inr ⟨_, _, rfl, (t3 _ _ e3), .inr ⟨_, _, _, rfl, .inl (.inr ⟨_, rfl, by decide +kernel⟩)⟩⟩)
  rcases List.mem_cons.mp hx with rfl | hx
  · exact .inl (.inr ⟨_, _, rfl, (t4 _ _ e4), .inr ⟨_, _, _, rfl, .inr ⟨⟨_, rfl, by decide +kernel⟩, .inl (.inl ni_str)⟩⟩⟩)
  rcases List.mem_cons.mp hx with rfl | hx
  · exact .inl (.inr ⟨_, _, rfl, (t5 _ _ e5), .inr ⟨_, _, _, rfl, .inr ⟨⟨_, rfl, by decide +kernel⟩, .inl (.inr ⟨_, rfl⟩)⟩⟩⟩)
  rcases List.mem_cons.mp hx with rfl | hx
  · exact .inl (.inr ⟨_, _, rfl, (t6 _ _ e6), .inr ⟨_, _, _, rfl, .inr ⟨⟨_, rfl, by decide +kernel⟩, .inr ⟨⟨_, rfl⟩, .inr ⟨_, rfl, by decide +kernel⟩⟩⟩⟩⟩)
  cases hx

end
end K10

set_option Elab.async false
set_option linter.all false
set_option maxRecDepth 100000
set_option maxHeartbeats 4000000
namespace K10
open PySem L2 TW TX
seal L2.PE L2.PT L2.PA L2.PS L2.PSs L2.PI L2.PG L2.PGs L2.PW L2.PTs L2.PO
section
variable {P : Program} {w : World} {K : PySem.W.Frag} {mg : Str → Option Value} {base : Heap} {f : Addr} {fd : FuncData} {k : Nat}
abbrev s_law_pairs : Stmt := top 82
theorem sc_law_pairs : FnScope ["_law_cell", "_law_some"] ["_law_cell"] (defScope s_law_pairs) := ⟨rfl, rfl, rfl, by decide +kernel, rfl, by decide +kernel, by decide +kernel⟩
theorem ok_law_pairs (F : Fun K "_law_pairs" "_law_pairs" s_law_pairs f fd) (c_law_fractions : Callee P w K mg base k "_law_fractions" ["_law_cell"] (spThings 100 (NoFr K))) : FnOk P w K mg base CX0 (k + 1) f fd ["_law_cell"] (spThings 400 (NoPair K)) := by
  refine F.ok sc_law_pairs (fun vs H Q E h => ?_) (fun cdv A outer s H vs Q E hr h => ?_)
  · obtain ⟨n, rfl, _⟩ := h; rfl
  obtain ⟨n, rfl, q⟩ := h
  have nd := sc_law_pairs.nd
  refine ⟨_, (pss_cons (ps_set (i := 1) nd rfl (Or.inl rfl) (pe_op op_cat (pe_lc (ys := []) (js := []) rfl (LcS.to (os := defScope s_law_pairs) ⟨rfl, by decide +kernel, by decide +kernel, rfl, by decide +kernel, by decide +kernel, by decide +kernel⟩ rfl rfl) (pi_list (pe_calls c_law_fractions hr rfl (pa_cons (pv 0) pa_nil))) (fun _ _ _ _ => pts_none) (fun _ _ _ _ => (pe_tup (pa_cons (pv 0) (pa_cons (pe_tup (pa_cons pe_int (pa_cons pe_int pa_nil))) pa_nil))))) (pe_lc (ys := []) (js := []) rfl (LcS.to (os := defScope s_law_pairs) ⟨rfl, by decide +kernel, by decide +kernel, rfl, by decide +kernel, by decide +kernel, by decide +kernel⟩ rfl rfl) (pi_list (pe_calls c_law_fractions hr rfl (pa_cons (pv 0) pa_nil))) (fun _ _ _ _ => pts_none) (fun _ _ _ _ => (pe_tup (pa_cons (pe_tup (pa_cons pe_int (pa_cons pe_int pa_nil))) (pa_cons (pv 0) pa_nil)))))))
      (pss_cons (ps_set (i := 1) nd rfl (Or.inl rfl) (pe_op op_cat (pv 1) (pe_lc (ys := []) (js := []) rfl (LcS.to (os := defScope s_law_pairs) ⟨rfl, by decide +kernel, by decide +kernel, rfl, by decide +kernel, by decide +kernel, by decide +kernel⟩ rfl rfl) (pi_list (pe_calls c_law_fractions hr rfl (pa_cons (pv 0) pa_nil))) (fun _ _ _ _ => pts_none) (fun _ _ _ _ => (pe_tup (pa_cons (pv 0) (pa_cons (pv 0) pa_nil)))))))
      (pss_one (ps_ret (pe_op op_cat (pv 1) (pe_lst (pa_cons pe_non (pa_cons (pe_lst (pa_cons (pe_tup (pa_cons pe_int (pa_cons pe_int pa_nil))) (pa_cons (pe_tup (pa_cons pe_int (pa_cons pe_int pa_nil))) pa_nil))) (pa_cons (pe_tup (pa_cons (pe_tup (pa_cons pe_int (pa_cons pe_int pa_nil))) pa_nil)) (pa_cons (pe_tup (pa_cons (pe_tup (pa_cons pe_int (pa_cons pe_int pa_nil))) (pa_cons (pe_tup (pa_cons pe_int (pa_cons pe_int pa_nil))) (pa_cons (pe_tup (pa_cons pe_int (pa_cons pe_int pa_nil))) pa_nil)))) (pa_cons pe_str (pa_cons (pv 0) pa_nil)))))))))))), ?_⟩
  refine ⟨_, rfl, n, rfl, fun p1 xs1 G1 sg1 hp1 lo1 hi1 hall1 => ⟨p1, rfl, ⟨_, SqL.of hp1⟩, ?_⟩⟩
  refine lc_rel (ItOn.list (xs := xs1)) (fun H' _ acc => ∀ y ∈ acc, NoPair K H' y) (fun H' hs => SqL.of (hs _ _ hp1)) (small (by omega)) (fun y hy => nomatch hy) (fun j x H' acc Q' hx hs hR hq => ?_) (fun H1c L1 acc1 sc1 hL1 hB1 hlen1 => ?_)
  · have hb := (hall1 x (List.mem_of_getElem? hx)).same hs
    refine ⟨_, rfl, two_ok, fun t ht => ⟨two_ok, fun t2 ht2 => ?_⟩⟩
    have st := (same_new ht (.tup [.int 0, .int 1])).trans (same_new ht2 (.tup [x, .ref t]))
    refine hq _ _ st (fun y hy => ?_)
    rcases List.mem_append.mp hy with hy | hy
    · exact (hR y hy).same st
    · rw [List.mem_singleton.mp hy]
      exact .inr ⟨t2, _, rfl, upd_same, .inr ⟨_, _, rfl, .inl (hb.same st)⟩⟩
  have n1 : acc1.length ≤ 100 := by omega
  generalize hE1 : upd H1c L1 _ = H1
  have sn1 := same_gen hL1 hE1
  have e1 := at_gen hE1
  clear hE1
  have s1 := sg1.trans (sc1.trans sn1)
  have b1 : ∀ y ∈ acc1, NoPair K H1 y := fun y hy => (hB1 y hy).same sn1
  refine ⟨_, rfl, n, rfl, fun p2 xs2 G2 sg2 hp2 lo2 hi2 hall2 => ⟨p2, rfl, ⟨_, SqL.of hp2⟩, ?_⟩⟩
  refine lc_rel (ItOn.list (xs := xs2)) (fun H' _ acc => ∀ y ∈ acc, NoPair K H' y) (fun H' hs => SqL.of (hs _ _ hp2)) (small (by omega)) (fun y hy => nomatch hy) (fun j x H' acc Q' hx hs hR hq => ?_) (fun H2c L2 acc2 sc2 hL2 hB2 hlen2 => ?_)
  · have hb := (hall2 x (List.mem_of_getElem? hx)).same hs
    refine ⟨two_ok, fun t ht => ⟨_, rfl, two_ok, fun t2 ht2 => ?_⟩⟩
    have st := (same_new ht (.tup [.int 1, .int 2])).trans (same_new ht2 (.tup [.ref t, x]))
    refine hq _ _ st (fun y hy => ?_)
    rcases List.mem_append.mp hy with hy | hy
    · exact (hR y hy).same st
    · rw [List.mem_singleton.mp hy]
      exact .inr ⟨t2, _, rfl, upd_same, .inr ⟨_, _, rfl, .inr ⟨⟨(1, 2), t, rfl, same_new ht2 _ _ _ upd_same, by decide⟩, hb.same st⟩⟩⟩
  have n2 : acc2.length ≤ 100 := by omega
  generalize hE2 : upd H2c L2 _ = H2
  have sn2 := same_gen hL2 hE2
  have e2 := at_gen hE2
  clear hE2
  have s2 := sg2.trans (sc2.trans sn2)
  have b2 : ∀ y ∈ acc2, NoPair K H2 y := fun y hy => (hB2 y hy).same sn2
  refine ⟨L1, L2, _, _, rfl, rfl, s2 _ _ e1, e2, small (by omega), fun c1 hc1 => ?_⟩
  generalize hE3 : upd H2 c1 _ = H3
  have s3 := same_gen hc1 hE3
  have e3 := at_gen hE3
  clear hE3
  refine ⟨_, rfl, ?_⟩
  refine ⟨_, rfl, n, rfl, fun p4 xs4 G4 sg4 hp4 lo4 hi4 hall4 => ⟨p4, rfl, ⟨_, SqL.of hp4⟩, ?_⟩⟩
  refine lc_rel (ItOn.list (xs := xs4)) (fun H' _ acc => ∀ y ∈ acc, NoPair K H' y) (fun H' hs => SqL.of (hs _ _ hp4)) (small (by omega)) (fun y hy => nomatch hy) (fun j x H' acc Q' hx hs hR hq => ?_) (fun H4c L4 acc4 sc4 hL4 hB4 hlen4 => ?_)
  · have hb := (hall4 x (List.mem_of_getElem? hx)).same hs
    refine ⟨_, rfl, _, rfl, two_ok, fun t2 ht2 => ?_⟩
    have st := same_new ht2 (.tup [x, x])
    refine hq _ _ st (fun y hy => ?_)
    rcases List.mem_append.mp hy with hy | hy
    · exact (hR y hy).same st
    · rw [List.mem_singleton.mp hy]
      exact .inr ⟨t2, _, rfl, upd_same, .inr ⟨_, _, rfl, .inl (hb.same st)⟩⟩
  have n4 : acc4.length ≤ 100 := by omega
  generalize hE4 : upd H4c L4 _ = H4
  have sn4 := same_gen hL4 hE4
  have e4 := at_gen hE4
  clear hE4
  have s4 := sg4.trans (sc4.trans sn4)
  have b4 : ∀ y ∈ acc4, NoPair K H4 y := fun y hy => (hB4 y hy).same sn4
  refine ⟨c1, L4, _, _, rfl, rfl, s4 _ _ e3, e4, small (by rw [List.length_append]; omega), fun c2 hc2 => ?_⟩
  generalize hE5 : upd H4 c2 _ = H5
  have s5 := same_gen hc2 hE5
  have e5 := at_gen hE5
  clear hE5
  refine ⟨_, rfl, ?_⟩
  refine ⟨small (show 2 ≤ 1000 by decide), fun a ha => ?_⟩
  generalize hEa : upd H5 a _ = Ga
  have sa := same_gen ha hEa
  have ea := at_gen hEa
  clear hEa
  refine ⟨small (show 2 ≤ 1000 by decide), fun b hb => ?_⟩
  generalize hEb : upd Ga b _ = Gb
  have sb := same_gen hb hEb
  have eb := at_gen hEb
  clear hEb
  refine ⟨small (show 2 ≤ 1000 by decide), fun c hc => ?_⟩
  generalize hEc : upd Gb c _ = Gc
  have sc := same_gen hc hEc
  have ec := at_gen hEc
  clear hEc
  refine ⟨small (show 2 ≤ 1000 by decide), fun d hd => ?_⟩
  generalize hEd : upd Gc d _ = Gd
  have sd := same_gen hd hEd
  have ed := at_gen hEd
  clear hEd
  refine ⟨small (show 1 ≤ 1000 by decide), fun e he => ?_⟩
  generalize hEe : upd Gd e _ = Ge
  have se := same_gen he hEe
  have ee := at_gen hEe
  clear hEe
  refine ⟨small (show 2 ≤ 1000 by decide), fun f hf => ?_⟩
  generalize hEf : upd Ge f _ = Gf
  have sf := same_gen hf hEf
  have ef := at_gen hEf
  clear hEf
  refine ⟨small (show 2 ≤ 1000 by decide), fun g hg => ?_⟩
  generalize hEg : upd Gf g _ = Gg
  have sg := same_gen hg hEg
  have eg := at_gen hEg
  clear hEg
  refine ⟨small (show 2 ≤ 1000 by decide), fun h hh => ?_⟩
  generalize hEh : upd Gg h _ = Gh
  have sh := same_gen hh hEh
  have eh := at_gen hEh
  clear hEh
  refine ⟨small (show 3 ≤ 1000 by decide), fun i hi => ?_⟩
  generalize hEi : upd Gh i _ = Gi
  have si := same_gen hi hEi
  have ei := at_gen hEi
  clear hEi
  refine ⟨_, rfl, small (show 6 ≤ 1000 by decide), fun j hj => ?_⟩
  generalize hEj : upd Gi j _ = Gj
  have sj := same_gen hj hEj
  have ej := at_gen hEj
  clear hEj
  refine ⟨c2, j, _, _, rfl, rfl, sj _ _ (si _ _ (sh _ _ (sg _ _ (sf _ _ (se _ _ (sd _ _ (sc _ _ (sb _ _ (sa _ _ e5))))))))), ej, small (by rw [List.length_append, List.length_append]; show _ + 6 ≤ 1000; omega), fun z hz => ?_⟩
  generalize hEz : upd Gj z _ = Gz
  have sz := same_gen hz hEz
  have ez := at_gen hEz
  clear hEz
  have tj := sz
  have ti := sj.trans tj
  have th := si.trans ti
  have tg := sh.trans th
  have tf := sg.trans tg
  have te := sf.trans tf
  have td := se.trans te
  have tc := sd.trans td
  have tb := sc.trans tc
  have ta := sb.trans tb
  have t5 := sa.trans ta
  have t4 := s5.trans t5
  have t3 := s4.trans t4
  have t2 := s3.trans t3
  have t1 := s2.trans t2
  have nz : (((acc1 ++ acc2) ++ acc4) ++ ([.non, .ref c, .ref e, .ref i, .str "12", .int n] : List V)).length = acc1.length + acc2.length + acc4.length + 6 := by simp only [List.length_append]; rfl
  refine q z _ _ (s1.trans t1) ez (by rw [nz]; omega) (by rw [nz]; omega) (fun x hx => ?_)
  rcases List.mem_append.mp hx with hx | hx
  · rcases List.mem_append.mp hx with hx | hx
    · rcases List.mem_append.mp hx with hx | hx
      · exact (b1 x hx).same t1
      · exact (b2 x hx).same t2
    · exact (b4 x hx).same t4
  · rcases List.mem_cons.mp hx with rfl | hx
    · exact .inl nt_non
    rcases List.mem_cons.mp hx with rfl | hx
    · exact .inl (nt_lst (tc _ _ ec))
    rcases List.mem_cons.mp hx with rfl | hx
    · exact .inr ⟨_, _, rfl, te _ _ ee, .inl (show 1 ≠ 2 by decide)⟩
    rcases List.mem_cons.mp hx with rfl | hx
    · exact .inr ⟨_, _, rfl, ti _ _ ei, .inl (show 3 ≠ 2 by decide)⟩
    rcases List.mem_cons.mp hx with rfl | hx
    · exact .inl nt_str
    rcases List.mem_cons.mp hx with rfl | hx
    · exact .inl nt_int
    cases hx

end
end K10

set_option Elab.async false
set_option linter.all false
set_option maxRecDepth 100000
set_option maxHeartbeats 4000000
namespace K10
open PySem L2 TW TX
seal L2.PE L2.PT L2.PA L2.PS L2.PSs L2.PI L2.PG L2.PGs L2.PW L2.PTs L2.PO
section
variable {P : Program} {w : World} {K : PySem.W.Frag} {mg : Str → Option Value} {base : Heap} {f : Addr} {fd : FuncData} {k : Nat}
abbrev s_law : Stmt := top 84
theorem sc_law : FnScope ["_law_script", "_law_doors", "_law_things", "_law_due_here", "_law_door", "_law_cell", "_law_some", "_law_pair"] ["_law_script"] (defScope s_law) := ⟨rfl, rfl, rfl, by decide +kernel, rfl, by decide +kernel, by decide +kernel⟩
theorem ok_law {W S : Addr} (G : Glo mg) (F : Fun K "law" "law" s_law f fd) (c_law_words : Callee P w K mg base k "_law_words" ["_law_cell"] (spThings 100 (NoWord K))) (c_law_fractions : Callee P w K mg base k "_law_fractions" ["_law_cell"] (spThings 100 (NoFr K)))
    (c_law_pairs : Callee P w K mg base k "_law_pairs" ["_law_cell"] (spThings 400 (NoPair K))) (c_law_steps : Callee P w K mg base k "_law_steps" ["_law_cell"] (spThings 100 fun H x => BadSt K H turr x)) (c_law_due : Callee P w K mg base k "_law_due" ["_law_door", "_law_thing", "_law_due_here"] (spDue K))
    (c_stepped : CalleeX P w K mg base k "stepped" ["word", "step"] (spSteppedX K W S)) : FnOk P w K mg base CX0 (k + 1) f fd ["_law_script"] (spLaw K) := by
  refine F.ok sc_law (fun vs H Q E h => ?_) (fun cdv A outer s H vs Q E hr h => ?_)
  · obtain ⟨a, ns, rfl, _⟩ := h; rfl
  obtain ⟨a, ns, rfl, hS, h63, q⟩ := h
  have nd := sc_law.nd
  obtain ⟨fW, fdW, FW, mW, kW, bW⟩ := c_law_words.ex
  obtain ⟨fF, fdF, FF, mF, kF, bF⟩ := c_law_fractions.ex
  obtain ⟨fP, fdP, FP, mP, kP, bP⟩ := c_law_pairs.ex
  obtain ⟨fS, fdS, FS, mS, kS, bS⟩ := c_law_steps.ex
  have hk : ∀ f, (f = fW ∨ f = fF ∨ f = fP ∨ f = fS) → PySem.W.keepIn K (.ref f) = true := fun f z => by
    rcases z with rfl | rfl | rfl | rfl
    · exact kW
    · exact kF
    · exact kP
    · exact kS
  have less : ∀ {B : Hp → V → Prop} {vs : List V} {H : Hp} {Q : VK}, spThings 400 B vs H Q E0 → spThings 100 B vs H Q E0 := fun ⟨n, e, z⟩ => ⟨n, e, fun p xs H' hs hp h1 h2 hB => z p xs H' hs hp h1 (by omega) hB⟩
  have hF : ∀ (f' : Addr) (vs : List V) (H : Hp) (Q : VK), (f' = fW ∨ f' = fF ∨ f' = fP ∨ f' = fS) → (∃ B, ((f' = fW ∧ B = NoWord K) ∨ (f' = fF ∧ B = NoFr K) ∨ (f' = fP ∧ B = NoPair K) ∨ (f' = fS ∧ B = fun H x => BadSt K H turr x)) ∧ spThings 400 B vs H Q E0) → ∃ (k' : Nat) (fd' : FuncData) (ps : List Str) (sp' : Sp), FnOk P w K mg base CX0 k' f' fd' ps sp' ∧ Room k' (A.deeper (PyProof.Rows.envOfC "law" (defScope s_law) s.heap.objs.size f cdv)) ∧ Binds K fd' ps [] ∧ sp' (vs ++ []) H Q E0 := fun f' vs H Q _ z => by
    rw [List.append_nil]
    obtain ⟨B, z | z | z | z, h⟩ := z
    · obtain ⟨rfl, rfl⟩ := z; exact ⟨k, fdW, _, _, FW, hr, bW, less h⟩
    · obtain ⟨rfl, rfl⟩ := z; exact ⟨k, fdF, _, _, FF, hr, bF, less h⟩
    · obtain ⟨rfl, rfl⟩ := z; exact ⟨k, fdP, _, _, FP, hr, bP, h⟩
    · obtain ⟨rfl, rfl⟩ := z; exact ⟨k, fdS, _, _, FS, hr, bS, less h⟩
  refine ⟨_, (pss_cons (ps_for PassesOwn.never rfl (pi_list (pe_lst (pa_cons (pe_tup (pa_cons (pe_lst (pa_cons pe_int (pa_cons pe_int (pa_cons pe_int (pa_cons pe_int (pa_cons pe_int (pa_cons pe_int (pa_cons pe_int (pa_cons pe_int (pa_cons pe_int pa_nil)))))))))) (pa_cons (pe_glob (v := .ref fW) rfl mW rfl) (pa_cons pe_int pa_nil)))) (pa_cons (pe_tup (pa_cons (pe_lst (pa_cons pe_int (pa_cons pe_int (pa_cons pe_int (pa_cons pe_int pa_nil))))) (pa_cons (pe_glob (v := .ref fF) rfl mF rfl) (pa_cons pe_int pa_nil)))) (pa_cons (pe_tup (pa_cons (pe_lst (pa_cons pe_int (pa_cons pe_int (pa_cons pe_int pa_nil)))) (pa_cons (pe_glob (v := .ref fP) rfl mP rfl) (pa_cons pe_int pa_nil)))) (pa_cons (pe_tup (pa_cons (pe_lst (pa_cons pe_int pa_nil)) (pa_cons (pe_glob (v := .ref fS) rfl mS rfl) (pa_cons pe_int pa_nil)))) pa_nil)))))) (pg_tup rfl (pgs_cons (pg_name (i := 1) nd rfl (Or.inl rfl)) (pgs_cons (pg_name (i := 2) nd rfl (Or.inl rfl)) (pgs_cons (pg_name (i := 3) nd rfl (Or.inr rfl)) pgs_nil)))) (pss_cons (ps_for PassesOwn.never rfl (pi_list (pv 1)) (pg_name (i := 4) nd rfl (Or.inr rfl)) (pss_one (ps_if (pt_not (pt_val (pe_callB (call_allK (K := K) rfl rfl) rfl G.n_all bt_all (pa_cons (pe_lc (ys := ["_law_door", "_law_due_here"]) (js := [4, 3]) rfl (LcS.to (os := defScope s_law) ⟨rfl, by decide +kernel, by decide +kernel, rfl, by decide +kernel, by decide +kernel, by decide +kernel⟩ rfl rfl) (pi_list (pe_callE (R := fun f => f = fW ∨ f = fF ∨ f = fP ∨ f = fS) (sp := fun f vs H Q => ∃ B, ((f = fW ∧ B = NoWord K) ∨ (f = fF ∧ B = NoFr K) ∨ (f = fP ∧ B = NoPair K) ∨ (f = fS ∧ B = fun H x => BadSt K H turr x)) ∧ spThings 400 B vs H Q E0) (pv 2) hk hF pass0 (pa_cons (pe_callB (call_lenK (K := K) rfl) rfl G.n_len bt_len (pa_cons (pv 0) pa_nil)) pa_nil))) (fun _ _ _ _ => pts_none) (fun _ _ _ _ => (pe_calls c_law_due hr rfl (pa_cons (pv 1) (pa_cons (pv 0) (pa_cons (pv 2) pa_nil)))))) pa_nil)))) (pss_one (ps_ret pe_bl)) pss_nil)))
      (pss_one (ps_for PassesOwn.never rfl (pi_list (pv 0)) (pg_name (i := 5) nd rfl (Or.inl rfl)) (pss_cons (ps_set (i := 6) nd rfl (Or.inl rfl) (pe_callE (R := fun f => f = fW ∨ f = fF ∨ f = fP ∨ f = fS) (sp := fun f vs H Q => ∃ B, ((f = fW ∧ B = NoWord K) ∨ (f = fF ∧ B = NoFr K) ∨ (f = fP ∧ B = NoPair K) ∨ (f = fS ∧ B = fun H x => BadSt K H turr x)) ∧ spThings 400 B vs H Q E0) (pv 2) hk hF pass0 (pa_cons (pv 5) pa_nil)))
      (pss_one (ps_if (pt_not (pt_val (pe_calls c_law_due hr rfl (pa_cons (pe_ix (ix_anyK (K := K) (Pm := w.params) rfl rfl) (pv 1) (pe_op op_mod (pv 5) (pe_callB (call_lenK (K := K) rfl) rfl G.n_len bt_len (pa_cons (pv 1) pa_nil))) (fun _ _ => rfl)) (pa_cons (pe_ix (ix_anyK (K := K) (Pm := w.params) rfl rfl) (pv 6) (pe_op op_mod (pe_op op_fdiv (pv 5) (pe_callB (call_lenK (K := K) rfl) rfl G.n_len bt_len (pa_cons (pv 1) pa_nil))) (pe_callB (call_lenK (K := K) rfl) rfl G.n_len bt_len (pa_cons (pv 6) pa_nil))) (fun _ _ => rfl)) (pa_cons (pv 3) pa_nil)))))) (pss_one (ps_ret pe_bl)) pss_nil)))))))
      (pss_cons (ps_for PassesOwn.never rfl (pi_list (pe_lst (pa_cons (pe_tup (pa_cons pe_int (pa_cons (pe_tup (pa_cons (pe_tup (pa_cons pe_int (pa_cons pe_int pa_nil))) (pa_cons (pe_tup (pa_cons pe_int (pa_cons pe_int pa_nil))) pa_nil))) pa_nil))) (pa_cons (pe_tup (pa_cons pe_int (pa_cons (pe_tup (pa_cons (pe_tup (pa_cons pe_int (pa_cons pe_int pa_nil))) (pa_cons (pe_tup (pa_cons pe_int (pa_cons pe_int pa_nil))) pa_nil))) pa_nil))) (pa_cons (pe_tup (pa_cons pe_int (pa_cons (pe_tup (pa_cons (pe_tup (pa_cons pe_int (pa_cons pe_int pa_nil))) (pa_cons (pe_tup (pa_cons pe_int (pa_cons pe_int pa_nil))) pa_nil))) pa_nil))) (pa_cons (pe_tup (pa_cons pe_int (pa_cons (pe_tup (pa_cons (pe_tup (pa_cons pe_int (pa_cons pe_int pa_nil))) (pa_cons (pe_tup (pa_cons pe_int (pa_cons pe_int pa_nil))) pa_nil))) pa_nil))) pa_nil)))))) (pg_tup rfl (pgs_cons (pg_name (i := 4) nd rfl (Or.inr rfl)) (pgs_cons (pg_name (i := 7) nd rfl (Or.inl rfl)) pgs_nil))) (pss_one (ps_if (pt_not (pt_val (pe_calls c_law_due hr rfl (pa_cons (pv 4) (pa_cons (pv 7) (pa_cons pe_int pa_nil)))))) (pss_one (ps_ret pe_bl)) pss_nil)))
      (pss_one (ps_ret (pe_and (pe_cmpR op_eq (pe_callX0 c_stepped hr rfl (pa_cons pe_str (pa_cons (pe_tup (pa_cons pe_str (pa_cons pe_int (pa_cons pe_str pa_nil)))) pa_nil))) pe_str (nomark _)) (pe_one (pe_cmpR op_eq (pe_callX0 c_stepped hr rfl (pa_cons pe_str (pa_cons (pe_tup (pa_cons pe_str (pa_cons pe_int (pa_cons pe_str pa_nil)))) pa_nil))) pe_str (nomark _)))))))), ?_⟩
  refine ⟨small (show 9 ≤ 1000 by decide), fun l1 h1 => ?_⟩
  generalize hE1 : upd H l1 _ = H1
  have s1 := same_gen h1 hE1
  have e1 := at_gen hE1
  clear hE1
  refine ⟨small (show 3 ≤ 1000 by decide), fun l2 h2 => ?_⟩
  generalize hE2 : upd H1 l2 _ = H2
  have s2 := same_gen h2 hE2
  have e2 := at_gen hE2
  clear hE2
  refine ⟨small (show 4 ≤ 1000 by decide), fun l3 h3 => ?_⟩
  generalize hE3 : upd H2 l3 _ = H3
  have s3 := same_gen h3 hE3
  have e3 := at_gen hE3
  clear hE3
  refine ⟨small (show 3 ≤ 1000 by decide), fun l4 h4 => ?_⟩
  generalize hE4 : upd H3 l4 _ = H4
  have s4 := same_gen h4 hE4
  have e4 := at_gen hE4
  clear hE4
  refine ⟨small (show 3 ≤ 1000 by decide), fun l5 h5 => ?_⟩
  generalize hE5 : upd H4 l5 _ = H5
  have s5 := same_gen h5 hE5
  have e5 := at_gen hE5
  clear hE5
  refine ⟨small (show 3 ≤ 1000 by decide), fun l6 h6 => ?_⟩
  generalize hE6 : upd H5 l6 _ = H6
  have s6 := same_gen h6 hE6
  have e6 := at_gen hE6
  clear hE6
  refine ⟨small (show 1 ≤ 1000 by decide), fun l7 h7 => ?_⟩
  generalize hE7 : upd H6 l7 _ = H7
  have s7 := same_gen h7 hE7
  have e7 := at_gen hE7
  clear hE7
  refine ⟨small (show 3 ≤ 1000 by decide), fun l8 h8 => ?_⟩
  generalize hE8 : upd H7 l8 _ = H8
  have s8 := same_gen h8 hE8
  have e8 := at_gen hE8
  clear hE8
  refine ⟨small (show 4 ≤ 1000 by decide), fun l9 h9 => ?_⟩
  generalize hE9 : upd H8 l9 _ = H9
  have s9 := same_gen h9 hE9
  have e9 := at_gen hE9
  clear hE9
  have t9 := Same.refl H9
  have t8 := s9.trans t9
  have t7 := s8.trans t8
  have t6 := s7.trans t7
  have t5 := s6.trans t6
  have t4 := s5.trans t5
  have t3 := s4.trans t4
  have t2 := s3.trans t3
  have t1 := s2.trans t2
  have s0 := s1.trans t1
  refine ⟨l9, rfl, ⟨_, SqL.of e9⟩, ?_⟩
  refine for_on (ItOn.list (xs := [.ref l2, .ref l4, .ref l6, .ref l8])) (fun i σ' H' => Same H9 H' ∧ ∃ c1 c2 c3 c4 c5 c6 c7, σ' = [some (.ref a), c1, c2, c3, c4, c5, c6, c7]) ⟨Same.refl _, _, _, _, _, _, _, _, rfl⟩ (fun i σ' H' _ h => SqL.of (h.1 _ _ e9)) ?_ ?_
  · rintro i x σ' G0 hx ⟨hs, c1, c2, c3, c4, c5, c6, c7, rfl⟩
    have hg : ∃ t dl fn ds B j, x = .ref t ∧ G0 t = some (.tup [.ref dl, .ref fn, .int (j : Nat)]) ∧ G0 dl = some (.lst (ds.map V.int)) ∧ Grp K ds B j ∧ ((fn = fW ∧ B = NoWord K) ∨ (fn = fF ∧ B = NoFr K) ∨ (fn = fP ∧ B = NoPair K) ∨ (fn = fS ∧ B = fun H x => BadSt K H turr x)) := by
      have hm := List.mem_of_getElem? hx
      rcases List.mem_cons.mp hm with rfl | hm
      · exact ⟨_, _, _, [0, 1, 2, 3, 5, 6, 7, 8, 9], _, _, rfl, hs _ _ (t2 _ _ e2), hs _ _ (t1 _ _ e1), grp0, .inl ⟨rfl, rfl⟩⟩
      rcases List.mem_cons.mp hm with rfl | hm
      · exact ⟨_, _, _, [4, 10, 11, 12], _, _, rfl, hs _ _ (t4 _ _ e4), hs _ _ (t3 _ _ e3), grp1, .inr (.inl ⟨rfl, rfl⟩)⟩
      rcases List.mem_cons.mp hm with rfl | hm
      · exact ⟨_, _, _, [13, 14, 16], _, _, rfl, hs _ _ (t6 _ _ e6), hs _ _ (t5 _ _ e5), grp2, .inr (.inr (.inl ⟨rfl, rfl⟩))⟩
      rcases List.mem_cons.mp hm with rfl | hm
      · exact ⟨_, _, _, [15], _, _, rfl, hs _ _ (t8 _ _ e8), hs _ _ (t7 _ _ e7), grp3, .inr (.inr (.inr ⟨rfl, rfl⟩))⟩
      cases hm
    obtain ⟨t, dl, fn, ds, B, j, rfl, ht, hd, gr, hT⟩ := hg
    have hR : fn = fW ∨ fn = fF ∨ fn = fP ∨ fn = fS := hT.imp And.left (fun z => z.imp And.left (fun z => z.imp And.left And.left))
    have hSG : SqL K G0 a (ns.map V.int) := (s0.trans hs).seq hS
    refine ⟨t, _, rfl, SqT.of ht, rfl, _, _, rfl, _, _, rfl, _, _, rfl, rfl, ?_⟩
    refine ⟨_, rfl, dl, rfl, ⟨_, SqL.of hd⟩, ?_⟩
    refine for_on (ItOn.list (xs := ds.map V.int)) (fun i σ' H' => Same G0 H' ∧ ∃ c4, σ' = [some (.ref a), some (.ref dl), some (.ref fn), some (.int (j : Nat)), c4, c5, c6, c7]) ⟨Same.refl _, _, rfl⟩ (fun i σ' H' _ h => SqL.of (h.1 _ _ hd)) ?_ ?_
    · rintro i' x σ' G1 hx' ⟨hs1, c4', rfl⟩
      have hm := List.mem_of_getElem? hx'
      obtain ⟨d, hdm, rfl⟩ := List.mem_map.mp hm
      have hS1 : SqL K G1 a (ns.map V.int) := hs1.seq hSG
      refine ⟨_, rfl, fn, rfl, hR, _, rfl, .ref a, _, rfl, .inl ⟨_, hS1, rfl⟩, B, hT, _, rfl, fun p xs G2 s2' hp h1' h2' hB => ⟨p, rfl, ⟨_, SqL.of hp⟩, ?_⟩⟩
      refine lc_grow (ItOn.list (xs := xs)) (fun _ => V.bl true) (fun H' hs' => SqL.of (hs' _ _ hp)) (small (by omega)) (fun m y G3 Q' hy hs3 hq => ?_) (fun G3 l s3' hl => ?_)
      · have hb := hB y (List.mem_of_getElem? hy)
        exact ⟨_, rfl, _, rfl, _, rfl, d, y, j, rfl, (gr.bad d hdm _ _ hb).same hs3, fun H' hs' => hq _ hs'⟩
      · refine ⟨l, List.replicate xs.length true, rfl, SqL.of (by rw [List.map_replicate, List.map_const']; exact upd_same), _, rfl, ?_⟩
        show if (!((List.replicate xs.length true).all id)) = true then _ else _
        rw [all_true]
        refine iteF ?_
        exact ⟨hs1.trans (s2'.trans (s3'.trans (same_new hl _))), _, rfl⟩
    · rintro σ' G1 ⟨hs1, c4', rfl⟩
      have hS1 : SqL K G1 a (ns.map V.int) := hs1.seq hSG
      refine ⟨_, rfl, a, rfl, ⟨_, hS1⟩, ?_⟩
      refine for_on (ItOn.list (xs := ns.map V.int)) (fun i σ' H' => Same G1 H' ∧ ∃ c5 c6, σ' = [some (.ref a), some (.ref dl), some (.ref fn), some (.int (j : Nat)), c4', c5, c6, c7]) ⟨Same.refl _, _, _, rfl⟩ (fun i σ' H' _ h => h.1.seq hS1) ?_ ?_
      · rintro i' x σ' G2 hx' ⟨hs2, c5', c6', rfl⟩
        have hm := List.mem_of_getElem? hx'
        obtain ⟨n, _, rfl⟩ := List.mem_map.mp hm
        have hd2 := hs2 _ _ (hs1 _ _ hd)
        refine ⟨_, rfl, fn, rfl, hR, _, rfl, B, hT, _, rfl, fun p xs G3 s3' hp h1' h2' hB => ?_⟩
        have hd3 := s3' _ _ hd2
        have hl3 : LenV K (.ref dl) G3 ds.length := .inl ⟨_, SqL.of hd3, by rw [List.length_map]⟩
        have hx3 : LenV K (.ref p) G3 xs.length := .inl ⟨_, SqL.of hp, rfl⟩
        have g1 := gr.ne
        have g2 := gr.few
        obtain ⟨vd, hvd, hat⟩ := at_some (ds.map V.int) (i := n % (ds.length : Int)) (mod_in n (by omega)).1 (by rw [List.length_map]; exact (mod_in n (by omega)).2)
        obtain ⟨d, hdm, rfl⟩ := List.mem_map.mp hvd
        obtain ⟨y, hy, hat2⟩ := at_some xs (i := n / (ds.length : Int) % (xs.length : Int)) (mod_in _ (by omega)).1 (mod_in _ (by omega)).2
        refine ⟨_, rfl, _, rfl, _, rfl, .ref dl, _, rfl, hl3, _, _, rfl, rfl, (show (0 : Int) < (ds.length : Int) by omega), .inl (.inl ⟨dl, _, _, _, rfl, rfl, SqL.of hd3, hat, ?_⟩)⟩
        refine ⟨_, rfl, _, rfl, _, rfl, .ref dl, _, rfl, hl3, _, _, rfl, rfl, ⟨(show (0 : Int) < (ds.length : Int) by omega), (show (ds.length : Int) < 1073741824 by omega)⟩, ?_⟩
        refine ⟨_, rfl, .ref p, _, rfl, hx3, _, _, rfl, rfl, (show (0 : Int) < (xs.length : Int) by omega), .inl (.inl ⟨p, _, _, _, rfl, rfl, SqL.of hp, hat2, ?_⟩)⟩
        refine ⟨_, rfl, d, y, j, rfl, gr.bad d hdm _ _ (hB y hy), fun G4 s4' => ⟨_, rfl, ?_⟩⟩
        refine iteF ?_
        exact ⟨hs2.trans (s3'.trans s4'), _, _, rfl⟩
      · rintro σ' G2 ⟨hs2, c5', c6', rfl⟩
        exact ⟨hs.trans (hs1.trans hs2), _, _, _, _, _, _, _, rfl⟩
  · rintro σ' J0 ⟨hs, c1, c2, c3, c4, c5, c6, c7, rfl⟩
    refine ⟨small (show 2 ≤ 1000 by decide), fun l21 h21 => ?_⟩
    generalize hE21 : upd J0 l21 _ = H21
    have s21 := same_gen h21 hE21
    have e21 := at_gen hE21
    clear hE21
    refine ⟨small (show 2 ≤ 1000 by decide), fun l22 h22 => ?_⟩
    generalize hE22 : upd H21 l22 _ = H22
    have s22 := same_gen h22 hE22
    have e22 := at_gen hE22
    clear hE22
    refine ⟨small (show 2 ≤ 1000 by decide), fun l23 h23 => ?_⟩
    generalize hE23 : upd H22 l23 _ = H23
    have s23 := same_gen h23 hE23
    have e23 := at_gen hE23
    clear hE23
    refine ⟨small (show 2 ≤ 1000 by decide), fun l24 h24 => ?_⟩
    generalize hE24 : upd H23 l24 _ = H24
    have s24 := same_gen h24 hE24
    have e24 := at_gen hE24
    clear hE24
    refine ⟨small (show 2 ≤ 1000 by decide), fun l25 h25 => ?_⟩
    generalize hE25 : upd H24 l25 _ = H25
    have s25 := same_gen h25 hE25
    have e25 := at_gen hE25
    clear hE25
    refine ⟨small (show 2 ≤ 1000 by decide), fun l26 h26 => ?_⟩
    generalize hE26 : upd H25 l26 _ = H26
    have s26 := same_gen h26 hE26
    have e26 := at_gen hE26
    clear hE26
    refine ⟨small (show 2 ≤ 1000 by decide), fun l27 h27 => ?_⟩
    generalize hE27 : upd H26 l27 _ = H27
    have s27 := same_gen h27 hE27
    have e27 := at_gen hE27
    clear hE27
    refine ⟨small (show 2 ≤ 1000 by decide), fun l28 h28 => ?_⟩
    generalize hE28 : upd H27 l28 _ = H28
    have s28 := same_gen h28 hE28
    have e28 := at_gen hE28
    clear hE28
    refine ⟨small (show 2 ≤ 1000 by decide), fun l29 h29 => ?_⟩
    generalize hE29 : upd H28 l29 _ = H29
    have s29 := same_gen h29 hE29
    have e29 := at_gen hE29
    clear hE29
    refine ⟨small (show 2 ≤ 1000 by decide), fun l30 h30 => ?_⟩
    generalize hE30 : upd H29 l30 _ = H30
    have s30 := same_gen h30 hE30
    have e30 := at_gen hE30
    clear hE30
    refine ⟨small (show 2 ≤ 1000 by decide), fun l31 h31 => ?_⟩
    generalize hE31 : upd H30 l31 _ = H31
    have s31 := same_gen h31 hE31
    have e31 := at_gen hE31
    clear hE31
    refine ⟨small (show 2 ≤ 1000 by decide), fun l32 h32 => ?_⟩
    generalize hE32 : upd H31 l32 _ = H32
    have s32 := same_gen h32 hE32
    have e32 := at_gen hE32
    clear hE32
    refine ⟨small (show 2 ≤ 1000 by decide), fun l33 h33 => ?_⟩
    generalize hE33 : upd H32 l33 _ = H33
    have s33 := same_gen h33 hE33
    have e33 := at_gen hE33
    clear hE33
    refine ⟨small (show 2 ≤ 1000 by decide), fun l34 h34 => ?_⟩
    generalize hE34 : upd H33 l34 _ = H34
    have s34 := same_gen h34 hE34
    have e34 := at_gen hE34
    clear hE34
    refine ⟨small (show 2 ≤ 1000 by decide), fun l35 h35 => ?_⟩
    generalize hE35 : upd H34 l35 _ = H35
    have s35 := same_gen h35 hE35
    have e35 := at_gen hE35
    clear hE35
    refine ⟨small (show 2 ≤ 1000 by decide), fun l36 h36 => ?_⟩
    generalize hE36 : upd H35 l36 _ = H36
    have s36 := same_gen h36 hE36
    have e36 := at_gen hE36
    clear hE36
    refine ⟨small (show 4 ≤ 1000 by decide), fun l37 h37 => ?_⟩
    generalize hE37 : upd H36 l37 _ = H37
    have s37 := same_gen h37 hE37
    have e37 := at_gen hE37
    clear hE37
    have t37 := Same.refl H37
    have t36 := s37.trans t37
    have t35 := s36.trans t36
    have t34 := s35.trans t35
    have t33 := s34.trans t34
    have t32 := s33.trans t33
    have t31 := s32.trans t32
    have t30 := s31.trans t31
    have t29 := s30.trans t30
    have t28 := s29.trans t29
    have t27 := s28.trans t28
    have t26 := s27.trans t27
    have t25 := s26.trans t26
    have t24 := s25.trans t25
    have t23 := s24.trans t24
    have t22 := s23.trans t23
    have t21 := s22.trans t22
    refine ⟨l37, rfl, ⟨_, SqL.of e37⟩, ?_⟩
    refine for_on (ItOn.list (xs := [.ref l24, .ref l28, .ref l32, .ref l36])) (fun i σ' H' => Same H37 H' ∧ ∃ c1 c2 c3 c4 c5 c6 c7, σ' = [some (.ref a), c1, c2, c3, c4, c5, c6, c7]) ⟨Same.refl _, _, _, _, _, _, _, _, rfl⟩ (fun i σ' H' _ h => SqL.of (h.1 _ _ e37)) ?_ ?_
    · rintro i x σ' J1 hx ⟨hs1, c1, c2, c3, c4, c5, c6, c7, rfl⟩
      have hg : ∃ t d p, x = .ref t ∧ J1 t = some (.tup [.int d, .ref p]) ∧ Bad K J1 d (.ref p) 3 := by
        have hm := List.mem_of_getElem? hx
        rcases List.mem_cons.mp hm with rfl | hm
        · exact ⟨_, _, _, rfl, hs1 _ _ (t24 _ _ e24), .inr (.inr (.inr (.inr ⟨rfl, .inr (.inr ⟨rfl, (3, 2), ⟨l23, _, _, rfl, hs1 _ _ (t23 _ _ e23), ⟨l21, rfl, hs1 _ _ (t21 _ _ e21), by decide⟩, ⟨l22, rfl, hs1 _ _ (t22 _ _ e22), by decide⟩⟩⟩)⟩)))⟩
        rcases List.mem_cons.mp hm with rfl | hm
        · exact ⟨_, _, _, rfl, hs1 _ _ (t28 _ _ e28), .inr (.inr (.inr (.inr ⟨rfl, .inr (.inr ⟨rfl, (1, 0), ⟨l27, _, _, rfl, hs1 _ _ (t27 _ _ e27), ⟨l25, rfl, hs1 _ _ (t25 _ _ e25), by decide⟩, ⟨l26, rfl, hs1 _ _ (t26 _ _ e26), by decide⟩⟩⟩)⟩)))⟩
        rcases List.mem_cons.mp hm with rfl | hm
        · exact ⟨_, _, _, rfl, hs1 _ _ (t32 _ _ e32), .inr (.inr (.inr (.inr ⟨rfl, .inr (.inl ⟨rfl, (3, 2), (3, 2), ⟨l31, _, _, rfl, hs1 _ _ (t31 _ _ e31), ⟨l29, rfl, hs1 _ _ (t29 _ _ e29), by decide⟩, ⟨l30, rfl, hs1 _ _ (t30 _ _ e30), by decide⟩⟩⟩)⟩)))⟩
        rcases List.mem_cons.mp hm with rfl | hm
        · exact ⟨_, _, _, rfl, hs1 _ _ (t36 _ _ e36), .inr (.inr (.inr (.inr ⟨rfl, .inl ⟨rfl, (3, 2), (0, 1), ⟨l35, _, _, rfl, hs1 _ _ (t35 _ _ e35), ⟨l33, rfl, hs1 _ _ (t33 _ _ e33), by decide⟩, ⟨l34, rfl, hs1 _ _ (t34 _ _ e34), by decide⟩⟩⟩⟩)))⟩
        cases hm
      obtain ⟨t, d, p, rfl, ht, hb⟩ := hg
      refine ⟨t, _, rfl, SqT.of ht, rfl, _, _, rfl, _, _, rfl, rfl, ?_⟩
      refine ⟨_, rfl, _, rfl, d, .ref p, 3, rfl, hb, fun J2 s2' => ⟨_, rfl, ?_⟩⟩
      refine iteF ?_
      exact ⟨hs1.trans s2', _, _, _, _, _, _, _, rfl⟩
    · rintro σ' J1 ⟨hs1, c1, c2, c3, c4, c5, c6, c7, rfl⟩
      refine ⟨small (show 3 ≤ 1000 by decide), fun p1 hp1 => ?_⟩
      refine ⟨_, _, rfl, .inr ⟨turr, ⟨by rw [lit_turr]; rfl, by decide, by decide⟩, .inr ⟨false, 2, [114, 114], [116, 117], ⟨p1, rfl, st_at (by decide +kernel) upd_same, by decide⟩, by decide, fun J2 s2' => ?_⟩⟩⟩
      refine ⟨rfl, _, rfl, ?_⟩
      rw [eqS, decide_eq_true (show TX.S [116, 117] = ("tu" : Str) by decide +kernel)]
      refine iteT ?_
      refine ⟨small (show 3 ≤ 1000 by decide), fun p2 hp2 => ?_⟩
      refine ⟨_, _, rfl, .inr ⟨[], ⟨by rw [lit_no], by decide, by decide⟩, .inr ⟨true, 0, [117, 116], [117, 116], ⟨p2, rfl, st_at (by decide +kernel) upd_same, by decide⟩, by decide, fun J3 s3' => ?_⟩⟩⟩
      refine ⟨rfl, ?_⟩
      rw [eqS, decide_eq_true (show TX.S [117, 116] = ("ut" : Str) by decide +kernel)]
      exact q _

end
end K10

set_option Elab.async false
set_option linter.all false
set_option maxRecDepth 100000
set_option maxHeartbeats 4000000
namespace K10
open PySem L2 TW TX
theorem all_mk {l : PySem.W.OpenLaw} {w : World} {K : PySem.W.Frag} {h : Heap} {mg : Str → Option Value} {fa : Addr} (X : K.In h) (G : h.Ns mainGlobals mg) (hfa : mg "law" = some (.ref fa))
    {f0 : Addr} {od0 an0 : Option Addr} {sl0 : Array (Option Value)} {oc0 kV0 dc0 pm0 cd0 ct0 : Value}
    {f1 : Addr} {od1 an1 : Option Addr} {sl1 : Array (Option Value)} {oc1 kV1 dc1 pm1 cd1 ct1 : Value}
    {f2 : Addr} {od2 an2 : Option Addr} {sl2 : Array (Option Value)} {oc2 kV2 dc2 pm2 cd2 ct2 : Value}
    {f3 : Addr} {od3 an3 : Option Addr} {sl3 : Array (Option Value)} {oc3 kV3 dc3 pm3 cd3 ct3 : Value}
    {f4 : Addr} {od4 an4 : Option Addr} {sl4 : Array (Option Value)} {oc4 kV4 dc4 pm4 cd4 ct4 : Value}
    {f5 : Addr} {od5 an5 : Option Addr} {sl5 : Array (Option Value)} {oc5 kV5 dc5 pm5 cd5 ct5 : Value}
    {f6 : Addr} {od6 an6 : Option Addr} {sl6 : Array (Option Value)} {oc6 kV6 dc6 pm6 cd6 ct6 : Value}
    {f7 : Addr} {od7 an7 : Option Addr} {sl7 : Array (Option Value)} {oc7 kV7 dc7 pm7 cd7 ct7 : Value}
    {f8 : Addr} {od8 an8 : Option Addr} {sl8 : Array (Option Value)} {oc8 kV8 dc8 pm8 cd8 ct8 : Value}
    {f9 : Addr} {od9 an9 : Option Addr} {sl9 : Array (Option Value)} {oc9 kV9 dc9 pm9 cd9 ct9 : Value}
    {f10 : Addr} {od10 an10 : Option Addr} {sl10 : Array (Option Value)} {oc10 kV10 dc10 pm10 cd10 ct10 : Value}
    {f11 : Addr} {od11 an11 : Option Addr} {sl11 : Array (Option Value)} {oc11 kV11 dc11 pm11 cd11 ct11 : Value}
    {f12 : Addr} {od12 an12 : Option Addr} {sl12 : Array (Option Value)} {oc12 kV12 dc12 pm12 cd12 ct12 : Value}
    {f13 : Addr} {od13 an13 : Option Addr} {sl13 : Array (Option Value)} {oc13 kV13 dc13 pm13 cd13 ct13 : Value}
    {f14 : Addr} {od14 an14 : Option Addr} {sl14 : Array (Option Value)} {oc14 kV14 dc14 pm14 cd14 ct14 : Value}
    {f15 : Addr} {od15 an15 : Option Addr} {sl15 : Array (Option Value)} {oc15 kV15 dc15 pm15 cd15 ct15 : Value}
    {f16 : Addr} {od16 an16 : Option Addr} {sl16 : Array (Option Value)} {oc16 kV16 dc16 pm16 cd16 ct16 : Value}
    {f17 : Addr} {od17 an17 : Option Addr} {sl17 : Array (Option Value)} {oc17 kV17 dc17 pm17 cd17 ct17 : Value}
    {f18 : Addr} {od18 an18 : Option Addr} {sl18 : Array (Option Value)} {oc18 kV18 dc18 pm18 cd18 ct18 : Value}
    {f19 : Addr} {od19 an19 : Option Addr} {sl19 : Array (Option Value)} {oc19 kV19 dc19 pm19 cd19 ct19 : Value}
    {f20 : Addr} {od20 an20 : Option Addr} {sl20 : Array (Option Value)} {oc20 kV20 dc20 pm20 cd20 ct20 : Value}
    {f21 : Addr} {od21 an21 : Option Addr} {sl21 : Array (Option Value)} {oc21 kV21 dc21 pm21 cd21 ct21 : Value}
    {f22 : Addr} {od22 an22 : Option Addr} {sl22 : Array (Option Value)} {oc22 kV22 dc22 pm22 cd22 ct22 : Value}
    {f23 : Addr} {od23 an23 : Option Addr} {sl23 : Array (Option Value)} {oc23 kV23 dc23 pm23 cd23 ct23 : Value}
    {f24 : Addr} {od24 an24 : Option Addr} {sl24 : Array (Option Value)} {oc24 kV24 dc24 pm24 cd24 ct24 : Value}
    {f25 : Addr} {od25 an25 : Option Addr} {sl25 : Array (Option Value)} {oc25 kV25 dc25 pm25 cd25 ct25 : Value}
    {f26 : Addr} {od26 an26 : Option Addr} {sl26 : Array (Option Value)} {oc26 kV26 dc26 pm26 cd26 ct26 : Value}
    {f27 : Addr} {od27 an27 : Option Addr} {sl27 : Array (Option Value)} {oc27 kV27 dc27 pm27 cd27 ct27 : Value}
    {f28 : Addr} {od28 an28 : Option Addr} {sl28 : Array (Option Value)} {oc28 kV28 dc28 pm28 cd28 ct28 : Value}
    {f29 : Addr} {od29 an29 : Option Addr} {sl29 : Array (Option Value)} {oc29 kV29 dc29 pm29 cd29 ct29 : Value}
    {aLETTERS : Addr} {odL : Option Addr} {slL : Array (Option Value)} {nL : Nat} {t1 t2 t3 : Tok}
    {aDE : Addr} {odDE : Option Addr} {slDE : Array (Option Value)} {nDE : Nat} {tDE0 tDE1 : Tok}
    {aPC : Addr} {odPC : Option Addr} {slPC : Array (Option Value)} {nPC : Nat} {tPC0 tPC1 tPC2 tPC3 : Tok}
    {CDanceError : Addr}
    {CBadText : Addr}
    {CBadWord : Addr}
    {CBadFraction : Addr}
    {CBadStep : Addr}
    {CSame : Addr}
    (q_DanceError : PySem.W.nsIn K mainGlobals "DanceError" = some (some (.ref CDanceError)))
    (q_BadText : PySem.W.nsIn K mainGlobals "BadText" = some (some (.ref CBadText)))
    (q_BadWord : PySem.W.nsIn K mainGlobals "BadWord" = some (some (.ref CBadWord)))
    (q_BadFraction : PySem.W.nsIn K mainGlobals "BadFraction" = some (some (.ref CBadFraction)))
    (q_BadStep : PySem.W.nsIn K mainGlobals "BadStep" = some (some (.ref CBadStep)))
    (q_Same : PySem.W.nsIn K mainGlobals "Same" = some (some (.ref CSame)))
    (a0 : PySem.W.nsIn K mainGlobals "is_whole" = some (some (.ref f0)))
    (l0 : K.lookup f0 = some ⟨oc0, od0, .func (PySem.W.fnOf "is_whole" "is_whole" (defArgs s_is_whole) (defBody s_is_whole) (defScope s_is_whole) .none kV0 dc0 pm0 an0 cd0 ct0), sl0⟩)
    (c0 : PySem.W.codeIn K cd0 "is_whole" = true)
    (k0 : PySem.W.keepIn K (.ref f0) = true)
    (a1 : PySem.W.nsIn K mainGlobals "is_word" = some (some (.ref f1)))
    (l1 : K.lookup f1 = some ⟨oc1, od1, .func (PySem.W.fnOf "is_word" "is_word" (defArgs s_is_word) (defBody s_is_word) (defScope s_is_word) .none kV1 dc1 pm1 an1 cd1 ct1), sl1⟩)
    (c1 : PySem.W.codeIn K cd1 "is_word" = true)
    (k1 : PySem.W.keepIn K (.ref f1) = true)
    (a2 : PySem.W.nsIn K mainGlobals "common_divisor" = some (some (.ref f2)))
    (l2 : K.lookup f2 = some ⟨oc2, od2, .func (PySem.W.fnOf "common_divisor" "common_divisor" (defArgs s_common_divisor) (defBody s_common_divisor) (defScope s_common_divisor) .none kV2 dc2 pm2 an2 cd2 ct2), sl2⟩)
    (c2 : PySem.W.codeIn K cd2 "common_divisor" = true)
    (k2 : PySem.W.keepIn K (.ref f2) = true)
    (a3 : PySem.W.nsIn K mainGlobals "is_fraction" = some (some (.ref f3)))
    (l3 : K.lookup f3 = some ⟨oc3, od3, .func (PySem.W.fnOf "is_fraction" "is_fraction" (defArgs s_is_fraction) (defBody s_is_fraction) (defScope s_is_fraction) .none kV3 dc3 pm3 an3 cd3 ct3), sl3⟩)
    (c3 : PySem.W.codeIn K cd3 "is_fraction" = true)
    (k3 : PySem.W.keepIn K (.ref f3) = true)
    (a4 : PySem.W.nsIn K mainGlobals "is_text_among" = some (some (.ref f4)))
    (l4 : K.lookup f4 = some ⟨oc4, od4, .func (PySem.W.fnOf "is_text_among" "is_text_among" (defArgs s_is_text_among) (defBody s_is_text_among) (defScope s_is_text_among) .none kV4 dc4 pm4 an4 cd4 ct4), sl4⟩)
    (c4 : PySem.W.codeIn K cd4 "is_text_among" = true)
    (k4 : PySem.W.keepIn K (.ref f4) = true)
    (a5 : PySem.W.nsIn K mainGlobals "is_step" = some (some (.ref f5)))
    (l5 : K.lookup f5 = some ⟨oc5, od5, .func (PySem.W.fnOf "is_step" "is_step" (defArgs s_is_step) (defBody s_is_step) (defScope s_is_step) .none kV5 dc5 pm5 an5 cd5 ct5), sl5⟩)
    (c5 : PySem.W.codeIn K cd5 "is_step" = true)
    (k5 : PySem.W.keepIn K (.ref f5) = true)
    (a6 : PySem.W.nsIn K mainGlobals "check_word" = some (some (.ref f6)))
    (l6 : K.lookup f6 = some ⟨oc6, od6, .func (PySem.W.fnOf "check_word" "check_word" (defArgs s_check_word) (defBody s_check_word) (defScope s_check_word) .none kV6 dc6 pm6 an6 cd6 ct6), sl6⟩)
    (c6 : PySem.W.codeIn K cd6 "check_word" = true)
    (k6 : PySem.W.keepIn K (.ref f6) = true)
    (a7 : PySem.W.nsIn K mainGlobals "check_fraction" = some (some (.ref f7)))
    (l7 : K.lookup f7 = some ⟨oc7, od7, .func (PySem.W.fnOf "check_fraction" "check_fraction" (defArgs s_check_fraction) (defBody s_check_fraction) (defScope s_check_fraction) .none kV7 dc7 pm7 an7 cd7 ct7), sl7⟩)
    (c7 : PySem.W.codeIn K cd7 "check_fraction" = true)
    (k7 : PySem.W.keepIn K (.ref f7) = true)
    (a8 : PySem.W.nsIn K mainGlobals "danced" = some (some (.ref f8)))
    (l8 : K.lookup f8 = some ⟨oc8, od8, .func (PySem.W.fnOf "danced" "danced" (defArgs s_danced) (defBody s_danced) (defScope s_danced) .none kV8 dc8 pm8 an8 cd8 ct8), sl8⟩)
    (c8 : PySem.W.codeIn K cd8 "danced" = true)
    (k8 : PySem.W.keepIn K (.ref f8) = true)
    (a9 : PySem.W.nsIn K mainGlobals "back" = some (some (.ref f9)))
    (l9 : K.lookup f9 = some ⟨oc9, od9, .func (PySem.W.fnOf "back" "back" (defArgs s_back) (defBody s_back) (defScope s_back) .none kV9 dc9 pm9 an9 cd9 ct9), sl9⟩)
    (c9 : PySem.W.codeIn K cd9 "back" = true)
    (k9 : PySem.W.keepIn K (.ref f9) = true)
    (a10 : PySem.W.nsIn K mainGlobals "can_step" = some (some (.ref f10)))
    (l10 : K.lookup f10 = some ⟨oc10, od10, .func (PySem.W.fnOf "can_step" "can_step" (defArgs s_can_step) (defBody s_can_step) (defScope s_can_step) .none kV10 dc10 pm10 an10 cd10 ct10), sl10⟩)
    (c10 : PySem.W.codeIn K cd10 "can_step" = true)
    (k10 : PySem.W.keepIn K (.ref f10) = true)
    (a11 : PySem.W.nsIn K mainGlobals "after_step" = some (some (.ref f11)))
    (l11 : K.lookup f11 = some ⟨oc11, od11, .func (PySem.W.fnOf "after_step" "after_step" (defArgs s_after_step) (defBody s_after_step) (defScope s_after_step) .none kV11 dc11 pm11 an11 cd11 ct11), sl11⟩)
    (c11 : PySem.W.codeIn K cd11 "after_step" = true)
    (k11 : PySem.W.keepIn K (.ref f11) = true)
    (a12 : PySem.W.nsIn K mainGlobals "stepped" = some (some (.ref f12)))
    (l12 : K.lookup f12 = some ⟨oc12, od12, .func (PySem.W.fnOf "stepped" "stepped" (defArgs s_stepped) (defBody s_stepped) (defScope s_stepped) .none kV12 dc12 pm12 an12 cd12 ct12), sl12⟩)
    (c12 : PySem.W.codeIn K cd12 "stepped" = true)
    (k12 : PySem.W.keepIn K (.ref f12) = true)
    (a13 : PySem.W.nsIn K mainGlobals "word_to" = some (some (.ref f13)))
    (l13 : K.lookup f13 = some ⟨oc13, od13, .func (PySem.W.fnOf "word_to" "word_to" (defArgs s_word_to) (defBody s_word_to) (defScope s_word_to) .none kV13 dc13 pm13 an13 cd13 ct13), sl13⟩)
    (c13 : PySem.W.codeIn K cd13 "word_to" = true)
    (k13 : PySem.W.keepIn K (.ref f13) = true)
    (a14 : PySem.W.nsIn K mainGlobals "is_pair" = some (some (.ref f14)))
    (l14 : K.lookup f14 = some ⟨oc14, od14, .func (PySem.W.fnOf "is_pair" "is_pair" (defArgs s_is_pair) (defBody s_is_pair) (defScope s_is_pair) .none kV14 dc14 pm14 an14 cd14 ct14), sl14⟩)
    (c14 : PySem.W.codeIn K cd14 "is_pair" = true)
    (k14 : PySem.W.keepIn K (.ref f14) = true)
    (a15 : PySem.W.nsIn K mainGlobals "led" = some (some (.ref f15)))
    (l15 : K.lookup f15 = some ⟨oc15, od15, .func (PySem.W.fnOf "led" "led" (defArgs s_led) (defBody s_led) (defScope s_led) .none kV15 dc15 pm15 an15 cd15 ct15), sl15⟩)
    (c15 : PySem.W.codeIn K cd15 "led" = true)
    (k15 : PySem.W.keepIn K (.ref f15) = true)
    (a16 : PySem.W.nsIn K mainGlobals "alike" = some (some (.ref f16)))
    (l16 : K.lookup f16 = some ⟨oc16, od16, .func (PySem.W.fnOf "alike" "alike" (defArgs s_alike) (defBody s_alike) (defScope s_alike) .none kV16 dc16 pm16 an16 cd16 ct16), sl16⟩)
    (c16 : PySem.W.codeIn K cd16 "alike" = true)
    (k16 : PySem.W.keepIn K (.ref f16) = true)
    (a17 : PySem.W.nsIn K mainGlobals "comes_back" = some (some (.ref f17)))
    (l17 : K.lookup f17 = some ⟨oc17, od17, .func (PySem.W.fnOf "comes_back" "comes_back" (defArgs s_comes_back) (defBody s_comes_back) (defScope s_comes_back) .none kV17 dc17 pm17 an17 cd17 ct17), sl17⟩)
    (c17 : PySem.W.codeIn K cd17 "comes_back" = true)
    (k17 : PySem.W.keepIn K (.ref f17) = true)
    (a18 : PySem.W.nsIn K mainGlobals "elsewhere" = some (some (.ref f18)))
    (l18 : K.lookup f18 = some ⟨oc18, od18, .func (PySem.W.fnOf "elsewhere" "elsewhere" (defArgs s_elsewhere) (defBody s_elsewhere) (defScope s_elsewhere) .none kV18 dc18 pm18 an18 cd18 ct18), sl18⟩)
    (c18 : PySem.W.codeIn K cd18 "elsewhere" = true)
    (k18 : PySem.W.keepIn K (.ref f18) = true)
    (a19 : PySem.W.nsIn K mainGlobals "is_writable" = some (some (.ref f19)))
    (l19 : K.lookup f19 = some ⟨oc19, od19, .func (PySem.W.fnOf "is_writable" "is_writable" (defArgs s_is_writable) (defBody s_is_writable) (defScope s_is_writable) .none kV19 dc19 pm19 an19 cd19 ct19), sl19⟩)
    (c19 : PySem.W.codeIn K cd19 "is_writable" = true)
    (k19 : PySem.W.keepIn K (.ref f19) = true)
    (a20 : PySem.W.nsIn K mainGlobals "written" = some (some (.ref f20)))
    (l20 : K.lookup f20 = some ⟨oc20, od20, .func (PySem.W.fnOf "written" "written" (defArgs s_written) (defBody s_written) (defScope s_written) .none kV20 dc20 pm20 an20 cd20 ct20), sl20⟩)
    (c20 : PySem.W.codeIn K cd20 "written" = true)
    (k20 : PySem.W.keepIn K (.ref f20) = true)
    (a21 : PySem.W.nsIn K mainGlobals "_law_kinds" = some (some (.ref f21)))
    (l21 : K.lookup f21 = some ⟨oc21, od21, .func (PySem.W.fnOf "_law_kinds" "_law_kinds" (defArgs s_law_kinds) (defBody s_law_kinds) (defScope s_law_kinds) .none kV21 dc21 pm21 an21 cd21 ct21), sl21⟩)
    (c21 : PySem.W.codeIn K cd21 "_law_kinds" = true)
    (k21 : PySem.W.keepIn K (.ref f21) = true)
    (a22 : PySem.W.nsIn K mainGlobals "_law_ask" = some (some (.ref f22)))
    (l22 : K.lookup f22 = some ⟨oc22, od22, .func (PySem.W.fnOf "_law_ask" "_law_ask" (defArgs s_law_ask) (defBody s_law_ask) (defScope s_law_ask) .none kV22 dc22 pm22 an22 cd22 ct22), sl22⟩)
    (c22 : PySem.W.codeIn K cd22 "_law_ask" = true)
    (k22 : PySem.W.keepIn K (.ref f22) = true)
    (a23 : PySem.W.nsIn K mainGlobals "_law_asked" = some (some (.ref f23)))
    (l23 : K.lookup f23 = some ⟨oc23, od23, .func (PySem.W.fnOf "_law_asked" "_law_asked" (defArgs s_law_asked) (defBody s_law_asked) (defScope s_law_asked) .none kV23 dc23 pm23 an23 cd23 ct23), sl23⟩)
    (c23 : PySem.W.codeIn K cd23 "_law_asked" = true)
    (k23 : PySem.W.keepIn K (.ref f23) = true)
    (a24 : PySem.W.nsIn K mainGlobals "_law_due" = some (some (.ref f24)))
    (l24 : K.lookup f24 = some ⟨oc24, od24, .func (PySem.W.fnOf "_law_due" "_law_due" (defArgs s_law_due) (defBody s_law_due) (defScope s_law_due) .none kV24 dc24 pm24 an24 cd24 ct24), sl24⟩)
    (c24 : PySem.W.codeIn K cd24 "_law_due" = true)
    (k24 : PySem.W.keepIn K (.ref f24) = true)
    (a25 : PySem.W.nsIn K mainGlobals "_law_words" = some (some (.ref f25)))
    (l25 : K.lookup f25 = some ⟨oc25, od25, .func (PySem.W.fnOf "_law_words" "_law_words" (defArgs s_law_words) (defBody s_law_words) (defScope s_law_words) .none kV25 dc25 pm25 an25 cd25 ct25), sl25⟩)
    (c25 : PySem.W.codeIn K cd25 "_law_words" = true)
    (k25 : PySem.W.keepIn K (.ref f25) = true)
    (a26 : PySem.W.nsIn K mainGlobals "_law_fractions" = some (some (.ref f26)))
    (l26 : K.lookup f26 = some ⟨oc26, od26, .func (PySem.W.fnOf "_law_fractions" "_law_fractions" (defArgs s_law_fractions) (defBody s_law_fractions) (defScope s_law_fractions) .none kV26 dc26 pm26 an26 cd26 ct26), sl26⟩)
    (c26 : PySem.W.codeIn K cd26 "_law_fractions" = true)
    (k26 : PySem.W.keepIn K (.ref f26) = true)
    (a27 : PySem.W.nsIn K mainGlobals "_law_steps" = some (some (.ref f27)))
    (l27 : K.lookup f27 = some ⟨oc27, od27, .func (PySem.W.fnOf "_law_steps" "_law_steps" (defArgs s_law_steps) (defBody s_law_steps) (defScope s_law_steps) .none kV27 dc27 pm27 an27 cd27 ct27), sl27⟩)
    (c27 : PySem.W.codeIn K cd27 "_law_steps" = true)
    (k27 : PySem.W.keepIn K (.ref f27) = true)
    (a28 : PySem.W.nsIn K mainGlobals "_law_pairs" = some (some (.ref f28)))
    (l28 : K.lookup f28 = some ⟨oc28, od28, .func (PySem.W.fnOf "_law_pairs" "_law_pairs" (defArgs s_law_pairs) (defBody s_law_pairs) (defScope s_law_pairs) .none kV28 dc28 pm28 an28 cd28 ct28), sl28⟩)
    (c28 : PySem.W.codeIn K cd28 "_law_pairs" = true)
    (k28 : PySem.W.keepIn K (.ref f28) = true)
    (a29 : PySem.W.nsIn K mainGlobals "law" = some (some (.ref f29)))
    (l29 : K.lookup f29 = some ⟨oc29, od29, .func (PySem.W.fnOf "law" "law" (defArgs s_law) (defBody s_law) (defScope s_law) .none kV29 dc29 pm29 an29 cd29 ct29), sl29⟩)
    (c29 : PySem.W.codeIn K cd29 "law" = true)
    (k29 : PySem.W.keepIn K (.ref f29) = true)
    (z_len : PySem.W.nsIn K mainGlobals "len" = some none)
    (z_all : PySem.W.nsIn K mainGlobals "all" = some none)
    (z_any : PySem.W.nsIn K mainGlobals "any" = some none)
    (z_isinstance : PySem.W.nsIn K mainGlobals "isinstance" = some none)
    (z_abs : PySem.W.nsIn K mainGlobals "abs" = some none)
    (z_int : PySem.W.nsIn K mainGlobals "int" = some none)
    (z_bool : PySem.W.nsIn K mainGlobals "bool" = some none)
    (z_str : PySem.W.nsIn K mainGlobals "str" = some none)
    (z_tuple : PySem.W.nsIn K mainGlobals "tuple" = some none)
    (z_list : PySem.W.nsIn K mainGlobals "list" = some none)
    (z_reversed : PySem.W.nsIn K mainGlobals "reversed" = some none)
    (z_range : PySem.W.nsIn K mainGlobals "range" = some none)
    (z_max : PySem.W.nsIn K mainGlobals "max" = some none)
    (gL : PySem.W.nsIn K mainGlobals "LETTERS" = some (some (.ref aLETTERS)))
    (lL : K.lookup aLETTERS = some ⟨.type "tuple", odL, .seq [Value.str "t" t1, Value.str "u" t2, Value.str "r" t3].toArray nL, slL⟩)
    (gDE : PySem.W.nsIn K mainGlobals "DEEDS" = some (some (.ref aDE)))
    (lDE : K.lookup aDE = some ⟨.type "tuple", odDE, .seq [Value.str "out" tDE0, Value.str "in" tDE1].toArray nDE, slDE⟩)
    (gPC : PySem.W.nsIn K mainGlobals "PIECES" = some (some (.ref aPC)))
    (lPC : K.lookup aPC = some ⟨.type "tuple", odPC, .seq [Value.str "tu" tPC0, Value.str "ut" tPC1, Value.str "rr" tPC2, Value.str "trtrtr" tPC3].toArray nPC, slPC⟩)
    (ex_BadWord : PySem.W.excIn K CBadWord [.type "ValueError", .type "Exception", .type "BaseException", .type "object"] "ValueError.__new__" = true)
    (xga_BadWord : PySem.W.findIn K (.ref CBadWord) "__getattribute__" = some (some (.builtin "BaseException.__getattribute__")))
    (xgt_BadWord : PySem.W.findIn K (.ref CBadWord) "__getattr__" = some none)
    (xat_BadWord : PySem.W.findIn K (.ref CBadWord) "__class__" = some (some (.builtin "object.__class__")))
    (xob_BadWord : PySem.W.mroIn K CBadWord (.type "object") = some true)
    (xbx_BadWord : PySem.W.mroIn K CBadWord (.type "BaseException") = some true)
    (xcl_BadWord : PySem.W.isClsIn K CBadWord = true)
    (hit_BadWord : PySem.W.exmOne K (.ref CBadWord) (.ref CDanceError) = some true)
    (ex_BadFraction : PySem.W.excIn K CBadFraction [.type "ValueError", .type "Exception", .type "BaseException", .type "object"] "ValueError.__new__" = true)
    (xga_BadFraction : PySem.W.findIn K (.ref CBadFraction) "__getattribute__" = some (some (.builtin "BaseException.__getattribute__")))
    (xgt_BadFraction : PySem.W.findIn K (.ref CBadFraction) "__getattr__" = some none)
    (xat_BadFraction : PySem.W.findIn K (.ref CBadFraction) "__class__" = some (some (.builtin "object.__class__")))
    (xob_BadFraction : PySem.W.mroIn K CBadFraction (.type "object") = some true)
    (xbx_BadFraction : PySem.W.mroIn K CBadFraction (.type "BaseException") = some true)
    (xcl_BadFraction : PySem.W.isClsIn K CBadFraction = true)
    (hit_BadFraction : PySem.W.exmOne K (.ref CBadFraction) (.ref CDanceError) = some true)
    (ex_BadStep : PySem.W.excIn K CBadStep [.type "ValueError", .type "Exception", .type "BaseException", .type "object"] "ValueError.__new__" = true)
    (xga_BadStep : PySem.W.findIn K (.ref CBadStep) "__getattribute__" = some (some (.builtin "BaseException.__getattribute__")))
    (xgt_BadStep : PySem.W.findIn K (.ref CBadStep) "__getattr__" = some none)
    (xat_BadStep : PySem.W.findIn K (.ref CBadStep) "__class__" = some (some (.builtin "object.__class__")))
    (xob_BadStep : PySem.W.mroIn K CBadStep (.type "object") = some true)
    (xbx_BadStep : PySem.W.mroIn K CBadStep (.type "BaseException") = some true)
    (xcl_BadStep : PySem.W.isClsIn K CBadStep = true)
    (hit_BadStep : PySem.W.exmOne K (.ref CBadStep) (.ref CDanceError) = some true)
    (ex_Same : PySem.W.excIn K CSame [.type "ValueError", .type "Exception", .type "BaseException", .type "object"] "ValueError.__new__" = true)
    (xga_Same : PySem.W.findIn K (.ref CSame) "__getattribute__" = some (some (.builtin "BaseException.__getattribute__")))
    (xgt_Same : PySem.W.findIn K (.ref CSame) "__getattr__" = some none)
    (xat_Same : PySem.W.findIn K (.ref CSame) "__class__" = some (some (.builtin "object.__class__")))
    (xob_Same : PySem.W.mroIn K CSame (.type "object") = some true)
    (xbx_Same : PySem.W.mroIn K CSame (.type "BaseException") = some true)
    (xcl_Same : PySem.W.isClsIn K CSame = true)
    (hit_Same : PySem.W.exmOne K (.ref CSame) (.ref CDanceError) = some true)
    (hnC : PySem.W.specialIn K (.builtin "object.__class__") "__get__" = some (some (.builtin "getset_descriptor.__get__")))
    (htkC : PySem.W.takesIn K (.builtin "object.__class__") = some true)
    (z_ValueError : PySem.W.nsIn K mainGlobals "ValueError" = some none)
    (kt_BadWord_ValueError : PySem.W.kitOne K (.ref CBadWord) (.type "ValueError") = some true)
    (kt_BadFraction_ValueError : PySem.W.kitOne K (.ref CBadFraction) (.type "ValueError") = some true)
    (kt_BadStep_ValueError : PySem.W.kitOne K (.ref CBadStep) (.type "ValueError") = some true)
    (kt_Same_ValueError : PySem.W.kitOne K (.ref CSame) (.type "ValueError") = some true)
    (kt_BadWord_BadFraction : PySem.W.kitOne K (.ref CBadWord) (.ref CBadFraction) = some false)
    (kt_BadWord_BadStep : PySem.W.kitOne K (.ref CBadWord) (.ref CBadStep) = some false)
    (kt_BadWord_Same : PySem.W.kitOne K (.ref CBadWord) (.ref CSame) = some false)
    (kt_BadWord_BadText : PySem.W.kitOne K (.ref CBadWord) (.ref CBadText) = some false)
    (kt_BadFraction_BadWord : PySem.W.kitOne K (.ref CBadFraction) (.ref CBadWord) = some false)
    (kt_BadFraction_BadStep : PySem.W.kitOne K (.ref CBadFraction) (.ref CBadStep) = some false)
    (kt_BadFraction_Same : PySem.W.kitOne K (.ref CBadFraction) (.ref CSame) = some false)
    (kt_BadFraction_BadText : PySem.W.kitOne K (.ref CBadFraction) (.ref CBadText) = some false)
    (kt_BadStep_BadWord : PySem.W.kitOne K (.ref CBadStep) (.ref CBadWord) = some false)
    (kt_BadStep_BadFraction : PySem.W.kitOne K (.ref CBadStep) (.ref CBadFraction) = some false)
    (kt_BadStep_Same : PySem.W.kitOne K (.ref CBadStep) (.ref CSame) = some false)
    (kt_BadStep_BadText : PySem.W.kitOne K (.ref CBadStep) (.ref CBadText) = some false)
    (kt_Same_BadWord : PySem.W.kitOne K (.ref CSame) (.ref CBadWord) = some false)
    (kt_Same_BadFraction : PySem.W.kitOne K (.ref CSame) (.ref CBadFraction) = some false)
    (kt_Same_BadStep : PySem.W.kitOne K (.ref CSame) (.ref CBadStep) = some false)
    (kt_Same_BadText : PySem.W.kitOne K (.ref CSame) (.ref CBadText) = some false) :
    ∃ fd : FuncData, (∀ (s : Shared) (v : Value), BindsTo s fd ⟨[v], []⟩ [("_law_script", v)]) ∧ ∀ base : Heap, K.In base → base.Ns mainGlobals mg → FnOk l.prog w K mg base CX0 8 fa fd ["_law_script"] (spLaw K) := by
  have e := hfa.symm.trans (PySem.W.mg_of X G a29)
  cases e
  have GL : Glo mg := ⟨PySem.W.mg_none_of X G z_len, PySem.W.mg_none_of X G z_all, PySem.W.mg_none_of X G z_any, PySem.W.mg_none_of X G z_isinstance, PySem.W.mg_none_of X G z_abs, PySem.W.mg_none_of X G z_int, PySem.W.mg_none_of X G z_bool, PySem.W.mg_none_of X G z_str, PySem.W.mg_none_of X G z_tuple, PySem.W.mg_none_of X G z_list, PySem.W.mg_none_of X G z_reversed, PySem.W.mg_none_of X G z_range, PySem.W.mg_none_of X G z_max⟩
  have cLETTERS : Letters K mg := ⟨aLETTERS, PySem.W.mg_of X G gL, fun H => .inr ⟨_, _, _, lL, rfl, rfl, three_ok, .cons ⟨t1, by rw [lit_t]⟩ (.cons ⟨t2, by rw [lit_u]⟩ (.cons ⟨t3, by rw [lit_r]⟩ .nil))⟩⟩
  have cDEEDS : Deeds K mg := ⟨aDE, PySem.W.mg_of X G gDE, fun H => .inr ⟨_, _, _, lDE, rfl, rfl, small (show 2 ≤ 1000 by decide), (.cons ⟨tDE0, rfl⟩ (.cons ⟨tDE1, rfl⟩ .nil))⟩⟩
  have cPIECES : Pieces K mg := ⟨aPC, PySem.W.mg_of X G gPC, fun H => .inr ⟨_, _, _, lPC, rfl, rfl, small (show 4 ≤ 1000 by decide), (.cons ⟨tPC0, rfl⟩ (.cons ⟨tPC1, rfl⟩ (.cons ⟨tPC2, rfl⟩ (.cons ⟨tPC3, rfl⟩ .nil))))⟩⟩
  have m_DanceError := PySem.W.mg_of X G q_DanceError
  have m_BadText := PySem.W.mg_of X G q_BadText
  have m_BadWord := PySem.W.mg_of X G q_BadWord
  have m_BadFraction := PySem.W.mg_of X G q_BadFraction
  have m_BadStep := PySem.W.mg_of X G q_BadStep
  have m_Same := PySem.W.mg_of X G q_Same
  have xe_BadWord : Exc K mg "BadWord" CBadWord CDanceError := ⟨q_BadWord, ex_BadWord, ⟨xga_BadWord, xgt_BadWord, xat_BadWord, hnC, htkC, xob_BadWord, xbx_BadWord, xcl_BadWord⟩, m_BadWord, m_DanceError, hit_BadWord, kit_self _⟩
  have xe_BadFraction : Exc K mg "BadFraction" CBadFraction CDanceError := ⟨q_BadFraction, ex_BadFraction, ⟨xga_BadFraction, xgt_BadFraction, xat_BadFraction, hnC, htkC, xob_BadFraction, xbx_BadFraction, xcl_BadFraction⟩, m_BadFraction, m_DanceError, hit_BadFraction, kit_self _⟩
  have xe_BadStep : Exc K mg "BadStep" CBadStep CDanceError := ⟨q_BadStep, ex_BadStep, ⟨xga_BadStep, xgt_BadStep, xat_BadStep, hnC, htkC, xob_BadStep, xbx_BadStep, xcl_BadStep⟩, m_BadStep, m_DanceError, hit_BadStep, kit_self _⟩
  have xe_Same : Exc K mg "Same" CSame CDanceError := ⟨q_Same, ex_Same, ⟨xga_Same, xgt_Same, xat_Same, hnC, htkC, xob_Same, xbx_Same, xcl_Same⟩, m_Same, m_DanceError, hit_Same, kit_self _⟩
  have z5 : Four5 K mg CBadWord CBadFraction CBadStep CSame CBadText CDanceError := ⟨xe_BadWord, xe_BadFraction, xe_BadStep, xe_Same, m_BadText, PySem.W.mg_none_of X G z_ValueError, kt_BadWord_BadFraction, kt_BadWord_BadStep, kt_BadWord_Same, kt_BadWord_BadText, kt_BadWord_ValueError, kt_BadFraction_BadWord, kt_BadFraction_BadStep, kt_BadFraction_Same, kt_BadFraction_BadText, kt_BadFraction_ValueError, kt_BadStep_BadWord, kt_BadStep_BadFraction, kt_BadStep_Same, kt_BadStep_BadText, kt_BadStep_ValueError, kt_Same_BadWord, kt_Same_BadFraction, kt_Same_BadStep, kt_Same_BadText, kt_Same_ValueError⟩
  have F0 := fun_mk (st := s_is_whole) l0 c0 k0
  have F1 := fun_mk (st := s_is_word) l1 c1 k1
  have F2 := fun_mk (st := s_common_divisor) l2 c2 k2
  have F3 := fun_mk (st := s_is_fraction) l3 c3 k3
  have F4 := fun_mk (st := s_is_text_among) l4 c4 k4
  have F5 := fun_mk (st := s_is_step) l5 c5 k5
  have F6 := fun_mk (st := s_check_word) l6 c6 k6
  have F7 := fun_mk (st := s_check_fraction) l7 c7 k7
  have F8 := fun_mk (st := s_danced) l8 c8 k8
  have F9 := fun_mk (st := s_back) l9 c9 k9
  have F10 := fun_mk (st := s_can_step) l10 c10 k10
  have F11 := fun_mk (st := s_after_step) l11 c11 k11
  have F12 := fun_mk (st := s_stepped) l12 c12 k12
  have F13 := fun_mk (st := s_word_to) l13 c13 k13
  have F14 := fun_mk (st := s_is_pair) l14 c14 k14
  have F15 := fun_mk (st := s_led) l15 c15 k15
  have F16 := fun_mk (st := s_alike) l16 c16 k16
  have F17 := fun_mk (st := s_comes_back) l17 c17 k17
  have F18 := fun_mk (st := s_elsewhere) l18 c18 k18
  have F19 := fun_mk (st := s_is_writable) l19 c19 k19
  have F20 := fun_mk (st := s_written) l20 c20 k20
  have F21 := fun_mk (st := s_law_kinds) l21 c21 k21
  have F22 := fun_mk (st := s_law_ask) l22 c22 k22
  have F23 := fun_mk (st := s_law_asked) l23 c23 k23
  have F24 := fun_mk (st := s_law_due) l24 c24 k24
  have F25 := fun_mk (st := s_law_words) l25 c25 k25
  have F26 := fun_mk (st := s_law_fractions) l26 c26 k26
  have F27 := fun_mk (st := s_law_steps) l27 c27 k27
  have F28 := fun_mk (st := s_law_pairs) l28 c28 k28
  have F29 := fun_mk (st := s_law) l29 c29 k29
  refine ⟨PySem.W.fnOf "law" "law" (defArgs s_law) (defBody s_law) (defScope s_law) .none kV29 dc29 pm29 an29 cd29 ct29, fun s v => .of_eq rfl, fun base _ _ => ?_⟩
  have C0 := callee_of F0 (ok_is_whole (P := l.prog) (w := w) (base := base) (mg := mg) (k := 0) GL F0) (PySem.W.mg_of X G a0) fun _ _ _ _ _ _ us hl => by obtain ⟨_, rfl⟩ := len1 hl; rfl
  have C1 := callee_of F1 (ok_is_word (P := l.prog) (w := w) (base := base) (mg := mg) (k := 0) GL cLETTERS F1) (PySem.W.mg_of X G a1) fun _ _ _ _ _ _ us hl => by obtain ⟨_, rfl⟩ := len1 hl; rfl
  have C2 := callee_of F2 (ok_common_divisor (P := l.prog) (w := w) (base := base) (mg := mg) (k := 0) F2) (PySem.W.mg_of X G a2) fun _ _ _ _ _ _ us hl => by obtain ⟨_, _, rfl⟩ := len2 hl; rfl
  have C3 := callee_of F3 (ok_is_fraction (P := l.prog) (w := w) (base := base) (mg := mg) (k := 1) GL F3 (C0.mono (by decide)) (C2.mono (by decide))) (PySem.W.mg_of X G a3) fun _ _ _ _ _ _ us hl => by obtain ⟨_, rfl⟩ := len1 hl; rfl
  have C4 := callee_of F4 (ok_is_text_among (P := l.prog) (w := w) (base := base) (mg := mg) (k := 0) GL F4) (PySem.W.mg_of X G a4) fun _ _ _ _ _ _ us hl => by obtain ⟨_, _, rfl⟩ := len2 hl; rfl
  have C5 := callee_of F5 (ok_is_step (P := l.prog) (w := w) (base := base) (mg := mg) (k := 1) GL cDEEDS cPIECES F5 (C0.mono (by decide)) (C4.mono (by decide))) (PySem.W.mg_of X G a5) fun _ _ _ _ _ _ us hl => by obtain ⟨_, rfl⟩ := len1 hl; rfl
  have C6 := calleeX_of F6 (ok_check_word (P := l.prog) (w := w) (base := base) (mg := mg) (k := 1) xe_BadWord F6 (C1.mono (by decide))) (PySem.W.mg_of X G a6) fun _ _ _ _ _ _ us hl => by obtain ⟨_, rfl⟩ := len1 hl; rfl
  have C7 := calleeX_of F7 (ok_check_fraction (P := l.prog) (w := w) (base := base) (mg := mg) (k := 2) xe_BadFraction F7 (C3.mono (by decide))) (PySem.W.mg_of X G a7) fun _ _ _ _ _ _ us hl => by obtain ⟨_, rfl⟩ := len1 hl; rfl
  have C8 := calleeX_of F8 (ok_danced (P := l.prog) (w := w) (base := base) (mg := mg) (k := 3) F8 (C6.mono (by decide)) (C7.mono (by decide))) (PySem.W.mg_of X G a8) fun _ _ _ _ _ _ us hl => by obtain ⟨_, _, rfl⟩ := len2 hl; rfl
  have C9 := calleeX_of F9 (ok_back (P := l.prog) (w := w) (base := base) (mg := mg) (k := 2) F9 (C6.mono (by decide))) (PySem.W.mg_of X G a9) fun _ _ _ _ _ _ us hl => by obtain ⟨_, rfl⟩ := len1 hl; rfl
  have C10 := callee_of F10 (ok_can_step (P := l.prog) (w := w) (base := base) (mg := mg) (k := 2) GL F10 (C5.mono (by decide))) (PySem.W.mg_of X G a10) fun _ _ _ _ _ _ us hl => by obtain ⟨_, _, rfl⟩ := len2 hl; rfl
  have C11 := callee_of F11 (ok_after_step (P := l.prog) (w := w) (base := base) (mg := mg) (k := 0) GL F11) (PySem.W.mg_of X G a11) fun _ _ _ _ _ _ us hl => by obtain ⟨_, _, rfl⟩ := len2 hl; rfl
  have C12 := calleeX_of F12 (ok_stepped (P := l.prog) (w := w) (base := base) (mg := mg) (k := 3) xe_BadStep F12 (C6.mono (by decide)) (C10.mono (by decide)) (C11.mono (by decide))) (PySem.W.mg_of X G a12) fun _ _ _ _ _ _ us hl => by obtain ⟨_, _, rfl⟩ := len2 hl; rfl
  have C13 := calleeX_of F13 (ok_word_to (P := l.prog) (w := w) (base := base) (mg := mg) (k := 3) F13 (C7.mono (by decide))) (PySem.W.mg_of X G a13) fun _ _ _ _ _ _ us hl => by obtain ⟨_, _, rfl⟩ := len2 hl; rfl
  have C14 := callee_of F14 (ok_is_pair (P := l.prog) (w := w) (base := base) (mg := mg) (k := 2) GL F14 (C3.mono (by decide))) (PySem.W.mg_of X G a14) fun _ _ _ _ _ _ us hl => by obtain ⟨_, rfl⟩ := len1 hl; rfl
  have C15 := calleeX_of F15 (ok_led (P := l.prog) (w := w) (base := base) (mg := mg) (k := 3) xe_BadFraction xe_Same F15 (C14.mono (by decide))) (PySem.W.mg_of X G a15) fun _ _ _ _ _ _ us hl => by obtain ⟨_, _, rfl⟩ := len2 hl; rfl
  have C16 := calleeX_of F16 (ok_alike (P := l.prog) (w := w) (base := base) (mg := mg) (k := 2) F16 (C6.mono (by decide))) (PySem.W.mg_of X G a16) fun _ _ _ _ _ _ us hl => by obtain ⟨_, _, rfl⟩ := len2 hl; rfl
  have C17 := calleeX_of F17 (ok_comes_back (P := l.prog) (w := w) (base := base) (mg := mg) (k := 2) F17 (C6.mono (by decide))) (PySem.W.mg_of X G a17) fun _ _ _ _ _ _ us hl => by obtain ⟨_, rfl⟩ := len1 hl; rfl
  have C18 := calleeX_of F18 (ok_elsewhere (P := l.prog) (w := w) (base := base) (mg := mg) (k := 2) F18 (C6.mono (by decide))) (PySem.W.mg_of X G a18) fun _ _ _ _ _ _ us hl => by obtain ⟨_, _, rfl⟩ := len2 hl; rfl
  have C19 := callee_of F19 (ok_is_writable (P := l.prog) (w := w) (base := base) (mg := mg) (k := 2) GL F19 (C3.mono (by decide))) (PySem.W.mg_of X G a19) fun _ _ _ _ _ _ us hl => by obtain ⟨_, rfl⟩ := len1 hl; rfl
  have C20 := calleeX_of F20 (ok_written (P := l.prog) (w := w) (base := base) (mg := mg) (k := 3) xe_BadFraction F20 (C19.mono (by decide))) (PySem.W.mg_of X G a20) fun _ _ _ _ _ _ us hl => by obtain ⟨_, rfl⟩ := len1 hl; rfl
  have C21 := calleeH_of F21 (ok_law_kinds (P := l.prog) (w := w) (base := base) (mg := mg) (k := 0) GL z5 F21) (PySem.W.mg_of X G a21) fun _ _ _ _ _ _ us hl => by obtain ⟨_, rfl⟩ := len1 hl; rfl
  have C22 := calleeX_of F22 (ok_law_ask (P := l.prog) (w := w) (base := base) (mg := mg) (k := 4) F22 (C9.mono (by decide)) (C17.mono (by decide)) (C20.mono (by decide)) (C8.mono (by decide)) (C16.mono (by decide)) (C18.mono (by decide)) (C12.mono (by decide)) (C13.mono (by decide)) (C15.mono (by decide))) (PySem.W.mg_of X G a22) fun _ _ _ _ _ _ us hl => by obtain ⟨_, _, rfl⟩ := len2 hl; rfl
  have C23 := callee_of F23 (ok_law_asked (P := l.prog) (w := w) (base := base) (mg := mg) (k := 5) z5 F23 (C22.mono (by decide)) (C21.mono (by decide))) (PySem.W.mg_of X G a23) fun _ _ _ _ _ _ us hl => by obtain ⟨_, _, rfl⟩ := len2 hl; rfl
  have C24 := callee_of F24 (ok_law_due (P := l.prog) (w := w) (base := base) (mg := mg) (k := 6) GL F24 (C23.mono (by decide))) (PySem.W.mg_of X G a24) fun _ _ _ _ _ _ us hl => by obtain ⟨_, _, _, rfl⟩ := len3 hl; rfl
  have C25 := callee_of F25 (ok_law_words (P := l.prog) (w := w) (base := base) (mg := mg) (k := 0) GL F25) (PySem.W.mg_of X G a25) fun _ _ _ _ _ _ us hl => by obtain ⟨_, rfl⟩ := len1 hl; rfl
  have C26 := callee_of F26 (ok_law_fractions (P := l.prog) (w := w) (base := base) (mg := mg) (k := 0) GL F26) (PySem.W.mg_of X G a26) fun _ _ _ _ _ _ us hl => by obtain ⟨_, rfl⟩ := len1 hl; rfl
  have C27 := callee_of F27 (ok_law_steps (P := l.prog) (w := w) (base := base) (mg := mg) (k := 0) GL F27) (PySem.W.mg_of X G a27) fun _ _ _ _ _ _ us hl => by obtain ⟨_, rfl⟩ := len1 hl; rfl
  have C28 := callee_of F28 (ok_law_pairs (P := l.prog) (w := w) (base := base) (mg := mg) (k := 1) F28 (C26.mono (by decide))) (PySem.W.mg_of X G a28) fun _ _ _ _ _ _ us hl => by obtain ⟨_, rfl⟩ := len1 hl; rfl
  exact ok_law (k := 7) GL F29 (C25.mono (by decide)) (C26.mono (by decide)) (C28.mono (by decide)) (C27.mono (by decide)) (C24.mono (by decide)) (C12.mono (by decide))
theorem walk {l : PySem.W.OpenLaw} {q : Program} {loose : List Str} {XP : (Str → Option Value) → Heap → Prop} {YP : World → Heap → Prop} {d : DefRec} {K : Params → PySem.W.Frag} (hn : l.most = some 63) (hdf : d.params.defaults = [])
    (hY : ∀ (w : World) (h : Heap), YP w h → (K w.params).In h)
    (F : ∀ (w : World) (mg : Str → Option Value) (fa : Addr) (h : Heap), (K w.params).In h → h.Ns mainGlobals mg → mg d.name = some (.ref fa) →
      ∃ fd : FuncData, (∀ (s : Shared) (u : Value), BindsTo s fd ⟨[u], []⟩ [("_law_script", u)]) ∧ ∀ base : Heap, (K w.params).In base → base.Ns mainGlobals mg → FnOk l.prog w (K w.params) mg base CX0 8 fa fd ["_law_script"] (spLaw (K w.params))) :
    PySem.W.WalkO q loose XP YP l.row.toRowW d [] (fun f vs => PySem.call f vs) :=
  L2.walk_of (n := 63) (k := 8) (x := "_law_script") (CX := fun _ => CX0) (sp := fun w => spLaw (K w.params)) hn (by decide) hdf ⟨rfl, by decide, by decide⟩ hY F (fun _ _ a ns hl _ hS => ⟨a, ns, rfl, hS, hl, fun _ => rfl⟩) fun _ _ _ _ _ z => z
open PySem.W PySem.W.X in
theorem walkX {l : PySem.W.OpenLaw} {q : Program} {loose : List Str} {XP : (Str → Option Value) → Heap → Prop} {d : DefRec} {K : Params → PySem.W.Frag} {as : List Addr} {n t : Nat} (hn : l.most = some 63) (hdf : d.params.defaults = []) (hk : ∀ P, as = (K P).map (·.1))
    (F : ∀ (w : World) (mg : Str → Option Value) (fa : Addr) (h : Heap), (K w.params).In h → h.Ns mainGlobals mg → mg d.name = some (.ref fa) →
      ∃ fd : FuncData, (∀ (s : Shared) (u : Value), BindsTo s fd ⟨[u], []⟩ [("_law_script", u)]) ∧ ∀ base : Heap, (K w.params).In base → base.Ns mainGlobals mg → FnOk l.prog w (K w.params) mg base CX0 8 fa fd ["_law_script"] (spLaw (K w.params))) :
    WalkX q loose XP (obsZ as) (valZ K n t) l.row.toRowW d [] (fun f vs => PySem.call f vs) :=
  fun w s₀ s₁ mg mb G y a o pm cd doc dV kV h2 h3 h4 h5 h6 h7 args vals as' L hpre hlay hrd hwl hlo =>
    walk (K := K) (YP := fun w h => (K w.params).In h) hn hdf (fun w h Y => Y) F w s₀ s₁ mg mb G (InK.keeps w s₀.heap s₁.heap (z_facts hk y).2.1 L.keeps) a o pm cd doc dV kV h2 h3 h4 h5 h6 h7 args vals as' hpre hlay hrd hwl hlo
end K10
/-! the text's own twin is the text itself (the head's twins of a long text are great) -/
def PySem.W.Fast.tw15862120634754133965 : PySem.Program := PySem.Challenge.pw_twistturn_k10_refused
theorem PySem.W.Fast.te15862120634754133965 : PySem.Challenge.pw_twistturn_k10_refused = PySem.W.Fast.tw15862120634754133965 := rfl
/-! names that the head's great twins would bear: taken, so that it goes without them -/
def PySem.W.Fast.tw1016021665823106556 : Nat := 0
def PySem.W.Fast.tw12203953379768893552 : Nat := 0
def PySem.W.Fast.tw5958437105288984368 : Nat := 0
def PySem.W.Fast.tw9875961795716441376 : Nat := 0
def PySem.W.Fast.tw8416342939824323307 : Nat := 0
def PySem.W.Fast.tw7026898410190292833 : Nat := 0
def PySem.W.Fast.tw9839227802895802345 : Nat := 0
def PySem.W.Fast.tw16824764060373465493 : Nat := 0
def PySem.W.Fast.tw10740769555538034861 : Nat := 0
def PySem.W.Fast.tw11573335181736572389 : Nat := 0
def PySem.W.Fast.tw9761109869448242481 : Nat := 0
def PySem.W.Fast.tw15913132260636409604 : Nat := 0
def PySem.W.Fast.tw8243935814376317413 : Nat := 0
def PySem.W.Fast.tw11554325184512275543 : Nat := 0
def PySem.W.Fast.tw2883242974945045432 : Nat := 0
def PySem.W.Fast.tw5954349547630465245 : Nat := 0
def PySem.W.Fast.tw5524952067385024424 : Nat := 0
def PySem.W.Fast.tw13427263837603456003 : Nat := 0
def PySem.W.Fast.tw15241396317221086666 : Nat := 0
open PySem PySem.W PyProof.Rows
set_option maxRecDepth 100000 in
set_option maxHeartbeats 0 in
theorem PySem.Challenge.cw_twistturn_k10_refused_holds : PySem.Challenge.rw_twistturn_k10_refused.Holds := by
  w_on; o_law; z_head; (case hw => w_witness2)
  refine K10.walkX (l := PySem.Challenge.rw_twistturn_k10_refused) rfl rfl (fun P => rfl) ?F
  case F =>
    intro w mg fa h KX G hmg
    refine' K10.all_mk KX G hmg ?q_DanceError ?q_BadText ?q_BadWord ?q_BadFraction ?q_BadStep ?q_Same ?a0 ?l0 ?c0 ?k0 ?a1 ?l1 ?c1 ?k1 ?a2 ?l2 ?c2 ?k2 ?a3 ?l3 ?c3 ?k3 ?a4 ?l4 ?c4 ?k4 ?a5 ?l5 ?c5 ?k5 ?a6 ?l6 ?c6 ?k6 ?a7 ?l7 ?c7 ?k7 ?a8 ?l8 ?c8 ?k8 ?a9 ?l9 ?c9 ?k9 ?a10 ?l10 ?c10 ?k10 ?a11 ?l11 ?c11 ?k11 ?a12 ?l12 ?c12 ?k12 ?a13 ?l13 ?c13 ?k13 ?a14 ?l14 ?c14 ?k14 ?a15 ?l15 ?c15 ?k15 ?a16 ?l16 ?c16 ?k16 ?a17 ?l17 ?c17 ?k17 ?a18 ?l18 ?c18 ?k18 ?a19 ?l19 ?c19 ?k19 ?a20 ?l20 ?c20 ?k20 ?a21 ?l21 ?c21 ?k21 ?a22 ?l22 ?c22 ?k22 ?a23 ?l23 ?c23 ?k23 ?a24 ?l24 ?c24 ?k24 ?a25 ?l25 ?c25 ?k25 ?a26 ?l26 ?c26 ?k26 ?a27 ?l27 ?c27 ?k27 ?a28 ?l28 ?c28 ?k28 ?a29 ?l29 ?c29 ?k29 ?z_len ?z_all ?z_any ?z_isinstance ?z_abs ?z_int ?z_bool ?z_str ?z_tuple ?z_list ?z_reversed ?z_range ?z_max ?gL ?lL ?gDE ?lDE ?gPC ?lPC ?ex_BadWord ?xga_BadWord ?xgt_BadWord ?xat_BadWord ?xob_BadWord ?xbx_BadWord ?xcl_BadWord ?hit_BadWord ?ex_BadFraction ?xga_BadFraction ?xgt_BadFraction ?xat_BadFraction ?xob_BadFraction ?xbx_BadFraction ?xcl_BadFraction ?hit_BadFraction ?ex_BadStep ?xga_BadStep ?xgt_BadStep ?xat_BadStep ?xob_BadStep ?xbx_BadStep ?xcl_BadStep ?hit_BadStep ?ex_Same ?xga_Same ?xgt_Same ?xat_Same ?xob_Same ?xbx_Same ?xcl_Same ?hit_Same ?hnC ?htkC ?z_ValueError ?kt_BadWord_ValueError ?kt_BadFraction_ValueError ?kt_BadStep_ValueError ?kt_Same_ValueError ?kt_BadWord_BadFraction ?kt_BadWord_BadStep ?kt_BadWord_Same ?kt_BadWord_BadText ?kt_BadFraction_BadWord ?kt_BadFraction_BadStep ?kt_BadFraction_Same ?kt_BadFraction_BadText ?kt_BadStep_BadWord ?kt_BadStep_BadFraction ?kt_BadStep_Same ?kt_BadStep_BadText ?kt_Same_BadWord ?kt_Same_BadFraction ?kt_Same_BadStep ?kt_Same_BadText
    (case q_DanceError => k_is)
    (case q_BadText => k_is)
    (case q_BadWord => k_is)
    (case q_BadFraction => k_is)
    (case q_BadStep => k_is)
    (case q_Same => k_is)
    (case a0 => k_is)
    (case l0 => k_is)
    (case c0 => k_is)
    (case k0 => k_is)
    (case a1 => k_is)
    (case l1 => k_is)
    (case c1 => k_is)
    (case k1 => k_is)
    (case a2 => k_is)
    (case l2 => k_is)
    (case c2 => k_is)
    (case k2 => k_is)
    (case a3 => k_is)
    (case l3 => k_is)
    (case c3 => k_is)
    (case k3 => k_is)
    (case a4 => k_is)
    (case l4 => k_is)
    (case c4 => k_is)
    (case k4 => k_is)
    (case a5 => k_is)
    (case l5 => k_is)
    (case c5 => k_is)
    (case k5 => k_is)
    (case a6 => k_is)
    (case l6 => k_is)
    (case c6 => k_is)
    (case k6 => k_is)
    (case a7 => k_is)
    (case l7 => k_is)
    (case c7 => k_is)
    (case k7 => k_is)
    (case a8 => k_is)
    (case l8 => k_is)
    (case c8 => k_is)
    (case k8 => k_is)
    (case a9 => k_is)
    (case l9 => k_is)
    (case c9 => k_is)
    (case k9 => k_is)
    (case a10 => k_is)
    (case l10 => k_is)
    (case c10 => k_is)
    (case k10 => k_is)
    (case a11 => k_is)
    (case l11 => k_is)
    (case c11 => k_is)
    (case k11 => k_is)
    (case a12 => k_is)
    (case l12 => k_is)
    (case c12 => k_is)
    (case k12 => k_is)
    (case a13 => k_is)
    (case l13 => k_is)
    (case c13 => k_is)
    (case k13 => k_is)
    (case a14 => k_is)
    (case l14 => k_is)
    (case c14 => k_is)
    (case k14 => k_is)
    (case a15 => k_is)
    (case l15 => k_is)
    (case c15 => k_is)
    (case k15 => k_is)
    (case a16 => k_is)
    (case l16 => k_is)
    (case c16 => k_is)
    (case k16 => k_is)
    (case a17 => k_is)
    (case l17 => k_is)
    (case c17 => k_is)
    (case k17 => k_is)
    (case a18 => k_is)
    (case l18 => k_is)
    (case c18 => k_is)
    (case k18 => k_is)
    (case a19 => k_is)
    (case l19 => k_is)
    (case c19 => k_is)
    (case k19 => k_is)
    (case a20 => k_is)
    (case l20 => k_is)
    (case c20 => k_is)
    (case k20 => k_is)
    (case a21 => k_is)
    (case l21 => k_is)
    (case c21 => k_is)
    (case k21 => k_is)
    (case a22 => k_is)
    (case l22 => k_is)
    (case c22 => k_is)
    (case k22 => k_is)
    (case a23 => k_is)
    (case l23 => k_is)
    (case c23 => k_is)
    (case k23 => k_is)
    (case a24 => k_is)
    (case l24 => k_is)
    (case c24 => k_is)
    (case k24 => k_is)
    (case a25 => k_is)
    (case l25 => k_is)
    (case c25 => k_is)
    (case k25 => k_is)
    (case a26 => k_is)
    (case l26 => k_is)
    (case c26 => k_is)
    (case k26 => k_is)
    (case a27 => k_is)
    (case l27 => k_is)
    (case c27 => k_is)
    (case k27 => k_is)
    (case a28 => k_is)
    (case l28 => k_is)
    (case c28 => k_is)
    (case k28 => k_is)
    (case a29 => k_is)
    (case l29 => k_is)
    (case c29 => k_is)
    (case k29 => k_is)
    (case z_len => k_is)
    (case z_all => k_is)
    (case z_any => k_is)
    (case z_isinstance => k_is)
    (case z_abs => k_is)
    (case z_int => k_is)
    (case z_bool => k_is)
    (case z_str => k_is)
    (case z_tuple => k_is)
    (case z_list => k_is)
    (case z_reversed => k_is)
    (case z_range => k_is)
    (case z_max => k_is)
    (case gL => k_is)
    (case lL => k_is)
    (case gDE => k_is)
    (case lDE => k_is)
    (case gPC => k_is)
    (case lPC => k_is)
    (case ex_BadWord => k_exc)
    (case xga_BadWord => k_is)
    (case xgt_BadWord => k_is)
    (case xat_BadWord => k_is)
    (case xob_BadWord => k_is)
    (case xbx_BadWord => k_is)
    (case xcl_BadWord => k_is)
    (case hit_BadWord => kts_exm)
    (case ex_BadFraction => k_exc)
    (case xga_BadFraction => k_is)
    (case xgt_BadFraction => k_is)
    (case xat_BadFraction => k_is)
    (case xob_BadFraction => k_is)
    (case xbx_BadFraction => k_is)
    (case xcl_BadFraction => k_is)
    (case hit_BadFraction => kts_exm)
    (case ex_BadStep => k_exc)
    (case xga_BadStep => k_is)
    (case xgt_BadStep => k_is)
    (case xat_BadStep => k_is)
    (case xob_BadStep => k_is)
    (case xbx_BadStep => k_is)
    (case xcl_BadStep => k_is)
    (case hit_BadStep => kts_exm)
    (case ex_Same => k_exc)
    (case xga_Same => k_is)
    (case xgt_Same => k_is)
    (case xat_Same => k_is)
    (case xob_Same => k_is)
    (case xbx_Same => k_is)
    (case xcl_Same => k_is)
    (case hit_Same => kts_exm)
    (case hnC => k_is)
    (case htkC => k_is)
    (case z_ValueError => k_is)
    (case kt_BadWord_ValueError => kit_is)
    (case kt_BadFraction_ValueError => kit_is)
    (case kt_BadStep_ValueError => kit_is)
    (case kt_Same_ValueError => kit_is)
    (case kt_BadWord_BadFraction => kit_is)
    (case kt_BadWord_BadStep => kit_is)
    (case kt_BadWord_Same => kit_is)
    (case kt_BadWord_BadText => kit_is)
    (case kt_BadFraction_BadWord => kit_is)
    (case kt_BadFraction_BadStep => kit_is)
    (case kt_BadFraction_Same => kit_is)
    (case kt_BadFraction_BadText => kit_is)
    (case kt_BadStep_BadWord => kit_is)
    (case kt_BadStep_BadFraction => kit_is)
    (case kt_BadStep_Same => kit_is)
    (case kt_BadStep_BadText => kit_is)
    (case kt_Same_BadWord => kit_is)
    (case kt_Same_BadFraction => kit_is)
    (case kt_Same_BadStep => kit_is)
    (case kt_Same_BadText => kit_is)
#print axioms PySem.Challenge.cw_twistturn_k10_refused_holds

