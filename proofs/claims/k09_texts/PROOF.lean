import PyProof.Rows.All
import Wide.All
import OpenK.AllK
import Wide.FinOn
import Lean
import PyProof.EqAt
import PyProof.EqKinds
import PyProof.TupleCall
import PyProof.StrWalks
import PyProof.StrOps
import PyProof.CallType
import PyProof.ReprLoop
import PyProof.WalksMore
import PyProof.FactsAll.str
import PyProof.FactsAll.object
import PyProof.StrCalls6
import PyProof.ToksMono
import KE.KIntText
import PyProof.MeetsStr
import PyProof.MeetsStr2
import PyProof.StrLawsTight
import PyProof.StrLawsChain
import PyProof.StrLawsFirst
import PyProof.StrBlockI
import PyProof.Rows.StrSplitCount
import PyProof.CallStr
import PySem.Challenge.RW_twistturn_k09_texts
-- CHANGE: your row's module here, as the last of these rows
set_option Elab.async false
set_option linter.all false
set_option maxRecDepth 100000
/-! the hand layer, lists and dicts together -/
namespace L2
open PySem PySem.Spec PyProof.Rows
/-- a key: an int or a str -/
abbrev Key := Sum Int Str
def keyIs : Key → Value → Bool
  | .inl k, v => Value.isInt k v
  | .inr x, v => Value.isStrOf x v
def keyH (w : World) : Key → Int
  | .inl k => hashInt k
  | .inr x => hashStr w x
theorem keyIs_shape : ∀ {k : Key} {v : Value}, keyIs k v = true → (∃ i t, k = Sum.inl i ∧ v = Value.int i t) ∨ (∃ x t, k = Sum.inr x ∧ v = Value.str x t)
  | .inl i, v, h => by
    obtain ⟨t, e⟩ := Value.isInt_shape (k := i) (v := v) h
    exact .inl ⟨i, t, rfl, e⟩
  | .inr x, v, h => by
    obtain ⟨t, e⟩ := Value.isStrOf_shape (x := x) (v := v) h
    exact .inr ⟨x, t, rfl, e⟩
theorem key_ll (a b : Int) : decide ((Sum.inl a : Key) = Sum.inl b) = (a == b) := by
  by_cases e : a = b
  · subst e; simp
  · have h : ¬ (Sum.inl a : Key) = Sum.inl b := fun q => e (Sum.inl.inj q)
    rw [decide_eq_false h]
    exact (beq_eq_false_iff_ne.mpr e).symm
theorem key_rr (a b : Str) : decide ((Sum.inr a : Key) = Sum.inr b) = decide (a = b) := by
  by_cases e : a = b
  · subst e; simp
  · have h : ¬ (Sum.inr a : Key) = Sum.inr b := fun q => e (Sum.inr.inj q)
    rw [decide_eq_false h, decide_eq_false e]
theorem key_lr (a : Int) (b : Str) : decide ((Sum.inl a : Key) = Sum.inr b) = false := decide_eq_false (fun q => nomatch q)
theorem key_rl (a : Str) (b : Int) : decide ((Sum.inr a : Key) = Sum.inl b) = false := decide_eq_false (fun q => nomatch q)
def mixKind (prog : Program) (w : World) : PySem.KeyKind prog w Key where
  is := keyIs
  hash := keyH w
  inj := fun v a b ha hb => by
    rcases keyIs_shape ha with ⟨i, t, rfl, rfl⟩ | ⟨x, t, rfl, rfl⟩
    · rcases keyIs_shape hb with ⟨j, u, rfl, e⟩ | ⟨y, u, rfl, e⟩
      · injection e with e1 _; rw [e1]
      · exact nomatch e
    · rcases keyIs_shape hb with ⟨j, u, rfl, e⟩ | ⟨y, u, rfl, e⟩
      · exact nomatch e
      · injection e with e1 _; rw [e1]
  byValue := fun k v h => by
    rcases keyIs_shape h with ⟨i, t, rfl, rfl⟩ | ⟨x, t, rfl, rfl⟩ <;> rfl
  pyHash := fun hv h => by
    rcases keyIs_shape hv with ⟨i, t, rfl, rfl⟩ | ⟨x, t, rfl, rfl⟩
    · exact wpAny_pyHash_int h
    · exact wpAny_pyHash_str h
  eqBool := fun hu hv h => by
    rcases keyIs_shape hu with ⟨i, t, rfl, rfl⟩ | ⟨x, t, rfl, rfl⟩
    · rcases keyIs_shape hv with ⟨j, u, rfl, rfl⟩ | ⟨y, u, rfl, rfl⟩
      · rw [key_ll] at h; exact wpAny_eqBool_int h
      · rw [key_lr] at h; exact SeqAt.EqAt.int_str i t y u _ _ _ _ h
    · rcases keyIs_shape hv with ⟨j, u, rfl, rfl⟩ | ⟨y, u, rfl, rfl⟩
      · rw [key_rl] at h; exact SeqAt.EqAt.str_int x t j u _ _ _ _ h
      · rw [key_rr] at h; exact wpAny_eqBool_str h
  «strs» := fun k x t v h => by
    rcases keyIs_shape h with ⟨i, u, rfl, e⟩ | ⟨y, u, rfl, e⟩
    · exact nomatch e
    · injection e with e1 _
      subst e1
      cases v <;> rfl
end L2
namespace L2
open PySem PySem.Spec PyProof.Rows
/-- a value, without the heap -/
inductive V where
  | non | bl (b : Bool) | int (i : Int) | str (x : Str) | byt (b : Array UInt8) | flt (b : UInt64) | ref (a : Addr) | ty (n : String) | stk (x : Str) (t : Tok)
  deriving DecidableEq
def RelV : V → Value → Prop
  | .non, u => u = Value.none
  | .bl b, u => u = Value.bool b
  | .int i, u => ∃ t, u = Value.int i t
  | .str x, u => ∃ t, u = Value.str x t
  | .byt b, u => ∃ t, u = Value.bytes b t
  | .flt b, u => ∃ t, u = Value.float b t
  | .ref a, u => u = Value.ref a
  | .ty n, u => u = Value.type n
  | .stk x t, u => u = Value.str x t ∧ t ≠ 0
/-- without tokens -/
def RelV0 (x : V) (u : Value) : Prop := match x with
  | .stk _ _ => False
  | x => RelV x u
theorem RelV0.rel {x : V} {u : Value} (h : RelV0 x u) : RelV x u := by
  cases x <;> first | exact h | exact h.elim
abbrev Vals0 : List V → List Value → Prop := Paired RelV0
abbrev Vals : List V → List Value → Prop := Paired RelV
theorem Vals.length {xs : List V} {us : List Value} (r : Vals xs us) : xs.length = us.length := Paired.length r
theorem Vals.get : ∀ {xs : List V} {us : List Value} {i : Nat} {x : V}, Vals xs us → xs[i]? = some x → ∃ u, us[i]? = some u ∧ RelV x u
  | _, _, _, _, .nil, e => by simp at e
  | _, _, 0, _, .cons r _, e => by simp at e; subst e; exact ⟨_, rfl, r⟩
  | _, _, i + 1, x, .cons _ t, e => by
    obtain ⟨u, h1, h2⟩ := Vals.get (i := i) (x := x) t (by simpa using e)
    exact ⟨u, by simpa using h1, h2⟩
theorem Vals.append : ∀ {xs ys : List V} {us ws : List Value}, Vals xs us → Vals ys ws → Vals (xs ++ ys) (us ++ ws)
  | _, _, _, _, .nil, s => s
  | _, _, _, _, .cons r t, s => .cons r (Vals.append t s)
def RelO : Option V → Option Value → Prop
  | some v, some u => RelV v u
  | none, none => True
  | _, _ => False
def KV {κ : Type} : List (κ × V) → List (κ × Value) → Prop := Paired fun (p : κ × V) (q : κ × Value) => p.1 = q.1 ∧ RelV p.2 q.2
/-- a key of a dict (00_mix): an int or a text -/
def kV : Key → V
  | .inl i => .int i
  | .inr x => .str x
/-- what stands at a tracked address -/
inductive HO where
  /-- a list -/
  | lst (xs : List V)
  /-- a tuple (never changes) -/
  | tup (xs : List V)
  /-- a dict whose keys are ints and texts; one whose keys are tuples of ints and texts (the empty one is both) -/
  | dK (kvs : List (Key × V)) | dT (kvs : List (List Key × V))
  /-- a set of ints: its members, its size -/
  | set (S : Int → Bool) (n : Nat)
  /-- an instance of the class at C, its dict at dx, its attributes -/
  | ins (C dx : Addr) (fs : List (Str × V))
  /-- the dict of the instance at x -/
  | own (x : Addr)
  /-- the dict of an exception -/
  | xd (fs : List (Str × V))
  /-- a bound method, f of x -/
  | met (f x : Addr)
  /-- a range object lo, lo + 1, .. below hi -/
  | rng (lo hi : Int)
  /-- a thing that is known to the object (the script; a dict while a loop walks it): read, never written while it is so -/
  | frz (o : Obj) (u : HO)
  /-- a code object's table -/
  | tbl (ps : Array Value)
  /-- any other thing, by what is true of its one object (a def of one's own: SetO a S n := HO.ext fun h => ..) -/
  | ext (φ : Heap → Prop)
abbrev Hp := Addr → Option HO
def upd (H : Hp) (a : Addr) (o : HO) : Hp := fun b => if b = a then some o else H b
theorem upd_same {H : Hp} {a : Addr} {o : HO} : upd H a o a = some o := by unfold upd; rw [if_pos rfl]
theorem upd_ne {H : Hp} {a b : Addr} {o : HO} (h : b ≠ a) : upd H a o b = H b := by unfold upd; rw [if_neg h]
theorem ne_of_none {H : Hp} {a b : Addr} {o : HO} (h : H a = some o) (h' : H b = none) : a ≠ b := by
  intro e; subst e; rw [h] at h'; cases h'
section
variable (P : Program) (w : World)
def ObjOk (H : Hp) (h : Heap) (a : Addr) : HO → Prop
  | .lst xs => xs.length ≤ sizeLine ∧ ∃ (its : List Value) (n : Nat), Vals xs its ∧ h.get? a = some { cls := .type "list", data := .seq its.toArray n }
  | .tup xs => xs.length ≤ sizeLine ∧ ∃ its : List Value, Vals xs its ∧ IsTup h a its.toArray
  | .dK kvs => kvs.length ≤ sizeLine ∧ (a == sysModules) = false ∧ ∃ vs, KV kvs vs ∧ h.DictOf (mixKind P w) a vs
  | .dT kvs => kvs.length ≤ sizeLine ∧ (a == sysModules) = false ∧ ∃ xs : List (List Key × Addr × Value),
      Paired (fun (p : List Key × V) (q : List Key × Addr × Value) => p.1 = q.1 ∧ H q.2.1 = some (.tup (p.1.map kV)) ∧ RelV p.2 q.2.2) kvs xs ∧
      ∃ o es ep, h.get? a = some o ∧ o.ExactDict ∧ o.data = .dict es ep ∧ es.toList = xs.map (entryOfKey (tupleKind (mixKind P w))) ∧ (xs.map (·.1)).Nodup
  | .set S n => h.SetOf (intKind P w) a S n
  | .ins C dx fs => H dx = some (.own a) ∧ fs.length ≤ 1000 ∧ dx ≠ a ∧ h.get? a = some (PySem.W.instObj C dx) ∧
      ∃ mA, h.Ns1 dx mA ∧ (∀ f, RelO (fs.lookup f) (mA f)) ∧ PySem.Within mA (fs.map (·.1))
  | .own _ => ∃ o, h.get? a = some o
  | .xd fs => ∃ mA, h.Ns1 a mA ∧ ∀ f, RelO (fs.lookup f) (mA f)
  | .rng lo hi => ∃ t u v, h.get? a = some { cls := .type "range", data := .fields #[.int lo t, .int hi u, .int 1 v] }
  | .frz o u => h.get? a = some o ∧ ObjOk H h a u
  | .tbl ps => h.get? a = some { cls := .none, data := .fields ps }
  | .met f x => h.get? a = some (PySem.W.methodObj (.ref f) (.ref x))
  | .ext φ => φ h ∧ (∃ o, h.get? a = some o) ∧ ∀ h1 h2 : Heap, φ h1 → (∀ o, h1.get? a = some o → h2.get? a = some o) → φ h2
/-- the abstract heap is held -/
def HOk (H : Hp) (h : Heap) : Prop := ∀ a o, H a = some o → ObjOk P w H h a o
end
section
variable {P : Program} {w : World} {H H' : Hp} {h h' : Heap} {a : Addr} {o : HO}
theorem ObjOk.lt (x : ObjOk P w H h a o) : a < h.objs.size := by
  cases o with
  | lst xs => obtain ⟨_, _, _, _, e⟩ := x; exact Heap.lt_size e
  | tup xs => obtain ⟨_, _, _, p⟩ := x; exact p.lt
  | dK kvs => obtain ⟨_, _, _, _, o, _, _, e, _⟩ := x; exact Heap.lt_size e
  | dT kvs => obtain ⟨_, _, _, _, o, _, _, e, _⟩ := x; exact Heap.lt_size e
  | set S n => obtain ⟨o, _, _, _, e, _⟩ := x; exact Heap.lt_size e
  | ins C dx fs => obtain ⟨_, _, _, e, _⟩ := x; exact Heap.lt_size e
  | own y => obtain ⟨_, e⟩ := x; exact Heap.lt_size e
  | xd fs => obtain ⟨_, ⟨_, _, _, e, _⟩, _⟩ := x; exact Heap.lt_size e
  | rng lo hi => obtain ⟨_, _, _, e⟩ := x; exact Heap.lt_size e
  | frz ob u => obtain ⟨e, _⟩ := x; exact Heap.lt_size e
  | tbl ps => exact Heap.lt_size (show h.get? a = some _ from x)
  | met f y => exact Heap.lt_size (show h.get? a = some _ from x)
  | ext φ => obtain ⟨_, ⟨_, e⟩, _⟩ := x; exact Heap.lt_size e
theorem Paired.mapP {α β : Type} {F G : α → β → Prop} : ∀ {l₁ : List α} {l₂ : List β}, Paired F l₁ l₂ → (∀ a b, F a b → G a b) → Paired G l₁ l₂
  | _, _, .nil, _ => .nil
  | _, _, .cons r t, f => .cons (f _ _ r) (Paired.mapP t f)
/-- what an object's description leans on: its own object, its own dict, the tuples -/
theorem ObjOk.stay (x : ObjOk P w H h a o) (k : ∀ b u, (b = a ∨ H b = some (.own a)) → h.get? b = some u → h'.get? b = some u)
    (ho : ∀ b, H b = some (.own a) → H' b = some (.own a)) (ht : ∀ b xs, H b = some (.tup xs) → H' b = some (.tup xs)) : ObjOk P w H' h' a o := by
  induction o with
  | lst xs => obtain ⟨z, its, n, r, e⟩ := x; exact ⟨z, its, n, r, k _ _ (.inl rfl) e⟩
  | tup xs => obtain ⟨z, its, r, ob, e, c⟩ := x; exact ⟨z, its, r, ob, k _ _ (.inl rfl) e, c⟩
  | dK kvs => obtain ⟨z, y, vs, r, ob, es, ep, e, c⟩ := x; exact ⟨z, y, vs, r, ob, es, ep, k _ _ (.inl rfl) e, c⟩
  | dT kvs =>
    obtain ⟨z, y, xs, r, ob, es, ep, e, c⟩ := x
    exact ⟨z, y, xs, Paired.mapP r fun p q z => ⟨z.1, ht _ _ z.2.1, z.2.2⟩, ob, es, ep, k _ _ (.inl rfl) e, c⟩
  | set S n => obtain ⟨ob, es, ep, t, e, c⟩ := x; exact ⟨ob, es, ep, t, k _ _ (.inl rfl) e, c⟩
  | ins C dx fs =>
    obtain ⟨d, z, ne, e, mA, ⟨od, es, ep, e2, c⟩, r⟩ := x
    exact ⟨ho _ d, z, ne, k _ _ (.inl rfl) e, mA, ⟨od, es, ep, k _ _ (.inr d) e2, c⟩, r⟩
  | own y => obtain ⟨ob, e⟩ := x; exact ⟨ob, k _ _ (.inl rfl) e⟩
  | xd fs => obtain ⟨mA, ⟨od, es, ep, e, c⟩, r⟩ := x; exact ⟨mA, ⟨od, es, ep, k _ _ (.inl rfl) e, c⟩, r⟩
  | rng lo hi => obtain ⟨t, u, v, e⟩ := x; exact ⟨t, u, v, k _ _ (.inl rfl) e⟩
  | frz ob u ih => obtain ⟨e, q⟩ := x; exact ⟨k _ _ (.inl rfl) e, ih q⟩
  | tbl ps =>
    have e : h.get? a = some { cls := .none, data := .fields ps } := x
    show h'.get? a = some { cls := .none, data := .fields ps }
    exact k a _ (.inl rfl) e
  | met f y =>
    have e : h.get? a = some (PySem.W.methodObj (.ref f) (.ref y)) := x
    show h'.get? a = some (PySem.W.methodObj (.ref f) (.ref y))
    exact k a _ (.inl rfl) e
  | ext φ => obtain ⟨p, ⟨o, e⟩, st⟩ := x; exact ⟨st _ _ p fun o q => k _ _ (.inl rfl) q, ⟨o, k _ _ (.inl rfl) e⟩, st⟩
theorem HOk.lt (x : HOk P w H h) (e : H a = some o) : a < h.objs.size := (x a o e).lt
theorem HOk.fresh (x : HOk P w H h) (e : h.objs.size ≤ a) : H a = none := by
  cases q : H a with
  | none => rfl
  | some u => exact absurd (Nat.lt_of_lt_of_le (x.lt q) e) (Nat.lt_irrefl _)
/-- every object of the heap is kept -/
theorem HOk.kept (x : HOk P w H h) (k : ∀ b u, h.get? b = some u → h'.get? b = some u) : HOk P w H h' := fun a o e =>
  (x a o e).stay (fun b u _ q => k b u q) (fun _ q => q) fun _ _ q => q
/-- a new object is laid and tracked -/
theorem HOk.laid (x : HOk P w H h) (k : ∀ b u, h.get? b = some u → h'.get? b = some u) (hp : h.objs.size ≤ a) (new : ObjOk P w (upd H a o) h' a o) : HOk P w (upd H a o) h' := fun b u e => by
  have hn := x.fresh hp
  by_cases hb : b = a
  · subst hb; rw [upd_same] at e; cases e; exact new
  · rw [upd_ne hb] at e
    exact (x b u e).stay (fun c v _ q => k c v q) (fun c q => by rw [upd_ne (ne_of_none q hn)]; exact q) fun c xs q => by rw [upd_ne (ne_of_none q hn)]; exact q
end
/-- what may be read as u: it is u, or a known u -/
def Rd (H : Hp) (a : Addr) (u : HO) : Prop := H a = some u ∨ ∃ o, H a = some (.frz o u)
theorem Rd.ok {P : Program} {w : World} {H : Hp} {h : Heap} {a : Addr} {u : HO} (r : Rd H a u) (x : HOk P w H h) : ObjOk P w H h a u := by
  rcases r with r | ⟨o, r⟩
  · exact x a u r
  · obtain ⟨_, q⟩ := x a _ r
    exact q
section
variable {P : Program} {w : World} {H : Hp} {h h' : Heap} {x e : Addr} {o' : HO}
end
/-! ### kept unless tracked; of the frames at fs (the callers') the slots may change (an exception that passes writes there); of the records at ex (iterators) nothing is said -/
structure Un (fs ex : List Addr) (H H' : Hp) (h h' : Heap) : Prop where
  keep : ∀ b o, h.get? b = some o → H b = none → b ∉ fs → b ∉ ex → h'.get? b = some o
  slot : ∀ b o, h.get? b = some o → H b = none → b ∈ fs → b ∉ ex → ∃ sl, h'.get? b = some { o with slots := sl }
  free : ∀ b o, h.get? b = some o → H b = none → b ∉ ex → H' b = none
  there : ∀ b o, h.get? b = some o → b ∉ ex → ∃ o', h'.get? b = some o'
  tups : ∀ b xs, H b = some (.tup xs) → H' b = some (.tup xs)
  frzs : ∀ b o u, H b = some (.frz o u) → H' b = some (.frz o u)
  tbls : ∀ b ps, H b = some (.tbl ps) → ∃ more, H' b = some (.tbl (ps ++ more))
section
variable {fs fs' ex ex' : List Addr} {H H1 H2 : Hp} {h h1 h2 h' : Heap} {a x e : Addr} {o : HO}
theorem Un.any (u : Un fs ex H H1 h h1) {b : Addr} {ob : Obj} (q : h.get? b = some ob) (n : H b = none) (hx : b ∉ ex) : ∃ sl, h1.get? b = some { ob with slots := sl } := by
  by_cases hb : b ∈ fs
  · exact u.slot b ob q n hb hx
  · exact ⟨ob.slots, u.keep b ob q n hb hx⟩
theorem Un.kept (k : ∀ b u, h.get? b = some u → h'.get? b = some u) : Un fs ex H H h h' :=
  ⟨fun b ob q _ _ _ => k b ob q, fun b ob q _ _ _ => ⟨ob.slots, k b ob q⟩, fun _ _ _ n _ => n, fun b ob q _ => ⟨ob, k b ob q⟩, fun _ _ q => q, fun _ _ _ q => q, fun _ ps q => ⟨#[], by rw [q]; simp⟩⟩
theorem Un.refl : Un fs ex H H h h := Un.kept fun _ _ q => q
theorem Un.laid (k : ∀ b u, h.get? b = some u → h'.get? b = some u) (hp : h.objs.size ≤ a) (hn : H a = none) : Un fs ex H (upd H a o) h h' where
  keep := fun b u q _ _ _ => k b u q
  slot := fun b u q _ _ _ => ⟨u.slots, k b u q⟩
  free := fun b u q n _ => by rw [upd_ne (Nat.ne_of_lt (Nat.lt_of_lt_of_le (Heap.lt_size q) hp))]; exact n
  there := fun b u q _ => ⟨u, k b u q⟩
  tups := fun b xs q => by rw [upd_ne (ne_of_none q hn)]; exact q
  frzs := fun b u xs q => by rw [upd_ne (ne_of_none q hn)]; exact q
  tbls := fun b ps q => ⟨#[], by rw [upd_ne (ne_of_none q hn), q]; simp⟩
end
/-! ### the heap without what is tracked -/
def trk (h : Heap) (H : Hp) : List Addr := (List.range h.objs.size).filter fun a => (H a).isSome
def hidT (h : Heap) (H : Hp) : Heap := PySem.W.hideAll h (trk h H)
theorem hidT_size (h : Heap) (H : Hp) : (hidT h H).objs.size = h.objs.size := PySem.W.hideAll_size _ _
theorem hidT_get {h : Heap} {H : Hp} {b : Addr} {o : Obj} (e : h.get? b = some o) (n : H b = none) : (hidT h H).get? b = some o :=
  PySem.W.hideAll_get _ e fun hm => by
    have q : (H b).isSome = true := (List.mem_filter.mp hm).2
    rw [n] at q; simp at q
theorem of_hidT {h : Heap} {H : Hp} {b : Addr} {o : Obj} (e : (hidT h H).get? b = some o) : h.get? b = some o ∧ H b = none := by
  have e' : h.get? b = some o := PySem.W.of_hideAll (trk h H) e
  refine ⟨e', ?_⟩
  cases q : H b with
  | none => rfl
  | some x =>
    have hm : b ∈ trk h H := List.mem_filter.mpr ⟨List.mem_range.mpr (Heap.lt_size e'), by simp [q]⟩
    have z : (hidT h H).get? b = none := PySem.W.hideAll_none (trk h H) hm
    rw [z] at e; cases e
/-! ### OpenK's ledger, filled with every new object but one -/
end L2
namespace L2
open PySem PySem.Spec PyProof.Rows
/-- the module's facts, over the base: the heap at the law's entry without what is tracked there -/
structure Mod (K : PySem.W.Frag) (mg : Str → Option Value) (base : Heap) : Prop where
  kin : K.In base
  glob : base.Ns mainGlobals mg
  blt : ∃ mb, base.Ns builtinsNs mb ∧ ∀ x : Str, x ≠ "__name__" → mb x = bootBuiltins x
  nolimit : base.NoLimit
/-- the context: a def's body (or a comprehension's block) running. base: fixed through the whole law; s₀, H₀: the entry; outer: the frames whose slots others may change (a def's callers); stack: all frames that run;
   ex: iterators that were made ahead of the entry and are walked here (a comprehension's); fn: the names whose cells were made at the entry (a def: all; a comprehension's block: its own); calm: not within an except suite; pn: pins that every state bears; xe: what is wanted of an exception that leaves the code -/
structure Cx where
  prog : Program
  w : World
  K : PySem.W.Frag
  mg : Str → Option Value
  base : Heap
  A : Around
  N : List Str
  s₀ : Shared
  H₀ : Hp
  env : Env
  outer : List Env
  stack : List Env
  ex : List Addr
  fn : Str → Bool
  calm : Bool
  pn : List (Addr × Obj)
  xe : Value → Shared → Prop
/-- the callers' frames -/
def frs (l : List Env) : List Addr := l.filterMap (·.frame)
abbrev Cx.fs (X : Cx) : List Addr := frs X.outer
def Vis (sc : Scope) (x : Str) : Prop := sc.names.lookup x = some .local ∨ sc.names.lookup x = some .cell ∨ sc.names.lookup x = some .free
def Loc (sc : Scope) (x : Str) : Prop := sc.names.lookup x = some .local ∨ sc.names.lookup x = some .cell
def Look (env : Env) (h : Heap) (m : Str → Option Value) (x : Str) (u : Value) : Prop :=
  (env.kindOf x = some .local ∧ m x = some u) ∨ ((env.kindOf x = some .cell ∨ env.kindOf x = some .free) ∧ ∃ c, env.cells.lookup x = some c ∧ h.IsCell c (some u))
structure Cx.Ok (X : Cx) : Prop where
  mod : Mod X.K X.mg X.base
  kind : X.env.scope.kind = .function
  glob : X.env.globals = mainGlobals
  blt : X.env.builtins = builtinsNs
  above : X.s₀.heap.objs.size ≤ X.env.locals
  inj : ∀ x y c, X.env.cells.lookup x = some c → X.env.cells.lookup y = some c → x = y
  has : ∀ x, (X.env.kindOf x = some .cell ∨ X.env.kindOf x = some .free) → ∃ c, X.env.cells.lookup x = some c
  cab : ∀ x c, X.fn x = true → X.env.cells.lookup x = some c → X.s₀.heap.objs.size ≤ c
  hd : X.calm = true → X.A.handled = none
  frames : X.A.frames = some X.stack
  stk : X.stack = X.outer ∨ (X.stack = X.env :: X.outer ∧ X.env.frame = some X.env.locals)
  exf : ∀ b ∈ X.ex, b ≠ X.env.locals ∧ ∀ x c, X.env.cells.lookup x = some c → c ≠ b
  bs : ∀ b o, X.base.get? b = some o → X.s₀.heap.get? b = some o ∧ X.H₀ b = none
  bsz : X.base.objs.size ≤ X.s₀.heap.objs.size
  noex : ∀ b o, X.base.get? b = some o → b ∉ X.ex
  exfs : ∀ b ∈ X.ex, b ∉ X.fs
  funs : X.s₀.heap.FunFrames X.base X.outer
  frf : ∀ b ∈ X.fs, X.H₀ b = none
structure Inv (X : Cx) (pins : List (Addr × Obj)) (σ : List (Option V)) (H : Hp) (s : Shared) : Prop where
  ok : X.Ok
  os : s.os = X.s₀.os
  bare : AllBare s.gens
  base : Un X.fs X.ex X.H₀ H X.s₀.heap s.heap
  loc : ∃ m, s.heap.Ns X.env.locals m ∧ ∀ (i : Nat) (x : Str) (v : V), X.N[i]? = some x → σ[i]? = some (some v) → Vis X.env.scope x → ∃ u, RelV v u ∧ Look X.env s.heap m x u
  cell : ∀ x c, X.env.cells.lookup x = some c → ∃ v, s.heap.IsCell c v
  free : H X.env.locals = none
  freeC : ∀ x c, X.env.cells.lookup x = some c → H c = none
  pin : ∀ p ∈ X.pn ++ pins, s.heap.get? p.1 = some p.2 ∧ H p.1 = none ∧ p.1 ≠ X.env.locals ∧ p.1 ∉ X.fs ∧ ∀ v, p.2.data ≠ .cell v
  hok : HOk X.prog X.w H s.heap
  len : σ.length = X.N.length
section
variable {X : Cx} {pins : List (Addr × Obj)} {σ : List (Option V)} {H H' : Hp} {s : Shared} {h' : Heap}
theorem Cx.Ok.nofr (ok : X.Ok) {b : Addr} {o : Obj} (e : X.base.get? b = some o) : b ∉ X.fs := fun hb => by
  have := (ok.funs.mem hb).1
  rw [e] at this; cases this
theorem Inv.bs (I : Inv X pins σ H s) : ∀ b o, X.base.get? b = some o → s.heap.get? b = some o ∧ H b = none := fun b o e =>
  ⟨I.base.keep b o (I.ok.bs b o e).1 (I.ok.bs b o e).2 (I.ok.nofr e) (I.ok.noex b o e), I.base.free b o (I.ok.bs b o e).1 (I.ok.bs b o e).2 (I.ok.noex b o e)⟩
theorem Inv.bk (I : Inv X pins σ H s) : ∀ b o, X.base.get? b = some o → s.heap.get? b = some o := fun b o e => (I.bs b o e).1
theorem Inv.mod (I : Inv X pins σ H s) : Mod X.K X.mg X.base := I.ok.mod
theorem Inv.kIn (I : Inv X pins σ H s) : X.K.In s.heap := I.ok.mod.kin.keeps I.bk
/-- the frame over the base: for OpenK's rules (K.In X.base is I.mod.kin) -/
theorem Inv.fr (I : Inv X pins σ H s) : ∃ m, Fr X.base X.env.locals s.heap m :=
  let ⟨m, hn, _⟩ := I.loc
  ⟨m, hn, I.bk, Nat.le_trans I.ok.bsz I.ok.above⟩
theorem Inv.lt (I : Inv X pins σ H s) : X.env.locals < s.heap.objs.size := let ⟨_, hn, _⟩ := I.loc; hn.lt
theorem Inv.sz (I : Inv X pins σ H s) : X.s₀.heap.objs.size ≤ s.heap.objs.size := Nat.le_trans I.ok.above (Nat.le_of_lt I.lt)
theorem Inv.nofs (I : Inv X pins σ H s) {a : Addr} (h : s.heap.objs.size ≤ a) : a ∉ X.fs := fun hb => by
  obtain ⟨_, o, ho, _⟩ := I.ok.funs.mem hb
  exact absurd (Nat.lt_of_lt_of_le (Heap.lt_size ho) (Nat.le_trans I.sz h)) (Nat.lt_irrefl _)
theorem Inv.cne (I : Inv X pins σ H s) : ∀ x c, X.env.cells.lookup x = some c → c ≠ X.env.locals := fun x c e z => by
  obtain ⟨v, o, ho, hd⟩ := I.cell x c e
  obtain ⟨m, ⟨o', es, ep, ho', hd', _⟩, _⟩ := I.loc
  rw [z, ho'] at ho; cases ho; rw [hd'] at hd; cases hd
theorem Inv.funs (I : Inv X pins σ H s) : s.heap.FunFrames X.base X.outer := by
  have all : ∀ (l : List Env), (∀ b ∈ frs l, b ∈ X.fs) → X.s₀.heap.FunFrames X.base l → s.heap.FunFrames X.base l := by
    intro l
    induction l with
    | nil => intro _ _; trivial
    | cons env r ih =>
      intro hs hl
      obtain ⟨hk, ⟨L, o, hf, hn, ho, hd⟩, hr⟩ := hl
      have hL : L ∈ X.fs := hs L (by unfold frs; rw [List.filterMap_cons, hf]; exact List.mem_cons_self)
      obtain ⟨sl, e⟩ := I.base.slot L o ho (I.ok.frf L hL) hL fun z => I.ok.exfs L z hL
      exact ⟨hk, ⟨L, _, hf, hn, e, hd⟩, ih (fun b hb => hs b (by unfold frs; rw [List.filterMap_cons, hf]; exact List.mem_cons_of_mem _ hb)) hr⟩
  exact all X.outer (fun _ hb => hb) I.ok.funs
/-- the frames that run, for a call -/
theorem Inv.stack (I : Inv X pins σ H s) : s.heap.FunFrames X.base X.stack := by
  rcases I.ok.stk with e | ⟨e, hf⟩
  · rw [e]; exact I.funs
  · rw [e]
    obtain ⟨m, hn, _⟩ := I.loc
    refine .cons (by rw [I.ok.kind]; decide) hf hn ?_ I.funs
    exact Heap.get?_none_of_le (Nat.le_trans I.ok.bsz I.ok.above)
theorem Inv.stkSub (I : Inv X pins σ H s) : ∀ b ∈ frs X.stack, b ∈ X.env.locals :: X.fs := fun b hb => by
  rcases I.ok.stk with e | ⟨e, hf⟩
  · rw [e] at hb; exact List.mem_cons_of_mem _ hb
  · rw [e] at hb
    unfold frs at hb
    rw [List.filterMap_cons, hf] at hb
    exact hb
theorem Inv.stkFree (I : Inv X pins σ H s) : ∀ b ∈ frs X.stack, H b = none := fun b hb => by
  rcases List.mem_cons.mp (I.stkSub b hb) with e | hb
  · rw [e]; exact I.free
  · obtain ⟨_, o, ho, _⟩ := I.ok.funs.mem hb
    exact I.base.free b o ho (I.ok.frf b hb) fun z => I.ok.exfs b z hb
/-- THE STEP: the untracked objects but the frame and the records at ch are kept (the callers' frames up to slots), the frame's map is kept, the new abstract heap is held -/
theorem Inv.step {g' : Array GenState} {t' : Nat} {d' : Drawn} {ch : List Addr} (I : Inv X pins σ H s)
    (hch : ∀ b ∈ ch, (b ∈ X.ex ∨ X.s₀.heap.objs.size ≤ b) ∧ b ≠ X.env.locals ∧ (∀ x c, X.env.cells.lookup x = some c → c ≠ b) ∧ ∀ p ∈ X.pn ++ pins, p.1 ≠ b)
    (keep : ∀ b o, b ≠ X.env.locals → b ∉ X.fs → b ∉ ch → s.heap.get? b = some o → H b = none → h'.get? b = some o)
    (slot : ∀ b o, b ≠ X.env.locals → b ∈ X.fs → b ∉ ch → s.heap.get? b = some o → H b = none → ∃ sl, h'.get? b = some { o with slots := sl }) (free : ∀ b o, b ∉ ch → s.heap.get? b = some o → H b = none → H' b = none)
    (there : ∀ b o, b ∉ ch → s.heap.get? b = some o → ∃ o', h'.get? b = some o')
    (tups : ∀ b xs, H b = some (.tup xs) → H' b = some (.tup xs)) (frzs : ∀ b o u, H b = some (.frz o u) → H' b = some (.frz o u)) (tbls : ∀ b ps, H b = some (.tbl ps) → ∃ more, H' b = some (.tbl (ps ++ more)))
    (ns : ∀ m, s.heap.Ns X.env.locals m → h'.Ns X.env.locals m) (hok : HOk X.prog X.w H' h') (hg : AllBare g') :
    Inv X pins σ H' { s with heap := h', gens := g', drawn := d', toks := t' } := by
  have neL : ∀ b o, X.s₀.heap.get? b = some o → b ≠ X.env.locals := fun b o e => Nat.ne_of_lt (Nat.lt_of_lt_of_le (Heap.lt_size e) I.ok.above)
  have neC : ∀ b o, X.s₀.heap.get? b = some o → b ∉ X.ex → b ∉ ch := fun b o e hx hb => by
    rcases (hch b hb).1 with z | z
    · exact hx z
    · exact absurd (Nat.lt_of_lt_of_le (Heap.lt_size e) z) (Nat.lt_irrefl _)
  have cellK : ∀ x c, X.env.cells.lookup x = some c → ∀ v, s.heap.IsCell c v → h'.IsCell c v := fun x c e v ⟨o, ho, hd⟩ => by
    have nch : c ∉ ch := fun z => (hch c z).2.2.1 x c e rfl
    by_cases hc : c ∈ X.fs
    · obtain ⟨sl, q⟩ := slot c o (I.cne x c e) hc nch ho (I.freeC x c e)
      exact ⟨_, q, hd⟩
    · exact ⟨o, keep c o (I.cne x c e) hc nch ho (I.freeC x c e), hd⟩
  refine ⟨I.ok, I.os, hg, ⟨fun b o e n hb hx => ?_, fun b o e n hb hx => ?_, fun b o e n hx => ?_, fun b o e hx => ?_, fun b xs e => tups b xs (I.base.tups b xs e), fun b o xs e => frzs b o xs (I.base.frzs b o xs e), fun b ps e => ?_⟩, ?_, fun x c e => ?_, ?_, fun x c e => ?_, fun p hp => ?_, hok, I.len⟩
  · exact keep b o (neL b o e) hb (neC b o e hx) (I.base.keep b o e n hb hx) (I.base.free b o e n hx)
  · obtain ⟨sl, e1⟩ := I.base.slot b o e n hb hx
    obtain ⟨sl', e2⟩ := slot b _ (neL b o e) hb (neC b o e hx) e1 (I.base.free b o e n hx)
    exact ⟨sl', e2⟩
  · obtain ⟨o', e1⟩ := I.base.there b o e hx
    exact free b o' (neC b o e hx) e1 (I.base.free b o e n hx)
  · obtain ⟨o', e1⟩ := I.base.there b o e hx
    exact there b o' (neC b o e hx) e1
  · obtain ⟨m1, e1⟩ := I.base.tbls b ps e
    obtain ⟨m2, e2⟩ := tbls b _ e1
    exact ⟨m1 ++ m2, by rw [e2, Array.append_assoc]⟩
  · obtain ⟨m, hn, hl⟩ := I.loc
    refine ⟨m, ns m hn, fun i x v e1 e2 e3 => ?_⟩
    obtain ⟨u, r, l⟩ := hl i x v e1 e2 e3
    refine ⟨u, r, ?_⟩
    rcases l with l | ⟨k, c, e, z⟩
    · exact .inl l
    · exact .inr ⟨k, c, e, cellK x c e _ z⟩
  · obtain ⟨v, z⟩ := I.cell x c e
    exact ⟨v, cellK x c e v z⟩
  · obtain ⟨m, ⟨o, _, _, ho, _⟩, _⟩ := I.loc
    exact free _ o (fun z => (hch _ z).2.1 rfl) ho I.free
  · obtain ⟨v, o, ho, hd⟩ := I.cell x c e
    exact free c o (fun z => (hch c z).2.2.1 x c e rfl) ho (I.freeC x c e)
  · obtain ⟨e, n, ne, nf, d⟩ := I.pin p hp
    have nch : p.1 ∉ ch := fun z => (hch p.1 z).2.2.2 p hp rfl
    exact ⟨keep p.1 p.2 ne nf nch e n, free p.1 p.2 nch e n, ne, nf, d⟩
/-- .. where the frame's own object is kept too -/
theorem Inv.un {t' : Nat} (I : Inv X pins σ H s) (u : Un X.fs [] H H' s.heap h') (hok : HOk X.prog X.w H' h') : Inv X pins σ H' { s with heap := h', toks := t' } := by
  obtain ⟨m, ⟨o, es, ep, ho, r⟩, _⟩ := id I.loc
  obtain ⟨sl, hL⟩ := u.any ho I.free (by simp)
  exact I.step (g' := s.gens) (d' := s.drawn) (ch := []) (fun _ z => nomatch z) (fun b o _ hb _ e n => u.keep b o e n hb (by simp)) (fun b o _ hb _ e n => u.slot b o e n hb (by simp)) (fun b o _ e n => u.free b o e n (by simp)) (fun b o _ e => u.there b o e (by simp)) u.tups u.frzs u.tbls (fun m' hm => by
    obtain ⟨o', es', ep', ho', r'⟩ := hm
    rw [ho] at ho'; cases ho'
    exact ⟨_, es', ep', hL, r'⟩) hok I.bare
/-- behind a call (or a comprehension's block): the slots of this frame may have changed too, the records at ch may have turned -/
theorem Inv.call {g' : Array GenState} {t' : Nat} {d' : Drawn} {ch : List Addr} (I : Inv X pins σ H s) (u : Un (frs X.stack) ch H H' s.heap h') (hok : HOk X.prog X.w H' h') (hg : AllBare g')
    (hch : ∀ b ∈ ch, (b ∈ X.ex ∨ X.s₀.heap.objs.size ≤ b) ∧ b ≠ X.env.locals ∧ (∀ x c, X.env.cells.lookup x = some c → c ≠ b) ∧ ∀ p ∈ X.pn ++ pins, p.1 ≠ b) :
    Inv X pins σ H' { s with heap := h', gens := g', drawn := d', toks := t' } := by
  obtain ⟨m, ⟨o, es, ep, ho, r⟩, _⟩ := id I.loc
  obtain ⟨sl, hL⟩ := u.any ho I.free fun z => (hch _ z).2.1 rfl
  exact I.step (ch := ch) hch (fun b o hL hb hc e n => u.keep b o e n (fun z => (List.mem_cons.mp (I.stkSub b z)).elim hL hb) hc) (fun b o _ _ hc e n => u.any e n hc) (fun b o hc e n => u.free b o e n hc) (fun b o hc e => u.there b o e hc) u.tups u.frzs u.tbls (fun m' hm => by
    obtain ⟨o', es', ep', ho', r'⟩ := hm
    rw [ho] at ho'; cases ho'
    exact ⟨_, es', ep', hL, r'⟩) hok hg
/-- an untracked record of ours (an iterator) has turned -/
theorem Inv.turned {t' : Nat} {it : Addr} (I : Inv X pins σ H s) (k : ∀ b o, b ≠ it → s.heap.get? b = some o → h'.get? b = some o) (hn : H it = none) (hL : it ≠ X.env.locals)
    (h1 : it ∈ X.ex ∨ X.s₀.heap.objs.size ≤ it) (h2 : ∀ x c, X.env.cells.lookup x = some c → c ≠ it) (h3 : ∀ p ∈ X.pn ++ pins, p.1 ≠ it) : Inv X pins σ H { s with heap := h', toks := t' } := by
  have nit : ∀ b u, H b = some u → b ≠ it := fun b u e z => by rw [z, hn] at e; cases e
  refine I.step (g' := s.gens) (d' := s.drawn) (ch := [it]) (fun b hb => ?_) (fun b o _ _ hc e _ => k b o (fun z => hc (by simp [z])) e) (fun b o _ _ hc e _ => ⟨o.slots, k b o (fun z => hc (by simp [z])) e⟩) (fun _ _ _ _ n => n)
    (fun b o hc e => ⟨o, k b o (fun z => hc (by simp [z])) e⟩) (fun _ _ e => e) (fun _ _ _ e => e) (fun b ps e => ⟨#[], by rw [e]; simp⟩) (fun m hm => ?_) (fun b u e => ?_) I.bare
  · have e : b = it := by simpa using hb
    subst e
    exact ⟨h1, hL, h2, h3⟩
  · obtain ⟨o, es, ep, ho, r⟩ := hm
    exact ⟨o, es, ep, k _ o (Ne.symm hL) ho, r⟩
  · refine (I.hok b u e).stay (fun c v hc q => k c v ?_ q) (fun _ q => q) fun _ _ q => q
    rcases hc with z | z
    · rw [z]; exact nit b u e
    · exact nit c _ z
theorem Inv.tok (I : Inv X pins σ H s) (t : Nat) : Inv X pins σ H { s with toks := t } := I.un (h' := s.heap) (t' := t) Un.refl I.hok
/-- all objects kept -/
theorem Inv.kept {t' : Nat} (I : Inv X pins σ H s) (k : ∀ b u, s.heap.get? b = some u → h'.get? b = some u) : Inv X pins σ H { s with heap := h', toks := t' } := I.un (Un.kept k) (I.hok.kept k)
/-- a new object laid and tracked -/
theorem Inv.laid {a : Addr} {o : HO} {t' : Nat} (I : Inv X pins σ H s) (k : ∀ b u, s.heap.get? b = some u → h'.get? b = some u) (hp : s.heap.objs.size ≤ a) (new : ObjOk X.prog X.w (upd H a o) h' a o) :
    Inv X pins σ (upd H a o) { s with heap := h', toks := t' } := I.un (Un.laid k hp (I.hok.fresh hp)) (I.hok.laid k hp new)
/-- forgetting slots, pins -/
theorem Inv.weak {σ' : List (Option V)} (I : Inv X pins σ H s) (hl : σ'.length = σ.length) (w : ∀ (i : Nat) v, σ'[i]? = some (some v) → σ[i]? = some (some v)) : Inv X pins σ' H s :=
  ⟨I.ok, I.os, I.bare, I.base, let ⟨m, hn, hl'⟩ := I.loc; ⟨m, hn, fun i x v e1 e2 e3 => hl' i x v e1 (w i v e2) e3⟩, I.cell, I.free, I.freeC, I.pin, I.hok, hl.trans I.len⟩
theorem Inv.pins_of {pins' : List (Addr × Obj)} (I : Inv X pins σ H s) (h : ∀ p ∈ pins', s.heap.get? p.1 = some p.2 ∧ H p.1 = none ∧ p.1 ≠ X.env.locals ∧ p.1 ∉ X.fs ∧ ∀ v, p.2.data ≠ .cell v) : Inv X pins' σ H s :=
  ⟨I.ok, I.os, I.bare, I.base, I.loc, I.cell, I.free, I.freeC, fun p hp => (List.mem_append.mp hp).elim (fun z => I.pin p (List.mem_append_left _ z)) (h p), I.hok, I.len⟩
theorem nodup_ix {N : List Str} (hN : N.Nodup) {i j : Nat} {x : Str} (a : N[i]? = some x) (b : N[j]? = some x) : i = j := by
  obtain ⟨h1, e1⟩ := List.getElem?_eq_some_iff.mp a
  obtain ⟨h2, e2⟩ := List.getElem?_eq_some_iff.mp b
  exact (List.getElem_inj hN).mp (e1.trans e2.symm)
/-- a name is stored; what changed -/
theorem store_ok2 {M : Model} {A : Around} {E : Value → Shared → Prop} {i : Nat} {x : Str} {v : V} {u : Value} {Q : Unit → Shared → Prop} (I : Inv X pins σ H s) (hN : X.N.Nodup) (hi : X.N[i]? = some x) (hx : Loc X.env.scope x) (r : RelV v u)
    (h : ∀ s', Inv X pins (σ.set i (some v)) H s' → (∃ a, Heap.SameBut a s.heap s'.heap ∧ (a = X.env.locals ∨ X.env.cells.lookup x = some a)) → Q () s') (hf : X.fn x = true ∨ X.env.scope.names.lookup x = some .local := by first | exact .inl rfl | exact .inr rfl | assumption) : wpAny M A (storeName X.env x u) Q E s := by
  obtain ⟨m, hn, hl⟩ := id I.loc
  have hcls : (X.env.scope.kind == .class || (X.env.scope.kind == .module && X.env.locals != X.env.globals)) = false := by rw [I.ok.kind]; rfl
  have hiσ : i < σ.length := by rw [I.len]; exact (List.getElem?_eq_some_iff.mp hi).1
  have cne := I.cne
  have tracked : ∀ {a : Addr} {h' : Heap}, (∃ o, s.heap.get? a = some o ∧ H a = none) → Heap.SameBut a s.heap h' → HOk X.prog X.w H h' := fun {a h'} ha hs b ob e => by
    obtain ⟨_, _, hfree⟩ := ha
    refine (I.hok b ob e).stay (fun c w' hc q => (hs.2 c ?_).trans q) (fun _ q => q) fun _ _ q => q
    rintro rfl
    rcases hc with rfl | hc
    · rw [hfree] at e; cases e
    · rw [hfree] at hc; cases hc
  rcases hx with hk | hk
  · refine wpAny_storeName_local hk hn (fun h' hn' hs => ?_) hcls
    obtain ⟨oL, _, _, hoL, _⟩ := id hn
    refine h _ ⟨I.ok, I.os, I.bare, ⟨fun b o e n hb hx => ?_, fun b o e n hb hx => ?_, I.base.free, fun b o e hx => ?_, I.base.tups, I.base.frzs, I.base.tbls⟩, ⟨_, hn', fun j y v' e1 e2 e3 => ?_⟩, fun y c e => ?_, I.free, I.freeC, fun p hp => ?_, tracked ⟨oL, hoL, I.free⟩ hs, by simpa using I.len⟩ ⟨_, hs, .inl rfl⟩
    · exact (hs.2 b (Nat.ne_of_lt (Nat.lt_of_lt_of_le (Heap.lt_size e) I.ok.above))).trans (I.base.keep b o e n hb hx)
    · obtain ⟨sl, e1⟩ := I.base.slot b o e n hb hx
      exact ⟨sl, (hs.2 b (Nat.ne_of_lt (Nat.lt_of_lt_of_le (Heap.lt_size e) I.ok.above))).trans e1⟩
    · obtain ⟨o', e1⟩ := I.base.there b o e hx
      exact ⟨o', (hs.2 b (Nat.ne_of_lt (Nat.lt_of_lt_of_le (Heap.lt_size e) I.ok.above))).trans e1⟩
    · by_cases hj : j = i
      · subst hj
        rw [hi] at e1; cases e1
        rw [List.getElem?_set_self hiσ] at e2
        cases e2
        exact ⟨u, r, .inl ⟨hk, by simp⟩⟩
      · rw [List.getElem?_set_ne (Ne.symm hj)] at e2
        obtain ⟨u', r', q⟩ := hl j y v' e1 e2 e3
        refine ⟨u', r', ?_⟩
        rcases q with ⟨k, e⟩ | ⟨k, c, e, z⟩
        · refine .inl ⟨k, ?_⟩
          have : y ≠ x := fun e => hj (nodup_ix hN e1 (e ▸ hi))
          simp [this, e]
        · exact .inr ⟨k, c, e, z.sameBut hs (cne y c e)⟩
    · obtain ⟨w', z⟩ := I.cell y c e
      exact ⟨w', z.sameBut hs (cne y c e)⟩
    · obtain ⟨e, n, ne, nf, d⟩ := I.pin p hp
      exact ⟨(hs.2 p.1 ne).trans e, n, ne, nf, d⟩
  · have hfn : X.fn x = true := by
      rcases hf with z | z
      · exact z
      · rw [z] at hk; cases hk
    obtain ⟨c, hc⟩ := I.ok.has x (.inl hk)
    obtain ⟨w', z⟩ := I.cell x c hc
    refine wpAny_storeName_cell I.ok.kind hk hc z (fun h' hc' hs => ?_)
    obtain ⟨oc, hoc, hocd⟩ := id z
    refine h { s with heap := h' } ⟨I.ok, I.os, I.bare, ⟨fun b o e n hb hx => ?_, fun b o e n hb hx => ?_, I.base.free, fun b o e hx => ?_, I.base.tups, I.base.frzs, I.base.tbls⟩, ⟨m, hn.sameBut hs (Ne.symm (cne x c hc)), fun j y v' e1 e2 e3 => ?_⟩, fun y c' e => ?_, I.free, I.freeC, fun p hp => ?_, tracked ⟨oc, hoc, I.freeC x c hc⟩ hs, by simpa using I.len⟩ ⟨c, hs, .inr hc⟩
    · exact (hs.2 b (Nat.ne_of_lt (Nat.lt_of_lt_of_le (Heap.lt_size e) (I.ok.cab x c hfn hc)))).trans (I.base.keep b o e n hb hx)
    · obtain ⟨sl, e1⟩ := I.base.slot b o e n hb hx
      exact ⟨sl, (hs.2 b (Nat.ne_of_lt (Nat.lt_of_lt_of_le (Heap.lt_size e) (I.ok.cab x c hfn hc)))).trans e1⟩
    · obtain ⟨o', e1⟩ := I.base.there b o e hx
      exact ⟨o', (hs.2 b (Nat.ne_of_lt (Nat.lt_of_lt_of_le (Heap.lt_size e) (I.ok.cab x c hfn hc)))).trans e1⟩
    · by_cases hj : j = i
      · subst hj
        rw [hi] at e1; cases e1
        rw [List.getElem?_set_self hiσ] at e2
        cases e2
        exact ⟨u, r, .inr ⟨.inl hk, c, hc, hc'⟩⟩
      · rw [List.getElem?_set_ne (Ne.symm hj)] at e2
        obtain ⟨u', r', q⟩ := hl j y v' e1 e2 e3
        refine ⟨u', r', ?_⟩
        rcases q with q | ⟨k, c', e, z'⟩
        · exact .inl q
        · refine .inr ⟨k, c', e, z'.sameBut hs ?_⟩
          rintro rfl
          exact hj (nodup_ix hN e1 (I.ok.inj _ _ _ e hc ▸ hi))
    · by_cases hcc : c' = c
      · subst hcc; exact ⟨_, hc'⟩
      · obtain ⟨w2, z2⟩ := I.cell y c' e
        exact ⟨w2, z2.sameBut hs hcc⟩
    · obtain ⟨e, n, ne, nf, d⟩ := I.pin p hp
      refine ⟨(hs.2 p.1 ?_).trans e, n, ne, nf, d⟩
      intro q
      rw [q, hoc] at e
      have q' : oc = p.2 := Option.some.inj e
      exact d w' (by rw [← q']; exact hocd)
theorem store_ok {M : Model} {A : Around} {E : Value → Shared → Prop} {i : Nat} {x : Str} {v : V} {u : Value} {Q : Unit → Shared → Prop} (I : Inv X pins σ H s) (hN : X.N.Nodup) (hi : X.N[i]? = some x) (hx : Loc X.env.scope x) (r : RelV v u)
    (h : ∀ s', Inv X pins (σ.set i (some v)) H s' → Q () s') (hf : X.fn x = true ∨ X.env.scope.names.lookup x = some .local := by first | exact .inl rfl | exact .inr rfl | assumption) : wpAny M A (storeName X.env x u) Q E s :=
  store_ok2 I hN hi hx r (fun s' I' _ => h s' I') hf
/-- behind a call or a block, the state as it is -/
theorem Inv.call' {s' : Shared} {ch : List Addr} (I : Inv X pins σ H s) (ho : s'.os = s.os) (u : Un (frs X.stack) ch H H' s.heap s'.heap) (hok : HOk X.prog X.w H' s'.heap) (hg : AllBare s'.gens)
    (hch : ∀ b ∈ ch, (b ∈ X.ex ∨ X.s₀.heap.objs.size ≤ b) ∧ b ≠ X.env.locals ∧ (∀ x c, X.env.cells.lookup x = some c → c ≠ b) ∧ ∀ p ∈ X.pn ++ pins, p.1 ≠ b) : Inv X pins σ H' s' := by
  obtain ⟨h', g', d', t', o'⟩ := s'
  have e : o' = s.os := ho
  subst e
  exact I.call (g' := g') (t' := t') (d' := d') u hok hg hch
end
/-! ### the judgements -/
/-- an exception: its class, its own dict's address (where it has one), the abstract heap behind it -/
abbrev XK := Value → Option Addr → Hp → Prop
abbrev St := List (Option V)
abbrev VK := V → Hp → Prop
/-- an expression's reading; a test's; an argument list's -/
abbrev TE := St → Hp → VK → Prop
abbrev TT := St → Hp → (Bool → Hp → Prop) → Prop
abbrev TA := St → Hp → (List V → Hp → Prop) → Prop
/-- what is wanted behind a statement -/
structure Ends where
  nx : St → Hp → Prop
  rt : VK
  bk : St → Hp → Prop := fun _ _ => False
  ct : St → Hp → Prop := fun _ _ => False
abbrev TS := Ends → St → Hp → Prop
def EP (X : Cx) (pins : List (Addr × Obj)) (σ : St) (Q : VK) (u : Value) (s' : Shared) : Prop := ∃ v H', Inv X pins σ H' s' ∧ RelV v u ∧ Q v H'
def TP (X : Cx) (pins : List (Addr × Obj)) (σ : St) (Q : Bool → Hp → Prop) (b : Bool) (s' : Shared) : Prop := ∃ H', Inv X pins σ H' s' ∧ Q b H'
def AP (X : Cx) (pins : List (Addr × Obj)) (σ : St) (Q : List V → Hp → Prop) (us : List Value) (s' : Shared) : Prop := ∃ vs H', Inv X pins σ H' s' ∧ Vals vs us ∧ Q vs H'
def SP (X : Cx) (pins : List (Addr × Obj)) (D : Ends) (f : Flow) (s' : Shared) : Prop :=
  match f with
  | .next => ∃ σ' H', Inv X pins σ' H' s' ∧ D.nx σ' H'
  | .brk => ∃ σ' H', Inv X pins σ' H' s' ∧ D.bk σ' H'
  | .cont => ∃ σ' H', Inv X pins σ' H' s' ∧ D.ct σ' H'
  | .ret u => ∃ v σ' H', Inv X pins σ' H' s' ∧ RelV v u ∧ D.rt v H'
def PE (X : Cx) (e : Expr) (t : TE) : Prop :=
  ∀ (pins : List (Addr × Obj)) (s : Shared) (σ : St) (H : Hp) (Q : VK), Inv X pins σ H s → t σ H Q → wpAny (model X.prog X.w) X.A (eval e X.env) (EP X pins σ Q) X.xe s
def PT (X : Cx) (e : Expr) (t : TT) : Prop :=
  ∀ (pins : List (Addr × Obj)) (s : Shared) (σ : St) (H : Hp) (Q : Bool → Hp → Prop), Inv X pins σ H s → t σ H Q → wpAny (model X.prog X.w) X.A (isTrue e X.env (eval e X.env)) (TP X pins σ Q) X.xe s
/-- a test whatever its 'whole' is (and, or) -/
def PW (X : Cx) (e : Expr) (t : TT) : Prop :=
  ∀ (whole : Sem Value) (pins : List (Addr × Obj)) (s : Shared) (σ : St) (H : Hp) (Q : Bool → Hp → Prop), Inv X pins σ H s → t σ H Q → wpAny (model X.prog X.w) X.A (isTrue e X.env whole) (TP X pins σ Q) X.xe s
theorem PW.pt {X : Cx} {e : Expr} {t : TT} (h : PW X e t) : PT X e t := h _
/-- an argument list (no star), from the left -/
def PA (X : Cx) (es : List Expr) (t : TA) : Prop :=
  ∀ (pos : Pos) (pins : List (Addr × Obj)) (s : Shared) (σ : St) (H : Hp) (Q : List V → Hp → Prop), Inv X pins σ H s → t σ H Q → wpAny (model X.prog X.w) X.A (spliced (backTo pos (starEach es X.env))) (AP X pins σ Q) X.xe s
def PS (X : Cx) (st : Stmt) (t : TS) : Prop :=
  ∀ (pins : List (Addr × Obj)) (s : Shared) (σ : St) (H : Hp) (D : Ends), Inv X pins σ H s → t D σ H → wpAny (model X.prog X.w) X.A (exec st X.env) (SP X pins D) X.xe s
def PSs (X : Cx) (st : List Stmt) (t : TS) : Prop :=
  ∀ (pins : List (Addr × Obj)) (s : Shared) (σ : St) (H : Hp) (D : Ends), Inv X pins σ H s → t D σ H → wpAny (model X.prog X.w) X.A (execs st X.env) (SP X pins D) X.xe s
/-- weaken the end -/
theorem thn {α : Type} {t : Sem α} {Q Q' : α → Shared → Prop} {M : Model} {A : Around} {E : Value → Shared → Prop} {s : Shared} (h : wpAny M A t Q E s) (hQ : ∀ a s, Q a s → Q' a s) : wpAny M A t Q' E s := wpAny_mono h hQ fun _ _ x => x
end L2
namespace L2
open PySem PySem.Spec PyProof.Rows
section
variable {X : Cx}
/-- two expressions in a row -/
theorem bin {a b : Expr} {ta tb : TE} (ha : PE X a ta) (hb : PE X b tb) {pins : List (Addr × Obj)} {s : Shared} {σ : St} {H : Hp} {R : V → V → Hp → Prop} (I : Inv X pins σ H s) (h : ta σ H fun x H1 => tb σ H1 fun y H2 => R x y H2)
    {α : Type} {Q : α → Shared → Prop} {f : Value → Value → Sem α}
    (hf : ∀ v u s2 x y H2, Inv X pins σ H2 s2 → RelV x v → RelV y u → R x y H2 → wpAny (model X.prog X.w) X.A (f v u) Q X.xe s2) :
    wpAny (model X.prog X.w) X.A (eval a X.env) (fun v s₁ => wpAny (model X.prog X.w) X.A (eval b X.env) (fun u s₂ => wpAny (model X.prog X.w) X.A (f v u) Q X.xe s₂) X.xe s₁) X.xe s := by
  refine thn (ha pins s σ H _ I h) fun v s1 ⟨x, H1, I1, r1, q1⟩ => ?_
  refine thn (hb pins s1 σ H1 _ I1 q1) fun u s2 ⟨y, H2, I2, r2, q2⟩ => ?_
  exact hf v u s2 x y H2 I2 r1 r2 q2
/-! ### names and constants -/
def tVar (i : Nat) : TE := fun σ H Q => ∃ v, σ[i]? = some (some v) ∧ Q v H
def tC (v : V) : TE := fun _ H Q => Q v H
theorem pe_var {i : Nat} {x : Str} {pos : Pos} (hN : X.N[i]? = some x) (hv : Vis X.env.scope x) (hd : (x == ("__debug__" : Str)) = false := by decide) (hcd : (x == ("__classdict__" : Str)) = false := by decide) : PE X (.Name x pos) (tVar i) := by
  intro pins s σ H Q I h
  obtain ⟨v, e, h⟩ := h
  obtain ⟨m, hn, hl⟩ := I.loc
  obtain ⟨u, r, l⟩ := hl i x v hN e hv
  have fin : EP X pins σ Q u s := ⟨v, H, I, r, h⟩
  rcases l with ⟨hk, hm⟩ | ⟨hk, c, hc, hcell⟩
  · exact wpAny_Name (wpAny_loadName_local I.ok.kind hk hn hm fin) hd
  · rcases hk with hk | hk
    · exact wpAny_Name (wpAny_loadName_cell I.ok.kind hk hc hcell fin) hd
    · exact wpAny_Name (wpAny_loadName_free I.ok.kind hk hc hcell fin hcd) hd
theorem pe_int {i j pos} : PE X (.Constant (.int i) j pos) (tC (.int i)) := fun _ _ _ H _ I h => wpAny_Constant_int ⟨.int i, H, I.tok _, ⟨_, rfl⟩, h⟩
theorem pe_bl {b j pos} : PE X (.Constant (.bool b) j pos) (tC (.bl b)) := fun _ _ _ H _ I h => Constant_bool ⟨.bl b, H, I, rfl, h⟩
theorem pe_non {j pos} : PE X (.Constant .none j pos) (tC .non) := fun _ _ _ H _ I h => Constant_none ⟨.non, H, I, rfl, h⟩
theorem pe_str {x j pos} : PE X (.Constant (.str x) j pos) (tC (.str x)) := fun _ _ _ H _ I h => Calls.Constant_str ⟨.str x, H, I.tok _, ⟨_, rfl⟩, h⟩
/-- a global name of the def -/
def Gl (X : Cx) (x : Str) : Prop := X.env.kindOf x = some .globalImplicit
theorem ld_glob {E : Value → Shared → Prop} {pins : List (Addr × Obj)} {s : Shared} {σ : St} {H : Hp} {x : Str} {u : Value} {pos : Pos} {Q : Value → Shared → Prop} (I : Inv X pins σ H s) (hg : Gl X x) (hm : X.mg x = some u) (h : Q u s)
    (hd : (x == ("__debug__" : Str)) = false := by decide) : wpAny (model X.prog X.w) X.A (eval (.Name x pos) X.env) Q E s :=
  Calls.Name_function_global I.ok.kind hg (Calls.loadGlobal_global (by rw [I.ok.glob]; exact I.mod.glob.keeps I.bk) hm h) hd
theorem ld_blt {E : Value → Shared → Prop} {pins : List (Addr × Obj)} {s : Shared} {σ : St} {H : Hp} {x : Str} {u : Value} {pos : Pos} {Q : Value → Shared → Prop} (I : Inv X pins σ H s) (hg : Gl X x) (hm : X.mg x = none) (hv : bootBuiltins x = some u) (h : Q u s)
    (hn : x ≠ "__name__" := by decide) (hd : (x == ("__debug__" : Str)) = false := by decide) : wpAny (model X.prog X.w) X.A (eval (.Name x pos) X.env) Q E s := by
  obtain ⟨mb, h1, h2⟩ := I.mod.blt
  exact Calls.Name_function_global I.ok.kind hg (Calls.loadGlobal_builtin (by rw [I.ok.glob]; exact I.mod.glob.keeps I.bk) hm (by rw [I.ok.blt]; exact h1.keeps I.bk) ((h2 x hn).trans hv) h) hd
/-- a module's constant, a class, a function, as a value -/
theorem pe_glob {x : Str} {v : V} {u : Value} {pos : Pos} (hg : Gl X x) (hm : X.mg x = some u) (r : RelV v u) (hd : (x == ("__debug__" : Str)) = false := by decide) : PE X (.Name x pos) (tC v) :=
  fun _ _ _ H _ I h => ld_glob I hg hm ⟨v, H, I, r, h⟩ hd
theorem pe_bltn {x : Str} {v : V} {u : Value} {pos : Pos} (hg : Gl X x) (hm : X.mg x = none) (hv : bootBuiltins x = some u) (r : RelV v u) (hn : x ≠ "__name__" := by decide) (hd : (x == ("__debug__" : Str)) = false := by decide) : PE X (.Name x pos) (tC v) :=
  fun _ _ _ H _ I h => ld_blt I hg hm hv ⟨v, H, I, r, h⟩ hn hd
/-! ### arithmetic -/
variable {a b : Expr} {ta tb : TE} {pos : Pos}
/-! ### comparisons -/
def PC (X : Cx) (op : CmpOp) (a b : Expr) (t : TE) : Prop :=
  ∀ (pins : List (Addr × Obj)) (s : Shared) (σ : St) (H : Hp) (Q : VK), Inv X pins σ H s → t σ H Q →
    wpAny (model X.prog X.w) X.A (eval a X.env) (fun v s₁ => wpAny (model X.prog X.w) X.A (eval b X.env) (fun u s₂ => wpAny (model X.prog X.w) X.A (compareOp op v u) (EP X pins σ Q) X.xe s₂) X.xe s₁) X.xe s
/-- a comparison as a value, as a test -/
def tB (t : TE) : TT := fun σ H Q => t σ H fun x H1 => ∃ c, x = .bl c ∧ Q c H1
theorem pt_cmp {op : CmpOp} {t : TE} (h : PC X op a b t) (h1 : behindInMarks op b = false := by first | exact nobehind _ (by decide) (by decide) | rfl) : PT X (.Compare a [op] [b] pos) (tB t) := by
  intro pins s σ H Q I hw
  refine wpAny_isTrue_Compare1 (thn (h pins s σ H _ I hw) fun v s1 h1 => thn h1 fun u s2 h2 => thn h2 fun c s3 ⟨x, H1, I1, r1, q1⟩ => ?_) h1
  obtain ⟨d, rfl, q⟩ := q1
  cases r1
  exact wpAny_truthy_bool ⟨H1, I1, q⟩
/-- an expression whose value is a bool, as a test -/
theorem pt_val {e : Expr} {t : TE} (h : PE X e t) (he : ∀ whole, isTrue e X.env whole = (do let v ← whole; standAt e.pos; holding [v] (truthy v)) := by intro _; rfl) : PT X e (tB t) := by
  intro pins s σ H Q I hw
  refine isTrue_plain (thn (h pins s σ H _ I hw) fun v s1 ⟨x, H1, I1, r1, q1⟩ => ?_) (he _)
  obtain ⟨d, rfl, q⟩ := q1
  cases r1
  exact wpAny_truthy_bool ⟨H1, I1, q⟩
/-! ### and, or, not -/
variable {tA tB' : TT} {rest : List Expr}
def tAnd (t u : TT) : TT := fun σ H Q => t σ H fun c H1 => if c = true then u σ H1 Q else Q false H1
def tOr (t u : TT) : TT := fun σ H Q => t σ H fun c H1 => if c = true then Q true H1 else u σ H1 Q
def tNot (t : TT) : TT := fun σ H Q => t σ H fun c H1 => Q (!c) H1
theorem pw_and1 (ha : PT X a tA) : PW X (.BoolOp .And [a] pos) tA := by
  intro wh pins s σ H Q I h
  refine isTrue_and (thn (ha pins s σ H Q I h) fun c s1 e => ?_)
  cases c with
  | true => exact isTrue_and_nil e
  | false => exact e
theorem pw_or1 (ha : PT X a tA) : PW X (.BoolOp .Or [a] pos) tA := by
  intro wh pins s σ H Q I h
  refine isTrue_or (thn (ha pins s σ H Q I h) fun c s1 e => ?_)
  cases c with
  | false => exact isTrue_or_nil e
  | true => exact e
theorem pw_and (ha : PT X a tA) (hb : PW X (.BoolOp .And (b :: rest) pos) tB') : PW X (.BoolOp .And (a :: b :: rest) pos) (tAnd tA tB') := by
  intro wh pins s σ H Q I h
  refine isTrue_and (thn (ha pins s σ H _ I h) fun c s1 ⟨H1, I1, q1⟩ => ?_)
  cases c with
  | true => exact hb wh pins s1 σ H1 Q I1 q1
  | false => exact ⟨H1, I1, q1⟩
theorem pw_or (ha : PT X a tA) (hb : PW X (.BoolOp .Or (b :: rest) pos) tB') : PW X (.BoolOp .Or (a :: b :: rest) pos) (tOr tA tB') := by
  intro wh pins s σ H Q I h
  refine isTrue_or (thn (ha pins s σ H _ I h) fun c s1 ⟨H1, I1, q1⟩ => ?_)
  cases c with
  | true => exact ⟨H1, I1, q1⟩
  | false => exact hb wh pins s1 σ H1 Q I1 q1
theorem pt_not (ha : PT X a tA) : PT X (.UnaryOp .Not a pos) (tNot tA) := by
  intro pins s σ H Q I h
  exact isTrue_not (ha pins s σ H (fun c H1 => Q (!c) H1) I h)
/-- .. as values (bools) -/
def tAndV (ta tb : TE) : TE := fun σ H Q => ta σ H fun x H1 => ∃ c, x = .bl c ∧ if c = true then tb σ H1 Q else Q (.bl false) H1
def tNotV (ta : TE) : TE := fun σ H Q => ta σ H fun x H1 => ∃ c, x = .bl c ∧ Q (.bl (!c)) H1
theorem pe_one {op} {t : TE} (h : PE X a t) : PE X (.BoolOp op [a] pos) t := fun pins s σ H Q I hw => BoolOp_one (h pins s σ H Q I hw)
theorem pe_and (ha : PE X a ta) (hb : PE X (.BoolOp .And (b :: rest) pos) tb) : PE X (.BoolOp .And (a :: b :: rest) pos) (tAndV ta tb) := by
  intro pins s σ H Q I h
  refine BoolOp_and (thn (ha pins s σ H _ I h) fun v s1 ⟨x, H1, I1, r1, q1⟩ => ?_)
  obtain ⟨c, rfl, q1⟩ := q1
  cases r1
  refine wpAny_truthy_bool ?_
  cases c with
  | true => exact hb pins s1 σ H1 Q I1 q1
  | false => exact ⟨.bl false, H1, I1, rfl, q1⟩
theorem pe_not (ha : PE X a ta) : PE X (.UnaryOp .Not a pos) (tNotV ta) := by
  intro pins s σ H Q I h
  refine UnaryOp_ (thn (ha pins s σ H _ I h) fun v s1 ⟨x, H1, I1, r1, q1⟩ => ?_)
  obtain ⟨c, rfl, q1⟩ := q1
  cases r1
  exact not_of (wpAny_truthy_bool ⟨.bl (!c), H1, I1, rfl, q1⟩)
/-- a if t else b -/
def tIf (t : TT) (ta tb : TE) : TE := fun σ H Q => t σ H fun c H1 => if c = true then ta σ H1 Q else tb σ H1 Q
theorem pe_ifExp {c : Expr} (hc : PT X c tA) (ha : PE X a ta) (hb : PE X b tb) : PE X (.IfExp c a b pos) (tIf tA ta tb) := by
  intro pins s σ H Q I h
  refine wpAny_IfExp (thn (hc pins s σ H _ I h) fun d s1 ⟨H1, I1, q1⟩ => ?_)
  cases d with
  | true => exact ha pins s1 σ H1 Q I1 q1
  | false => exact hb pins s1 σ H1 Q I1 q1
end
end L2
namespace L2
open PySem PySem.Spec PyProof.Rows
/-! ### a list, a tuple that is read: tracked, frozen, or an object of the module -/
def SqL (K : PySem.W.Frag) (H : Hp) (a : Addr) (xs : List V) : Prop :=
  Rd H a (.lst xs) ∨
    ∃ (o : Obj) (its : Array Value) (n : Nat), K.lookup a = some o ∧ o.cls = .type "list" ∧ o.dict = none ∧ o.data = .seq its n ∧ its.size ≤ sizeLine ∧ Vals0 xs its.toList
def SqT (K : PySem.W.Frag) (H : Hp) (a : Addr) (xs : List V) : Prop :=
  Rd H a (.tup xs) ∨
    ∃ (o : Obj) (its : Array Value) (n : Nat), K.lookup a = some o ∧ o.cls = .type "tuple" ∧ o.data = .seq its n ∧ its.size ≤ sizeLine ∧ Vals0 xs its.toList
def absV : Value → Option V
  | .none => some .non
  | .bool b => some (.bl b)
  | .int i _ => some (.int i)
  | .str x _ => some (.str x)
  | .bytes b _ => some (.byt b)
  | .float b _ => some (.flt b)
  | .ref a => some (.ref a)
  | .type n => some (.ty n)
  | _ => none
theorem RelV0.abs {x : V} {u : Value} (r : RelV0 x u) : absV u = some x := by
  cases x with
  | non => cases r; rfl
  | bl _ => cases r; rfl
  | int _ => obtain ⟨t, rfl⟩ := r; rfl
  | str _ => obtain ⟨t, rfl⟩ := r; rfl
  | byt _ => obtain ⟨t, rfl⟩ := r; rfl
  | flt _ => obtain ⟨t, rfl⟩ := r; rfl
  | ref _ => cases r; rfl
  | ty _ => cases r; rfl
  | stk _ _ => exact r.elim
theorem Vals0.inj : ∀ {xs ys : List V} {us : List Value}, Vals0 xs us → Vals0 ys us → xs = ys
  | _, _, _, .nil, .nil => rfl
  | _, _, _, .cons r t, .cons r' t' => by rw [Option.some.inj (r.abs.symm.trans r'.abs), Vals0.inj t t']
theorem vals0_ints : ∀ {ns : List Int} {us : List Value}, Vals (ns.map V.int) us → Vals0 (ns.map V.int) us
  | [], _, .nil => .nil
  | _ :: _, _, .cons r t => .cons r (vals0_ints t)
theorem Rd.inj {H : Hp} {a : Addr} {u v : HO} (h : Rd H a u) (h' : Rd H a v) (hu : ∀ o x, u ≠ .frz o x) (hv : ∀ o x, v ≠ .frz o x) : u = v := by
  rcases h with h | ⟨o, h⟩ <;> rcases h' with h' | ⟨o', h'⟩
  · exact Option.some.inj (h.symm.trans h')
  · exact absurd (Option.some.inj (h.symm.trans h')) (hu _ _)
  · exact absurd (Option.some.inj (h'.symm.trans h)) (hv _ _)
  · have := Option.some.inj (h.symm.trans h')
    injection this
theorem Rd.some {H : Hp} {a : Addr} {u : HO} (h : Rd H a u) (n : H a = none) : False := by
  rcases h with h | ⟨o, h⟩ <;> (rw [n] at h; cases h)
section
variable {X : Cx} {pins : List (Addr × Obj)} {σ : St} {H : Hp} {s : Shared} {a : Addr} {xs ys : List V}
theorem SqL.of {K : PySem.W.Frag} (h : H a = some (.lst xs)) : SqL K H a xs := .inl (.inl h)
theorem SqT.of {K : PySem.W.Frag} (h : H a = some (.tup xs)) : SqT K H a xs := .inl (.inl h)
theorem Inv.list (I : Inv X pins σ H s) (h : SqL X.K H a xs) : ∃ its : List Value, Vals xs its ∧ PlainL s.heap a its.toArray ∧ xs.length ≤ sizeLine := by
  rcases h with h | ⟨o, its, n, hk, hc, hd, hs, hz, r⟩
  · obtain ⟨z, its, n, r, e⟩ := h.ok I.hok
    exact ⟨its, r, ⟨_, n, e, rfl, rfl, rfl⟩, z⟩
  · refine ⟨its.toList, Paired.mapP r (fun _ _ z => z.rel), ⟨o, n, I.kIn a o hk, hc, hd, by simpa using hs⟩, ?_⟩
    have e := Paired.length r
    simp only [Array.length_toList] at e
    omega
theorem Inv.tuple (I : Inv X pins σ H s) (h : SqT X.K H a xs) : ∃ its : List Value, Vals xs its ∧ IsTup s.heap a its.toArray ∧ xs.length ≤ sizeLine := by
  rcases h with h | ⟨o, its, n, hk, hc, hs, hz, r⟩
  · obtain ⟨z, its, r, p⟩ := h.ok I.hok
    exact ⟨its, r, p, z⟩
  · refine ⟨its.toList, Paired.mapP r (fun _ _ z => z.rel), ⟨o, I.kIn a o hk, hc, n, by simpa using hs⟩, ?_⟩
    have e := Paired.length r
    simp only [Array.length_toList] at e
    omega
theorem Inv.list_inj (I : Inv X pins σ H s) (h : SqL X.K H a xs) (h' : SqL X.K H a ys) : xs = ys := by
  have hn : ∀ o, X.K.lookup a = some o → H a = none := fun o e => (I.bs a o (I.ok.mod.kin a o e)).2
  rcases h with h | ⟨o, its, n, hk, hc, hd, hs, hz, r⟩ <;> rcases h' with h' | ⟨o', its', n', hk', hc', hd', hs', hz', r'⟩
  · have := h.inj h' (fun _ _ e => by cases e) (fun _ _ e => by cases e)
    injection this
  · exact (h.some (hn _ hk')).elim
  · exact (h'.some (hn _ hk)).elim
  · rw [hk] at hk'
    cases hk'
    rw [hs] at hs'
    injection hs' with d1 _
    subst d1
    exact Vals0.inj r r'
end
/-! ### another wish about exceptions -/
abbrev Cx.wish (X : Cx) (E : Value → Shared → Prop) : Cx := { X with xe := E }
/-- no exception leaves -/
abbrev Cx.nox (X : Cx) : Cx := X.wish fun _ _ => False
theorem Cx.Ok.wish {X : Cx} (ok : X.Ok) (E : Value → Shared → Prop) : (X.wish E).Ok :=
  ⟨ok.mod, ok.kind, ok.glob, ok.blt, ok.above, ok.inj, ok.has, ok.cab, ok.hd, ok.frames, ok.stk, ok.exf, ok.bs, ok.bsz, ok.noex, ok.exfs, ok.funs, ok.frf⟩
theorem Cx.Ok.unwish {X : Cx} {E : Value → Shared → Prop} (ok : (X.wish E).Ok) : X.Ok :=
  ⟨ok.mod, ok.kind, ok.glob, ok.blt, ok.above, ok.inj, ok.has, ok.cab, ok.hd, ok.frames, ok.stk, ok.exf, ok.bs, ok.bsz, ok.noex, ok.exfs, ok.funs, ok.frf⟩
section
variable {X : Cx} {pins : List (Addr × Obj)} {σ : St} {H : Hp} {s : Shared} {E : Value → Shared → Prop}
theorem Inv.wish (I : Inv X pins σ H s) (E : Value → Shared → Prop) : Inv (X.wish E) pins σ H s := ⟨I.ok.wish E, I.os, I.bare, I.base, I.loc, I.cell, I.free, I.freeC, I.pin, I.hok, I.len⟩
theorem Inv.unwish (I : Inv (X.wish E) pins σ H s) : Inv X pins σ H s := ⟨I.ok.unwish, I.os, I.bare, I.base, I.loc, I.cell, I.free, I.freeC, I.pin, I.hok, I.len⟩
theorem SP.unwish {D : Ends} {f : Flow} {s' : Shared} (h : SP (X.wish E) pins D f s') : SP X pins D f s' := by
  cases f with
  | next => obtain ⟨σ', H', I, q⟩ := h; exact ⟨σ', H', I.unwish, q⟩
  | brk => obtain ⟨σ', H', I, q⟩ := h; exact ⟨σ', H', I.unwish, q⟩
  | cont => obtain ⟨σ', H', I, q⟩ := h; exact ⟨σ', H', I.unwish, q⟩
  | ret u => obtain ⟨v, σ', H', I, r, q⟩ := h; exact ⟨v, σ', H', I.unwish, r, q⟩
theorem PSs.nox {st : List Stmt} {t : TS} (h : PSs X.nox st t) : PSs X st t := fun pins s σ H D I hw =>
  wpAny_mono (h pins s σ H D (I.wish _) hw) (fun _ _ q => q.unwish) fun _ _ z => False.elim z
end
/-! ### blocks and small statements -/
section
variable {X : Cx} {st : Stmt} {rest : List Stmt} {t u : TS} {e : Expr} {te : TE} {pos : Pos}
def tNext : TS := fun D σ H => D.nx σ H
def tSeq (t u : TS) : TS := fun D σ H => t { D with nx := u D } σ H
theorem pss_nil : PSs X [] tNext := fun _ _ σ H _ I h => wpAny_execs_nil ⟨σ, H, I, h⟩
theorem pss_cons (h1 : PS X st t) (h2 : PSs X rest u) : PSs X (st :: rest) (tSeq t u) := by
  intro pins s σ H D I h
  refine wpAny_execs_cons (thn (h1 pins s σ H { D with nx := u D } I h) fun f s1 q => ?_)
  cases f with
  | next =>
    obtain ⟨σ', H', I', q⟩ := q
    exact h2 pins s1 σ' H' D I' q
  | ret v => exact q
  | brk => exact q
  | cont => exact q
theorem pss_one (h1 : PS X st t) : PSs X [st] t := by
  intro pins s σ H D I h
  refine wpAny_execs_cons (thn (h1 pins s σ H D I h) fun f s1 q => ?_)
  cases f with
  | next => exact wpAny_execs_nil q
  | ret v => exact q
  | brk => exact q
  | cont => exact q
/-- in a def's body nothing is shown -/
theorem Inv.quiet {pins : List (Addr × Obj)} {σ : St} {H : Hp} {s : Shared} (I : Inv X pins σ H s) : interactive X.env = false := by simp [interactive, I.ok.kind]
def tRet (te : TE) : TS := fun D σ H => te σ H D.rt
theorem ps_ret (he : PE X e te) : PS X (.Return (some e) pos) (tRet te) := by
  intro pins s σ H D I h
  exact wpAny_Return_some (thn (he pins s σ H _ I h) fun v s1 ⟨x, H1, I1, r1, q1⟩ => ⟨x, σ, H1, I1, r1, q1⟩)
def tIfS (c : TT) (t u : TS) : TS := fun D σ H => c σ H fun b H1 => if b = true then t D σ H1 else u D σ H1
theorem ps_if {c : Expr} {a b : List Stmt} {tc : TT} (hc : PT X c tc) (ha : PSs X a t) (hb : PSs X b u) : PS X (.If c a b pos) (tIfS tc t u) := by
  intro pins s σ H D I h
  refine wpAny_If (thn (hc pins s σ H _ I h) fun d s1 ⟨H1, I1, q1⟩ => ?_)
  cases d with
  | true => exact ha pins s1 σ H1 D I1 q1
  | false => exact hb pins s1 σ H1 D I1 q1
end
/-! ### targets -/
abbrev TG := V → St → Hp → (St → Hp → Prop) → Prop
abbrev TGs := List V → St → Hp → (St → Hp → Prop) → Prop
def PG (X : Cx) (target : Expr) (t : TG) : Prop :=
  ∀ (pins : List (Addr × Obj)) (s : Shared) (σ : St) (H : Hp) (v : V) (u : Value) (Q : St → Hp → Prop), Inv X pins σ H s → RelV v u → t v σ H Q →
    wpAny (model X.prog X.w) X.A (assign target X.env u) (fun _ s' => ∃ σ' H', Inv X pins σ' H' s' ∧ Q σ' H') X.xe s
/-- several targets, one after another -/
def PGs (X : Cx) (ts : List Expr) (t : TGs) : Prop :=
  ∀ (pins : List (Addr × Obj)) (s : Shared) (σ : St) (H : Hp) (vs : List V) (us : List Value) (Q : St → Hp → Prop), Inv X pins σ H s → Vals vs us → t vs σ H Q →
    wpAny (model X.prog X.w) X.A (assignInOrder ((assignEach ts X.env).map (·.2)) us) (fun _ s' => ∃ σ' H', Inv X pins σ' H' s' ∧ Q σ' H') X.xe s
section
variable {X : Cx} {pos : Pos}
def gName (i : Nat) : TG := fun v σ H Q => Q (σ.set i (some v)) H
theorem pg_name {i : Nat} {x : Str} (hN : X.N.Nodup) (hi : X.N[i]? = some x) (hx : Loc X.env.scope x) (hf : X.fn x = true ∨ X.env.scope.names.lookup x = some .local := by first | exact .inl rfl | exact .inr rfl | assumption) : PG X (.Name x pos) (gName i) := by
  intro pins s σ H v u Q I r h
  exact wpAny_assign_Name (store_ok I hN hi hx r (fun s' I' => ⟨_, H, I', h⟩) hf)
def gNil : TGs := fun vs σ H Q => vs = [] ∧ Q σ H
def gCons (t : TG) (u : TGs) : TGs := fun vs σ H Q => ∃ v r, vs = v :: r ∧ t v σ H fun σ' H' => u r σ' H' Q
theorem pgs_nil : PGs X [] gNil := by
  intro pins s σ H vs us Q I r h
  obtain ⟨e, h⟩ := h
  subst e
  cases r
  exact assignInOrder_nil ⟨σ, H, I, h⟩
theorem pgs_cons {e : Expr} {es : List Expr} {t : TG} {u : TGs} (h1 : PG X e t) (h2 : PGs X es u)
    (hs : (assignEach (e :: es) X.env).map (·.2) = assign e X.env :: (assignEach es X.env).map (·.2) := by rfl) : PGs X (e :: es) (gCons t u) := by
  intro pins s σ H vs us Q I r h
  obtain ⟨v, vr, e1, h⟩ := h
  subst e1
  cases r with
  | cons r rr =>
    rw [hs]
    refine assignInOrder_cons (thn (h1 pins s σ H _ _ _ I r h) fun _ s1 ⟨σ1, H1, I1, q1⟩ => ?_)
    exact h2 pins s1 σ1 H1 _ _ Q I1 rr q1
/-- (a, b, ..) = a tuple of that length -/
def gTup (K : PySem.W.Frag) (n : Nat) (t : TGs) : TG := fun v σ H Q => ∃ a xs, v = .ref a ∧ SqT K H a xs ∧ xs.length = n ∧ t xs σ H Q
theorem pg_tup {es : List Expr} {k : Nat} {t : TGs} {n : Nat} (hc : X.calm = true) (h : PGs X es t)
    (hn : (assignEach es X.env).length = n := by rfl) (hst : (assignEach es X.env).findIdx? (·.1) = none := by rfl) : PG X (.Tuple es k pos) (gTup X.K n t) := by
  intro pins s σ H v u Q I r hw
  obtain ⟨a, xs, e1, hq, hl, hw⟩ := hw
  subst e1
  cases r
  obtain ⟨its, rv, ht, hz⟩ := I.tuple hq
  refine assign_Tuple_tuple (I.ok.hd hc) ht (by simp [hn, ← hl, rv.length]) hst fun h' hx => ?_
  have I1 : Inv X pins σ H { s with heap := h' } := I.kept (t' := s.toks) fun b o e => hx b o (Nat.ne_of_lt (Heap.lt_size e)) e
  exact h pins _ σ H xs _ Q I1 (by simpa using rv) hw
/-- target = value -/
def tAsg (te : TE) (g : TG) : TS := fun D σ H => te σ H fun x H1 => g x σ H1 D.nx
theorem ps_asg {tg e : Expr} {te : TE} {g : TG} (he : PE X e te) (hg : PG X tg g) (hs : swapsWithSole [tg] e pos.line X.env = pure false := by rfl) (hw : swappedStores [tg] e X.env = pure none := by rfl)
    (h1 : (assignEach [tg] X.env).map (·.2) = [assign tg X.env] := by rfl) : PS X (.Assign [tg] e pos) (tAsg te g) := by
  intro pins s σ H D I h
  refine wpAny_Assign_stores (thn (he pins s σ H _ I h) fun v s1 ⟨x, H1, I1, r1, q1⟩ => ?_) hs hw
  rw [h1]
  exact thn (hg pins s1 σ H1 x v _ I1 r1 q1) fun _ s2 q => q
/-- name = value -/
theorem ps_set {i : Nat} {x : Str} {e : Expr} {te : TE} {pos' : Pos} (hN : X.N.Nodup) (hi : X.N[i]? = some x) (hx : Loc X.env.scope x) (he : PE X e te) (hs : swapsWith e (some (.Name x pos')) pos.line X.env = pure false := by rfl) (hf : X.fn x = true ∨ X.env.scope.names.lookup x = some .local := by first | exact .inl rfl | exact .inr rfl | assumption) :
    PS X (.Assign [.Name x pos'] e pos) (tAsg te (gName i)) := by
  intro pins s σ H D I h
  refine wpAny_Assign_Name (thn (he pins s σ H _ I h) fun v s1 ⟨y, H1, I1, r1, q1⟩ => ?_) hs
  exact store_ok I1 hN hi hx r1 (fun s2 I2 => ⟨_, H1, I2, q1⟩) hf
/-- a, b = x, y with plain local names: stored from the right; the pair itself is not tracked (the opening rows as in PyProof/Rows/TupAssign.lean:23) -/
def tPar (i j : Nat) (ta : TA) : TS := fun D σ H => ta σ H fun vs H1 => ∃ v w, vs = [v, w] ∧ D.nx ((σ.set i (some v)).set j (some w)) H1
theorem ps_par {i j : Nat} {x y : Str} {a b : Expr} {ta : TA} {px py pt : Pos} {kt k2 pt2} (hc : X.calm = true) (hN : X.N.Nodup) (hi : X.N[i]? = some x) (hj : X.N[j]? = some y) (hij : i ≠ j)
    (hx : X.env.scope.names.lookup x = some .local) (hy : X.env.scope.names.lookup y = some .local) (ha : PA X [a, b] ta)
    (hw : swappedStores [.Tuple [.Name x px, .Name y py] kt pt] (.Tuple [a, b] k2 pt2) X.env = pure (some [x, y]))
    (hs : swapsWithSole [.Tuple [.Name x px, .Name y py] kt pt] (.Tuple [a, b] k2 pt2) pos.line X.env = pure false := by rfl) :
    PS X (.Assign [.Tuple [.Name x px, .Name y py] kt pt] (.Tuple [a, b] k2 pt2) pos) (tPar i j ta) := by
  intro pins s σ H D I h
  rw [exec_Assign_arm]
  refine wpAny_bind (wpAny_standAt ?_)
  rw [hs]
  refine wpAny_bind (wpAny_pure ?_)
  rw [if_neg (by decide)]
  refine wpAny_bind (Tuple_ (thn (ha _ pins s σ H _ I h) fun us s1 ⟨vs, H1, I1, r1, q1⟩ => ?_))
  obtain ⟨v, w, e1, q1⟩ := q1
  subst e1
  obtain ⟨u1, u2, rfl, rv, rw'⟩ : ∃ u1 u2, us = [u1, u2] ∧ RelV v u1 ∧ RelV w u2 := by
    cases r1 with
    | cons p q =>
      cases q with
      | cons p' q' =>
        cases q'
        exact ⟨_, _, rfl, p, p'⟩
  refine wpAny_newObj_type ?_ (by show 2 ≤ sizeLine; decide)
  have I2 : Inv X pins σ H1 { s1 with heap := s1.heap.push { cls := .type "tuple", data := .seq [u1, u2].toArray } } := I1.kept (t' := s1.toks) fun b o e => Heap.get?_push_of_some _ e
  rw [hw]
  refine wpAny_bind (wpAny_pure ?_)
  show wpAny (model X.prog X.w) X.A (do rule "assign.swapped-stores"; let items ← unpackItems (.ref s1.heap.objs.size) 2 none; assignInOrder [fun v => bindName X.env y v, fun v => bindName X.env x v] items.reverse; pure Flow.next) _ _ _
  refine wpAny_bind (wpAny_rule (wpAny_bind (unpackItems_tuple (items := #[u1, u2]) (I.ok.hd hc) (IsTup.new s1.heap _) fun h' hx' => ?_)))
  have I3 := I2.kept (h' := h') (t' := s1.toks) fun b o e => hx' b o (Nat.ne_of_lt (Heap.lt_size e)) e
  show wpAny _ _ (assignInOrder [fun v => bindName X.env y v, fun v => bindName X.env x v] [u2, u1] >>= fun _ => pure Flow.next) _ _ _
  refine wpAny_bind (assignInOrder_cons (wpAny_bindName (store_ok I3 hN hj (.inl hy) rw' (fun s2 I4 => ?_) (.inr hy))))
  refine assignInOrder_cons (wpAny_bindName (store_ok I4 hN hi (.inl hx) rv (fun s3 I5 => assignInOrder_nil (wpAny_pure ?_)) (.inr hx)))
  rw [List.set_comm _ _ (Ne.symm hij)] at I5
  exact ⟨_, H1, I5, q1⟩
end
/-! ### while -/
section
variable {X : Cx} {pos : Pos}
/-- the invariant W with its measure -/
def tWhile (c : TT) (tb : TS) : TS := fun D σ H => ∃ W : Nat → St → Hp → Prop, (∃ m, W m σ H) ∧ ∀ m σ H, W m σ H →
  c σ H fun b H1 => if b = true then ∃ N : St → Hp → Prop, (∀ σ' H', N σ' H' → ∃ m', m' < m ∧ W m' σ' H') ∧ tb { D with nx := N, ct := N, bk := D.nx } σ H1 else D.nx σ H1
theorem ps_while {c : Expr} {body : List Stmt} {tc : TT} {tb : TS} (hp : PassesOwn (model X.prog X.w) X.A X.env X.xe) (hc : PT X c tc) (hb : PSs X body tb) : PS X (.While c body [] pos) (tWhile tc tb) := by
  intro pins s σ H D I h
  obtain ⟨W, ⟨m0, w0⟩, turn⟩ := h
  refine wpAny_While (codeAny_whileLoop (fun n s' => ∃ σ' H', Inv X pins σ' H' s' ∧ W n σ' H') ?_ m0 ⟨σ, H, I, w0⟩)
  rintro n s1 ⟨σ1, H1, I1, w1⟩
  refine wpAny_passesOwn hp (thn (hc pins s1 σ1 H1 _ I1 (turn n σ1 H1 w1)) fun b s2 ⟨H2, I2, q2⟩ => ?_)
  cases b with
  | true =>
    obtain ⟨N, hN, q2⟩ := q2
    rw [if_pos rfl]
    refine wpAny_passesOwn hp (thn (hb pins s2 σ1 H2 _ I2 q2) fun f s3 q3 => ?_)
    cases f with
    | next =>
      obtain ⟨σ3, H3, I3, n3⟩ := q3
      obtain ⟨m', hm, w3⟩ := hN σ3 H3 n3
      exact ⟨m', hm, σ3, H3, I3, w3⟩
    | cont =>
      obtain ⟨σ3, H3, I3, n3⟩ := q3
      obtain ⟨m', hm, w3⟩ := hN σ3 H3 n3
      exact ⟨m', hm, σ3, H3, I3, w3⟩
    | brk => exact q3
    | ret v => exact q3
  | false =>
    rw [if_neg Bool.false_ne_true]
    exact wpAny_execs_nil ⟨σ1, H2, I2, q2⟩
end
/-! ### what a loop or a comprehension walks -/
/-- at turn i: it yields x (the heap may grow), or it stops -/
structure It where
  go : Nat → Hp → Prop
  yld : Nat → Hp → V → Hp → Prop
  stop : Nat → Hp → Prop
/-- the iterator's own objects may turn: they are not the frame's, not pinned, younger than the entry (or a comprehension's own) -/
def FpOk (X : Cx) (pins : List (Addr × Obj)) (H : Hp) (b : Addr) : Prop :=
  H b = none ∧ b ≠ X.env.locals ∧ b ∉ X.fs ∧ (b ∈ X.ex ∨ X.s₀.heap.objs.size ≤ b) ∧ (∀ x c, X.env.cells.lookup x = some c → c ≠ b) ∧ ∀ p ∈ X.pn ++ pins, p.1 ≠ b
theorem Inv.fpOk {X : Cx} {pins : List (Addr × Obj)} {σ : St} {H H' : Hp} {s : Shared} {b : Addr} (I : Inv X pins σ H s) (hb : s.heap.objs.size ≤ b) (hn : H' b = none) : FpOk X pins H' b := by
  refine ⟨hn, Nat.ne_of_gt (Nat.lt_of_lt_of_le I.lt hb), I.nofs hb, .inr (Nat.le_trans I.sz hb), fun x c e z => ?_, fun p hp z => ?_⟩
  · obtain ⟨v, q⟩ := I.cell x c e
    exact absurd (Nat.lt_of_lt_of_le q.lt (by rw [z]; exact hb)) (Nat.lt_irrefl _)
  · exact absurd (Nat.lt_of_lt_of_le (Heap.lt_size (I.pin p hp).1) (by rw [z]; exact hb)) (Nat.lt_irrefl _)
structure Turn (P : Program) (w : World) (K : PySem.W.Frag) (tg : Expr) (J : It) (fp : List Addr) (it : Addr) (tn : Nat → Heap → Prop) : Prop where
  mem : it ∈ fp
  obj : ∀ i h, tn i h → ∀ b ∈ fp, ∃ o, h.get? b = some o ∧ ∀ v, o.data ≠ .cell v
  keep : ∀ i h h', tn i h → (∀ b ∈ fp, ∀ o, h.get? b = some o → h'.get? b = some o) → tn i h'
  item : ∀ (X : Cx), X.prog = P → X.w = w → X.K = K → X.calm = true → ∀ (i : Nat) (pins : List (Addr × Obj)) (s : Shared) (σ : St) (H : Hp) (E : Value → Shared → Prop), Inv X pins σ H s → (∀ b ∈ fp, FpOk X pins H b) → tn i s.heap → J.go i H →
    wpAny (model P w) X.A (pyNext (.ref it)) (fun r s1 => ∃ u, r = some u ∧
      wpAny (model P w) X.A (letOwnedTupleGo tg (.ref it) u) (fun _ s2 => ∃ x H', Inv X pins σ H' s2 ∧ RelV x u ∧ J.yld i H x H' ∧ tn (i + 1) s2.heap ∧ ∀ b ∈ fp, H' b = none) E s1) E s
  done : ∀ (X : Cx), X.prog = P → X.w = w → X.K = K → X.calm = true → ∀ (i : Nat) (pins : List (Addr × Obj)) (s : Shared) (σ : St) (H : Hp) (E : Value → Shared → Prop), Inv X pins σ H s → (∀ b ∈ fp, FpOk X pins H b) → tn i s.heap → J.stop i H →
    wpAny (model P w) X.A (pyNext (.ref it)) (fun r s1 => r = none ∧ Inv X pins σ H s1) E s
  self : ∀ (A : Around) (i : Nat) (s : Shared) (Q : Value → Shared → Prop) (E : Value → Shared → Prop), tn i s.heap → Q (.ref it) s → wpAny (model P w) A (pyIter (.ref it)) Q E s
abbrev TI := St → Hp → (It → Hp → Prop) → Prop
/-- an iterator has come -/
def PIE (X : Cx) (pins : List (Addr × Obj)) (σ : St) (tg : Expr) (R : It → Hp → Prop) (itv : Value) (s2 : Shared) : Prop :=
  ∃ (it : Addr) (fp : List Addr) (tn : Nat → Heap → Prop) (J : It) (H' : Hp), itv = .ref it ∧ Inv X pins σ H' s2 ∧ Turn X.prog X.w X.K tg J fp it tn ∧ tn 0 s2.heap ∧ (∀ b ∈ fp, FpOk X pins H' b) ∧ R J H'
def PI (X : Cx) (tg iter : Expr) (wi : TI) : Prop :=
  ∀ (pins : List (Addr × Obj)) (s : Shared) (σ : St) (H : Hp) (R : It → Hp → Prop), Inv X pins σ H s → wi σ H R →
    wpAny (model X.prog X.w) X.A (eval iter X.env) (fun v s1 => wpAny (model X.prog X.w) X.A (pyIter v) (PIE X pins σ tg R) X.xe s1) X.xe s
/-- the step ahead of the store is nothing for an iterator that keeps no tuple -/
theorem go_of {M : Model} {A : Around} {E : Value → Shared → Prop} {s : Shared} {tg : Expr} {it : Addr} {u : Value} {o : Obj} {n : String} {vs : Array Value} {Q : Unit → Shared → Prop} (ho : s.heap.get? it = some o) (hc : o.cls = .type n) (hd : o.data = .fields vs)
    (hn : ["enumerate", "zip", "dict_itemiterator", "dict_reverseitemiterator", "odict_iterator", "itertools.zip_longest", "itertools.pairwise"].contains n = false) (hQ : Q () s) : wpAny M A (letOwnedTupleGo tg (.ref it) u) Q E s := by
  unfold letOwnedTupleGo
  cases tg <;> first
    | exact wpAny_pure hQ
    | (cases u <;> first
        | exact wpAny_pure hQ
        | (refine wpAny_bind (wpAny_load ho ?_)
           rw [hc, hd]
           show wpAny M A (if (["enumerate", "zip", "dict_itemiterator", "dict_reverseitemiterator", "odict_iterator", "itertools.zip_longest", "itertools.pairwise"].contains n && vs[0]? == some (rawInt _)) = true then _ else _) Q E s
           rw [if_neg (by intro h; rw [hn, Bool.false_and] at h; cases h)]
           exact wpAny_pure hQ))
/-- the list at a, as it stands at each turn (a loop may append to it) -/
def Itl (K : PySem.W.Frag) (a : Addr) : It :=
  ⟨fun i H => ∃ xs x, SqL K H a xs ∧ xs[i]? = some x, fun i H x H' => H' = H ∧ ∀ xs, SqL K H a xs → xs[i]? = some x, fun i H => ∃ xs, SqL K H a xs ∧ xs.length ≤ i⟩
theorem turn_list {P : Program} {w : World} {K : PySem.W.Frag} {tg : Expr} (a it : Addr) : Turn P w K tg (Itl K a) [it] it (fun i h => h.IsListIter it a i) where
  mem := by simp
  obj := fun i h st b hb => by
    have e : b = it := by simpa using hb
    subst e
    obtain ⟨o, e, c, d⟩ := st
    exact ⟨o, e, fun v z => by rw [d] at z; cases z⟩
  keep := fun i h h' st k => st.at fun o e => k it (by simp) o e
  item := by
    intro X hP hw hK hc i pins s σ H E I hf st hg
    subst hP hw hK
    obtain ⟨xs, x, hq, hx⟩ := hg
    obtain ⟨its, rv, p, hz⟩ := I.list hq
    obtain ⟨u, hu, ru⟩ := rv.get hx
    obtain ⟨f0, f1, f2, f3, f4, f5⟩ := hf it (by simp)
    refine wpAny_pyNext_list_item st p.isList (x := u) (by simpa using hu) fun h' st' sb => ?_
    have I1 : Inv X pins σ H { s with heap := h' } := I.turned (t' := s.toks) (fun b o hb e => (sb.2 b hb).trans e) f0 f1 f3 f4 f5
    obtain ⟨o, e, c, d⟩ := id st'
    exact ⟨u, rfl, go_of (s := { s with heap := h' }) e c d (by decide) ⟨x, H, I1, ru, ⟨rfl, fun ys hy => by rw [I.list_inj hy hq]; exact hx⟩, st', fun b hb => (hf b hb).1⟩⟩
  done := by
    intro X hP hw hK hc i pins s σ H E I hf st hg
    subst hP hw hK
    obtain ⟨xs, hq, hx⟩ := hg
    obtain ⟨its, rv, p, hz⟩ := I.list hq
    obtain ⟨f0, f1, f2, f3, f4, f5⟩ := hf it (by simp)
    have hl := rv.length
    exact wpAny_pyNext_list_end (I.ok.hd hc) st p.isList (by simp; omega) fun h' eb => ⟨rfl, I.turned (t' := s.toks) (fun b o hb e => eb b o hb e) f0 f1 f3 f4 f5⟩
  self := fun _ _ _ _ _ st h => wpAny_pyIter_listiter st h
end L2
namespace L2
open PySem PySem.Spec PyProof.Rows
section
variable {X : Cx} {tg : Expr}
def iList (K : PySem.W.Frag) (tl : TE) : TI := fun σ H R => tl σ H fun x H1 => ∃ a, x = .ref a ∧ (∃ xs, SqL K H1 a xs) ∧ R (Itl K a) H1
theorem pi_list {l : Expr} {tl : TE} (hl : PE X l tl) : PI X tg l (iList X.K tl) := by
  intro pins s σ H R I h
  refine thn (hl pins s σ H _ I h) fun v s1 ⟨x, H1, I1, r1, q1⟩ => ?_
  obtain ⟨a, e, ⟨xs, hq⟩, q⟩ := q1
  subst e
  cases r1
  obtain ⟨its, rv, p, hz⟩ := I1.list hq
  refine wpAny_pyIter_list p.isList ?_
  refine ⟨s1.heap.objs.size, [s1.heap.objs.size], _, _, H1, rfl, I1.kept (t' := s1.toks) fun b o e => Heap.get?_push_of_some _ e, turn_list a _, ⟨_, Heap.get?_push_size _ rfl, rfl, rfl⟩, fun b hb => ?_, q⟩
  have e : b = s1.heap.objs.size := by simpa using hb
  subst e
  exact I1.fpOk (Nat.le_refl _) (I1.hok.fresh (Nat.le_refl _))
/-! ### for -/
/-- W: the invariant by the turn and a measure; N: what the body is to reach -/
def tFor (wi : TI) (g : TG) (tb : TS) : TS := fun D σ H => wi σ H fun J H1 => ∃ W : Nat → Nat → St → Hp → Prop, (∃ m, W 0 m σ H1) ∧ ∀ i m σ H, W i m σ H →
  (J.stop i H ∧ D.nx σ H) ∨ (J.go i H ∧ ∃ N : St → Hp → Prop, (∀ σ' H', N σ' H' → ∃ m', m' < m ∧ W (i + 1) m' σ' H') ∧ ∀ x H', J.yld i H x H' → g x σ H' fun σ2 H2 => tb { D with nx := N, ct := N, bk := D.nx } σ2 H2)
/-- the records at fp as they stand -/
def pinsAt (fp : List Addr) (h : Heap) : List (Addr × Obj) := fp.filterMap fun b => (h.get? b).map fun o => (b, o)
theorem mem_pinsAt {fp : List Addr} {h : Heap} {b : Addr} {o : Obj} (hb : b ∈ fp) (e : h.get? b = some o) : (b, o) ∈ pinsAt fp h := List.mem_filterMap.mpr ⟨b, hb, by rw [e]; rfl⟩
theorem of_pinsAt {fp : List Addr} {h : Heap} {p : Addr × Obj} (hp : p ∈ pinsAt fp h) : p.1 ∈ fp ∧ h.get? p.1 = some p.2 := by
  obtain ⟨b, hb, e⟩ := List.mem_filterMap.mp hp
  cases q : h.get? b with
  | none => rw [q] at e; cases e
  | some o =>
    rw [q] at e
    have e' : (b, o) = p := Option.some.inj e
    subst e'
    exact ⟨hb, q⟩
theorem Inv.pinned {pins : List (Addr × Obj)} {σ : St} {H : Hp} {s : Shared} {fp : List Addr} (I : Inv X pins σ H s) (hf : ∀ b ∈ fp, FpOk X pins H b) (ho : ∀ b ∈ fp, ∃ o, s.heap.get? b = some o ∧ ∀ v, o.data ≠ .cell v) : Inv X (pins ++ pinsAt fp s.heap) σ H s :=
  I.pins_of fun p hp => (List.mem_append.mp hp).elim (fun z => I.pin p (List.mem_append_right _ z)) fun z => by
    obtain ⟨hb, e⟩ := of_pinsAt z
    obtain ⟨f0, f1, f2, _⟩ := hf p.1 hb
    obtain ⟨o, e', d⟩ := ho p.1 hb
    rw [e] at e'; cases e'
    exact ⟨e, f0, f1, f2, d⟩
theorem Inv.unpinned {pins pl : List (Addr × Obj)} {σ : St} {H : Hp} {s : Shared} (I : Inv X (pins ++ pl) σ H s) : Inv X pins σ H s := I.pins_of fun p hp => I.pin p (List.mem_append_right _ (List.mem_append_left _ hp))
theorem ps_for {iter : Expr} {body : List Stmt} {wi : TI} {g : TG} {tb : TS} {pos : Pos} (hp : PassesOwn (model X.prog X.w) X.A X.env X.xe) (hc : X.calm = true) (hi : PI X tg iter wi) (hg : PG X tg g) (hb : PSs X body tb)
    (hs : ∀ x, foldedSetIterable iter X.env x = pure x := by intro _; rfl) : PS X (.For tg iter body [] pos) (tFor wi g tb) := by
  intro pins s σ H D I h
  refine wpAny_For (thn (hi pins s σ H _ I h) fun v s1 h1 => thn h1 fun itv s2 h2 => ?_) hs
  obtain ⟨it, fp, tn, J, H2, e, I2, T, st2, f2, W, ⟨m0, w0⟩, turn⟩ := h2
  subst e
  -- what stays true of the iterator's objects through the loop
  have stat : ∀ {H' : Hp}, (∀ b ∈ fp, H' b = none) → ∀ b ∈ fp, FpOk X pins H' b := fun hn b hb => ⟨hn b hb, (f2 b hb).2⟩
  refine codeAny_forLoop_any (fun n s' => ∃ i σ' H', Inv X pins σ' H' s' ∧ tn i s'.heap ∧ (∀ b ∈ fp, H' b = none) ∧ W i n σ' H') ?_ m0 ⟨0, σ, H2, I2, st2, fun b hb => (f2 b hb).1, w0⟩
  rintro n s3 ⟨i, σ3, H3, I3, st3, fr3, w3⟩
  rcases turn i n σ3 H3 w3 with ⟨stop, qn⟩ | ⟨go, N, hN, step⟩
  · refine wpAny_passesOwn hp (thn (T.done X rfl rfl rfl hc i pins s3 σ3 H3 X.xe I3 (stat fr3) st3 stop) fun r s4 ⟨hr, I4⟩ => ?_)
    subst hr
    exact wpAny_execs_nil ⟨σ3, H3, I4, qn⟩
  · refine wpAny_passesOwn hp (thn (T.item X rfl rfl rfl hc i pins s3 σ3 H3 X.xe I3 (stat fr3) st3 go) fun r s4 ⟨u, hr, h4⟩ => ?_)
    subst hr
    refine wpAny_passesOwn hp (thn h4 fun _ s5 ⟨x, H5, I5, r5, y5, st5, fr5⟩ => ?_)
    have I5' := I5.pinned (stat fr5) (T.obj _ _ st5)
    refine wpAny_passesOwn hp (thn (hg _ s5 σ3 H5 x u _ I5' r5 (step x H5 y5)) fun _ s6 ⟨σ6, H6, I6, q6⟩ => ?_)
    refine wpAny_passesOwn hp (thn (hb _ s6 σ6 H6 _ I6 q6) fun f s7 q7 => ?_)
    have again : ∀ {σ7 : St} {H7 : Hp}, Inv X (pins ++ pinsAt fp s5.heap) σ7 H7 s7 → N σ7 H7 → ∃ m, m < n ∧ ∃ i σ' H', Inv X pins σ' H' s7 ∧ tn i s7.heap ∧ (∀ b ∈ fp, H' b = none) ∧ W i m σ' H' := fun {σ7 H7} I7 n7 => by
      obtain ⟨m', hm, w7⟩ := hN σ7 H7 n7
      refine ⟨m', hm, i + 1, σ7, H7, I7.unpinned, T.keep _ _ _ st5 fun b hb o e => (I7.pin (b, o) (List.mem_append_right _ (List.mem_append_right _ (mem_pinsAt hb e)))).1, fun b hb => ?_, w7⟩
      obtain ⟨o, e, d⟩ := T.obj _ _ st5 b hb
      exact (I7.pin (b, o) (List.mem_append_right _ (List.mem_append_right _ (mem_pinsAt hb e)))).2.1
    cases f with
    | next => obtain ⟨σ7, H7, I7, n7⟩ := q7; exact again I7 n7
    | cont => obtain ⟨σ7, H7, I7, n7⟩ := q7; exact again I7 n7
    | brk => obtain ⟨σ7, H7, I7, q7⟩ := q7; exact ⟨σ7, H7, I7.unpinned, q7⟩
    | ret v => obtain ⟨x7, σ7, H7, I7, r7, q7⟩ := q7; exact ⟨x7, σ7, H7, I7.unpinned, r7, q7⟩
end
/-! ### the forms one uses -/
/-- while, by a word and a measure of the state -/
theorem while_by {c : TT} {tb : TS} {D : Ends} {σ : St} {H : Hp} (Pv : St → Hp → Prop) (μ : St → Hp → Nat) (h0 : Pv σ H)
    (hs : ∀ σ H, Pv σ H → c σ H fun b H1 => if b = true then tb { D with nx := fun σ' H' => Pv σ' H' ∧ μ σ' H' < μ σ H, ct := fun σ' H' => Pv σ' H' ∧ μ σ' H' < μ σ H, bk := D.nx } σ H1 else D.nx σ H1)
    (mono : ∀ σ H Q Q', (∀ b H1, Q b H1 → Q' b H1) → c σ H Q → c σ H Q') : tWhile c tb D σ H := by
  refine ⟨fun m σ H => m = μ σ H ∧ Pv σ H, ⟨_, rfl, h0⟩, ?_⟩
  rintro m σ H ⟨rfl, p⟩
  refine mono σ H _ _ (fun b H1 q => ?_) (hs σ H p)
  cases b with
  | true => exact ⟨_, fun σ' H' ⟨p', l⟩ => ⟨_, l, rfl, p'⟩, q⟩
  | false => exact q
end L2
namespace L2
open PySem PySem.Spec PyProof.Rows
abbrev R2 := V → V → Hp → VK → Prop
/-- a two-place operation on values: f is binaryOp op, inplaceOp op or compareOp op -/
def OpR (X : Cx) (f : Value → Value → Sem Value) (r : R2) : Prop :=
  ∀ (pins : List (Addr × Obj)) (s : Shared) (σ : St) (H : Hp) (x y : V) (v u : Value) (Q : VK), Inv X pins σ H s → RelV x v → RelV y u → r x y H Q →
    wpAny (model X.prog X.w) X.A (f v u) (EP X pins σ Q) X.xe s
/-- a one-place operation -/
def UnR (X : Cx) (f : Value → Sem Value) (r : V → Hp → VK → Prop) : Prop :=
  ∀ (pins : List (Addr × Obj)) (s : Shared) (σ : St) (H : Hp) (x : V) (v : Value) (Q : VK), Inv X pins σ H s → RelV x v → r x H Q →
    wpAny (model X.prog X.w) X.A (f v) (EP X pins σ Q) X.xe s
/-- a call of a value that is known (a builtin, a type) with values -/
def CallR (X : Cx) (f : Value) (r : List V → Hp → VK → Prop) : Prop :=
  ∀ (pins : List (Addr × Obj)) (s : Shared) (σ : St) (H : Hp) (xs : List V) (us : List Value) (Q : VK), Inv X pins σ H s → Vals xs us → r xs H Q →
    wpAny (model X.prog X.w) X.A (call f us) (EP X pins σ Q) X.xe s
def tOp (r : R2) (ta tb : TE) : TE := fun σ H Q => ta σ H fun x H1 => tb σ H1 fun y H2 => r x y H2 Q
def tUn (r : V → Hp → VK → Prop) (ta : TE) : TE := fun σ H Q => ta σ H fun x H1 => r x H1 Q
/-- ints in, under C, and a value out -/
def rI (C : Int → Int → Prop) (g : Int → Int → V) : R2 := fun x y H Q => ∃ i j, x = .int i ∧ y = .int j ∧ C i j ∧ Q (g i j) H
def rI0 (g : Int → Int → V) : R2 := fun x y H Q => ∃ i j, x = .int i ∧ y = .int j ∧ Q (g i j) H
def rU (g : Int → V) : V → Hp → VK → Prop := fun x H Q => ∃ i, x = .int i ∧ Q (g i) H
section
variable {X : Cx} {a b c : Expr} {ta tb tc : TE} {pos : Pos}
theorem binT (ha : PE X a ta) (hb : PE X b tb) {pins : List (Addr × Obj)} {s : Shared} {σ : St} {H : Hp} {R : V → V → Hp → Prop} (I : Inv X pins σ H s)
    (h : ta σ H fun x H1 => tb σ H1 fun y H2 => R x y H2) {Q : Value → Shared → Prop} {f : Value → Value → Sem Value}
    (hf : ∀ v u s2 x y H2, Inv X pins σ H2 s2 → RelV x v → RelV y u → R x y H2 → wpAny (model X.prog X.w) X.A (f v u) Q X.xe s2) :
    wpAny (model X.prog X.w) X.A (eval a X.env) (fun v s₁ => wpAny (model X.prog X.w) X.A (eval b X.env) (fun u s₂ => wpAny (model X.prog X.w) X.A (f v u) Q X.xe s₂) X.xe s₁) X.xe s := by
  refine thn (ha pins s σ H _ I h) fun v s1 ⟨x, H1, I1, r1, q1⟩ => ?_
  refine thn (hb pins s1 σ H1 _ I1 q1) fun u s2 ⟨y, H2, I2, r2, q2⟩ => ?_
  exact hf v u s2 x y H2 I2 r1 r2 q2
theorem pe_op {op : Operator} {r : R2} (ho : OpR X (binaryOp op) r) (ha : PE X a ta) (hb : PE X b tb) : PE X (.BinOp a op b pos) (tOp r ta tb) := by
  intro pins s σ H Q I h
  exact wpAny_BinOp (binT ha hb I h fun v u s2 x y H2 I2 rx ry q => ho pins s2 σ H2 x y v u Q I2 rx ry q)
theorem pe_un {op : UnaryOp} {r : V → Hp → VK → Prop} (ho : UnR X (unaryOp op) r) (ha : PE X a ta) : PE X (.UnaryOp op a pos) (tUn r ta) := by
  intro pins s σ H Q I h
  exact UnaryOp_ (thn (ha pins s σ H _ I h) fun v s1 ⟨x, H1, I1, r1, q1⟩ => ho pins s1 σ H1 x v Q I1 r1 q1)
/-! ### ints -/
theorem opI {f : Value → Value → Sem Value} {C : Int → Int → Prop} {g : Int → Int → Int}
    (rule : ∀ (i j : Int) (t u : Tok) (s : Shared) (Q : Value → Shared → Prop) (E : Value → Shared → Prop), C i j → Q (.int (g i j) s.toks) { s with toks := s.toks + 1 } → wpAny (model X.prog X.w) X.A (f (.int i t) (.int j u)) Q E s) :
    OpR X f (rI C fun i j => .int (g i j)) := by
  intro pins s σ H x y v u Q I rx ry h
  obtain ⟨i, j, rfl, rfl, hc, q⟩ := h
  obtain ⟨t, rfl⟩ := rx
  obtain ⟨t', rfl⟩ := ry
  exact rule i j t t' s _ _ hc ⟨.int (g i j), H, I.tok _, ⟨_, rfl⟩, q⟩
theorem opI0 {f : Value → Value → Sem Value} {g : Int → Int → Int}
    (rule : ∀ (i j : Int) (t u : Tok) (s : Shared) (Q : Value → Shared → Prop) (E : Value → Shared → Prop), Q (.int (g i j) s.toks) { s with toks := s.toks + 1 } → wpAny (model X.prog X.w) X.A (f (.int i t) (.int j u)) Q E s) :
    OpR X f (rI0 fun i j => .int (g i j)) := by
  intro pins s σ H x y v u Q I rx ry h
  obtain ⟨i, j, rfl, rfl, q⟩ := h
  obtain ⟨t, rfl⟩ := rx
  obtain ⟨t', rfl⟩ := ry
  exact rule i j t t' s _ _ ⟨.int (g i j), H, I.tok _, ⟨_, rfl⟩, q⟩
theorem opB0 {f : Value → Value → Sem Value} {g : Int → Int → Bool}
    (rule : ∀ (i j : Int) (t u : Tok) (s : Shared) (Q : Value → Shared → Prop) (E : Value → Shared → Prop), Q (.bool (g i j)) s → wpAny (model X.prog X.w) X.A (f (.int i t) (.int j u)) Q E s) :
    OpR X f (rI0 fun i j => .bl (g i j)) := by
  intro pins s σ H x y v u Q I rx ry h
  obtain ⟨i, j, rfl, rfl, q⟩ := h
  obtain ⟨t, rfl⟩ := rx
  obtain ⟨t', rfl⟩ := ry
  exact rule i j t t' s _ _ ⟨.bl (g i j), H, I, rfl, q⟩
def CDiv (i j : Int) : Prop := 0 < j ∧ j < 1073741824
def CPow (i j : Int) : Prop := 0 ≤ j ∧ j ≤ 1000000 ∧ i.natAbs < 2 ^ 64
def CMul (i j : Int) : Prop := (-(2 ^ 64) < i ∧ i < 2 ^ 64) ∨ (-(2 ^ 64) < j ∧ j < 2 ^ 64)
theorem CMul.ok {i j : Int} (h : CMul i j) : IntMulOk i j := by
  rcases h with ⟨h1, h2⟩ | ⟨h1, h2⟩
  · exact .of_left (intBits_le_64 h1 h2)
  · exact .of_right (intBits_le_64 h1 h2)
theorem op_add : OpR X (binaryOp .Add) (rI0 fun i j => .int (i + j)) := opI0 fun _ _ _ _ _ _ _ q => add_int q
theorem op_sub : OpR X (binaryOp .Sub) (rI0 fun i j => .int (i - j)) := opI0 fun _ _ _ _ _ _ _ q => sub_int q
theorem op_mul : OpR X (binaryOp .Mult) (rI CMul fun i j => .int (i * j)) := opI fun _ _ _ _ _ _ _ hc q => mul_int q hc.ok
/-- // by a positive divisor -/
theorem op_fdiv : OpR X (binaryOp .FloorDiv) (rI CDiv fun i j => .int (i / j)) := opI fun i j _ _ _ _ _ hc q => by
  have h1 : (0 : Int) < j := hc.1
  have h2 : j < 1073741824 := hc.2
  exact floordiv_int (by omega) (by rw [Int.fdiv_eq_ediv_of_nonneg i (by omega)]; exact q) (.inl (PyProof.noPylong_small (by omega)))
/-- % by a positive divisor of any size -/
theorem op_mod : OpR X (binaryOp .Mod) (rI (fun _ j => 0 < j) fun i j => .int (i % j)) := opI fun i j _ _ _ _ _ hc q => by
  have h1 : (0 : Int) < j := hc
  exact mod_int' (by omega) (by rw [Int.fmod_eq_emod_of_nonneg i (by omega)]; exact q)
theorem op_pow : OpR X (binaryOp .Pow) (rI CPow fun i j => .int (i ^ j.toNat)) := opI fun _ _ _ _ _ _ _ hc q => pow_int_small hc.1 hc.2.1 hc.2.2 q
theorem unI {f : Value → Sem Value} {g : Int → Int}
    (rule : ∀ (i : Int) (t : Tok) (s : Shared) (Q : Value → Shared → Prop) (E : Value → Shared → Prop), Q (.int (g i) s.toks) { s with toks := s.toks + 1 } → wpAny (model X.prog X.w) X.A (f (.int i t)) Q E s) :
    UnR X f (rU fun i => .int (g i)) := by
  intro pins s σ H x v Q I rx h
  obtain ⟨i, rfl, q⟩ := h
  obtain ⟨t, rfl⟩ := rx
  exact rule i t s _ _ ⟨.int (g i), H, I.tok _, ⟨_, rfl⟩, q⟩
theorem un_neg : UnR X (unaryOp .USub) (rU fun i => .int (-i)) := unI fun _ _ _ _ _ q => neg_int q
/-! ### bools among ints: n += (a < b) -/
end
/-! ### comparisons -/
/-- the scalars that == tells apart as data does -/
def scal : V → V → Bool
  | .non, .non => true | .non, .int _ => true | .int _, .non => true | .non, .bl _ => true | .bl _, .non => true | .non, .str _ => true | .str _, .non => true
  | .int _, .int _ => true | .bl _, .bl _ => true | .str _, .str _ => true | .byt _, .byt _ => true
  | .int _, .str _ => true | .str _, .int _ => true | .bl _, .str _ => true | .str _, .bl _ => true
  | _, _ => false
def rEq : R2 := fun x y H Q => scal x y = true ∧ Q (.bl (decide (x = y))) H
def rNe : R2 := fun x y H Q => scal x y = true ∧ Q (.bl (!decide (x = y))) H
theorem dec_int {i j : Int} : decide (V.int i = V.int j) = (i == j) := by
  rw [Bool.eq_iff_iff]
  simp
theorem dec_bl {i j : Bool} : decide (V.bl i = V.bl j) = (i == j) := by
  rw [Bool.eq_iff_iff]
  simp
theorem dec_str {i j : Str} : decide (V.str i = V.str j) = (i == j) := by
  rw [Bool.eq_iff_iff]
  simp
theorem dec_byt {i j : Array UInt8} : decide (V.byt i = V.byt j) = (i.toList == j.toList) := by
  rw [Bool.eq_iff_iff]
  cases i
  cases j
  simp
section
variable {X : Cx} {a b c : Expr} {ta tb tc : TE} {pos : Pos}
theorem fin_bl {pins : List (Addr × Obj)} {σ : St} {H : Hp} {s : Shared} {Q : VK} {k k' : Bool} (I : Inv X pins σ H s) (q : Q (.bl k) H) (e : k = k') : EP X pins σ Q (.bool k') s := by
  subst e
  exact ⟨.bl k, H, I, rfl, q⟩
theorem op_eq : OpR X (compareOp .Eq) rEq := by
  intro pins s σ H x y v u Q I rx ry h
  obtain ⟨hs, q⟩ := h
  cases x with
  | non =>
    cases rx
    cases y with
    | non => cases ry; exact PySem.EqNone.eq_none_none (fin_bl I q (by simp))
    | bl j => cases ry; exact PySem.EqNone.eq_none_bool (fin_bl I q (by simp))
    | int j => obtain ⟨t', rfl⟩ := ry; exact PySem.EqNone.eq_none_int (fin_bl I q (by simp))
    | str j => obtain ⟨t', rfl⟩ := ry; exact PySem.EqNone.eq_none_str (fin_bl I q (by simp))
    | _ => exact absurd (show false = true from hs) Bool.false_ne_true
  | bl i =>
    cases rx
    cases y with
    | non => cases ry; exact PySem.EqNone.eq_bool_none (fin_bl I q (by simp))
    | bl j => cases ry; exact eq_bool (fin_bl I q dec_bl)
    | str j => obtain ⟨t', rfl⟩ := ry; exact PySem.EqMixed.eq_bool_str (fin_bl I q (by simp))
    | _ => exact absurd (show false = true from hs) Bool.false_ne_true
  | int i =>
    obtain ⟨t, rfl⟩ := rx
    cases y with
    | non => cases ry; exact PySem.EqNone.eq_int_none (fin_bl I q (by simp))
    | int j => obtain ⟨t', rfl⟩ := ry; exact eq_int (fin_bl I q dec_int)
    | str j => obtain ⟨t', rfl⟩ := ry; exact PySem.EqMixed.eq_int_str (fin_bl I q (by simp))
    | _ => exact absurd (show false = true from hs) Bool.false_ne_true
  | str i =>
    obtain ⟨t, rfl⟩ := rx
    cases y with
    | non => cases ry; exact PySem.EqNone.eq_str_none (fin_bl I q (by simp))
    | bl j => cases ry; exact PySem.EqMixed.eq_str_bool (fin_bl I q (by simp))
    | int j => obtain ⟨t', rfl⟩ := ry; exact PySem.EqMixed.eq_str_int (fin_bl I q (by simp))
    | str j => obtain ⟨t', rfl⟩ := ry; exact eq_str (fin_bl I q dec_str)
    | _ => exact absurd (show false = true from hs) Bool.false_ne_true
  | byt i =>
    obtain ⟨t, rfl⟩ := rx
    cases y with
    | byt j => obtain ⟨t', rfl⟩ := ry; exact PySem.W.eq_bytes (fin_bl I q dec_byt)
    | _ => exact absurd (show false = true from hs) Bool.false_ne_true
  | _ => cases y <;> exact absurd (show false = true from hs) Bool.false_ne_true
theorem op_ne : OpR X (compareOp .NotEq) rNe := by
  intro pins s σ H x y v u Q I rx ry h
  obtain ⟨hs, q⟩ := h
  cases x with
  | non =>
    cases rx
    cases y with
    | non => cases ry; exact PySem.EqNone.ne_none_none (fin_bl I q (by simp))
    | bl j => cases ry; exact PySem.EqNone.ne_none_bool (fin_bl I q (by simp))
    | int j => obtain ⟨t', rfl⟩ := ry; exact PySem.EqNone.ne_none_int (fin_bl I q (by simp))
    | str j => obtain ⟨t', rfl⟩ := ry; exact PySem.EqNone.ne_none_str (fin_bl I q (by simp))
    | _ => exact absurd (show false = true from hs) Bool.false_ne_true
  | bl i =>
    cases rx
    cases y with
    | non => cases ry; exact PySem.EqNone.ne_bool_none (fin_bl I q (by simp))
    | bl j => cases ry; exact ne_bool (fin_bl I q (congrArg not dec_bl))
    | str j => obtain ⟨t', rfl⟩ := ry; exact PySem.EqMixed.ne_bool_str (fin_bl I q (by simp))
    | _ => exact absurd (show false = true from hs) Bool.false_ne_true
  | int i =>
    obtain ⟨t, rfl⟩ := rx
    cases y with
    | non => cases ry; exact PySem.EqNone.ne_int_none (fin_bl I q (by simp))
    | int j => obtain ⟨t', rfl⟩ := ry; exact ne_int (fin_bl I q (congrArg not dec_int))
    | str j => obtain ⟨t', rfl⟩ := ry; exact PySem.EqMixed.ne_int_str (fin_bl I q (by simp))
    | _ => exact absurd (show false = true from hs) Bool.false_ne_true
  | str i =>
    obtain ⟨t, rfl⟩ := rx
    cases y with
    | non => cases ry; exact PySem.EqNone.ne_str_none (fin_bl I q (by simp))
    | bl j => cases ry; exact PySem.EqMixed.ne_str_bool (fin_bl I q (by simp))
    | int j => obtain ⟨t', rfl⟩ := ry; exact PySem.EqMixed.ne_str_int (fin_bl I q (by simp))
    | str j => obtain ⟨t', rfl⟩ := ry; exact ne_str (fin_bl I q (congrArg not dec_str))
    | _ => exact absurd (show false = true from hs) Bool.false_ne_true
  | byt i =>
    obtain ⟨t, rfl⟩ := rx
    cases y with
    | byt j => obtain ⟨t', rfl⟩ := ry; exact PySem.W.ne_bytes (fin_bl I q (congrArg not dec_byt))
    | _ => exact absurd (show false = true from hs) Bool.false_ne_true
  | _ => cases y <;> exact absurd (show false = true from hs) Bool.false_ne_true
theorem op_lt : OpR X (compareOp .Lt) (rI0 fun i j => .bl (decide (i < j))) := opB0 fun _ _ _ _ _ _ _ q => lt_int q
theorem op_le : OpR X (compareOp .LtE) (rI0 fun i j => .bl (decide (i ≤ j))) := opB0 fun _ _ _ _ _ _ _ q => le_int q
theorem op_gt : OpR X (compareOp .Gt) (rI0 fun i j => .bl (decide (j < i))) := opB0 fun _ _ _ _ _ _ _ q => gt_int q
/-- the one string within the other -/
theorem op_in_str : OpR X (compareOp .In) (fun x y H Q => ∃ i j, x = .str i ∧ y = .str j ∧ Q (.bl (!(Builtin.Str.occurrences j i 0 j.length 1).isEmpty)) H) := by
  intro pins s σ H x y v u Q I rx ry h
  obtain ⟨i, j, rfl, rfl, q⟩ := h
  obtain ⟨t, rfl⟩ := rx
  obtain ⟨t', rfl⟩ := ry
  exact in_str (fin_bl I q rfl)
/-- is None, is not None: the right side a value none -/
theorem op_isN : OpR X (compareOp .Is) (fun x y H Q => y = .non ∧ Q (.bl (decide (x = .non))) H) := by
  intro pins s σ H x y v u Q I rx ry h
  obtain ⟨rfl, q⟩ := h
  cases ry
  refine is_none_gen (fin_bl I q ?_)
  cases x <;> first
    | (cases rx; rfl)
    | (obtain ⟨rfl, _⟩ := rx; rfl)
    | (obtain ⟨t, rfl⟩ := rx; rfl)
/-- two rules for one operation: by cases -/
theorem OpR.or {f : Value → Value → Sem Value} {r r' : R2} (h : OpR X f r) (h' : OpR X f r') : OpR X f (fun x y H Q => r x y H Q ∨ r' x y H Q) := by
  intro pins s σ H x y v u Q I rx ry q
  rcases q with q | q
  · exact h pins s σ H x y v u Q I rx ry q
  · exact h' pins s σ H x y v u Q I rx ry q
theorem nomark (b : Expr) {op : CmpOp} (h : op ≠ .In := by decide) (h2 : op ≠ .NotIn := by decide) : behindInMarks op b = false := by
  have e1 : (op == CmpOp.In) = false := by cases op <;> first | rfl | exact absurd rfl h
  have e2 : (op == CmpOp.NotIn) = false := by cases op <;> first | rfl | exact absurd rfl h2
  cases b <;> simp [behindInMarks, e1, e2]
/-- a comparison as a value; hm: nomark b, or (for in, not in) by with_unfolding_all rfl -/
theorem pe_cmpR {op : CmpOp} {r : R2} (ho : OpR X (compareOp op) r) (ha : PE X a ta) (hb : PE X b tb) (hm : behindInMarks op b = false) : PE X (.Compare a [op] [b] pos) (tOp r ta tb) := by
  intro pins s σ H Q I h
  exact wpAny_Compare1 (binT ha hb I h fun v u s2 x y H2 I2 rx ry q => ho pins s2 σ H2 x y v u Q I2 rx ry q) hm
/-- a reading of a value as a test -/
def tTest (t : TE) : TT := fun σ H Q => t σ H fun x H' => ∃ k, x = .bl k ∧ Q k H'
theorem pt_cmpR {op : CmpOp} {r : R2} (ho : OpR X (compareOp op) r) (ha : PE X a ta) (hb : PE X b tb) (hm : behindInMarks op b = false) : PT X (.Compare a [op] [b] pos) (tTest (tOp r ta tb)) := by
  intro pins s σ H Q I h
  refine wpAny_isTrue_Compare1 (thn (ha pins s σ H _ I h) fun v s1 ⟨x, H1, I1, r1, q1⟩ => thn (hb pins s1 σ H1 _ I1 q1) fun u s2 ⟨y, H2, I2, r2, q2⟩ =>
    thn (ho pins s2 σ H2 x y v u _ I2 r1 r2 q2) fun c s3 ⟨z, H3, I3, r3, k, e, q3⟩ => ?_) hm
  subst e
  cases r3
  exact wpAny_truthy_bool ⟨H3, I3, q3⟩
/-- a op1 b op2 c -/
def tChain (r r' : R2) (ta tb tc : TE) : TE := fun σ H Q => ta σ H fun x H1 => tb σ H1 fun y H2 => r x y H2 fun z H3 => ∃ k, z = .bl k ∧
  (if k = true then tc σ H3 fun w' H4 => r' y w' H4 Q else Q (.bl false) H3)
theorem pe_chain {op op' : CmpOp} {r r' : R2} (ho : OpR X (compareOp op) r) (ho' : OpR X (compareOp op') r') (ha : PE X a ta) (hb : PE X b tb) (hc : PE X c tc)
    (hm : lastMarks [op, op'] [b, c] = false := by with_unfolding_all rfl) : PE X (.Compare a [op, op'] [b, c] pos) (tChain r r' ta tb tc) := by
  intro pins s σ H Q I h
  refine Compare_chain (thn (ha pins s σ H _ I h) fun v s1 ⟨x, H1, I1, r1, q1⟩ => chain_link (thn (hb pins s1 σ H1 _ I1 q1) fun u s2 ⟨y, H2, I2, r2, q2⟩ =>
    thn (ho pins s2 σ H2 x y v u _ I2 r1 r2 q2) fun d s3 ⟨z, H3, I3, r3, k, e, q3⟩ => ?_)) hm
  subst e
  cases r3
  refine wpAny_truthy_bool ?_
  cases k with
  | false => exact ite_ff ⟨.bl false, H3, I3, rfl, q3⟩
  | true => exact ite_tt (chain_last (thn (hc pins s3 σ H3 _ I3 q3) fun w' s4 ⟨z', H4, I4, r4, q4⟩ => ho' pins s4 σ H4 y z' u w' Q I4 r2 r4 q4))
theorem pt_chain {op op' : CmpOp} {r r' : R2} (ho : OpR X (compareOp op) r) (ho' : OpR X (compareOp op') r') (ha : PE X a ta) (hb : PE X b tb) (hc : PE X c tc)
    (hm : lastMarks [op, op'] [b, c] = false := by with_unfolding_all rfl) : PT X (.Compare a [op, op'] [b, c] pos) (tTest (tChain r r' ta tb tc)) := by
  intro pins s σ H Q I h
  refine isTrue_chain (thn (ha pins s σ H _ I h) fun v s1 ⟨x, H1, I1, r1, q1⟩ => test_link (thn (hb pins s1 σ H1 _ I1 q1) fun u s2 ⟨y, H2, I2, r2, q2⟩ =>
    thn (ho pins s2 σ H2 x y v u _ I2 r1 r2 q2) fun d s3 ⟨z, H3, I3, r3, k, e, q3⟩ => ?_)) hm
  subst e
  cases r3
  refine wpAny_truthy_bool ?_
  cases k with
  | false =>
    obtain ⟨k', e', q'⟩ := q3
    cases e'
    exact ite_ff ⟨H3, I3, q'⟩
  | true =>
    refine ite_tt (test_last (thn (hc pins s3 σ H3 _ I3 q3) fun w' s4 ⟨z', H4, I4, r4, q4⟩ => thn (ho' pins s4 σ H4 y z' u w' _ I4 r2 r4 q4) fun d' s5 ⟨z2, H5, I5, r5, k2, e2, q5⟩ => ?_))
    subst e2
    cases r5
    exact wpAny_truthy_bool ⟨H5, I5, q5⟩
/-! ### truth -/
theorem line63 : (sizeLine : Nat) < 2 ^ 63 := by rw [sizeLine_eq]; decide
/-! ### strs and bytes -/
theorem op_add_str : OpR X (binaryOp .Add) (fun x y H Q => ∃ i j, x = .str i ∧ y = .str j ∧ i.length + j.length ≤ sizeLine ∧ Q (.str (i ++ j)) H) := by
  intro pins s σ H x y v u Q I rx ry h
  obtain ⟨i, j, rfl, rfl, hz, q⟩ := h
  obtain ⟨t, rfl⟩ := rx
  obtain ⟨t', rfl⟩ := ry
  exact add_str (fun t' tk => ⟨.str (i ++ j), H, I.tok _, ⟨_, rfl⟩, q⟩) hz
/-! ### scalar builtins, by CallR -/
theorem vals1 {x : V} {us : List Value} (r : Vals [x] us) : ∃ u, us = [u] ∧ RelV x u := by
  cases r with
  | cons r1 r2 => cases r2; exact ⟨_, rfl, r1⟩
theorem vals2 {x y : V} {us : List Value} (r : Vals [x, y] us) : ∃ u w', us = [u, w'] ∧ RelV x u ∧ RelV y w' := by
  cases r with
  | cons r1 r2 =>
    cases r2 with
    | cons r3 r4 => cases r4; exact ⟨_, _, rfl, r1, r3⟩
theorem call_abs : CallR X (.builtin "abs") (fun xs H Q => ∃ i, xs = [.int i] ∧ Q (.int (if i < 0 then -i else i)) H) := by
  intro pins s σ H xs us Q I r h
  obtain ⟨i, rfl, q⟩ := h
  obtain ⟨u, rfl, t, rfl⟩ := vals1 r
  exact call_abs_int fun u tk => ⟨.int (if i < 0 then -i else i), H, I.tok _, ⟨_, rfl⟩, q⟩
theorem call_max2 (hc : X.calm = true) : CallR X (.builtin "max") (fun xs H Q => ∃ i j, xs = [.int i, .int j] ∧ Q (.int (if j > i then j else i)) H) := by
  intro pins s σ H xs us Q I r h
  obtain ⟨i, j, rfl, q⟩ := h
  obtain ⟨u, w', rfl, ⟨t, rfl⟩, ⟨t', rfl⟩⟩ := vals2 r
  refine max_two_ints (I.ok.hd hc) fun h' tk k => ⟨_, H, I.kept k, ?_, q⟩
  by_cases hj : j > i
  · rw [if_pos hj, if_pos hj]; exact ⟨_, rfl⟩
  · rw [if_neg hj, if_neg hj]; exact ⟨_, rfl⟩
/-- len of a str, a bytes, a list, a tuple -/
def LenV (K : PySem.W.Frag) (x : V) (H : Hp) (n : Nat) : Prop :=
  match x with
  | .str y => y.length ≤ sizeLine ∧ n = y.length
  | .byt y => y.size ≤ sizeLine ∧ n = y.size
  | .ref p => (∃ xs, SqL K H p xs ∧ n = xs.length) ∨ ∃ xs, SqT K H p xs ∧ n = xs.length
  | _ => False
theorem call_len : CallR X (.builtin "len") (fun xs H Q => ∃ x n, xs = [x] ∧ LenV X.K x H n ∧ Q (.int n) H) := by
  intro pins s σ H xs us Q I r h
  obtain ⟨x, n, rfl, e, q⟩ := h
  obtain ⟨u, rfl, rx⟩ := vals1 r
  have hl := line63
  have hs : sizeLine = 16777216 := sizeLine_eq
  cases x with
  | str y =>
    obtain ⟨t, rfl⟩ := rx
    obtain ⟨hy, e'⟩ : y.length ≤ sizeLine ∧ n = y.length := e
    subst e'
    exact len_str (by omega) ⟨.int _, H, I.tok _, ⟨_, rfl⟩, q⟩
  | byt y =>
    obtain ⟨t, rfl⟩ := rx
    obtain ⟨hy, e'⟩ : y.size ≤ sizeLine ∧ n = y.size := e
    subst e'
    exact PySem.W.len_bytes (by omega) ⟨.int _, H, I.tok _, ⟨_, rfl⟩, q⟩
  | ref p =>
    cases rx
    have e' : (∃ xs, SqL X.K H p xs ∧ n = xs.length) ∨ ∃ xs, SqT X.K H p xs ∧ n = xs.length := e
    rcases e' with ⟨xs, hx, e'⟩ | ⟨xs, hx, e'⟩
    · subst e'
      obtain ⟨its, r', pl, hz⟩ := I.list hx
      have hlen := r'.length
      exact Calls.call_len_list pl.isList (by simp only [List.size_toArray]; omega) ⟨.int xs.length, H, I.tok _, ⟨_, by simp only [List.size_toArray]; rw [hlen]⟩, q⟩
    · subst e'
      obtain ⟨its, r', pl, hz⟩ := I.tuple hx
      have hlen := r'.length
      exact len_tuple pl (by simp only [List.size_toArray]; omega) ⟨.int xs.length, H, I.tok _, ⟨_, by simp only [List.size_toArray]; rw [hlen]⟩, q⟩
  | _ => exact (show False from e).elim
end
end L2
namespace L2
open PySem PySem.Spec PyProof.Rows
/-! ### an instance, its attributes a map -/
structure ObjM (h : Heap) (x dx C : Addr) (mA : Str → Option Value) : Prop where
  obj : h.get? x = some (PySem.W.instObj C dx)
  ns : h.Ns1 dx mA
  ne : dx ≠ x
theorem lookIn_ns {h : Heap} {dx : Addr} {mA : Str → Option Value} (n : h.Ns1 dx mA) : ∃ od, h.get? dx = some od ∧ ∀ name, PySem.W.lookIn name od = some (mA name) := by
  obtain ⟨o, es, ep, ho, hd, hk, _, hm⟩ := n
  refine ⟨o, ho, fun name => ?_⟩
  have e := hm name
  unfold nsFind findBy at e
  rw [← Array.find?_toList] at e
  unfold PySem.W.lookIn
  rw [hd]
  dsimp only
  split
  · rename_i y q
    rw [q] at e
    exact congrArg some e
  · rename_i q
    rw [q] at e
    have a : es.toList.any (·.refKey) = false := by
      rw [List.any_eq_false]
      intro y hy
      obtain ⟨z, t, hkey⟩ := hk y (Array.mem_toList_iff.mp hy)
      simp [DictEntry.refKey, hkey]
    have a' : ¬ es.toList.any (·.refKey) = true := by rw [a]; exact Bool.false_ne_true
    rw [if_neg a']
    exact congrArg some e
theorem ObjM.look {h : Heap} {x dx C : Addr} {mA : Str → Option Value} (I : ObjM h x dx C mA) : ∃ od, PySem.W.InstAt h x (PySem.W.instObj C dx) C (some od) ∧ ∀ name, PySem.W.lookIn name od = some (mA name) :=
  let ⟨od, ho, hl⟩ := lookIn_ns I.ns
  ⟨od, ⟨I.obj, rfl, rfl, ho⟩, hl⟩
section
variable {prog : Program} {w : World} {A : Around} {E : Value → Shared → Prop} {s : Shared} {K : PySem.W.Frag} {x dx C f : Addr} {mA : Str → Option Value} {name : Str} {v : Value}
end
/-! ### the attributes as a list of pairs -/
section
variable {P : Program} {w : World} {H H' : Hp} {h h' : Heap} {a C dx : Addr} {fs fs' : List (Str × V)}
theorem ins_get (hok : HOk P w H h) (e : H a = some (.ins C dx fs)) : ∃ mA, ObjM h a dx C mA ∧ (∀ f, RelO (fs.lookup f) (mA f)) ∧ PySem.Within mA (fs.map (·.1)) ∧ fs.length ≤ 1000 ∧ H dx = some (.own a) := by
  obtain ⟨d, z, ne, ob, mA, n, r, q⟩ := (show ObjOk P w H h a (.ins C dx fs) from hok a _ e)
  exact ⟨mA, ⟨ob, n, ne⟩, r, q, z, d⟩
end
/-! ### what of the text a class must have -/
structure Cls (K : PySem.W.Frag) (C : Addr) : Prop where
  pg : PySem.W.plainGet K C Str.empty = true
  hd : PySem.W.hasDictIn K C = true
  po : PySem.W.plainOver K C = true
  sa : PySem.W.findIn K (.ref C) "__setattr__" = some (some (.builtin "object.__setattr__"))
theorem Cls.get {K : PySem.W.Frag} {C : Addr} (c : Cls K C) (f : Str) : PySem.W.plainGet K C f = true := c.pg
section
variable {X : Cx} {pins : List (Addr × Obj)} {σ : St} {H : Hp} {s : Shared} {a C dx : Addr} {fs : List (Str × V)} {f : Str} {v : V} {A : Around} {E : Value → Shared → Prop}
end
/-! ### readings and rules -/
section
variable {X : Cx} {o e value : Expr} {f : Str} {pos pos' tpos : Pos} {ta tv : TE}
end
/-! ### isinstance -/
section
variable {X : Cx} {pins : List (Addr × Obj)} {σ : St} {H : Hp} {s : Shared} {A : Around} {E : Value → Shared → Prop} {Q : Value → Shared → Prop} {c : Value} {b : Bool}
/-- the type of a value, as the fragment's deciders take it; for an instance its class -/
inductive TyOf (K : PySem.W.Frag) (H : Hp) : V → Value → Prop where
  | non : TyOf K H .non (.type "NoneType")
  | bl (x : Bool) : TyOf K H (.bl x) (.type "bool")
  | int (i : Int) : TyOf K H (.int i) (.type "int")
  | str (x : Str) : TyOf K H (.str x) (.type "str")
  | flt (x : UInt64) : TyOf K H (.flt x) (.type "float")
  | lst {a : Addr} {xs : List V} (e : H a = some (.lst xs)) : TyOf K H (.ref a) (.type "list")
  | frz {a : Addr} {o : Obj} {xs : List V} (e : H a = some (.frz o (.lst xs))) : TyOf K H (.ref a) (.type "list")
  | tup {a : Addr} {xs : List V} (e : H a = some (.tup xs)) : TyOf K H (.ref a) (.type "tuple")
  | dK {a : Addr} {kvs : List (Key × V)} (e : H a = some (.dK kvs)) : TyOf K H (.ref a) (.type "dict")
  | dT {a : Addr} {kvs : List (List Key × V)} (e : H a = some (.dT kvs)) : TyOf K H (.ref a) (.type "dict")
  | ins {a C dx : Addr} {fs : List (Str × V)} (e : H a = some (.ins C dx fs)) (cl : Cls K C) (ha : PySem.W.findIn K (.ref C) "__class__" = some (some (.builtin "object.__class__")))
      (hn : PySem.W.specialIn K (.builtin "object.__class__") "__get__" = some (some (.builtin "getset_descriptor.__get__"))) (htk : PySem.W.takesIn K (.builtin "object.__class__") = some true)
      (hm : PySem.W.mroIn K C (.type "object") = some true) : TyOf K H (.ref a) (.ref C)
/-- isinstance(x, c) for one class c, a built-in or an own one: kitOne's answer -/
theorem isinst_ok {x : V} {u t : Value} (I : Inv X pins σ H s) (rx : RelV x u) (ty : TyOf X.K H x t) (e : PySem.W.kitOne X.K t c = some b) (h : ∀ tk, Q (.bool b) { s with toks := tk }) :
    wpAny (model X.prog X.w) A (call (.builtin "isinstance") [u, c]) Q E s := by
  cases ty with
  | non => cases (show u = Value.none from rx); exact PySem.W.kia_one PySem.W.kitx_none I.kIn True.intro e (fun z => nomatch z) h
  | bl y => cases (show u = Value.bool y from rx); exact PySem.W.kia_one PySem.W.kitx_bool I.kIn True.intro e (fun z => nomatch z) h
  | int i => obtain ⟨t, q⟩ := (show ∃ t, u = Value.int i t from rx); cases q; exact PySem.W.kia_one PySem.W.kitx_int I.kIn True.intro e (fun z => nomatch z) h
  | str y => obtain ⟨t, q⟩ := (show ∃ t, u = Value.str y t from rx); cases q; exact PySem.W.kia_one PySem.W.kitx_str I.kIn True.intro e (fun z => nomatch z) h
  | flt y => obtain ⟨t, q⟩ := (show ∃ t, u = Value.float y t from rx); cases q; exact PySem.W.kia_one PySem.W.kitx_float I.kIn True.intro e (fun z => nomatch z) h
  | @lst a xs ea =>
    cases (show u = Value.ref a from rx)
    obtain ⟨_, _, n, _, h1⟩ := (show ObjOk X.prog X.w H s.heap a (.lst xs) from I.hok a _ ea)
    exact PySem.W.kia_one PySem.W.kitx_list I.kIn ⟨_, h1, rfl⟩ e (fun z => nomatch z) h
  | @frz a ob xs ea =>
    cases (show u = Value.ref a from rx)
    obtain ⟨_, _, _, n, _, h1⟩ := (show ObjOk X.prog X.w H s.heap a (.frz ob (.lst xs)) from I.hok a _ ea)
    exact PySem.W.kia_one PySem.W.kitx_list I.kIn ⟨_, h1, rfl⟩ e (fun z => nomatch z) h
  | @tup a xs ea =>
    cases (show u = Value.ref a from rx)
    obtain ⟨_, _, _, p⟩ := (show ObjOk X.prog X.w H s.heap a (.tup xs) from I.hok a _ ea)
    obtain ⟨o, h1, h2, _⟩ := p
    exact PySem.W.kia_one PySem.W.kitx_tuple I.kIn ⟨o, h1, h2⟩ e (fun z => nomatch z) h
  | @dK a kvs ea =>
    cases (show u = Value.ref a from rx)
    obtain ⟨_, _, vs, _, p⟩ := (show ObjOk X.prog X.w H s.heap a (.dK kvs) from I.hok a _ ea)
    obtain ⟨o, es, ep, h1, h2, _⟩ := p
    exact PySem.W.kia_one PySem.W.kitx_dict I.kIn ⟨o, h1, h2.1⟩ e (fun z => nomatch z) h
  | @dT a kvs ea =>
    cases (show u = Value.ref a from rx)
    obtain ⟨_, _, xs, _, o, es, ep, h1, h2, _⟩ := (show ObjOk X.prog X.w H s.heap a (.dT kvs) from I.hok a _ ea)
    exact PySem.W.kia_one PySem.W.kitx_dict I.kIn ⟨o, h1, h2.1⟩ e (fun z => nomatch z) h
  | @ins a C dx fs ea cl ha hn htk hm =>
    cases (show u = Value.ref a from rx)
    obtain ⟨mA, O, _⟩ := ins_get I.hok ea
    obtain ⟨od, J, _⟩ := O.look
    exact PySem.W.kia_one (PySem.W.kitx_own (cl.get _) cl.hd ha hn htk hm) I.kIn J e (fun z => nomatch z) h
end
end L2
namespace L2
open PySem PySem.Spec PyProof.Rows
/-! ### room -/
structure Room (k : Nat) (A : Around) : Prop where
  hd : A.handled = none
  dp : A.depth + 3 * k + 5 < recursionLimit
  un : A.units + 16 * k + 200 < cLine
theorem Room.mono {j k : Nat} {A : Around} (r : Room k A) (h : j ≤ k) : Room j A := ⟨r.hd, by have := r.dp; omega, by have := r.un; omega⟩
theorem Room.deeper {k : Nat} {A : Around} (r : Room (k + 1) A) (env : Env) : Room k (A.deeper env) :=
  ⟨r.hd, by have := r.dp; show A.depth + 1 + 3 * k + 5 < _; omega, by have := r.un; show A.units + 3 + 16 * k + 200 < _; omega⟩
theorem Room.depth {k : Nat} {A : Around} (r : Room k A) : A.depth < recursionLimit := by have := r.dp; omega
theorem Room.units {k : Nat} {A : Around} (r : Room k A) : A.units + 64 < cLine := by have := r.un; omega
/-! ### argument lists and displays -/
def tNil : TA := fun _ H Q => Q [] H
def tCons (ta : TE) (tr : TA) : TA := fun σ H Q => ta σ H fun x H1 => tr σ H1 fun xs H2 => Q (x :: xs) H2
section
variable {X : Cx} {e : Expr} {es : List Expr} {te : TE} {t : TA} {pos : Pos}
theorem pa_nil : PA X [] tNil := fun _ _ _ _ H Q I h => Calls.spliced_nil ⟨[], H, I, .nil, h⟩
theorem pa_cons (ha : PE X e te) (hr : PA X es t) (hs : starEach (e :: es) X.env = (false, eval e X.env) :: starEach es X.env := by rfl) : PA X (e :: es) (tCons te t) := by
  intro pos pins s σ H Q I h
  rw [hs]
  show wpAny _ _ (spliced ((false, eval e X.env) :: backTo pos (starEach es X.env))) _ _ s
  refine Calls.spliced_cons (thn (ha pins s σ H _ I h) fun u s1 ⟨x, H1, I1, r1, q1⟩ => ?_)
  exact thn (hr pos pins s1 σ H1 _ I1 q1) fun us s2 ⟨xs, H2, I2, r2, q2⟩ => ⟨x :: xs, H2, I2, .cons r1 r2, q2⟩
/-- a tuple, a list of written items -/
def tTup (t : TA) : TE := fun σ H Q => t σ H fun xs H1 => xs.length ≤ sizeLine ∧ ∀ p, H1 p = none → Q (.ref p) (upd H1 p (.tup xs))
def tLst (t : TA) : TE := fun σ H Q => t σ H fun xs H1 => xs.length ≤ sizeLine ∧ ∀ p, H1 p = none → Q (.ref p) (upd H1 p (.lst xs))
theorem pe_tup {x1} (h : PA X es t) : PE X (.Tuple es x1 pos) (tTup t) := by
  intro pins s σ H Q I hq
  refine wpAny_Tuple_spliced (thn (h pos pins s σ H _ I hq) fun us s1 ⟨xs, H1, I1, r, z, q⟩ => ⟨by rw [← r.length]; exact z, ?_⟩)
  have hf : H1 s1.heap.objs.size = none := I1.hok.fresh (Nat.le_refl _)
  refine ⟨.ref s1.heap.objs.size, upd H1 s1.heap.objs.size (.tup xs), I1.laid (t' := s1.toks) (fun b u e => Heap.get?_push_of_some _ e) (Nat.le_refl _) ?_, rfl, q _ hf⟩
  exact ⟨z, us, r, ⟨_, Heap.get?_push_size _ rfl, rfl, _, rfl⟩⟩
theorem pe_lst (h : PA X es t) : PE X (.List es pos) (tLst t) := by
  intro pins s σ H Q I hq
  refine wpAny_List_spliced (thn (h pos pins s σ H _ I hq) fun us s1 ⟨xs, H1, I1, r, z, q⟩ => ⟨by rw [← r.length]; exact z, ?_⟩)
  have hf : H1 s1.heap.objs.size = none := I1.hok.fresh (Nat.le_refl _)
  refine ⟨.ref s1.heap.objs.size, upd H1 s1.heap.objs.size (.lst xs), I1.laid (t' := s1.toks) (fun b u e => Heap.get?_push_of_some _ e) (Nat.le_refl _) ?_, rfl, q _ hf⟩
  exact ⟨z, us, 0, r, Heap.get?_push_size _ rfl⟩
end
/-! ### what a def promises -/
/-- a def's promise: the bound arguments in the parameters' order, the heap, the wanted end, the wanted exception -/
abbrev Sp := List V → Hp → VK → XK → Prop
/-- how an exception lies behind a call (file 08 gives it): the callers' frames, abstract heap and state ahead of the call, the wish, the exception, the state -/
abbrev CXT := List Env → Hp → Shared → XK → Value → Shared → Prop
/-- the state at a call -/
structure Env0 (P : Program) (w : World) (K : PySem.W.Frag) (mg : Str → Option Value) (base : Heap) (A : Around) (outer : List Env) (s : Shared) (H : Hp) : Prop where
  frames : A.frames = some outer
  mod : Mod K mg base
  bs : ∀ b o, base.get? b = some o → s.heap.get? b = some o ∧ H b = none
  bsz : base.objs.size ≤ s.heap.objs.size
  funs : s.heap.FunFrames base outer
  frf : ∀ b ∈ frs outer, H b = none
  hok : HOk P w H s.heap
  bare : AllBare s.gens
/-- a call's end -/
def CE (outer : List Env) (P : Program) (w : World) (H : Hp) (s : Shared) (Q : VK) (u : Value) (s' : Shared) : Prop :=
  ∃ v H', s'.os = s.os ∧ AllBare s'.gens ∧ Un (frs outer) [] H H' s.heap s'.heap ∧ HOk P w H' s'.heap ∧ RelV v u ∧ Q v H'
def CR (CX : CXT) (outer : List Env) (P : Program) (w : World) (H : Hp) (s : Shared) (Q : VK) (E : XK) (r : Result) (s' : Shared) : Prop :=
  match r with
  | .ok (.ret u) => CE outer P w H s Q u s'
  | .ok _ => False
  | .error e => CX outer H s E e s'
structure FnOk (P : Program) (w : World) (K : PySem.W.Frag) (mg : Str → Option Value) (base : Heap) (CX : CXT) (k : Nat) (f : Addr) (fd : FuncData) (ps : List Str) (sp : Sp) : Prop where
  len : ∀ vs H Q E, sp vs H Q E → vs.length = ps.length
  run : ∀ (A : Around) (outer : List Env) (s : Shared) (H : Hp) (args : Args) (us : List Value) (vs : List V) (Q : VK) (E : XK), Room k A → Env0 P w K mg base A outer s H → BindsTo s fd args (ps.zip us) → Vals vs us → sp vs H Q E →
    codeAny (model P w) A (.call (.ref f) args) (CR CX outer P w H s Q E) s
theorem FnOk.mono {P : Program} {w : World} {K : PySem.W.Frag} {mg : Str → Option Value} {base : Heap} {CX : CXT} {j k : Nat} {f : Addr} {fd : FuncData} {ps : List Str} {sp : Sp} (F : FnOk P w K mg base CX j f fd ps sp) (h : j ≤ k) :
    FnOk P w K mg base CX k f fd ps sp := ⟨F.len, fun A outer s H args us vs Q E hr => F.run A outer s H args us vs Q E (hr.mono h)⟩
section
variable {X : Cx} {pins : List (Addr × Obj)} {σ : St} {H : Hp} {s s' : Shared}
/-- from a body: what a callee wants -/
theorem Inv.env0 (I : Inv X pins σ H s) : Env0 X.prog X.w X.K X.mg X.base X.A X.stack s H :=
  ⟨I.ok.frames, I.ok.mod, I.bs, Nat.le_trans I.ok.bsz I.sz, I.stack, I.stkFree, I.hok, I.bare⟩
/-- behind a call -/
theorem Inv.after {Q : VK} {u : Value} (I : Inv X pins σ H s) (h : CE X.stack X.prog X.w H s Q u s') : EP X pins σ Q u s' := by
  obtain ⟨v, H', os, bare, un, hok, r, q⟩ := h
  obtain ⟨hh, g, d, t, os'⟩ := s'
  obtain rfl : os' = s.os := os
  exact ⟨v, H', I.call (h' := hh) (g' := g) (d' := d) (t' := t) (ch := []) un hok bare (fun b z => absurd z (by simp)), r, q⟩
end
/-! ### calls -/
/-- f(..): the written arguments, then the defaults dvs; E: what is wanted of an exception -/
def tCall (sp : Sp) (dvs : List V) (E : XK) (t : TA) : TE := fun σ H Q => t σ H fun vs H1 => sp (vs ++ dvs) H1 Q E
/-- how the parameters are bound: us the positional arguments, kw the keywords' values by name, ds the defaults that fill up -/
def Binds (K : PySem.W.Frag) (fd : FuncData) (ps : List Str) (ds : List Value) : Prop :=
  ∀ (s : Shared) (us : List Value), K.In s.heap → (us ++ ds).length = ps.length → BindsTo s fd ⟨us, []⟩ (ps.zip (us ++ ds))
/-- every parameter is given -/
theorem Binds.all {K : PySem.W.Frag} {fd : FuncData} {ps : List Str} (h : ∀ us : List Value, us.length = ps.length → bindArgs fd ⟨us, []⟩ = pure (ps.zip us)) : Binds K fd ps [] := fun s us _ hl => by
  rw [List.append_nil] at hl ⊢
  exact .of_eq (h us hl)
/-- an exception of a callee reaches what this body wants of exceptions -/
def Passes (CX : CXT) (X : Cx) (E : XK) : Prop := ∀ (pins : List (Addr × Obj)) (σ : St) (H : Hp) (s : Shared) (e : Value) (s' : Shared), Inv X pins σ H s → CX X.stack H s E e s' → X.xe e s'
section
variable {X : Cx} {CX : CXT} {k : Nat} {f C : Addr} {fd : FuncData} {ps : List Str} {sp : Sp} {dvs : List V} {ds : List Value} {E : XK} {x m : Str} {p pos apos : Pos} {e o : Expr} {es : List Expr} {ta : TE} {t : TA}
/-- the callee runs -/
theorem run_fn {pins : List (Addr × Obj)} {σ : St} {H : Hp} {s : Shared} {Q : VK} {us : List Value} {vs : List V} (F : FnOk X.prog X.w X.K X.mg X.base CX k f fd ps sp) (hr : Room k X.A) (hb : Binds X.K fd ps ds) (hd : Vals dvs ds) (hx : Passes CX X E)
    (I : Inv X pins σ H s) (r : Vals vs us) (h : sp (vs ++ dvs) H Q E) : wpAny (model X.prog X.w) X.A (call (.ref f) us) (EP X pins σ Q) X.xe s := by
  have r2 : Vals (vs ++ dvs) (us ++ ds) := r.append hd
  have hl : (us ++ ds).length = ps.length := by rw [← r2.length]; exact F.len _ _ _ _ h
  refine wpAny_call (codeAny_mono (F.run X.A X.stack s H ⟨us, []⟩ (us ++ ds) (vs ++ dvs) Q E hr I.env0 (hb s us I.kIn hl) r2 h) fun r s' hq => ?_)
  cases r with
  | error e => exact hx pins σ H s e s' I hq
  | ok fl =>
    cases fl with
    | ret u => exact I.after hq
    | next => exact False.elim hq
    | brk => exact False.elim hq
    | cont => exact False.elim hq
theorem pe_call (F : FnOk X.prog X.w X.K X.mg X.base CX k f fd ps sp) (hr : Room k X.A) (hg : Gl X x) (hm : X.mg x = some (.ref f)) (hk : PySem.W.keepIn X.K (.ref f) = true) (hb : Binds X.K fd ps ds) (hd : Vals dvs ds) (hx : Passes CX X E)
    (ha : PA X (e :: es) t) (hdb : (x == ("__debug__" : Str)) = false := by decide) (he : starEach (e :: es) X.env = (false, eval e X.env) :: starEach es X.env := by rfl) (hpl : (backTo pos (starEach es X.env)).any (·.1) = false := by rfl) :
    PE X (.Call (.Name x p) (e :: es) [] pos) (tCall sp dvs E t) := by
  intro pins s σ H Q I h
  refine wpAny_Call_Name_kw (ld_glob I hg hm ?_ hdb)
  refine PySem.W.callWith_K (h₀ := X.base) I.ok.mod.kin hk (thn (ha pos pins s σ H _ I h) fun us s1 ⟨vs, H1, I1, r, q⟩ => ⟨I1.kIn, ?_⟩) he hpl
  exact run_fn F hr hb hd hx I1 r q
theorem pe_call0 (F : FnOk X.prog X.w X.K X.mg X.base CX k f fd ps sp) (hr : Room k X.A) (hg : Gl X x) (hm : X.mg x = some (.ref f)) (hk : PySem.W.keepIn X.K (.ref f) = true) (hb : Binds X.K fd ps ds) (hd : Vals dvs ds) (hx : Passes CX X E)
    (hdb : (x == ("__debug__" : Str)) = false := by decide) : PE X (.Call (.Name x p) [] [] pos) (tCall sp dvs E tNil) := by
  intro pins s σ H Q I h
  refine wpAny_Call_Name_kw (ld_glob I hg hm ?_ hdb)
  exact PySem.W.callWith_K0 I.kIn hk (run_fn (us := []) F hr hb hd hx I .nil h)
end
/-! ### keywords -/
section
variable {X : Cx} {CX : CXT} {k : Nat} {f C : Addr} {fd : FuncData} {ps ks : List Str} {sp : Sp} {E : XK} {x m : Str} {p pos apos kpos : Pos} {e o : Expr} {es : List Expr} {kws : List Keyword} {te ta : TE} {t tk : TA} {nm : Option Str}
variable {g : List Value → List Value → List Value} {gV : List V → List V → List V}
end
/-! ### a def's body keeps its promise -/
/-- names: the parameters first -/
structure FnScope (N P : List Str) (sc : Scope) : Prop where
  kind : sc.kind = .function
  co : sc.isCoroutine = false
  gen : sc.isGenerator = false
  nd : N.Nodup
  pre : N.take P.length = P
  par : ∀ x ∈ P, sc.names.lookup x = some .local ∨ sc.names.lookup x = some .cell
  nofree : ∀ y ∈ sc.names, y.2 ≠ .free
theorem bindL_out {kindOf : Str → Option NameKind} {x : Str} : ∀ {binds : List (Str × Value)} {m : Str → Option Value}, (∀ v, (x, v) ∉ binds) → bindL kindOf binds m x = m x
  | [], _, _ => rfl
  | (n, v) :: r, m, h => by
    unfold bindL
    rw [bindL_out fun w hw => h w (List.mem_cons_of_mem _ hw)]
    split
    · have : x ≠ n := by rintro rfl; exact h v List.mem_cons_self
      simp [this]
    · rfl
theorem bindC_out {kindOf : Str → Option NameKind} {x : Str} : ∀ {binds : List (Str × Value)} {m : Str → Option Value}, (∀ v, (x, v) ∉ binds) → bindC kindOf binds m x = m x
  | [], _, _ => rfl
  | (n, v) :: r, m, h => by
    unfold bindC
    rw [bindC_out fun w hw => h w (List.mem_cons_of_mem _ hw)]
    split
    · rfl
    · have : x ≠ n := by rintro rfl; exact h v List.mem_cons_self
      simp [this]
theorem bindL_get {kindOf : Str → Option NameKind} {x : Str} {v : Value} : ∀ {P : List Str} {vs : List Value} {i : Nat} {m : Str → Option Value}, P.Nodup → P[i]? = some x → vs[i]? = some v → kindOf x = some .local →
    bindL kindOf (P.zip vs) m x = some v
  | [], _, _, _, _, h, _, _ => by simp at h
  | _ :: _, [], _, _, _, _, h, _ => by simp at h
  | p :: P, w :: vs, 0, m, nd, h1, h2, hk => by
    simp at h1 h2; subst h1; subst h2
    show bindL kindOf ((p, w) :: P.zip vs) m p = _
    unfold bindL
    rw [bindL_out fun v hv => (List.nodup_cons.mp nd).1 (List.of_mem_zip hv).1, if_pos hk]
    simp
  | p :: P, w :: vs, i + 1, m, nd, h1, h2, hk => by
    show bindL kindOf ((p, w) :: P.zip vs) m x = _
    unfold bindL
    exact bindL_get (i := i) (List.nodup_cons.mp nd).2 (by simpa using h1) (by simpa using h2) hk
theorem bindC_get {kindOf : Str → Option NameKind} {x : Str} {v : Value} : ∀ {P : List Str} {vs : List Value} {i : Nat} {m : Str → Option Value}, P.Nodup → P[i]? = some x → vs[i]? = some v → kindOf x ≠ some .local →
    bindC kindOf (P.zip vs) m x = some v
  | [], _, _, _, _, h, _, _ => by simp at h
  | _ :: _, [], _, _, _, _, h, _ => by simp at h
  | p :: P, w :: vs, 0, m, nd, h1, h2, hk => by
    simp at h1 h2; subst h1; subst h2
    show bindC kindOf ((p, w) :: P.zip vs) m p = _
    unfold bindC
    rw [bindC_out fun v hv => (List.nodup_cons.mp nd).1 (List.of_mem_zip hv).1, if_neg hk]
    simp
  | p :: P, w :: vs, i + 1, m, nd, h1, h2, hk => by
    show bindC kindOf ((p, w) :: P.zip vs) m x = _
    unfold bindC
    exact bindC_get (i := i) (List.nodup_cons.mp nd).2 (by simpa using h1) (by simpa using h2) hk
/-- the names' values at the entry -/
def start (N : List Str) (vs : List V) : St := vs.map some ++ List.replicate (N.length - vs.length) none
/-- the context of a def's body, at its entry; an exception leaves the frame, then lies as CX says -/
def cxOf (CX : CXT) (P : Program) (w : World) (K : PySem.W.Frag) (mg : Str → Option Value) (base : Heap) (N : List Str) (qual : Str) (scope : Scope) (f : Addr) (cd : Value) (A : Around) (outer : List Env) (s : Shared) (H : Hp) (E : XK) : Cx where
  prog := P
  w := w
  K := K
  mg := mg
  base := base
  A := A.deeper (envOfC qual scope s.heap.objs.size f cd)
  N := N
  s₀ := s
  H₀ := H
  env := envOfC qual scope s.heap.objs.size f cd
  outer := outer
  stack := envOfC qual scope s.heap.objs.size f cd :: outer
  ex := []
  calm := true
  fn := fun _ => true
  pn := []
  xe := fun e s' => wpAny (model P w) (A.deeper (envOfC qual scope s.heap.objs.size f cd)) (leaving (envOfC qual scope s.heap.objs.size f cd) e) (fun _ s'' => CX outer H s E e s'') (fun e' s'' => CX outer H s E e' s'') s'
theorem cell_has {sc : Scope} {n : Nat} {x : Str} (h : sc.names.lookup x = some .cell) : ∃ c, (cellsFrom n sc.names []).lookup x = some c := by
  have q := PySem.W.cellsFrom_some sc.names n [] (.inl h)
  exact Option.isSome_iff_exists.mp q
theorem inv_start {CX : CXT} {P : Program} {w : World} {K : PySem.W.Frag} {mg : Str → Option Value} {base : Heap} {N ps : List Str} {qual : Str} {scope : Scope} {f : Addr} {cd : Value} {A : Around} {outer : List Env} {s s1 : Shared} {H : Hp} {E : XK} {us : List Value} {vs : List V}
    (S : FnScope N ps scope) (hd : A.handled = none) (e0 : Env0 P w K mg base A outer s H) (hl : vs.length = ps.length) (r : Vals vs us)
    (x : InCallC s s.heap.objs.size (bindL (envOfC qual scope s.heap.objs.size f cd).kindOf (ps.zip us) fun _ => none) (cellsFrom (s.heap.objs.size + 1) scope.names []) (bindC (envOfC qual scope s.heap.objs.size f cd).kindOf (ps.zip us) fun _ => none) s1) :
    Inv (cxOf CX P w K mg base N qual scope f cd A outer s H E) [] (start N vs) H s1 := by
  have hpl : ps.length ≤ N.length := by have := congrArg List.length S.pre; rw [List.length_take] at this; omega
  obtain ⟨h1, tk, rfl, hk⟩ := x.done
  have noA : ∀ b : Addr, b ∉ (cxOf CX P w K mg base N qual scope f cd A outer s H E).ex := fun b z => absurd (show b ∈ ([] : List Addr) from z) (by simp)
  refine ⟨⟨e0.mod, S.kind, rfl, rfl, Nat.le_refl _, fun y z c h1 h2 => ?_, fun y hy => ?_, fun y c _ h => ?_, fun _ => hd, Around.frames_deeper e0.frames, .inr ⟨rfl, rfl⟩, fun b z => absurd z (noA b), e0.bs, e0.bsz, fun b _ _ => noA b, fun b z => absurd z (noA b), e0.funs, e0.frf⟩,
    rfl, e0.bare, Un.kept hk, ⟨_, x.toInCall.ns, fun i y v h1 h2 h3 => ?_⟩, fun y c h => ⟨_, x.cell y c h⟩, e0.hok.fresh (Nat.le_refl _), fun y c h => ?_, fun p hp => absurd (show p ∈ ([] : List (Addr × Obj)) from hp) (by simp), e0.hok.kept hk, ?_⟩
  · exact name_of_addr x.apart (PySem.mem_of_lookup h1) (PySem.mem_of_lookup h2)
  · have hy : scope.names.lookup y = some .cell ∨ scope.names.lookup y = some .free := hy
    rcases hy with hy | hy
    · exact cell_has hy
    · exact absurd rfl (S.nofree _ (PySem.mem_of_lookup hy))
  · exact Nat.le_of_lt (x.above y c (PySem.mem_of_lookup h))
  · have hi : i < vs.length := by
      unfold start at h2
      by_cases hi : i < vs.length
      · exact hi
      · rw [List.getElem?_append_right (by simpa using hi)] at h2
        rw [List.getElem?_replicate] at h2
        split at h2 <;> cases h2
    have ha : vs[i]? = some v := by
      unfold start at h2
      rw [List.getElem?_append_left (by simpa using hi), List.getElem?_map] at h2
      cases e : vs[i]? with
      | none => rw [e] at h2; cases h2
      | some a => rw [e] at h2; cases h2; rfl
    obtain ⟨u, hu, rv⟩ := r.get ha
    have hp : ps[i]? = some y := by
      rw [← S.pre, List.getElem?_take_of_lt (by omega)]; exact h1
    have ndP : ps.Nodup := by rw [← S.pre]; exact S.nd.sublist (List.take_sublist _ _)
    refine ⟨u, rv, ?_⟩
    rcases S.par y (List.mem_of_getElem? hp) with k | k
    · exact .inl ⟨k, bindL_get ndP hp hu k⟩
    · obtain ⟨c, e⟩ := cell_has (n := s.heap.objs.size + 1) k
      refine .inr ⟨.inl k, c, e, ?_⟩
      have q := x.cell y c e
      rw [bindC_get ndP hp hu (by show scope.names.lookup y ≠ _; rw [k]; decide)] at q
      exact q
  · exact e0.hok.fresh (Nat.le_of_lt (x.above y c (PySem.mem_of_lookup h)))
  · unfold start
    show _ = N.length
    rw [List.length_append, List.length_map, List.length_replicate]
    omega
/-- THE RULE: a def (or a method) of the text, by its body. The body's reading t is chosen for each entry; it is run at the parameters' values -/
theorem fn_of {CX : CXT} {P : Program} {w : World} {K : PySem.W.Frag} {mg : Str → Option Value} {base : Heap} {k : Nat} {f : Addr} {name qual : Str} {params : Arguments} {body : List Stmt} {scope : Scope} {dV kV doc pm cdv ct oc : Value} {an od : Option Addr}
    {osl : Array (Option Value)} {N ps : List Str} {sp : Sp} (lk : K.lookup f = some ⟨oc, od, .func (PySem.W.fnOf name qual params body scope dV kV doc pm an cdv ct), osl⟩) (hcd : PySem.W.codeIn K cdv qual = true) (S : FnScope N ps scope)
    (len : ∀ vs H Q E, sp vs H Q E → vs.length = ps.length)
    (hbody : ∀ (A : Around) (outer : List Env) (s : Shared) (H : Hp) (vs : List V) (Q : VK) (E : XK), Room k (A.deeper (envOfC qual scope s.heap.objs.size f cdv)) → sp vs H Q E →
      ∃ t, PSs (cxOf CX P w K mg base N qual scope f cdv A outer s H E) body t ∧ t { nx := fun _ H' => Q .non H', rt := Q } (start N vs) H) :
    FnOk P w K mg base CX (k + 1) f (PySem.W.fnOf name qual params body scope dV kV doc pm an cdv ct) ps sp := by
  refine ⟨len, fun A outer s H args us vs Q E hr e0 hb r hsp => ?_⟩
  have hl := len _ _ _ _ hsp
  have KX : K.In s.heap := e0.mod.kin.keeps fun b o e => (e0.bs b o e).1
  have lim : s.heap.NoLimit := e0.mod.nolimit.keeps fun b o e => (e0.bs b o e).1
  have hkind : ∀ y ∈ ps.zip us, scope.names.lookup y.1 = some .local ∨ (scope.names.lookup y.1 = some .cell ∧ ((cellsFrom (s.heap.objs.size + 1) scope.names []).lookup y.1).isSome = true) := fun ⟨n, v⟩ hy => by
    rcases S.par n (List.of_mem_zip hy).1 with q | q
    · exact .inl q
    · exact .inr ⟨q, PySem.W.cellsFrom_some _ _ _ (.inl q)⟩
  refine codeAny_call_function hr.depth (KX _ _ lk) rfl S.co S.gen rfl (PySem.W.codeRec_of KX hcd) (hb _ _ _ _ ?_)
  refine wpAny_newFunctionEnv_cells S.kind hkind fun env he s1 x => ?_
  subst he
  refine ⟨lim.keeps x.toInCall.keep, codeAny_func ?_⟩
  obtain ⟨t, ht, hq⟩ := hbody A outer s H vs Q E (hr.deeper _) hsp
  have I : Inv (cxOf CX P w K mg base N qual scope f cdv A outer s H E) [] (start N vs) H s1 := inv_start S hr.hd e0 hl r x
  refine wpAny_mono (ht [] s1 (start N vs) H _ I hq) (fun fl s' hs => ?_) fun e s' hs => hs
  have fin : ∀ {σ' : St} {H' : Hp} {v : V} {u : Value}, Inv (cxOf CX P w K mg base N qual scope f cdv A outer s H E) [] σ' H' s' → RelV v u → Q v H' → CE outer P w H s Q u s' :=
    fun {σ' H' v u} J rv q => ⟨v, H', J.os, J.bare, J.base, J.hok, rv, q⟩
  cases fl with
  | ret u =>
    obtain ⟨v, σ', H', J, rv, q⟩ := hs
    exact fin J rv q
  | next =>
    obtain ⟨σ', H', J, q⟩ := hs
    exact fin (v := V.non) (u := Value.none) J rfl q
  | brk =>
    obtain ⟨_, _, _, q⟩ := hs
    exact False.elim q
  | cont =>
    obtain ⟨_, _, _, q⟩ := hs
    exact False.elim q
end L2
namespace L2
open PySem PySem.Spec PyProof.Rows
section
variable {X : Cx} {x : Str} {p pos : Pos} {e : Expr} {es : List Expr} {t : TA} {id T : String} {r : List V → Hp → VK → Prop}
def tCB (r : List V → Hp → VK → Prop) (t : TA) : TE := fun σ H Q => t σ H fun vs H1 => r vs H1 Q
/-- f(e, ..), f a built-in function -/
theorem pe_callB (hc : CallR X (.builtin id) r) (hg : Gl X x) (hm : X.mg x = none) (hv : bootBuiltins x = some (.builtin id)) (ha : PA X (e :: es) t) (hn : x ≠ "__name__" := by decide) (hdb : (x == ("__debug__" : Str)) = false := by decide)
    (he : starEach (e :: es) X.env = (false, eval e X.env) :: starEach es X.env := by rfl) (hpl : (backTo pos (starEach es X.env)).any (·.1) = false := by rfl) : PE X (.Call (.Name x p) (e :: es) [] pos) (tCB r t) := by
  intro pins s σ H Q I h
  refine wpAny_Call_Name_kw (ld_blt I hg hm hv ?_ hn hdb)
  exact PyProof.Rows.callWith_builtin1 (thn (ha pos pins s σ H _ I h) fun us s1 ⟨vs, H1, I1, r1, q1⟩ => hc pins s1 σ H1 vs us Q I1 r1 q1) he hpl
/-- T(e, ..), T a built-in type -/
theorem pe_callTy (hc : CallR X (.type T) r) (hg : Gl X x) (hm : X.mg x = none) (hv : bootBuiltins x = some (.type T)) (ha : PA X (e :: es) t) (hn : x ≠ "__name__" := by decide) (hdb : (x == ("__debug__" : Str)) = false := by decide)
    (he : starEach (e :: es) X.env = (false, eval e X.env) :: starEach es X.env := by rfl) (hpl : (backTo pos (starEach es X.env)).any (·.1) = false := by rfl) : PE X (.Call (.Name x p) (e :: es) [] pos) (tCB r t) := by
  intro pins s σ H Q I h
  refine wpAny_Call_Name_kw (ld_blt I hg hm hv ?_ hn hdb)
  exact PyProof.Rows.callWith_type1 (thn (ha pos pins s σ H _ I h) fun us s1 ⟨vs, H1, I1, r1, q1⟩ => hc pins s1 σ H1 vs us Q I1 r1 q1) he hpl
end
end L2
namespace HT
open PySem PyProof.Rows
section
open PySem.SeqAt
open PySem.AutoSeq1 (wpAny_loadPart')
open PySem.MeetsSeq PySem.MeetsSeq2 PySem.MeetsSeq3
end
section
variable {prog : Program} {w : World} {A : Around} {E : Value → Shared → Prop} {s : Shared}
/-! ### t[a:b], not the whole -/
end
end HT
namespace L2
open PySem PySem.Spec PyProof.Rows
/-! ### the parts of a slice -/
abbrev TO := St → Hp → (Option Int → Hp → Prop) → Prop
/-- a slice's part (left out, or an int) -/
def PO (X : Cx) (e : Option Expr) (t : TO) : Prop :=
  ∀ (pins : List (Addr × Obj)) (s : Shared) (σ : St) (H : Hp) (Q : Option Int → Hp → Prop), Inv X pins σ H s → t σ H Q →
    wpAny (model X.prog X.w) X.A (evalPart e X.env) (fun u s' => ∃ o H', Inv X pins σ H' s' ∧ IsPart u o ∧ Q o H') X.xe s
def tNoPart : TO := fun _ H Q => Q none H
def tPart (t : TE) : TO := fun σ H Q => t σ H fun x H1 => ∃ i, x = .int i ∧ Q (some i) H1
section
variable {X : Cx} {e : Expr} {te : TE} {lo hi : Option Expr} {tl th : TO} {pos p2 : Pos}
theorem po_none : PO X none tNoPart := by
  intro pins s σ H Q I h
  rw [evalPart_none]
  exact wpAny_pure ⟨none, H, I, .none, h⟩
theorem po_some (h : PE X e te) : PO X (some e) (tPart te) := by
  intro pins s σ H Q I hw
  rw [evalPart_some]
  refine thn (h pins s σ H _ I hw) fun u s1 ⟨x, H1, I1, r1, q1⟩ => ?_
  obtain ⟨i, rfl, q⟩ := q1
  obtain ⟨t, rfl⟩ := r1
  exact ⟨some i, H1, I1, .int i t, q⟩
/-- what a slice of a value is, by values: the slice object stands at sl -/
def SlR (X : Cx) (r : V → Option Int → Option Int → Hp → VK → Prop) : Prop :=
  ∀ (pins : List (Addr × Obj)) (s : Shared) (σ : St) (H : Hp) (x : V) (v vl vu : Value) (lo hi : Option Int) (sl : Addr) (Q : VK), Inv X pins σ H s → RelV x v → s.heap.IsSliceOf sl vl vu .none → IsPart vl lo → IsPart vu hi → r x lo hi H Q →
    ∃ T id, typeLookup (.type T) "__getitem__" = pure (some (.builtin id)) ∧ s.TypeIs v T ∧ wpAny (model X.prog X.w) X.A (getItem v (.ref sl)) (EP X pins σ Q) X.xe s
def tSl (r : V → Option Int → Option Int → Hp → VK → Prop) (te : TE) (tl th : TO) : TE := fun σ H Q => te σ H fun x H1 => tl σ H1 fun l H2 => th σ H2 fun u H3 => r x l u H3 Q
/-- a[lo:hi], any a -/
theorem pe_slice {r : V → Option Int → Option Int → Hp → VK → Prop} (hr : SlR X r) (he : PE X e te) (hl : PO X lo tl) (hu : PO X hi th) : PE X (.Subscript e (.Slice lo hi none p2) pos) (tSl r te tl th) := by
  intro pins s σ H Q I h
  refine Subscript_ (thn (he pins s σ H _ I h) fun v s1 ⟨x, H1, I1, r1, q1⟩ => ?_)
  refine wpAny_Slice (thn (hl pins s1 σ H1 _ I1 q1) fun vl s2 ⟨l, H2, I2, pl, q2⟩ => thn (hu pins s2 σ H2 _ I2 q2) fun vu s3 ⟨u, H3, I3, pu, q3⟩ => ?_)
  rw [evalPart_none]
  refine wpAny_pure ?_
  have I4 : Inv X pins σ H3 { s3 with heap := s3.heap.push { cls := .type "slice", data := .fields #[vl, vu, .none] } } := I3.kept (t' := s3.toks) fun b ob q => Heap.get?_push_of_some _ q
  obtain ⟨T, id, hT, ht, hg⟩ := hr pins { s3 with heap := s3.heap.push { cls := .type "slice", data := .fields #[vl, vu, .none] } } σ H3 x v vl vu l u s3.heap.objs.size Q I4 r1 (Heap.IsSliceOf.new ..) pl pu q3
  show wpAny (model X.prog X.w) X.A (subscriptTail e (.Slice lo hi none p2) v (.ref s3.heap.objs.size)) (EP X pins σ Q) X.xe { s3 with heap := s3.heap.push { cls := .type "slice", data := .fields #[vl, vu, .none] } }
  exact tail_any (ops := [.ref s3.heap.objs.size, v]) ht hT hg (by with_unfolding_all rfl)
/-! ### t < u, t + u -/
end
end L2
namespace L2
open PySem PySem.Spec PyProof.Rows
/-! ### places -/
/-- the place that an index of any sign means -/
def ixN (n : Nat) (i : Int) : Option Nat := if 0 ≤ i then (if i < n then some i.toNat else none) else if -(n : Int) ≤ i then some (i + n).toNat else none
def atI {α : Type} (xs : List α) (i : Int) : Option α := (ixN xs.length i).bind fun j => xs[j]?
theorem ixN_seq {n : Nat} {i : Int} {j : Nat} (h : ixN n i = some j) : seqIndex? i n = some j ∧ j < n ∧ -(n : Int) ≤ i ∧ i < n := by
  unfold ixN at h
  by_cases h0 : 0 ≤ i
  · rw [if_pos h0] at h
    by_cases h1 : i < n
    · rw [if_pos h1] at h
      have e : i.toNat = j := Option.some.inj h
      exact ⟨by rw [seqIndex_of h0 h1, e], by omega, by omega, h1⟩
    · rw [if_neg h1] at h; cases h
  · rw [if_neg h0] at h
    by_cases h1 : -(n : Int) ≤ i
    · rw [if_pos h1] at h
      have e : (i + n).toNat = j := Option.some.inj h
      exact ⟨by rw [seqIndex_neg (by omega) h1, e], by omega, h1, by omega⟩
    · rw [if_neg h1] at h; cases h
theorem atI_get {α : Type} {xs : List α} {i : Int} {v : α} (h : atI xs i = some v) : ∃ j, seqIndex? i xs.length = some j ∧ xs[j]? = some v ∧ j < xs.length ∧ -(xs.length : Int) ≤ i ∧ i < xs.length := by
  unfold atI at h
  cases e : ixN xs.length i with
  | none => rw [e] at h; cases h
  | some j =>
    rw [e] at h
    obtain ⟨h1, h2, h3, h4⟩ := ixN_seq e
    exact ⟨j, h1, h, h2, h3, h4⟩
/-! ### what may be subscripted -/
/-- what stands as an index of a plain subscript -/
def PlainIx (b : Expr) : Prop := ∀ o i, subscripted b false o i = operate [o, i] (getItem o i)
/-- a subscript by values -/
def IxR (X : Cx) (r : R2) : Prop :=
  ∀ (value slice : Expr) (pins : List (Addr × Obj)) (s : Shared) (σ : St) (H : Hp) (x y : V) (v u : Value) (Q : VK), Inv X pins σ H s → RelV x v → RelV y u → r x y H Q →
    subscripted slice false v u = operate [v, u] (getItem v u) → wpAny (model X.prog X.w) X.A (subscriptTail value slice v u) (EP X pins σ Q) X.xe s
/-- a call of a builtin's method by values: the receiver, the arguments -/
def MtR (X : Cx) (id : String) (r : V → List V → Hp → VK → Prop) : Prop :=
  ∀ (pins : List (Addr × Obj)) (s : Shared) (σ : St) (H : Hp) (x : V) (xs : List V) (v : Value) (us : List Value) (Q : VK), Inv X pins σ H s → RelV x v → Vals xs us → r x xs H Q →
    wpAny (model X.prog X.w) X.A (call (.builtin id) (v :: us)) (EP X pins σ Q) X.xe s
section
variable {X : Cx} {a b : Expr} {ta tb : TE} {pos : Pos}
theorem IxR.or {r r' : R2} (h : IxR X r) (h' : IxR X r') : IxR X (fun x y H Q => r x y H Q ∨ r' x y H Q) := by
  intro value slice pins s σ H x y v u Q I rx ry q hs
  rcases q with q | q
  · exact h value slice pins s σ H x y v u Q I rx ry q hs
  · exact h' value slice pins s σ H x y v u Q I rx ry q hs
/-- a[b] -/
theorem pe_ix {r : R2} (hr : IxR X r) (ha : PE X a ta) (hb : PE X b tb) (hs : PlainIx b) : PE X (.Subscript a b pos) (tOp r ta tb) := by
  intro pins s σ H Q I h
  exact Subscript_ (binT ha hb I h fun v u s2 x y H2 I2 rx ry q => hr a b pins s2 σ H2 x y v u Q I2 rx ry q (hs _ _))
def rIxL (K : PySem.W.Frag) : R2 := fun x y H Q => ∃ p xs i v, x = .ref p ∧ y = .int i ∧ SqL K H p xs ∧ atI xs i = some v ∧ Q v H
def rIxT (K : PySem.W.Frag) : R2 := fun x y H Q => ∃ p xs i v, x = .ref p ∧ y = .int i ∧ SqT K H p xs ∧ atI xs i = some v ∧ Q v H
def rIxS : R2 := fun x y H Q => ∃ z i c, x = .str z ∧ y = .int i ∧ z.length ≤ sizeLine ∧ atI z.cps.toList i = some c ∧ Q (.str ⟨#[c]⟩) H
theorem ix_list : IxR X (rIxL X.K) := by
  intro value slice pins s σ H x y v u Q I rx ry h hs
  obtain ⟨p, xs, i, z, rfl, rfl, hq, he, q⟩ := h
  cases rx
  obtain ⟨t, rfl⟩ := ry
  obtain ⟨its, r, pl, hz⟩ := I.list hq
  obtain ⟨j, h1, h2, h3, h4, h5⟩ := atI_get he
  obtain ⟨w, ew, rw'⟩ := r.get h2
  have hl := r.length
  have hn := line63
  have fin : EP X pins σ Q w s := ⟨z, H, I, rw', q⟩
  by_cases h0 : 0 ≤ i
  · have hj : i.toNat = j := by
      rw [seqIndex_of h0 h5] at h1
      exact Option.some.inj h1
    exact item_listR pl.isList h0 (by omega) (by rw [hj]; simpa using ew) fin hs
  · have hj : (i + (its.toArray.size : Int)).toNat = j := by
      rw [seqIndex_neg (by omega) h4] at h1
      rw [List.size_toArray, ← hl]
      exact Option.some.inj h1
    exact subscriptTail_builtinR (x := w) pl.isList.typeIs slot_list_getitem.lookup
      (wpAny_getItem_list_neg (Q := fun r s' => r = w ∧ EP X pins σ Q r s') pl.isList (by omega) (by rw [List.size_toArray] <;> omega) (by omega) (by rw [hj]; simpa using ew) ⟨rfl, fin⟩) hs
theorem ix_tup : IxR X (rIxT X.K) := by
  intro value slice pins s σ H x y v u Q I rx ry h hs
  obtain ⟨p, xs, i, z, rfl, rfl, hq, he, q⟩ := h
  cases rx
  obtain ⟨t, rfl⟩ := ry
  obtain ⟨its, r, pl, hz⟩ := I.tuple hq
  obtain ⟨j, h1, h2, h3, h4, h5⟩ := atI_get he
  obtain ⟨w, ew, rw'⟩ := r.get h2
  have hl := r.length
  have hn := line63
  have fin : EP X pins σ Q w s := ⟨z, H, I, rw', q⟩
  exact subscriptTail_builtinR (x := w) pl.typeIs slot_tuple_getitem.lookup
    (getItem_tuple (j := j) (Q := fun r s' => r = w ∧ EP X pins σ Q r s') pl (by omega) (by omega) (by rw [List.size_toArray, ← hl]; exact h1) (by simpa using ew) ⟨rfl, fin⟩) hs
theorem ix_str : IxR X rIxS := by
  intro value slice pins s σ H x y v u Q I rx ry h hs
  obtain ⟨z, i, c, rfl, rfl, hz, he, q⟩ := h
  obtain ⟨t, rfl⟩ := rx
  obtain ⟨t', rfl⟩ := ry
  obtain ⟨j, h1, h2, h3, h4, h5⟩ := atI_get he
  have hl : z.cps.toList.length = z.length := by simp [Str.length]
  rw [hl] at h1 h4 h5
  have hn := line63
  exact tail_any (typeIs_str s z t) slot_str_getitem.lookup (getItem_str (c := c) (by
    have e1 : decide (i < -(2 ^ 63 : Int)) = false := decide_eq_false (by omega)
    have e2 : decide (i ≥ 2 ^ 63) = false := decide_eq_false (by omega)
    rw [e1, e2, Bool.or_false]) (by rw [h1]; simpa using h2) ⟨.str ⟨#[c]⟩, H, I.tok _, ⟨_, rfl⟩, q⟩) hs
/-- list, tuple or str -/
def rIx (K : PySem.W.Frag) : R2 := fun x y H Q => rIxL K x y H Q ∨ rIxT K x y H Q ∨ rIxS x y H Q
theorem ix_seq : IxR X (rIx X.K) := ix_list.or (ix_tup.or ix_str)
/-! ### xs[i] = v, any sign -/
/-! ### slices -/
/-! ### in, not in: flat items -/
def flatV : V → Bool
  | .non => true
  | .bl _ => true
  | .int _ => true
  | .str _ => true
  | _ => false
/-- == of flat values -/
def eqV : V → V → Bool
  | .non, .non => true
  | .bl a, .bl b => a == b
  | .bl a, .int b => (if a then 1 else 0) == b
  | .int a, .bl b => a == (if b then 1 else 0)
  | .int a, .int b => a == b
  | .str a, .str b => a == b
  | _, _ => false
theorem eqAt_V {A : Around} {s : Shared} {y x : V} {u v : Value} (ry : RelV y u) (rx : RelV x v) (fy : flatV y = true) (fx : flatV x = true) : SeqAt.EqAt A s u v (eqV y x) := by
  cases y with
  | non =>
    cases ry
    cases x with
    | non => cases rx; exact SeqAt.EqAt.same _
    | bl b => cases rx; exact SeqAt.EqAt.none_bool b
    | int b => obtain ⟨t, rfl⟩ := rx; exact SeqAt.EqAt.none_int b t
    | str b => obtain ⟨t, rfl⟩ := rx; exact SeqAt.EqAt.none_str b t
    | _ => exact absurd (show false = true from fx) Bool.false_ne_true
  | bl a =>
    cases ry
    cases x with
    | non => cases rx; exact SeqAt.EqAt.bool_none a
    | bl b => cases rx; exact SeqAt.EqAt.bool_bool a b
    | int b => obtain ⟨t, rfl⟩ := rx; exact SeqAt.EqAt.bool_int a b t
    | str b => obtain ⟨t, rfl⟩ := rx; exact SeqAt.EqAt.bool_str a b t
    | _ => exact absurd (show false = true from fx) Bool.false_ne_true
  | int a =>
    obtain ⟨t', rfl⟩ := ry
    cases x with
    | non => cases rx; exact SeqAt.EqAt.int_none a t'
    | bl b => cases rx; exact SeqAt.EqAt.int_bool a t' b
    | int b => obtain ⟨t, rfl⟩ := rx; exact SeqAt.EqAt.int_int a t' b t
    | str b => obtain ⟨t, rfl⟩ := rx; exact SeqAt.EqAt.int_str a t' b t
    | _ => exact absurd (show false = true from fx) Bool.false_ne_true
  | str a =>
    obtain ⟨t', rfl⟩ := ry
    cases x with
    | non => cases rx; exact SeqAt.EqAt.str_none a t'
    | bl b => cases rx; exact SeqAt.EqAt.str_bool a t' b
    | int b => obtain ⟨t, rfl⟩ := rx; exact SeqAt.EqAt.str_int a t' b t
    | str b => obtain ⟨t, rfl⟩ := rx; exact SeqAt.EqAt.str_str a t' b t
    | _ => exact absurd (show false = true from fx) Bool.false_ne_true
  | _ => exact absurd (show false = true from fy) Bool.false_ne_true
/-- the items' answers, read off the values (a value's own answer does not lean on its token) -/
def eqU (x : V) (u : Value) : Bool := match u with
  | .none => eqV .non x
  | .bool b => eqV (.bl b) x
  | .int i _ => eqV (.int i) x
  | .str z _ => eqV (.str z) x
  | _ => false
theorem eqU_of {x y : V} {u : Value} (r : RelV y u) (f : flatV y = true) : eqU x u = eqV y x := by
  cases y with
  | non => cases r; rfl
  | bl b => cases r; rfl
  | int i => obtain ⟨t, rfl⟩ := r; rfl
  | str z => obtain ⟨t, rfl⟩ := r; rfl
  | _ => exact absurd (show false = true from f) Bool.false_ne_true
theorem any_eqU {x : V} : ∀ {xs : List V} {us : List Value}, Vals xs us → xs.all flatV = true → us.any (eqU x) = xs.any fun y => eqV y x
  | _, _, .nil, _ => rfl
  | y :: xs, u :: us, .cons r t, f => by
    rw [List.all_cons, Bool.and_eq_true] at f
    rw [List.any_cons, List.any_cons, eqU_of r f.1, any_eqU t f.2]
theorem mem_eqAt {A : Around} {s : Shared} {x : V} {v : Value} (rx : RelV x v) (fx : flatV x = true) : ∀ {xs : List V} {us : List Value}, Vals xs us → xs.all flatV = true → ∀ u ∈ us, SeqAt.EqAt A s u v (eqU x u)
  | _, _, .nil, _ => fun u hu => by cases hu
  | y :: xs, u :: us, .cons r t, f => fun u' hu => by
    rw [List.all_cons, Bool.and_eq_true] at f
    rcases List.mem_cons.mp hu with rfl | hu
    · rw [eqU_of r f.1]; exact eqAt_V r rx f.1 fx
    · exact mem_eqAt rx fx t f.2 u' hu
def inV (x : V) (xs : List V) : Bool := xs.any fun y => eqV y x
/-- x in a list or tuple of flat items -/
def rIn (K : PySem.W.Frag) (neg : Bool) : R2 := fun x y H Q => ∃ p xs, y = .ref p ∧ (SqL K H p xs ∨ SqT K H p xs) ∧ flatV x = true ∧ xs.all flatV = true ∧ Q (.bl (if neg then !inV x xs else inV x xs)) H
theorem op_in_seq : OpR X (compareOp .In) (rIn X.K false) := by
  intro pins s σ H x y v u Q I rx ry h
  obtain ⟨p, xs, rfl, hq, fx, fs, q⟩ := h
  cases ry
  rcases hq with hq | hq
  · obtain ⟨its, r, pl, hz⟩ := I.list hq
    refine SeqAt.in_listAt (eqU x) pl.isList (fun w hw => mem_eqAt rx fx r fs w (by simpa using hw)) ⟨.bl _, H, I, rfl, ?_⟩
    rw [show its.toArray.any (eqU x) = its.any (eqU x) by simp, any_eqU r fs]
    exact q
  · obtain ⟨its, r, pl, hz⟩ := I.tuple hq
    refine SeqAt.in_tupleAt (eqU x) pl (fun w hw => mem_eqAt rx fx r fs w (by simpa using hw)) ⟨.bl _, H, I, rfl, ?_⟩
    rw [show its.toArray.any (eqU x) = its.any (eqU x) by simp, any_eqU r fs]
    exact q
/-! ### len, list(x), tuple(x) of any list or tuple that is read -/
/-! ### the call of a builtin's method: o.m(..) -/
/-- the value is of that builtin type -/
def tyV (K : PySem.W.Frag) (T : String) (x : V) (H : Hp) : Prop := match x with
  | .str _ => T = "str"
  | .int _ => T = "int"
  | .ref p => (T = "list" ∧ ∃ xs, SqL K H p xs) ∨ (T = "tuple" ∧ ∃ o, K.lookup p = some o ∧ o.cls = .type "tuple" ∧ o.dict = none) ∨
      (T = "dict" ∧ ((∃ kvs, H p = some (.dK kvs)) ∨ ∃ kvs, H p = some (.dT kvs))) ∨ (T = "set" ∧ ∃ S n, H p = some (.set S n))
  | _ => False
theorem tyV_is {pins : List (Addr × Obj)} {σ : St} {H : Hp} {s : Shared} {T : String} {x : V} {v : Value} (I : Inv X pins σ H s) (r : RelV x v) (ty : tyV X.K T x H) :
    s.TypeIs v T ∧ ∀ a, v = .ref a → ∃ ob, s.heap.get? a = some ob ∧ ob.dict = none := by
  cases x with
  | str z =>
    obtain ⟨t, rfl⟩ := r
    cases (show T = "str" from ty)
    exact ⟨typeIs_str s z t, fun _ e => nomatch e⟩
  | int i =>
    obtain ⟨t, rfl⟩ := r
    cases (show T = "int" from ty)
    exact ⟨typeIs_int s i t, fun _ e => nomatch e⟩
  | ref p =>
    cases r
    rcases ty with ⟨rfl, xs, hq⟩ | ⟨rfl, o, hk, hc, hd⟩ | ⟨rfl, hk⟩ | ⟨rfl, S, n, hk⟩
    · obtain ⟨its, _, pl, _⟩ := I.list hq
      refine ⟨pl.isList.typeIs, fun a e => ?_⟩
      cases e
      obtain ⟨o, n, e, c, hd, _⟩ := pl
      exact ⟨o, e, hd⟩
    · refine ⟨⟨o, I.kIn p o hk, hc⟩, fun a e => ?_⟩
      cases e
      exact ⟨o, I.kIn _ o hk, hd⟩
    · have z : ∃ o, s.heap.get? p = some o ∧ o.ExactDict := by
        rcases hk with ⟨kvs, hk⟩ | ⟨kvs, hk⟩
        · obtain ⟨_, _, _, _, o, _, _, e, ex, _⟩ := I.hok p _ hk
          exact ⟨o, e, ex⟩
        · obtain ⟨_, _, _, _, o, _, _, e, ex, _⟩ := I.hok p _ hk
          exact ⟨o, e, ex⟩
      obtain ⟨o, e, ex⟩ := z
      refine ⟨⟨o, e, ex.1⟩, fun a e2 => ?_⟩
      cases e2
      exact ⟨o, e, ex.2.1⟩
    · obtain ⟨o, _, _, _, e, ex, _⟩ := I.hok p _ hk
      refine ⟨⟨o, e, ex.1⟩, fun a e2 => ?_⟩
      cases e2
      exact ⟨o, e, ex.2.1⟩
  | _ => exact False.elim ty
def tBM (K : PySem.W.Frag) (T : String) (r : V → List V → Hp → VK → Prop) (to : TE) (t : TA) : TE := fun σ H Q => to σ H fun x H1 => tyV K T x H1 ∧ t σ H1 fun xs H2 => r x xs H2 Q
variable {o e : Expr} {es : List Expr} {to : TE} {t : TA} {name : Str} {apos cpos : Pos} {T id : String} {r : V → List V → Hp → VK → Prop}
theorem pe_bm (pa : PlainAttrs T) (slot : Slot T name id) (hty : typeOf (.builtin id) = pure (.type "method_descriptor")) (hm : MtR X id r) (ho : PE X o to) (ha : PA X (e :: es) t)
    (hbase : attributeBase o name X.env (eval o X.env) = eval o X.env := by rfl)
    (hfew : ((backTo cpos (starEach (e :: es) X.env)).all (fun x => !x.1) && (backToKw cpos (keywordEach [] X.env)).all (fun x => x.1.isSome)
      && decide ((e :: es).length + ([] : List Keyword).length + (if ([] : List Keyword).isEmpty then 0 else 1) < 30)) = true := by rfl)
    (hline : (apos.endLine == cpos.line) = true := by rfl) (hs : starEach (e :: es) X.env = (false, eval e X.env) :: starEach es X.env := by rfl) (hplain : (backTo cpos (starEach es X.env)).any (·.1) = false := by rfl) :
    PE X (.Call (.Attribute o name apos) (e :: es) [] cpos) (tBM X.K T r to t) := by
  intro pins s σ H Q I h
  refine wpAny_Call_method_late hbase hfew hline rfl (thn (ho pins s σ H _ I h) fun v s1 ⟨x, H1, I1, r1, ty, q1⟩ => ?_)
  obtain ⟨h1, h2⟩ := tyV_is I1 r1 ty
  refine ⟨T, id, pa, slot, hty, h1, h2, ?_⟩
  have hA := ha cpos pins s1 σ H1 _ I1 q1
  rw [hs] at hA ⊢
  refine Calls.callWith_builtin (by show (false || (backTo cpos (starEach es X.env)).any (·.1)) = false; rw [hplain] <;> rfl) (Calls.evalArgs_plain ?_)
  exact thn hA fun us s2 ⟨vs, H2, I2, r2, q2⟩ => hm pins s2 σ H2 x vs v us Q I2 r1 r2 q2
/- xs.append(e), list.index on a module's tuple .. are MtR facts of 06m -/
end
end L2
namespace L2
open PySem PySem.Spec PyProof.Rows
/-! ### lists of values -/
section
variable {X : Cx} {pins : List (Addr × Obj)} {σ : St} {H : Hp} {s : Shared} {l b : Addr} {xs ys zs : List V}
/-! ### the two steps: a tracked list is rewritten, a new list is laid -/
theorem Inv.lnew {its : List Value} {t' : Nat} (I : Inv X pins σ H s) (hv : Vals ys its) (hz : ys.length ≤ sizeLine) :
    Inv X pins σ (upd H s.heap.objs.size (.lst ys)) { s with heap := s.heap.push { cls := .type "list", data := .seq its.toArray }, toks := t' } :=
  I.laid (fun _ _ q => Heap.get?_push_of_some _ q) (Nat.le_refl _) ⟨hz, its, 0, hv, Heap.get?_push_size _ rfl⟩
theorem Inv.fresh (I : Inv X pins σ H s) : H s.heap.objs.size = none := I.hok.fresh (Nat.le_refl _)
theorem Inv.lstM (I : Inv X pins σ H s) (hH : H l = some (.lst xs)) : xs.length ≤ sizeLine ∧ ∃ (its : List Value) (n : Nat), Vals xs its ∧ xs.length = its.length ∧ s.heap.get? l = some { cls := .type "list", data := .seq its.toArray n } := by
  obtain ⟨z, its, n, r, e⟩ := I.hok l _ hH
  exact ⟨z, its, n, r, r.length, e⟩
theorem notLongL {n : Nat} (h : n ≤ sizeLine) : Builtin.List.listTooLong n = false := by
  unfold Builtin.List.listTooLong
  exact decide_eq_false (by omega)
end
section
variable {X : Cx}
/-! ### methods -/
def rExtend : V → List V → Hp → VK → Prop := fun x vs H Q => ∃ l b xs zs, x = .ref l ∧ vs = [.ref b] ∧ H l = some (.lst xs) ∧ H b = some (.lst zs) ∧ xs.length + zs.length ≤ sizeLine ∧ Q .non (upd H l (.lst (xs ++ zs)))
/-! ### list + list, list += list, list * int -/
def rCat : R2 := fun x y H Q => ∃ l b xs zs, x = .ref l ∧ y = .ref b ∧ H l = some (.lst xs) ∧ H b = some (.lst zs) ∧ xs.length + zs.length ≤ sizeLine ∧ ∀ p, H p = none → Q (.ref p) (upd H p (.lst (xs ++ zs)))
theorem op_cat : OpR X (binaryOp .Add) rCat := by
  intro pins s σ H x y v u Q I rx ry h
  obtain ⟨l, b, xs, zs, rfl, rfl, hH, hB, hz, q⟩ := h
  cases rx
  cases ry
  obtain ⟨z, its, n, r, hl, e⟩ := I.lstM hH
  obtain ⟨z2, its2, n2, r2, hl2, e2⟩ := I.lstM hB
  refine PySem.P.add_list e e2 ?_ (by rw [List.size_toArray, List.size_toArray]; omega)
  have ea : its.toArray ++ its2.toArray = (its ++ its2).toArray := by simp
  rw [ea]
  exact ⟨.ref _, _, I.lnew (t' := s.toks) (r.append r2) (by rw [List.length_append]; omega), rfl, q _ I.fresh⟩
/-! ### del xs[i] -/
end
/-! ### xs[a:b] = ys -/
section
variable {prog : Program} {w : World} {A : Around} {E : Value → Shared → Prop} {s : Shared}
set_option maxRecDepth 100000 in
end
section
variable {X : Cx}
end
end L2
namespace L2
open PySem PySem.Spec PyProof.Rows
/-! ### lists of pairs as tables -/
section
variable {κ : Type} [DecidableEq κ]
end
/-! ### a tracked dict, its keys ints and texts or tuples of these -/
section
variable {P : Program} {w : World} {H : Hp} {h : Heap} {a : Addr}
end
section
variable {X : Cx} {pins : List (Addr × Obj)} {σ : St} {H : Hp} {s : Shared} {a : Addr} {y v : V} {u r : Value} {o : Option V} {A : Around} {E : Value → Shared → Prop}
end
section
variable {X : Cx} {pins : List (Addr × Obj)} {σ : St} {H : Hp} {s : Shared} {a : Addr} {kvs : List (Key × V)} {k : Key} {u : Value} {A : Around} {E : Value → Shared → Prop}
end
/-! ### readings and rules -/
section
variable {X : Cx} {o i e value : Expr} {pos pos' tpos : Pos} {td ty tv : TE}
end
/-! ### displays -/
section
variable {X : Cx} {pos : Pos}
end
/-! ### methods -/
section
variable {X : Cx} {pins : List (Addr × Obj)} {σ : St} {H : Hp} {s : Shared} {a : Addr} {y d : V} {u r : Value} {o : Option V} {A : Around} {E : Value → Shared → Prop}
end
section
variable {X : Cx} {o e f : Expr} {apos cpos : Pos} {td ty tx : TE}
end
/-! ### dict(d): a copy -/
section
variable {X : Cx} {pins : List (Addr × Obj)} {σ : St} {H : Hp} {s : Shared} {a : Addr} {kvs : List (Key × V)} {A : Around} {E : Value → Shared → Prop}
end
section
variable {X : Cx} {pins : List (Addr × Obj)} {σ : St} {H : Hp} {s : Shared} {a : Addr} {y : V} {u : Value} {A : Around} {E : Value → Shared → Prop}
end
end L2
namespace Att
open PySem PySem.W PySem.Calls PyProof.Rows
/-! ### the script -/
theorem ints_of_wellAll {P : Params} {h : Heap} : ∀ (ns : List Int) (vs : List Value), WellAll P h vs (ns.map WData.int) → IntsAre vs ns := by
  intro ns
  induction ns with
  | nil =>
    intro vs w
    rw [List.map_nil] at w
    cases w
    exact .nil
  | cons n ns ih =>
    intro vs w
    rw [List.map_cons] at w
    cases w with
    | cons a b =>
      cases a
      exact .cons _ _ (ih _ b)
theorem script_of {l : OpenLaw} {n : Nat} (hn : l.most = some n) {P : Params} {h : Heap} {args : List WData} {vals : List Value}
    (hpre : l.row.toRowW.claim.pre args = true) (hwl : WellAll P h vals args) :
    ∃ a vs ns, vals = [Value.ref a] ∧ args = [WData.list (ns.map WData.int)] ∧ h.get? a = some { cls := .type "list", data := .seq vs.toArray } ∧ IntsAre vs ns ∧ ns.length ≤ n := by
  have hsh : WShape.hasAll [] args [.list .int] = true := (pre_splitW hpre).1
  have hc : l.pre.holds [] { args := args } = true := (pre_splitW hpre).2
  obtain ⟨d, r, rfl, h1, h2⟩ := hasAllW_cons hsh
  obtain rfl := hasAllW_nil h2
  obtain ⟨xs, rfl, h3⟩ := hasW_list h1
  obtain ⟨ns, rfl⟩ := items_int h3
  have hlen : ns.length ≤ n := by
    unfold OpenLaw.pre at hc
    have h4 : (WTm.not (.lt (.lit (.int (n : Int))) (.len (.arg 0)))).holds [] { args := [.list (ns.map .int)] } = true := by
      have h4 := (holds_andW hc).1
      rw [hn] at h4
      exact h4
    have h5 := condW_of h4 (w_not (w_lt w_lit (w_len_list (w_arg rfl))))
    rw [List.length_map] at h5
    refine Nat.le_of_not_lt fun q => ?_
    have q' : (n : Int) < ((ns.length : Nat) : Int) := by omega
    first
      | (rw [decide_eq_true q'] at h5; exact absurd h5 (by decide))
      | (simp at h5; omega)
  cases hwl with
  | cons w1 w2 =>
    cases w2
    cases w1 with
    | list ho hall => exact ⟨_, _, ns, rfl, rfl, ho, ints_of_wellAll ns _ hall, hlen⟩
theorem post_true (l : OpenLaw) (args : List WData) : l.row.toRowW.claim.post args (.bool true) args = true :=
  postW_of (r := l.row.toRowW) (X := (true == true))
    (show WShape.has [] (.bool true) .bool = true by first | rfl | decide | simp [WShape.has, WShape.arms, WShape.armsAll])
    (show (WTm.eq .res (.lit (.bool true))).value [] { args := args, res := some (.bool true), after := args } = some (.bool (true == true)) from w_eq_bool (w_res rfl) w_lit) rfl
/-! ### the attachment: holds_open's last premise (the goal 'hc' behind k_head) from a wpAny of the law's body -/
/-- the same from a codeAny of the CALL (for a layer whose function contracts speak of calls) -/
theorem attach_call {l : OpenLaw} {n : Nat} {q : Program} {loose : List Str} {XP : (Str → Option Value) → Heap → Prop} {YP : World → Heap → Prop} {d : DefRec}
    (hn : l.most = some n) (hdf : d.params.defaults = [])
    (call : ∀ (w : World) (s₀ s₁ : Shared) (mg mb : Str → Option Value) (fa : Addr) (o : Obj) (pm cd doc : Value) (a : Addr) (vs : List Value) (ns : List Int),
      Ground q loose [] XP w s₀ mg mb s₁.heap → YP w s₁.heap →
      s₁.heap.get? fa = some o → o.data = .func (docDef d.name d.params d.body d.scope pm cd doc) → s₁.heap.CodeRec cd d.name → mg d.name = some (.ref fa) →
      s₁.heap.get? a = some { cls := .type "list", data := .seq vs.toArray } → IntsAre vs ns → ns.length ≤ n → s₁.gens = #[] →
      codeAny (model l.prog w) callerA (.call (.ref fa) ⟨[.ref a], []⟩) (fun r s' => r = .ok (.ret (.bool true)) ∧ OldK s₁.heap s'.heap ∧ s'.os = s₁.os ∧ AllBare s'.gens) s₁) :
    WalkO q loose XP YP l.row.toRowW d [] (fun f vs => PySem.call f vs) := by
  intro w s₀ s₁ mg mb G Y fa o pm cd doc dV kV ho hd hcd hD hmg hg args vals as hpre hlay hrd hwl hlo
  obtain rfl : dV = .none := Dflts.none hD hdf
  obtain rfl : kV = .none := Dflts.noKw hD
  obtain ⟨a, vs, ns, rfl, rfl, hobj, hints, hlen⟩ := script_of hn hpre hwl
  refine enter_call (codeAny_mono (call w s₀ s₁ mg mb fa o pm cd doc a vs ns G Y ho (fd_plain hd) hcd hmg hobj hints hlen hg) fun r s' hq => ?_)
  obtain ⟨rfl, h2, h3, h4⟩ := hq
  exact ⟨.inl ⟨.bool true, .bool true, [], rfl, fun _ => rfl, .bool true, post_true l _, fun _ => ⟨List.Pairwise.nil, fun _ hm => (nomatch hm)⟩⟩, h2, h3, h4⟩
/-! ### rules over ANY heap (no ledger) from facts about the written part K: the library's own take a ledger (News) for what they write -/
section
variable {prog : Program} {w : World} {A : Around} {E : Value → Shared → Prop} {s : Shared} {K : Frag}
/-! the whole heap as the ledger: makes every rule that writes through a ledger a rule over any heap -/
end
end Att
namespace L2
open PySem PySem.Spec PyProof.Rows
theorem vals_ints : ∀ {vs : List Value} {ns : List Int}, IntsAre vs ns → Vals (ns.map V.int) vs
  | _, _, .nil => .nil
  | _, _, .cons n t h => .cons ⟨t, rfl⟩ (vals_ints h)
/-- nothing is tracked but the script, known to the object (or it is an object of the module) -/
def Only (H : Hp) : Prop := ∀ b, H b = none ∨ ∃ o xs, H b = some (.frz o (.lst xs))
/-- THE HEAD: the law's promise, at the heap behind the top. F, the promise of the law's def, may use that base is part of the heap (so K.In base, base.Ns mainGlobals mg stand in Mod) -/
theorem law_call {P : Program} {w : World} {K : PySem.W.Frag} {mg mb : Str → Option Value} {CX : CXT} {k : Nat} {fa a : Addr} {fd : FuncData} {x : Str} {sp : Sp} {s₁ : Shared} {vs : List Value} {ns : List Int}
    (KX : K.In s₁.heap) (hns : s₁.heap.Ns mainGlobals mg) (hb : s₁.heap.Ns builtinsNs mb) (hbb : ∀ x : Str, x ≠ "__name__" → mb x = bootBuiltins x) (hlim : s₁.heap.NoLimit) (hg : s₁.gens = #[])
    (ha : s₁.heap.get? a = some { cls := .type "list", data := .seq vs.toArray }) (hi : IntsAre vs ns) (hl : ns.length ≤ sizeLine) (hr : Room k callerA)
    (F : ∀ base : Heap, K.In base → base.Ns mainGlobals mg → FnOk P w K mg base CX k fa fd [x] sp) (hbind : ∀ (s : Shared) (u : Value), BindsTo s fd ⟨[u], []⟩ [(x, u)])
    (hsp : ∀ H : Hp, Only H → SqL K H a (ns.map V.int) → sp [.ref a] H (fun v _ => v = .bl true) fun _ _ _ => False)
    (hCX : ∀ H e s', CX [] H s₁ (fun _ _ _ => False) e s' → False) :
    codeAny (model P w) callerA (.call (.ref fa) ⟨[.ref a], []⟩) (fun r s' => r = .ok (.ret (.bool true)) ∧ OldK s₁.heap s'.heap ∧ s'.os = s₁.os ∧ AllBare s'.gens) s₁ := by
  have rv := vals_ints hi
  have lenV := hi.length
  -- from an abstract heap in which nothing but the script may be tracked
  have core : ∀ H : Hp, Only H → SqL K H a (ns.map V.int) → HOk P w H s₁.heap → (∀ b, H b ≠ none → b = a) → (H a ≠ none → K.lookup a = none) →
      codeAny (model P w) callerA (.call (.ref fa) ⟨[.ref a], []⟩) (fun r s' => r = .ok (.ret (.bool true)) ∧ OldK s₁.heap s'.heap ∧ s'.os = s₁.os ∧ AllBare s'.gens) s₁ := by
    intro H hO hS hok hA hK
    have base_of : ∀ {b : Addr} {o : Obj}, s₁.heap.get? b = some o → H b = none → (hidT s₁.heap H).get? b = some o := fun e n => hidT_get e n
    have noA : ∀ {b : Addr} {o : Obj} {es : Array DictEntry} {ep : Nat}, s₁.heap.get? b = some o → o.data = .dict es ep → H b = none := fun {b o es ep} e d => by
      cases q : H b with
      | none => rfl
      | some u =>
        have e' : b = a := hA b (by rw [q]; simp)
        subst e'
        rw [ha] at e; cases e
        have d' : Data.seq vs.toArray _ = Data.dict es ep := d
        cases d'
    have nsK : ∀ {b : Addr} {m : Str → Option Value}, s₁.heap.Ns b m → (hidT s₁.heap H).Ns b m := fun {b m} ⟨o, es, ep, e, d, r⟩ => ⟨o, es, ep, base_of e (noA e d), d, r⟩
    have hKb : K.In (hidT s₁.heap H) := fun b o e => base_of (KX b o e) (by
      cases q : H b with
      | none => rfl
      | some u =>
        have e' : b = a := hA b (by rw [q]; simp)
        subst e'
        rw [hK (by rw [q]; simp)] at e; cases e)
    have hM : Mod K mg (hidT s₁.heap H) := ⟨hKb, nsK hns, ⟨mb, nsK hb, hbb⟩, let ⟨mc, h1, h2⟩ := hlim; ⟨mc, nsK h1, h2⟩⟩
    have e0 : Env0 P w K mg (hidT s₁.heap H) callerA [] s₁ H := ⟨rfl, hM, fun b o e => of_hidT e, Nat.le_of_eq (hidT_size _ _), trivial, fun b hb => absurd (show b ∈ ([] : List Addr) from hb) (by simp), hok, .of_eq hg⟩
    refine codeAny_mono ((F _ hKb (nsK hns)).run callerA [] s₁ H ⟨[.ref a], []⟩ [.ref a] [.ref a] _ _ hr e0 (hbind s₁ (.ref a)) (.cons rfl .nil) (hsp H hO hS)) fun r s' h => ?_
    cases r with
    | error e => exact (hCX H e s' h).elim
    | ok fl =>
      cases fl with
      | next => exact False.elim h
      | brk => exact False.elim h
      | cont => exact False.elim h
      | ret u =>
        obtain ⟨v, H', os, bare, un, hok', r', q⟩ := h
        have q' : v = .bl true := q
        subst q'
        obtain rfl : u = Value.bool true := r'
        refine ⟨rfl, OldK.of_keep fun b o e => ?_, os, bare⟩
        cases q : H b with
        | none => exact un.keep b o e q (by intro z; exact absurd (show b ∈ ([] : List Addr) from z) (by simp)) (by simp)
        | some u =>
          rcases hO b with z | ⟨ob, xs, z⟩
          · rw [q] at z; cases z
          · have z2 := un.frzs b ob _ z
            obtain ⟨e1, _⟩ := hok b _ z
            obtain ⟨e2, _⟩ := hok' b _ z2
            rw [e] at e1; cases e1
            exact e2
  cases hk : K.lookup a with
  | some o =>
    -- the script is one of the module's own objects
    have e := KX a o hk
    rw [ha] at e
    cases e
    refine core (fun _ => none) (fun _ => .inl rfl) (.inr ⟨_, vs.toArray, _, hk, rfl, rfl, rfl, by rw [List.size_toArray, lenV]; exact hl, by simpa using vals0_ints rv⟩) (fun b u z => by have z' : (none : Option HO) = some u := z; cases z') (fun b z => absurd rfl z) fun z => absurd rfl z
  | none =>
    refine core (fun b => if b = a then some (.frz { cls := .type "list", data := .seq vs.toArray } (.lst (ns.map V.int))) else none) (fun b => ?_) (.inl (.inr ⟨{ cls := .type "list", data := .seq vs.toArray }, if_pos rfl⟩)) (fun b u z => ?_) (fun b z => ?_) fun _ => hk
    · by_cases hb : b = a
      · exact .inr ⟨_, _, if_pos hb⟩
      · exact .inl (if_neg hb)
    · by_cases hb : b = a
      · have z' := (if_pos hb).symm.trans z
        cases z'
        subst hb
        exact ⟨ha, by rw [List.length_map]; exact hl, vs, _, rv, ha⟩
      · have z' := (if_neg hb).symm.trans z
        cases z'
    · by_cases hb : b = a
      · exact hb
      · exact absurd (if_neg hb) z
end L2
namespace L2
open PySem PySem.Spec PyProof.Rows
/-- the goal that k_head leaves (case hc), from the law's promise. F gives the function object fd (K's own) once, then the promise over every base -/
theorem walk_of {l : PySem.W.OpenLaw} {n k : Nat} {q : Program} {loose : List Str} {XP : (Str → Option Value) → Heap → Prop} {YP : World → Heap → Prop} {d : DefRec} {K : Params → PySem.W.Frag} {CX : World → CXT} {sp : World → Sp} {x : Str}
    (hn : l.most = some n) (hn2 : n ≤ sizeLine) (hdf : d.params.defaults = []) (hr : Room k callerA)
    (hY : ∀ (w : World) (h : Heap), YP w h → (K w.params).In h)
    (F : ∀ (w : World) (mg : Str → Option Value) (fa : Addr) (h : Heap), (K w.params).In h → h.Ns mainGlobals mg → mg d.name = some (.ref fa) →
      ∃ fd : FuncData, (∀ (s : Shared) (u : Value), BindsTo s fd ⟨[u], []⟩ [(x, u)]) ∧
        ∀ base : Heap, (K w.params).In base → base.Ns mainGlobals mg → FnOk l.prog w (K w.params) mg base (CX w) k fa fd [x] (sp w))
    (hsp : ∀ (w : World) (H : Hp) (a : Addr) (ns : List Int), ns.length ≤ n → Only H → SqL (K w.params) H a (ns.map V.int) → sp w [.ref a] H (fun v _ => v = .bl true) fun _ _ _ => False)
    (hCX : ∀ (w : World) (H : Hp) (s : Shared) (e : Value) (s' : Shared), CX w [] H s (fun _ _ _ => False) e s' → False) :
    PySem.W.WalkO q loose XP YP l.row.toRowW d [] (fun f vs => PySem.call f vs) := by
  refine Att.attach_call hn hdf fun w s₀ s₁ mg mb fa o pm cd doc a vs ns G Y ho hd hcd hmg hobj hints hlen hg => ?_
  have KX := hY w _ Y
  obtain ⟨fd, hb, hF⟩ := F w mg fa _ KX G.T.g hmg
  exact law_call KX G.T.g G.T.b G.T.builtins G.T.nolimit hg hobj hints (Nat.le_trans hlen hn2) hr hF hb (fun H hO hS => hsp w H a ns hlen hO hS) fun H e s' => hCX w H s₁ e s'
end L2
/- THE LAST THEOREM (shape; LID, My.* are yours):
   My.Adr: a structure of the addresses that your layer names (classes, functions); My.Txt K t: a structure (Prop) of the equations over K;
   My.txt_mk : {K} {implicit addresses ..} (e1 : nsIn K mainGlobals "law" = some (some (.ref f))) (e2 : K.lookup f = some ⟨oc, od, .func (fnOf "law" "law" params body scope dV kV doc pm an cdv ct), sl⟩) (e3 : codeIn K cdv "law" = true) .. : ∃ t, My.Txt K t
set_option maxRecDepth 100000 in
set_option maxHeartbeats 0 in
theorem PySem.Challenge.cw_LID_holds : PySem.Challenge.rw_LID.Holds := by
  w_on; o_law; k_head; (case hw => w_witness2)
  k_fill
  refine L2.walk_of (l := PySem.Challenge.rw_LID) (n := 63) (k := 40) (x := "script") (CX := fun w => ..) (sp := fun _ => My.sp_law) rfl (by decide) rfl ⟨rfl, by decide, by decide⟩ (fun w h Y => PySem.W.kIn_of Y) ?F ?S ?C
  case F =>
    intro w mg fa h KX G hmg
    have T : ∃ t, My.Txt (L2.KOf KX) t := by
      dsimp only [L2.KOf]                          -- K must stand as «<heap const> w.params» for k_is
      refine' My.txt_mk ?e1 ?e2 ?e3 ..
      (case e1 => PySem.W.k_is)                    -- in the order: a name -> its address -> its object -> its parts
      (case e2 => PySem.W.k_is)
      ..
    obtain ⟨t, T⟩ := T
    have e0 := hmg.symm.trans (PySem.W.mg_of KX G T.law)
    cases e0                                       -- fa is the law's own address
    exact ⟨_, fun s u => .of_eq rfl, fun base kb nb => My.law_fn T kb nb⟩     -- if «.of_eq rfl» comes too early: refine' ⟨_, ?b, fun base kb nb => My.law_fn T kb nb⟩; exact fun s u => .of_eq rfl
  case S => exact fun w H a ns hl hO hS => ..
  case C => exact ..
(the tactic k_is has no namespace: write k_is) -/
/-! SHORT WORDS over the layer: a def of the text, its body, what a loop and a test want. -/
namespace L2
open PySem PySem.Spec PyProof.Rows
/-! ### the text by places -/
def defArgs (s : Stmt) : Arguments := match s with
  | .FunctionDef _ a _ _ _ _ _ _ _ _ => a
  | _ => { posonlyargs := [], args := [], vararg := none, kwonlyargs := [], kw_defaults := [], kwarg := none, defaults := [] }
def defBody (s : Stmt) : List Stmt := match s with
  | .FunctionDef _ _ b _ _ _ _ _ _ _ => b
  | _ => []
def defScope (s : Stmt) : Scope := match s with
  | .FunctionDef _ _ _ _ _ _ sc _ _ _ => sc
  | _ => { kind := .function, names := [], isGenerator := false, isCoroutine := false }
/-! ### no exception leaves a def -/
abbrev CX0 : CXT := fun _ _ _ _ _ _ => False
abbrev E0 : XK := fun _ _ _ => False
/-! ### a def (or method) of the text as it stands behind the top -/
structure Fun (K : PySem.W.Frag) (x qual : Str) (st : Stmt) (f : Addr) (fd : FuncData) : Prop where
  ex : ∃ (oc : Value) (od : Option Addr) (kV doc pm : Value) (an : Option Addr) (cdv ct : Value) (osl : Array (Option Value)),
    fd = PySem.W.fnOf x qual (defArgs st) (defBody st) (defScope st) .none kV doc pm an cdv ct ∧ K.lookup f = some ⟨oc, od, .func fd, osl⟩ ∧ PySem.W.codeIn K cdv qual = true
  kp : PySem.W.keepIn K (.ref f) = true
section
variable {P : Program} {w : World} {K : PySem.W.Frag} {mg : Str → Option Value} {base : Heap}
/-- THE RULE for a def: its body as a term of rules, and the reading of that term -/
theorem Fun.ok {x qual : Str} {st : Stmt} {f : Addr} {fd : FuncData} {N ps : List Str} {k : Nat} {sp : Sp} (F : Fun K x qual st f fd) (S : FnScope N ps (defScope st)) (len : ∀ vs H Q E, sp vs H Q E → vs.length = ps.length)
    (hbody : ∀ (cdv : Value) (A : Around) (outer : List Env) (s : Shared) (H : Hp) (vs : List V) (Q : VK) (E : XK), Room k (A.deeper (envOfC qual (defScope st) s.heap.objs.size f cdv)) → sp vs H Q E →
      ∃ t, PSs (cxOf CX0 P w K mg base N qual (defScope st) f cdv A outer s H E).nox (defBody st) t ∧ t { nx := fun _ H' => Q .non H', rt := Q } (start N vs) H) : FnOk P w K mg base CX0 (k + 1) f fd ps sp := by
  obtain ⟨oc, od, kV, doc, pm, an, cdv, ct, osl, rfl, lk, hcd⟩ := F.ex
  refine fn_of lk hcd S len fun A outer s H vs Q E hr hsp => ?_
  obtain ⟨t, h, q⟩ := hbody cdv A outer s H vs Q E hr hsp
  exact ⟨t, h.nox, q⟩
/-- how its arguments bind (no defaults): h is «fun _ _ _ _ _ _ us hl => match us, hl with | [_, _], _ => rfl», one _ a parameter -/
theorem Fun.binds {x qual : Str} {st : Stmt} {f : Addr} {fd : FuncData} {ps : List Str} (F : Fun K x qual st f fd)
    (h : ∀ (kV doc pm : Value) (an : Option Addr) (cdv ct : Value) (us : List Value), us.length = ps.length → bindArgs (PySem.W.fnOf x qual (defArgs st) (defBody st) (defScope st) .none kV doc pm an cdv ct) ⟨us, []⟩ = pure (ps.zip us)) : Binds K fd ps [] := by
  obtain ⟨oc, od, kV, doc, pm, an, cdv, ct, osl, rfl, lk, hcd⟩ := F.ex
  exact .all (h kV doc pm an cdv ct)
theorem fun_mk {x qual : Str} {st : Stmt} {f : Addr} {oc : Value} {od an : Option Addr} {osl : Array (Option Value)} {kV doc pm cdv ct : Value} (l : K.lookup f = some ⟨oc, od, .func (PySem.W.fnOf x qual (defArgs st) (defBody st) (defScope st) .none kV doc pm an cdv ct), osl⟩)
    (c : PySem.W.codeIn K cdv qual = true) (k : PySem.W.keepIn K (.ref f) = true) : Fun K x qual st f (PySem.W.fnOf x qual (defArgs st) (defBody st) (defScope st) .none kV doc pm an cdv ct) := ⟨⟨oc, od, kV, doc, pm, an, cdv, ct, osl, rfl, l, c⟩, k⟩
end
theorem small1000 {n : Nat} (h : n ≤ 1000) : n < sizeLine := Nat.lt_of_le_of_lt h (by decide)
/-! ### expressions in short: the name that stands in the i-th slot -/
section
variable {X : Cx}
theorem pv (i : Nat) {x : Str} {pos : Pos} (hN : X.N[i]? = some x := by rfl) (hv : Vis X.env.scope x := by first | exact Or.inl rfl | exact Or.inr (Or.inl rfl) | exact Or.inr (Or.inr rfl)) (hd : (x == ("__debug__" : Str)) = false := by decide)
    (hcd : (x == ("__classdict__" : Str)) = false := by decide) : PE X (.Name x pos) (tVar i) := pe_var hN hv hd hcd
end
/-! ### tests -/
theorem iteF {A B : Prop} (h : B) : if false = true then A else B := by
  rw [if_neg Bool.false_ne_true]
  exact h
theorem iteT {A B : Prop} (h : A) : if true = true then A else B := by
  rw [if_pos rfl]
  exact h
theorem ite2 {c A B : Prop} [Decidable c] (h1 : c → A) (h2 : ¬ c → B) : if c then A else B := by
  by_cases h : c
  · rw [if_pos h]
    exact h1 h
  · rw [if_neg h]
    exact h2 h
/-! ### heaps -/
/-- all that was tracked is as it was -/
def Same (H H' : Hp) : Prop := ∀ b o, H b = some o → H' b = some o
theorem Same.refl (H : Hp) : Same H H := fun _ _ h => h
theorem Same.trans {H H1 H2 : Hp} (a : Same H H1) (b : Same H1 H2) : Same H H2 := fun c o h => b c o (a c o h)
theorem Same.seq {K : PySem.W.Frag} {H H' : Hp} {a : Addr} {xs : List V} (e : Same H H') (h : SqL K H a xs) : SqL K H' a xs := by
  rcases h with (h | ⟨o, h⟩) | h
  · exact .inl (.inl (e _ _ h))
  · exact .inl (.inr ⟨o, e _ _ h⟩)
  · exact .inr h
/-! ### a dict's pairs: keys that differ -/
section
variable {κ : Type} [DecidableEq κ]
end
end L2

set_option Elab.async false
set_option linter.all false
set_option maxRecDepth 100000
set_option maxHeartbeats 4000000
/-! more rules over the layer: sgV of a text, comprehensions, all, any, isinstance, tuples compared, join -/
namespace L2
open PySem PySem.Spec PyProof.Rows

/-! ### an iterator that walks a list of values, as long as the heap keeps Ok -/
structure ItOn (J : It) (xs : List V) (Ok : Hp → Prop) : Prop where
  go : ∀ i H, Ok H → i < xs.length → J.go i H
  yld : ∀ i H x H', Ok H → i < xs.length → J.yld i H x H' → H' = H ∧ xs[i]? = some x
  stop : ∀ i H, Ok H → xs.length ≤ i → J.stop i H
theorem ItOn.list {K : PySem.W.Frag} {a : Addr} {xs : List V} : ItOn (Itl K a) xs (fun H => SqL K H a xs) :=
  ⟨fun i H h hi => ⟨xs, xs[i], h, by simp [hi]⟩, fun i H x H' h _ y => ⟨y.1, y.2 xs h⟩, fun i H h hi => ⟨xs, h, hi⟩⟩
/-- a for loop over such an iterator: Pv what holds ahead of turn i -/
theorem for_on {J : It} {xs : List V} {Ok : Hp → Prop} (hJ : ItOn J xs Ok) {g : TG} {tb : TS} {D : Ends} {σ : St} {H : Hp} (Pv : Nat → St → Hp → Prop) (h0 : Pv 0 σ H) (hl : ∀ i σ H, i ≤ xs.length → Pv i σ H → Ok H)
    (hs : ∀ i x σ H, xs[i]? = some x → Pv i σ H → g x σ H fun σ2 H2 => tb { D with nx := Pv (i + 1), ct := Pv (i + 1), bk := D.nx } σ2 H2) (hd : ∀ σ H, Pv xs.length σ H → D.nx σ H) :
    ∃ W : Nat → Nat → St → Hp → Prop, (∃ m, W 0 m σ H) ∧ ∀ i m σ H, W i m σ H →
      (J.stop i H ∧ D.nx σ H) ∨ (J.go i H ∧ ∃ N : St → Hp → Prop, (∀ σ' H', N σ' H' → ∃ m', m' < m ∧ W (i + 1) m' σ' H') ∧ ∀ x H', J.yld i H x H' → g x σ H' fun σ2 H2 => tb { D with nx := N, ct := N, bk := D.nx } σ2 H2) := by
  refine ⟨fun i m σ H => m = xs.length - i ∧ i ≤ xs.length ∧ Pv i σ H, ⟨xs.length, by simp, Nat.zero_le _, h0⟩, ?_⟩
  rintro i m σ H ⟨rfl, hi, p⟩
  have q := hl i σ H hi p
  by_cases hlt : i < xs.length
  · refine .inr ⟨hJ.go i H q hlt, Pv (i + 1), fun σ' H' p' => ⟨xs.length - (i + 1), by omega, rfl, hlt, p'⟩, fun x H' y => ?_⟩
    obtain ⟨e, hy⟩ := hJ.yld i H x H' q hlt y
    subst e
    exact hs i x σ _ hy p
  · have e : i = xs.length := by omega
    subst e
    exact .inl ⟨hJ.stop _ H q (Nat.le_refl _), hd σ H p⟩

/-! ### the sgV of a text -/
def Its (x : Str) : It := ⟨fun i _ => i < x.cps.size, fun i H v H' => H' = H ∧ ∃ c, x.cps[i]? = some c ∧ v = .str ⟨#[c]⟩, fun i _ => x.cps.size ≤ i⟩
def sgV (x : Str) : List V := x.cps.toList.map fun c => V.str ⟨#[c]⟩
theorem sgV_length (x : Str) : (sgV x).length = x.cps.size := by unfold sgV; simp
theorem ItOn.str {x : Str} : ItOn (Its x) (sgV x) (fun _ => True) :=
  ⟨fun i H _ hi => by rw [sgV_length] at hi; exact hi, fun i H v H' _ _ y => by
    obtain ⟨e, c, hc, rfl⟩ := y
    refine ⟨e, ?_⟩
    unfold sgV
    rw [List.getElem?_map, Array.getElem?_toList, hc]
    rfl, fun i H _ hi => by rw [sgV_length] at hi; exact hi⟩
theorem turn_str {P : Program} {w : World} {K : PySem.W.Frag} {tg : Expr} {ty : String} (hty : ty = "str_ascii_iterator" ∨ ty = "str_iterator") (it : Addr) (x : Str) (t : Tok) :
    Turn P w K tg (Its x) [it] it (fun i h => h.IsStrIter it ty x t i) where
  mem := by simp
  obj := fun i h st b hb => by
    have e : b = it := by simpa using hb
    subst e
    obtain ⟨o, e, c, d⟩ := st
    exact ⟨o, e, fun v z => by rw [d] at z; cases z⟩
  keep := fun i h h' st k => let ⟨o, e, c, d⟩ := st; ⟨o, k it (by simp) o e, c, d⟩
  item := by
    intro X hP hw hK hc i pins s σ H E I hf st hg
    subst hP hw hK
    obtain ⟨f0, f1, f2, f3, f4, f5⟩ := hf it (by simp)
    have hlt : i < x.cps.size := hg
    rcases hty with rfl | rfl
    · refine wpAny_pyNext_ascii_item st (c := x.cps[i]) (by simp [hlt]) fun h' st' sb => ?_
      have I1 : Inv X pins σ H { s with heap := h', toks := s.toks + 1 } := I.turned (fun b o hb e => (sb.2 b hb).trans e) f0 f1 f3 f4 f5
      obtain ⟨o, e, c, d⟩ := id st'
      exact ⟨_, rfl, go_of (s := { s with heap := h', toks := s.toks + 1 }) e c d (by decide) ⟨.str ⟨#[x.cps[i]]⟩, H, I1, ⟨_, rfl⟩, ⟨rfl, _, by simp [hlt], rfl⟩, st', fun b hb => (hf b hb).1⟩⟩
    · refine wpAny_pyNext_wide_item st (c := x.cps[i]) (by simp [hlt]) fun h' st' sb => ?_
      have I1 : Inv X pins σ H { s with heap := h', toks := s.toks + 1 } := I.turned (fun b o hb e => (sb.2 b hb).trans e) f0 f1 f3 f4 f5
      obtain ⟨o, e, c, d⟩ := id st'
      exact ⟨_, rfl, go_of (s := { s with heap := h', toks := s.toks + 1 }) e c d (by decide) ⟨.str ⟨#[x.cps[i]]⟩, H, I1, ⟨_, rfl⟩, ⟨rfl, _, by simp [hlt], rfl⟩, st', fun b hb => (hf b hb).1⟩⟩
  done := by
    intro X hP hw hK hc i pins s σ H E I hf st hg
    subst hP hw hK
    obtain ⟨f0, f1, f2, f3, f4, f5⟩ := hf it (by simp)
    have hle : x.cps.size ≤ i := hg
    rcases hty with rfl | rfl
    · exact wpAny_pyNext_ascii_end (I.ok.hd hc) st (by simp; omega) fun h' eb => ⟨rfl, I.turned (t' := s.toks) (fun b o hb e => eb b o hb e) f0 f1 f3 f4 f5⟩
    · exact wpAny_pyNext_wide_end (I.ok.hd hc) st (by simp; omega) fun h' eb => ⟨rfl, I.turned (t' := s.toks) (fun b o hb e => eb b o hb e) f0 f1 f3 f4 f5⟩
  self := fun _ _ _ _ _ st h => by
    rcases hty with rfl | rfl
    · exact wpAny_pyIter_striter_ascii st h
    · exact wpAny_pyIter_striter_wide st h
section
variable {X : Cx} {tg : Expr}
def iStr (tl : TE) : TI := fun σ H R => tl σ H fun v H1 => ∃ x, v = .str x ∧ R (Its x) H1
theorem pi_str {l : Expr} {tl : TE} (hl : PE X l tl) : PI X tg l (iStr tl) := by
  intro pins s σ H R I h
  refine thn (hl pins s σ H _ I h) fun v s1 ⟨y, H1, I1, r1, q1⟩ => ?_
  obtain ⟨x, e, q⟩ := q1
  subst e
  obtain ⟨t, rfl⟩ := r1
  have fin : ∀ b ∈ [s1.heap.objs.size], FpOk X pins H1 b := fun b hb => by
    have e : b = s1.heap.objs.size := by simpa using hb
    subst e
    exact I1.fpOk (Nat.le_refl _) (I1.hok.fresh (Nat.le_refl _))
  cases ha : x.cps.all (· < 128)
  · refine wpAny_pyIter_wide ha ?_
    exact ⟨s1.heap.objs.size, [s1.heap.objs.size], _, _, H1, rfl, I1.kept (t' := s1.toks) fun b o e => Heap.get?_push_of_some _ e, turn_str (.inr rfl) _ x t, ⟨_, Heap.get?_push_size _ rfl, rfl, rfl⟩, fin, q⟩
  · refine wpAny_pyIter_ascii ha ?_
    exact ⟨s1.heap.objs.size, [s1.heap.objs.size], _, _, H1, rfl, I1.kept (t' := s1.toks) fun b o e => Heap.get?_push_of_some _ e, turn_str (.inl rfl) _ x t, ⟨_, Heap.get?_push_size _ rfl, rfl, rfl⟩, fin, q⟩
end
end L2

set_option Elab.async false
set_option linter.all false
set_option maxRecDepth 100000
set_option maxHeartbeats 4000000
/-! a list comprehension: one clause, at most one test -/
namespace L2
open PySem PySem.Spec PyProof.Rows

/-! ### the cells that a block sees -/
def clOf (env : Env) : List (Str × NameKind) → List (Str × Addr) → List (Str × Addr)
  | [], cs => cs
  | (n, k) :: r, cs => clOf env r (if k == .free then (match env.cells.lookup n with | some a => (n, a) :: cs | none => cs) else cs)
theorem forIn_fold {α β : Type} (f : α → β → Sem (ForInStep β)) (g : α → β → β) : ∀ (l : List α) (b : β), (∀ x ∈ l, ∀ r, f x r = pure (ForInStep.yield (g x r))) → forIn l b f = pure (l.foldl (fun r x => g x r) b)
  | [], b, _ => rfl
  | x :: l, b, h => by
    rw [List.forIn_cons, h x List.mem_cons_self, pure_bind]
    exact forIn_fold f g l _ fun y hy => h y (List.mem_cons_of_mem _ hy)
theorem clOf_fold {env : Env} : ∀ (names : List (Str × NameKind)) (cs : List (Str × Addr)), names.foldl (fun r x => if x.2 == .free then (match env.cells.lookup x.1 with | some a => (x.1, a) :: r | none => r) else r) cs = clOf env names cs
  | [], _ => rfl
  | (n, k) :: r, cs => by
    rw [List.foldl_cons]
    exact clOf_fold r _
theorem closure_of {env : Env} {scope : Scope} (h : ∀ x ∈ scope.names, x.2 = .free → ∃ a, env.cells.lookup x.1 = some a) : closureFor scope env = pure (clOf env scope.names []) := by
  simp only [closureFor]
  rw [forIn_fold _ (fun x r => if x.2 == .free then (match env.cells.lookup x.1 with | some a => (x.1, a) :: r | none => r) else r) scope.names [] (fun x hx r => by
    obtain ⟨n, k⟩ := x
    by_cases hk : k = .free
    · subst hk
      obtain ⟨a, ha⟩ := h (n, .free) hx rfl
      have ha' : env.cells.lookup n = some a := ha
      have e : cellOf env n = pure a := by unfold cellOf; rw [ha']
      simp only [beq_self_eq_true, if_true, e, pure_bind, ha']
    · have hb : (k == NameKind.free) = false := by simpa using hk
      simp only [hb, Bool.false_eq_true, if_false])]
  rw [clOf_fold]
  rfl
theorem clOf_mem {env : Env} : ∀ (names : List (Str × NameKind)) (cs : List (Str × Addr)) (x : Str) (c : Addr), (x, c) ∈ clOf env names cs → (x, c) ∈ cs ∨ ((x, NameKind.free) ∈ names ∧ env.cells.lookup x = some c)
  | [], cs, x, c, h => .inl h
  | (n, k) :: r, cs, x, c, h => by
    unfold clOf at h
    rcases clOf_mem r _ x c h with h1 | ⟨h1, h2⟩
    · by_cases hk : (k == NameKind.free) = true
      · rw [if_pos hk] at h1
        have hk' : k = .free := by simpa using hk
        subst hk'
        cases q : env.cells.lookup n with
        | none => rw [q] at h1; exact .inl h1
        | some a =>
          rw [q] at h1
          rcases List.mem_cons.mp h1 with e | h1
          · injection e with e1 e2
            subst e1 e2
            exact .inr ⟨List.mem_cons_self, q⟩
          · exact .inl h1
      · rw [if_neg hk] at h1; exact .inl h1
    · exact .inr ⟨List.mem_cons_of_mem _ h1, h2⟩
theorem clOf_keep {env : Env} : ∀ (names : List (Str × NameKind)) (cs : List (Str × Addr)) (x : Str), (∃ c, (x, c) ∈ cs) ∨ (x, NameKind.free) ∈ names → (∀ y ∈ names, y.2 = .free → ∃ a, env.cells.lookup y.1 = some a) → ∃ c, (x, c) ∈ clOf env names cs
  | [], cs, x, h, _ => by
    rcases h with h | h
    · exact h
    · exact nomatch h
  | (n, k) :: r, cs, x, h, hf => by
    unfold clOf
    refine clOf_keep r _ x ?_ fun y hy => hf y (List.mem_cons_of_mem _ hy)
    rcases h with ⟨c, h⟩ | h
    · refine .inl ⟨c, ?_⟩
      split
      · cases env.cells.lookup n with
        | none => exact h
        | some a => exact List.mem_cons_of_mem _ h
      · exact h
    · rcases List.mem_cons.mp h with e | h
      · injection e with e1 e2
        subst e1 e2
        obtain ⟨a, ha⟩ := hf (x, .free) List.mem_cons_self rfl
        refine .inl ⟨a, ?_⟩
        simp only [beq_self_eq_true, if_true, show env.cells.lookup x = some a from ha]
        exact List.mem_cons_self
      · exact .inr h
theorem lookup_of_mem {α β : Type} [BEq α] [LawfulBEq α] {x : α} : ∀ {l : List (α × β)} {c : β}, (x, c) ∈ l → ∃ d, l.lookup x = some d
  | (y, d) :: r, c, h => by
    by_cases e : x = y
    · subst e; exact ⟨d, by simp [List.lookup_cons]⟩
    · have hb : (x == y) = false := by simpa using e
      rcases List.mem_cons.mp h with h | h
      · injection h with h1 _; exact absurd h1 e
      · obtain ⟨d', q⟩ := lookup_of_mem h
        exact ⟨d', by simp [List.lookup_cons, hb, q]⟩

/-! ### the names of a block as they are relabelled -/
theorem relabel_seen {env : Env} {x : Str} : ∀ {names : List (Str × NameKind)}, (∀ y ∈ names, y.2 ≠ .cell) →
    ((names.map fun (n, k) => if (k == NameKind.free && env.scope.kind == .function && env.kindOf n == some .cell) then (n, NameKind.cell) else (n, k)).lookup x = some .cell ∨
     (names.map fun (n, k) => if (k == NameKind.free && env.scope.kind == .function && env.kindOf n == some .cell) then (n, NameKind.cell) else (n, k)).lookup x = some .free) → (x, NameKind.free) ∈ names
  | [], _, h => by simp at h
  | (n, k) :: r, hc, h => by
    have ih := relabel_seen (env := env) (x := x) (names := r) fun y hy => hc y (List.mem_cons_of_mem _ hy)
    have hk : k ≠ .cell := hc (n, k) List.mem_cons_self
    rw [List.map_cons] at h
    by_cases e : x = n
    · subst e
      by_cases hf : k = .free
      · subst hf; exact List.mem_cons_self
      · have hb : (k == NameKind.free) = false := by simpa using hf
        simp [List.lookup_cons, hb] at h
        rcases h with h | h
        · exact absurd h hk
        · exact absurd h hf
    · have hb : (x == n) = false := by simpa using e
      refine List.mem_cons_of_mem _ (ih ?_)
      by_cases c : (k == NameKind.free && env.scope.kind == .function && env.kindOf n == some .cell) = true
      · simpa [List.lookup_cons, hb, c] using h
      · simpa [List.lookup_cons, hb, c] using h
theorem relabel_free {env : Env} {x : Str} (he : env.kindOf x = some .cell ∨ env.kindOf x = some .free) (hk : env.scope.kind = .function) : ∀ {names : List (Str × NameKind)}, names.lookup x = some .free →
    ((names.map fun (n, k) => if (k == NameKind.free && env.scope.kind == .function && env.kindOf n == some .cell) then (n, NameKind.cell) else (n, k)).lookup x = some .cell ∨
     (names.map fun (n, k) => if (k == NameKind.free && env.scope.kind == .function && env.kindOf n == some .cell) then (n, NameKind.cell) else (n, k)).lookup x = some .free)
  | [], h => by simp at h
  | (n, k) :: r, h => by
    rw [List.map_cons]
    dsimp only
    by_cases e : x = n
    · subst e
      simp only [List.lookup_cons, beq_self_eq_true] at h
      have h' : k = .free := Option.some.inj h
      subst h'
      by_cases c : (NameKind.free == NameKind.free && env.scope.kind == .function && env.kindOf x == some .cell) = true
      · rw [if_pos c]; left; simp [List.lookup_cons]
      · rw [if_neg c]; right; simp [List.lookup_cons]
    · have hb : (x == n) = false := by simpa using e
      simp only [List.lookup_cons, hb] at h
      have ih := relabel_free he hk h
      by_cases c : (k == NameKind.free && env.scope.kind == .function && env.kindOf n == some .cell) = true
      · rw [if_pos c]; simp only [List.lookup_cons, hb]; exact ih
      · rw [if_neg c]; simp only [List.lookup_cons, hb]; exact ih

/-- the context of a block: s₀, H₀ the state at its entry (the iterator stands), C its own names, cl the cells that it sees, fp the iterator's records -/
def cxLc (X : Cx) (N : List Str) (scope : Scope) (C : Addr) (s₀ : Shared) (H₀ : Hp) (fp : List Addr) : Cx where
  prog := X.prog
  w := X.w
  K := X.K
  mg := X.mg
  base := X.base
  A := X.A
  N := N
  s₀ := s₀
  H₀ := H₀
  env := compEnvC scope (clOf X.env scope.names []) C X.env
  outer := X.stack
  stack := X.stack
  ex := fp
  fn := fun _ => false
  calm := X.calm
  pn := []
  xe := fun _ _ => False
/-- what a block's scope must be: its own name x, then the seen names ys, which stand at the places js of the def -/
structure LcScope (X : Cx) (scope : Scope) (x : Str) (ys : List Str) (js : List Nat) : Prop where
  kind : scope.kind = .function
  nocell : ∀ y ∈ scope.names, y.2 ≠ .cell
  locs : ∀ y ∈ scope.names, y.2 = .local → scope.names.lookup y.1 = some .local
  own : scope.names.lookup x = some .local
  seen : ∀ y ∈ ys, scope.names.lookup y = some .free
  out : ∀ y ∈ scope.names, y.2 = .free → X.env.kindOf y.1 = some .cell ∨ X.env.kindOf y.1 = some .free
  places : js.map (fun j => X.N[j]?) = ys.map some
  nd : (x :: ys).Nodup
/-- the values of the seen names -/
def seenV (σ : St) (js : List Nat) : St := js.map fun j => (σ[j]?).join

section
variable {X : Cx} {pins : List (Addr × Obj)} {σ : St} {H : Hp} {s : Shared} {scope : Scope} {x : Str} {ys : List Str} {js : List Nat} {fp : List Addr} {C D : Addr} {h1 : Heap}

theorem LcScope.cells (L : LcScope X scope x ys js) (I : Inv X pins σ H s) : ∀ y ∈ scope.names, y.2 = .free → ∃ a, X.env.cells.lookup y.1 = some a := fun y hy hf => I.ok.has y.1 (L.out y hy hf)
theorem LcScope.sub (L : LcScope X scope x ys js) {y : Str} {c : Addr} (h : (clOf X.env scope.names []).lookup y = some c) : X.env.cells.lookup y = some c ∧ (y, NameKind.free) ∈ scope.names := by
  rcases clOf_mem scope.names [] y c (PySem.mem_of_lookup h) with z | ⟨z1, z2⟩
  · exact nomatch z
  · exact ⟨z2, z1⟩
theorem LcScope.has (L : LcScope X scope x ys js) (I : Inv X pins σ H s) {y : Str} (h : (y, NameKind.free) ∈ scope.names) : ∃ c, (clOf X.env scope.names []).lookup y = some c := by
  obtain ⟨c, q⟩ := clOf_keep scope.names [] y (.inr h) (L.cells I)
  exact lookup_of_mem q

/-- the block's entry -/
theorem Inv.block (L : LcScope X scope x ys js) (I : Inv X pins σ H s) (hf : ∀ b ∈ fp, FpOk X pins H b) (ho : ∀ b ∈ fp, ∃ o, s.heap.get? b = some o) (hC : s.heap.objs.size ≤ C) (old : ∀ b o, s.heap.get? b = some o → h1.get? b = some o) {m : Str → Option Value} (hn : h1.Ns C m) {t' : Nat} :
    Inv (cxLc X (x :: ys) scope C s H fp) [] (none :: seenV σ js) H { s with heap := h1, toks := t' } := by
  have fpC : ∀ b ∈ fp, b ≠ C := fun b hb z => by
    obtain ⟨o, e⟩ := ho b hb
    exact absurd (Nat.lt_of_lt_of_le (Heap.lt_size e) (by rw [z]; exact hC)) (Nat.lt_irrefl _)
  refine ⟨⟨I.ok.mod, L.kind, I.ok.glob, I.ok.blt, hC, fun y z c h1 h2 => ?_, fun y hy => ?_, fun y c h => (nomatch h), I.ok.hd, I.ok.frames, .inl rfl, fun b hb => ⟨fpC b hb, fun y c e => ?_⟩, I.bs, Nat.le_trans I.ok.bsz I.sz, fun b o e hb => ?_, fun b hb z => ?_, I.stack, I.stkFree⟩,
    rfl, I.bare, Un.kept old, ⟨m, hn, fun i y v e1 e2 e3 => ?_⟩, fun y c e => ?_, I.hok.fresh hC, fun y c e => ?_, fun p hp => (nomatch hp), I.hok.kept old, ?_⟩
  · exact I.ok.inj y z c (L.sub h1).1 (L.sub h2).1
  · have hy' : (y, NameKind.free) ∈ scope.names := relabel_seen (env := X.env) L.nocell hy
    exact L.has I hy'
  · exact (hf b hb).2.2.2.2.1 y c (L.sub e).1
  · rcases (hf b hb).2.2.2.1 with z | z
    · exact I.ok.noex b o e z
    · exact absurd (Nat.lt_of_lt_of_le (Heap.lt_size e) (Nat.le_trans I.ok.bsz z)) (Nat.lt_irrefl _)
  · rcases List.mem_cons.mp (I.stkSub b z) with z | z
    · exact (hf b hb).2.1 z
    · exact (hf b hb).2.2.1 z
  · cases i with
    | zero => exact absurd e2 (by simp)
    | succ i =>
      have e1' : ys[i]? = some y := by simpa [cxLc] using e1
      have e2' : (seenV σ js)[i]? = some (some v) := by simpa using e2
      have hj : ∃ j, js[i]? = some j := by
        unfold seenV at e2'
        rw [List.getElem?_map] at e2'
        cases q : js[i]? with
        | none => rw [q] at e2'; cases e2'
        | some j => exact ⟨j, rfl⟩
      obtain ⟨j, hj⟩ := hj
      have pj : X.N[j]? = some y := by
        have q := congrArg (fun l => l[i]?) L.places
        simp only [List.getElem?_map, hj, e1', Option.map_some] at q
        exact Option.some.inj q
      have vj : σ[j]? = some (some v) := by
        unfold seenV at e2'
        rw [List.getElem?_map, hj, Option.map_some] at e2'
        have e3' := Option.some.inj e2'
        cases q : σ[j]? with
        | none => rw [q] at e3'; cases e3'
        | some o => rw [q] at e3'; exact congrArg some e3'
      have ym : y ∈ ys := List.mem_of_getElem? e1'
      have yl := L.seen y ym
      have yf : (y, NameKind.free) ∈ scope.names := PySem.mem_of_lookup yl
      have yo := L.out _ yf rfl
      obtain ⟨m0, hn0, hl0⟩ := I.loc
      have vis : Vis X.env.scope y := .inr yo
      obtain ⟨u, r, l⟩ := hl0 j y v pj vj vis
      refine ⟨u, r, ?_⟩
      rcases l with ⟨k, _⟩ | ⟨k, c, ec, z⟩
      · rcases yo with q | q <;> (rw [k] at q; cases q)
      · obtain ⟨c', ec'⟩ := L.has I yf
        have ecc := (L.sub ec').1
        rw [ec] at ecc
        cases ecc
        obtain ⟨oc, hoc, hd⟩ := z
        exact .inr ⟨relabel_free yo I.ok.kind yl, c, ec', ⟨oc, old _ _ hoc, hd⟩⟩
  · obtain ⟨v, oc, hoc, hd⟩ := I.cell y c (L.sub e).1
    exact ⟨v, oc, old _ _ hoc, hd⟩
  · exact I.freeC y c (L.sub e).1
  · show (none :: seenV σ js).length = (x :: ys).length
    have q := congrArg List.length L.places
    rw [List.length_map, List.length_map] at q
    unfold seenV
    rw [List.length_cons, List.length_cons, List.length_map, q]

/-- behind the block: D, which was laid in it, holds the list -/
theorem Inv.unblock {pc : List (Addr × Obj)} {σc : St} {H' : Hp} {s' : Shared} {N : List Str} {acc : List V} {its : List Value} {n : Nat} {h' : Heap} (I : Inv X pins σ H s) (hf : ∀ b ∈ fp, FpOk X pins H b) (hD : s.heap.objs.size ≤ D) (hC : s.heap.objs.size ≤ C) (hDC : D ≠ C)
    (J : Inv (cxLc X N scope C s H fp) pc σc H' s') (hHD : H' D = none) (rv : Vals acc its) (hz : acc.length ≤ sizeLine) (hd : s'.heap.get? D = some { cls := .type "list", data := .seq its.toArray n }) (sb : Heap.SameBut C s'.heap h') :
    Inv X pins σ (upd H' D (.lst acc)) { s' with heap := h' } := by
  have lt : ∀ b o, s.heap.get? b = some o → b ≠ C ∧ b ≠ D := fun b o e => ⟨Nat.ne_of_lt (Nat.lt_of_lt_of_le (Heap.lt_size e) hC), Nat.ne_of_lt (Nat.lt_of_lt_of_le (Heap.lt_size e) hD)⟩
  have B : Un (frs X.stack) fp H H' s.heap s'.heap := J.base
  refine I.call' (ch := fp) (s' := { s' with heap := h' }) J.os ⟨fun b o e n hb hx => ?_, fun b o e n hb hx => ?_, fun b o e n hx => ?_, fun b o e hx => ?_, fun b xs e => ?_, fun b o u e => ?_, fun b ps e => ?_⟩ ?_ J.bare ?_
  · exact (sb.2 b (lt b o e).1).trans (B.keep b o e n hb hx)
  · obtain ⟨sl, q⟩ := B.slot b o e n hb hx
    exact ⟨sl, (sb.2 b (lt b o e).1).trans q⟩
  · rw [upd_ne (lt b o e).2]; exact B.free b o e n hx
  · obtain ⟨o', q⟩ := B.there b o e hx
    exact ⟨o', (sb.2 b (lt b o e).1).trans q⟩
  · have q := B.tups b xs e
    rw [upd_ne (ne_of_none q hHD)]; exact q
  · have q := B.frzs b o u e
    rw [upd_ne (ne_of_none q hHD)]; exact q
  · obtain ⟨more, q⟩ := B.tbls b ps e
    exact ⟨more, by rw [upd_ne (ne_of_none q hHD)]; exact q⟩
  · intro b u e
    by_cases hb : b = D
    · subst hb
      rw [upd_same] at e
      cases e
      exact ⟨hz, its, n, rv, (sb.2 _ hDC).trans hd⟩
    · rw [upd_ne hb] at e
      have hCn : H' C = none := J.free
      refine (J.hok b u e).stay (fun c v hc q => (sb.2 c ?_).trans q) (fun c q => by rw [upd_ne (ne_of_none q hHD)]; exact q) fun c xs q => by rw [upd_ne (ne_of_none q hHD)]; exact q
      rcases hc with z | z
      · rw [z]; exact ne_of_none e hCn
      · exact ne_of_none z hCn
  · intro b hb
    obtain ⟨_, f1, _, f3, f4, f5⟩ := hf b hb
    exact ⟨f3, f1, f4, f5⟩
end

/-- a turn of the block, the step ahead of the store kept -/
theorem compLoop_tests {prog : Program} {w : World} {A : Around} {R : Result → Shared → Prop} {s : Shared} {elt target iter : Expr} {ifs : List Expr} {scope : Scope} {pos : Pos} {it acc : Value} {env : Env} (I : Nat → Shared → Prop)
    (turn : ∀ n s, I n s → wpAny (model prog w) A (pyNext it) (fun r s₁ => match r with
      | none => R (.ok .next) s₁
      | some v => wpAny (model prog w) A (letOwnedTupleGo target it v) (fun _ s₁' => wpAny (model prog w) A (assign target env v) (fun _ s₂ =>
          wpAny (model prog w) A (forIn ifs true fun c r => if r = true then do let ok ← isTrue c env (eval c env); pure (ForInStep.yield ok) else pure (ForInStep.yield r)) (fun ok s₃ =>
            if ok = true then wpAny (model prog w) A (eval elt env) (fun x s₄ =>
              wpAny (model prog w) A (call (.builtin "list.append") [acc, x]) (fun _ s₅ => ∃ m, m < n ∧ I m s₅) (notedBy (model prog w) A env fun e s' => R (.error e) s') s₄) (notedBy (model prog w) A env fun e s' => R (.error e) s') s₃
            else ∃ m, m < n ∧ I m s₃) (notedBy (model prog w) A env fun e s' => R (.error e) s') s₂) (notedBy (model prog w) A env fun e s' => R (.error e) s') s₁') (notedBy (model prog w) A env fun e s' => R (.error e) s') s₁) (notedBy (model prog w) A env fun e s' => R (.error e) s') s)
    (n : Nat) (h : I n s) :
    codeAny (model prog w) A (.compLoop (.ListComp elt [⟨target, iter, ifs, 0⟩] scope pos) 0 it acc env) R s := by
  refine codeAny_loop rfl I (fun n s hI => ?_) n h
  show wpAny _ A ((compTurn (.ListComp elt [⟨target, iter, ifs, 0⟩] scope pos) 0 it acc env).onRaise (fun x => do noteFrame x env; theTreesLotGoes x)) _ _ s
  refine wpAny_noted ?_
  rw [compTurn_list]
  refine wpAny_bind (wpAny_standAt (wpAny_bind (wpAny_mono (turn n s hI) (fun r s₁ h₁ => ?_) fun _ _ h' => h')))
  cases r with
  | none => exact wpAny_pure h₁
  | some v =>
    refine wpAny_bind (wpAny_mono h₁ (fun _ s₁' h₁' => ?_) fun _ _ h' => h')
    refine wpAny_bind (wpAny_mono h₁' (fun _ s₂ h₂ => wpAny_bind (wpAny_mono h₂ (fun ok s₃ h₃ => ?_) fun _ _ h' => h')) fun _ _ h' => h')
    cases ok with
    | false => exact wpAny_pure ⟨rfl, h₃⟩
    | true =>
      exact wpAny_bind (wpAny_bind (wpAny_mono h₃ (fun x s₄ h₄ => wpAny_bind (wpAny_mono h₄ (fun _ s₅ h₅ => wpAny_pure (wpAny_pure ⟨rfl, h₅⟩)) fun _ _ h' => h')) fun _ _ h' => h'))

/-- the reading: W by the turn, a measure, the list so far -/
def LcW (J : It) (tc : TT) (te : TE) (js : List Nat) (σ : St) (Q : VK) (H1 : Hp) : Prop := ∃ W : Nat → Nat → List V → Hp → Prop, (∃ m, W 0 m [] H1) ∧ ∀ i m acc H, W i m acc H → acc.length ≤ sizeLine ∧
  ((J.stop i H ∧ ∀ p, H p = none → Q (.ref p) (upd H p (.lst acc))) ∨
   (J.go i H ∧ acc.length < sizeLine ∧ ∀ x H', J.yld i H x H' → tc (some x :: seenV σ js) H' fun b H3 => if b = true then te (some x :: seenV σ js) H3 fun v H4 => ∃ m', m' < m ∧ W (i + 1) m' (acc ++ [v]) H4 else ∃ m', m' < m ∧ W (i + 1) m' acc H3))
def tLc (wi : TI) (tc : TT) (te : TE) (js : List Nat) : TE := fun σ H Q => wi σ H fun J H1 => LcW J tc te js σ Q H1
/-- no test -/
def tYes : TT := fun _ H Q => Q true H
/-- a list of tests, at most one -/
def PTs (X : Cx) (ifs : List Expr) (tc : TT) : Prop := (ifs = [] ∧ tc = tYes) ∨ ∃ c, ifs = [c] ∧ PT X c tc
theorem pts_none {X : Cx} : PTs X [] tYes := .inl ⟨rfl, rfl⟩
theorem PTs.run {X : Cx} {ifs : List Expr} {tc : TT} (h : PTs X ifs tc) {pins : List (Addr × Obj)} {s : Shared} {σ : St} {H : Hp} {Q : Bool → Hp → Prop} (I : Inv X pins σ H s) (q : tc σ H Q) :
    wpAny (model X.prog X.w) X.A (forIn ifs true fun c r => if r = true then do let ok ← isTrue c X.env (eval c X.env); pure (ForInStep.yield ok) else pure (ForInStep.yield r)) (TP X pins σ Q) X.xe s := by
  rcases h with ⟨rfl, rfl⟩ | ⟨c, rfl, h⟩
  · exact wpAny_tests_nil ⟨H, I, q⟩
  · exact wpAny_tests_one (h pins s σ H Q I q)

theorem pe_lc {X : Cx} {elt iter : Expr} {ifs : List Expr} {scope : Scope} {pos px : Pos} {x : Str} {ys : List Str} {js : List Nat} {wi : TI} {tc : TT} {te : TE} (hc : X.calm = true) (L : LcScope X scope x ys js) (hi : PI X (.Name x px) iter wi)
    (ht : ∀ C s₀ H₀ fp, PTs (cxLc X (x :: ys) scope C s₀ H₀ fp) ifs tc) (he : ∀ C s₀ H₀ fp, PE (cxLc X (x :: ys) scope C s₀ H₀ fp) elt te)
    (hs : ∀ z, foldedSetIterable iter X.env z = pure z := by intro _; rfl) :
    PE X (.ListComp elt [⟨.Name x px, iter, ifs, 0⟩] scope pos) (tLc wi tc te js) := by
  intro pins s σ H Q I h
  rw [eval_ListComp]
  refine wpAny_comprehension_free (use := none) rfl hs (closure_of (L.cells I)) L.kind L.locs (thn (hi pins s σ H _ I h) fun v s1 h1 => thn h1 fun itv s2 h2 => ?_)
  obtain ⟨it, fp, tn, J, H2, e, I2, T, st2, f2, W, ⟨m0, w0⟩, turn⟩ := h2
  subst e
  have ho2 : ∀ b ∈ fp, ∃ o, s2.heap.get? b = some o := fun b hb => let ⟨o, e, _⟩ := T.obj _ _ st2 b hb; ⟨o, e⟩
  refine wpAny_newObj_type (wpAny_newFunctionEnv L.nocell (by intro y hy; simp at hy) (fun h1 hns1 hsb1 => ?_) L.kind)
  dsimp only at hns1 hsb1 ⊢
  generalize hH2 : s2.heap.push { cls := .type "list", dict := none, data := .seq ([] : List Value).toArray } = G2 at hns1 hsb1 ⊢
  have hC : G2.objs.size = s2.heap.objs.size + 1 := by rw [← hH2, Heap.size_push]
  have hCle : s2.heap.objs.size ≤ G2.objs.size := by rw [hC]; exact Nat.le_succ _
  have hDC : s2.heap.objs.size ≠ G2.objs.size := by rw [hC]; exact Nat.ne_of_lt (Nat.lt_succ_self _)
  have old : ∀ b o, s2.heap.get? b = some o → h1.get? b = some o := fun b o e => hsb1.extBut b o (by rw [hC]; exact Nat.ne_of_lt (Nat.lt_succ_of_lt (Heap.lt_size e))) (Heap.get?_push_of_some _ (hH2 ▸ Heap.get?_push_of_some _ e))
  have hacc : h1.PlainList s2.heap.objs.size #[] := ⟨_, hsb1.extBut _ _ hDC (Heap.get?_push_of_some _ (hH2 ▸ Heap.get?_push_size _ rfl))⟩
  generalize hCe : G2.objs.size = C at *
  generalize hDe : s2.heap.objs.size = D at *
  have hDle : s2.heap.objs.size ≤ D := by rw [hDe]; exact Nat.le_refl _
  have hCle' : s2.heap.objs.size ≤ C := by rw [hDe]; exact hCle
  have fpD : ∀ b ∈ fp, b ≠ D := fun b hb z => by
    obtain ⟨o, e⟩ := ho2 b hb
    have := Heap.lt_size e
    rw [z, ← hDe] at this
    exact Nat.lt_irrefl _ this
  have fpC : ∀ b ∈ fp, b ≠ C := fun b hb z => by
    obtain ⟨o, e⟩ := ho2 b hb
    have := Nat.lt_of_lt_of_le (Heap.lt_size e) hCle'
    rw [z] at this
    exact Nat.lt_irrefl _ this
  have I3 : Inv (cxLc X (x :: ys) scope C s2 H2 fp) [] (none :: seenV σ js) H2 { s2 with heap := h1, toks := s2.toks + ([] : List (Str × Value)).length } := I2.block L f2 ho2 hCle' old hns1
  have cellD : ∀ y c, (cxLc X (x :: ys) scope C s2 H2 fp).env.cells.lookup y = some c → c ≠ D := fun y c e z => by
    obtain ⟨v, q⟩ := I2.cell y c (L.sub e).1
    have := q.lt
    rw [z, ← hDe] at this
    exact Nat.lt_irrefl _ this
  -- what stays true of the iterator's records through the block
  have stat : ∀ {H' : Hp} {pc : List (Addr × Obj)}, (∀ b ∈ fp, H' b = none) → (∀ p ∈ pc, p.1 = D) → ∀ b ∈ fp, FpOk (cxLc X (x :: ys) scope C s2 H2 fp) pc H' b := fun {H' pc} hn hp b hb =>
    ⟨hn b hb, fpC b hb, fun z => by
      rcases List.mem_cons.mp (I2.stkSub b z) with z | z
      · exact (f2 b hb).2.1 z
      · exact (f2 b hb).2.2.1 z, .inl hb, fun y c e => (f2 b hb).2.2.2.2.1 y c (L.sub e).1, fun p hq => by
      have hq' : p ∈ pc := hq
      rw [hp p hq']; exact Ne.symm (fpD b hb)⟩
  have loop : ∀ s3 : Shared, s3 = { s2 with heap := h1, toks := s2.toks + ([] : List (Str × Value)).length } →
      codeAny (model X.prog X.w) X.A (.compLoop (.ListComp elt [⟨.Name x px, iter, ifs, 0⟩] scope pos) 0 (.ref it) (.ref D) (compEnvC scope (clOf X.env scope.names []) C X.env))
        (compPost (model X.prog X.w) X.A X.xe none (EP X pins σ Q) (.ref D) C) s3 := by
    rintro s3 rfl
    refine compLoop_tests (fun n s' => ∃ i acc its H' k, Inv (cxLc X (x :: ys) scope C s2 H2 fp) [] (none :: seenV σ js) H' s' ∧ tn i s'.heap ∧ (∀ b ∈ fp, H' b = none) ∧ H' D = none ∧ s'.heap.get? D = some { cls := .type "list", data := .seq its k } ∧ Vals acc its.toList ∧ W i n acc H') ?_ m0 ?_
    · rintro n s4 ⟨i, acc, its, H4, k, I4, st4, fr4, hD4, ob4, rv4, w4⟩
      obtain ⟨hz, w4⟩ := turn i n acc H4 w4
      have I4' : Inv (cxLc X (x :: ys) scope C s2 H2 fp) [(D, { cls := .type "list", data := .seq its k })] (none :: seenV σ js) H4 s4 := I4.pins_of fun p hp => by
        have e : p = (D, { cls := .type "list", data := .seq its k }) := by simpa using hp
        subst e
        refine ⟨ob4, hD4, hDC, fun z => ?_, fun v z => (nomatch z)⟩
        obtain ⟨_, o, ho, _⟩ := I2.stack.mem (show D ∈ frs X.stack from z)
        have := Heap.lt_size ho
        rw [← hDe] at this
        exact Nat.lt_irrefl _ this
      have one : ∀ p ∈ ([(D, { cls := .type "list", data := .seq its k })] : List (Addr × Obj)), p.1 = D := fun p hp => by
        have e : p = (D, { cls := .type "list", data := .seq its k }) := by simpa using hp
        rw [e]
      rcases w4 with ⟨stop, qn⟩ | ⟨go, hlt, step⟩
      · refine thn (T.done (cxLc X (x :: ys) scope C s2 H2 fp) rfl rfl rfl hc i _ s4 _ H4 _ I4' (stat fr4 one) st4 stop) fun r s5 ⟨hr, I5⟩ => ?_
        subst hr
        obtain ⟨m, hn, _⟩ := I5.loc
        refine ⟨m, hn, fun h' sb => ⟨.ref D, _, ?_, rfl, qn D hD4⟩⟩
        exact I2.unblock (its := its.toList) f2 hDle hCle' hDC I5 hD4 rv4 hz (by
          have q := (I5.pin (D, { cls := .type "list", data := .seq its k }) (by simp)).1
          simpa using q) sb
      · refine thn (T.item (cxLc X (x :: ys) scope C s2 H2 fp) rfl rfl rfl hc i _ s4 _ H4 _ I4' (stat fr4 one) st4 go) fun r s5 ⟨u, hr, h5⟩ => ?_
        subst hr
        refine thn h5 fun _ s6 ⟨xv, H6, I6, r6, y6, st6, fr6⟩ => ?_
        have I6' := I6.pinned (stat fr6 one) (T.obj _ _ st6)
        have ownL : (cxLc X (x :: ys) scope C s2 H2 fp).env.scope.names.lookup x = some .local := lookup_relabel_local L.own
        have hg : PG (cxLc X (x :: ys) scope C s2 H2 fp) (.Name x px) (gName 0) := pg_name (i := 0) L.nd rfl (.inl ownL) (.inr ownL)
        refine wpAny_mono (hg _ s6 _ H6 xv u (fun σ2 H2' => σ2 = some xv :: seenV σ js ∧ H2' = H6) I6' r6 ⟨rfl, rfl⟩) (fun _ s7 ⟨σ7, H7, I7, e7, e7'⟩ => ?_) fun _ _ z => z.elim
        subst e7 e7'
        have q7 := step xv _ y6
        refine wpAny_mono ((ht C s2 H2 fp).run I7 q7) (fun ok s8 ⟨H8, I8, q8⟩ => ?_) fun _ _ z => z.elim
        -- the block's own names are forgotten behind a turn
        have hσ : ∀ {pc : List (Addr × Obj)} {Hc : Hp} {sc : Shared}, Inv (cxLc X (x :: ys) scope C s2 H2 fp) pc (some xv :: seenV σ js) Hc sc → Inv (cxLc X (x :: ys) scope C s2 H2 fp) pc (none :: seenV σ js) Hc sc := fun Ic => Ic.weak rfl fun i v e => by
          cases i with
          | zero => exact absurd e (by simp)
          | succ i => simpa using e
        have keepT : ∀ {Hc : Hp} {sc : Shared}, Inv (cxLc X (x :: ys) scope C s2 H2 fp) ([(D, { cls := .type "list", data := .seq its k })] ++ pinsAt fp s6.heap) (some xv :: seenV σ js) Hc sc → tn (i + 1) sc.heap ∧ (∀ b ∈ fp, Hc b = none) ∧ Hc D = none ∧ sc.heap.get? D = some { cls := .type "list", data := .seq its k } := fun {Hc sc} Ic => by
          refine ⟨T.keep _ _ _ st6 fun b hb o e => (Ic.pin (b, o) (List.mem_append_right _ (List.mem_append_right _ (mem_pinsAt hb e)))).1, fun b hb => ?_, (Ic.pin (D, { cls := .type "list", data := .seq its k }) (List.mem_append_right _ (List.mem_append_left _ List.mem_cons_self))).2.1, (Ic.pin (D, { cls := .type "list", data := .seq its k }) (List.mem_append_right _ (List.mem_append_left _ List.mem_cons_self))).1⟩
          obtain ⟨o, e, d⟩ := T.obj _ _ st6 b hb
          exact (Ic.pin (b, o) (List.mem_append_right _ (List.mem_append_right _ (mem_pinsAt hb e)))).2.1
        cases ok with
        | false =>
          obtain ⟨m', hm, w8⟩ := q8
          obtain ⟨a1, a2, a3, a4⟩ := keepT I8
          exact ⟨m', hm, i + 1, acc, its, H8, k, (hσ I8).pins_of (fun p hp => (nomatch hp)), a1, a2, a3, a4, rv4, w8⟩
        | true =>
          refine wpAny_mono (he C s2 H2 fp _ s8 _ H8 _ I8 q8) (fun ev s9 ⟨v9, H9, I9, r9, m', hm, w9⟩ => ?_) fun _ _ z => z.elim
          obtain ⟨a1, a2, a3, a4⟩ := keepT I9
          have hlen : its.size ≤ sizeLine := by
            have e1 := rv4.length
            have e2 : its.toList.length = its.size := by simp
            omega
          refine wpAny_list_append_plain (hsz := hlen) ⟨k, a4⟩ fun h10 pl sb => ?_
          obtain ⟨k', e10⟩ := pl
          have I10 : Inv (cxLc X (x :: ys) scope C s2 H2 fp) (pinsAt fp s6.heap) (none :: seenV σ js) H9 s9 := (hσ I9).pins_of fun p hp => I9.pin p (List.mem_append_right _ (List.mem_append_right _ hp))
          have I11 : Inv (cxLc X (x :: ys) scope C s2 H2 fp) (pinsAt fp s6.heap) (none :: seenV σ js) H9 { s9 with heap := h10 } :=
            I10.turned (t' := s9.toks) (it := D) (fun b o hb e => (sb.2 b hb).trans e) a3 hDC (.inr hDle) cellD fun p hp z => by
              have hp' : p ∈ pinsAt fp s6.heap := hp
              exact fpD p.1 (of_pinsAt hp').1 z
          refine ⟨m', hm, i + 1, acc ++ [v9], its.push ev, H9, k', I11.pins_of (fun p hp => (nomatch hp)), T.keep _ _ _ a1 (fun b hb o e => (sb.2 b (fpD b hb)).trans e), a2, a3, e10, ?_, w9⟩
          rw [Array.toList_push]
          exact rv4.append (.cons r9 .nil)
    · exact ⟨0, [], #[], H2, _, I3, T.keep _ _ _ st2 fun b hb o e => old b o e, fun b hb => (f2 b hb).1, I2.hok.fresh hDle, hacc.choose_spec, .nil, w0⟩
  exact codeAny_compStart_list (loop _ rfl) (T.self _ 0 _ _ _ (T.keep _ _ _ st2 fun b hb o e => old b o e) (loop _ rfl))
end L2

set_option Elab.async false
set_option linter.all false
set_option maxRecDepth 100000
set_option maxHeartbeats 4000000
/-! all, any, isinstance, == of data, join, a module's dict -/
namespace L2
open PySem PySem.Spec PyProof.Rows

/-! ### data: what a value reads as -/
mutual
def RdD (K : PySem.W.Frag) (H : Hp) : V → PyData → Prop
  | v, .none => v = .non
  | v, .bool b => v = .bl b
  | v, .int i => v = .int i
  | v, .str x => v = .str x ∧ PyData.strOk x = true
  | v, .list ds => ∃ a xs, v = .ref a ∧ SqL K H a xs ∧ RdDs K H xs ds
  | v, .tuple ds => ∃ a xs, v = .ref a ∧ SqT K H a xs ∧ RdDs K H xs ds
  | _, .dict _ => False
def RdDs (K : PySem.W.Frag) (H : Hp) : List V → List PyData → Prop
  | xs, [] => xs = []
  | xs, d :: ds => ∃ x r, xs = x :: r ∧ RdD K H x d ∧ RdDs K H r ds
end
section
variable {X : Cx} {pins : List (Addr × Obj)} {σ : St} {H : Hp} {s : Shared}
mutual
theorem RdD.reads (I : Inv X pins σ H s) : ∀ {v : V} {d : PyData} {u : Value}, RdD X.K H v d → RelV v u → ∃ as, Reads s.heap u d as
  | _, .none, _, h, r => by cases (show _ = _ from h); cases r; exact ⟨_, .none⟩
  | _, .bool b, _, h, r => by cases (show _ = _ from h); cases r; exact ⟨_, .bool b⟩
  | _, .int i, _, h, r => by cases (show _ = _ from h); obtain ⟨t, rfl⟩ := r; exact ⟨_, .int i t⟩
  | _, .str x, _, h, r => by cases h.1; obtain ⟨t, rfl⟩ := r; exact ⟨_, .str x t⟩
  | _, .list ds, _, h, r => by
    obtain ⟨a, xs, rfl, hq, hd⟩ := h
    cases r
    obtain ⟨its, rv, pl, _⟩ := I.list hq
    obtain ⟨as, ra⟩ := RdDs.reads I hd rv
    obtain ⟨o, n, e, c, _, dd⟩ := pl
    exact ⟨_, .list e c dd (by simpa using ra)⟩
  | _, .tuple ds, _, h, r => by
    obtain ⟨a, xs, rfl, hq, hd⟩ := h
    cases r
    obtain ⟨its, rv, pl, _⟩ := I.tuple hq
    obtain ⟨as, ra⟩ := RdDs.reads I hd rv
    obtain ⟨o, e, c, n, dd⟩ := pl
    exact ⟨_, .tuple e c dd (by simpa using ra)⟩
  | _, .dict _, _, h, _ => h.elim
theorem RdDs.reads (I : Inv X pins σ H s) : ∀ {xs : List V} {ds : List PyData} {us : List Value}, RdDs X.K H xs ds → Vals xs us → ∃ as, ReadsAll s.heap us ds as
  | _, [], _, h, r => by cases (show _ = _ from h); cases r; exact ⟨_, .nil⟩
  | _, d :: ds, _, h, r => by
    obtain ⟨x, rr, rfl, h1, h2⟩ := h
    cases r with
    | cons r1 r2 =>
      obtain ⟨as, a1⟩ := RdD.reads I h1 r1
      obtain ⟨bs, a2⟩ := RdDs.reads I h2 r2
      exact ⟨_, .cons a1 a2⟩
end
mutual
theorem RdD.lay : ∀ {v : V} {d : PyData}, RdD X.K H v d → d.canLay0 = true
  | _, .none, _ => rfl
  | _, .bool b, _ => rfl
  | _, .int i, _ => rfl
  | _, .str x, h => h.2
  | _, .list ds, h => by obtain ⟨a, xs, _, _, hd⟩ := h; exact RdDs.lay hd
  | _, .tuple ds, h => by obtain ⟨a, xs, _, _, hd⟩ := h; exact RdDs.lay hd
  | _, .dict _, h => h.elim
theorem RdDs.lay : ∀ {xs : List V} {ds : List PyData}, RdDs X.K H xs ds → PyData.canLayAll0 ds = true
  | _, [], _ => rfl
  | _, d :: ds, h => by
    obtain ⟨x, r, _, h1, h2⟩ := h
    show (d.canLay0 && PyData.canLayAll0 ds) = true
    rw [RdD.lay h1, RdDs.lay h2]
    rfl
end
/-- == and != of two data -/
def rEqD (K : PySem.W.Frag) (neg : Bool) : R2 := fun x y H Q => ∃ dx dy, RdD K H x dx ∧ RdD K H y dy ∧ dx.depth ≤ 60 ∧ Q (.bl (if neg then !PyData.eqv dx dy else PyData.eqv dx dy)) H
theorem op_eqD (hu : X.A.units + 64 < cLine) : OpR X (compareOp .Eq) (rEqD X.K false) := by
  intro pins s σ H x y v u Q I rx ry h
  obtain ⟨dx, dy, h1, h2, hd, q⟩ := h
  obtain ⟨as, r1⟩ := h1.reads I rx
  obtain ⟨bs, r2⟩ := h2.reads I ry
  exact SeqAt.compareEq_reads r1 r2 h1.lay h2.lay (by omega) ⟨.bl (PyData.eqv dx dy), H, I, rfl, q⟩
theorem op_neD (hu : X.A.units + 64 < cLine) : OpR X (compareOp .NotEq) (rEqD X.K true) := by
  intro pins s σ H x y v u Q I rx ry h
  obtain ⟨dx, dy, h1, h2, hd, q⟩ := h
  obtain ⟨as, r1⟩ := h1.reads I rx
  obtain ⟨bs, r2⟩ := h2.reads I ry
  exact SeqAt.compareNe_reads r1 r2 h1.lay h2.lay (by omega) ⟨.bl (!PyData.eqv dx dy), H, I, rfl, q⟩

/-! ### all, any over a list of truths -/
theorem range_all (bs : List Bool) : (List.range bs.length).all (fun i => (bs[i]?).getD false) = bs.all id := by
  rw [Bool.eq_iff_iff, List.all_eq_true, List.all_eq_true]
  constructor
  · intro h b hb
    obtain ⟨i, hi, rfl⟩ := List.mem_iff_getElem.mp hb
    have := h i (by simp [hi])
    simpa [hi] using this
  · intro h i hi
    have hi' : i < bs.length := by simpa using hi
    simpa [hi'] using h bs[i] (List.getElem_mem hi')
theorem range_any (bs : List Bool) : (List.range bs.length).any (fun i => (bs[i]?).getD false) = bs.any id := by
  rw [Bool.eq_iff_iff, List.any_eq_true, List.any_eq_true]
  constructor
  · rintro ⟨i, hi, h⟩
    have hi' : i < bs.length := by simpa using hi
    exact ⟨bs[i], List.getElem_mem hi', by simpa [hi'] using h⟩
  · rintro ⟨b, hb, h⟩
    obtain ⟨i, hi, rfl⟩ := List.mem_iff_getElem.mp hb
    exact ⟨i, by simp [hi], by simpa [hi] using h⟩
def rTruths (K : PySem.W.Frag) (f : List Bool → Bool) : List V → Hp → VK → Prop := fun xs H Q => ∃ p bs, xs = [V.ref p] ∧ SqL K H p (bs.map V.bl) ∧ Q (.bl (f bs)) H
theorem truths_of {bs : List Bool} : ∀ {its : List Value}, Vals (bs.map V.bl) its → its = bs.map Value.bool := by
  induction bs with
  | nil => intro its r; cases r; rfl
  | cons b r ih =>
    intro its h
    cases h with
    | cons h1 h2 => cases h1; rw [ih h2]; rfl
theorem truth_bools {prog : Program} {w : World} {A : Around} (bs : List Bool) : TruthOf prog w A (fun i v => (bs.map Value.bool).toArray[i]? = some v) (fun i => (bs[i]?).getD false) := by
  intro i v s Q E hP hQ
  have e : (bs[i]?).map Value.bool = some v := by simpa using hP
  cases q : bs[i]? with
  | none => rw [q] at e; cases e
  | some b =>
    rw [q] at e
    cases e
    have hQ' : Q ((bs[i]?).getD false) s := hQ
    rw [q] at hQ'
    exact wpAny_truthy_bool hQ'
theorem call_all (hc : X.calm = true) : CallR X (.builtin "all") (rTruths X.K fun bs => bs.all id) := by
  intro pins s σ H xs us Q I r h
  obtain ⟨p, bs, rfl, hq, q⟩ := h
  obtain ⟨u, rfl, ru⟩ := vals1 r
  cases ru
  obtain ⟨its, rv, pl, hz⟩ := I.list hq
  have ei := truths_of rv
  subst ei
  have hl := pl.isList
  have hp : p < s.heap.objs.size := let ⟨o, n, e, _⟩ := pl; Heap.lt_size e
  refine call_all_walk (wpAny_pyIter_list hl ?_)
  refine ⟨s.heap.objs.size, _, _, _, _, _, _, rfl, Walks.list (show X.A.in1.handled = none from I.ok.hd hc) s.heap.objs.size p (Nat.ne_of_lt hp) (bs.map Value.bool).toArray, ⟨⟨_, Heap.get?_push_size _ rfl, rfl, rfl⟩, hl.push _⟩, truth_bools bs, fun h' tk hk => ⟨.bl _, H, I.kept (fun b o e => hk b o (fun z => ?_) (Heap.get?_push_of_some _ e)), rfl, ?_⟩⟩
  · have z' : b = s.heap.objs.size := by simpa using z
    exact absurd (Heap.lt_size e) (by rw [z']; exact Nat.lt_irrefl _)
  · have e : (bs.map Value.bool).toArray.size = bs.length := by simp
    rw [e, range_all]
    exact q
/-! ### isinstance against a built-in class -/
def rIsi (K : PySem.W.Frag) : List V → Hp → VK → Prop := fun xs H Q => ∃ x n t b, xs = [x, V.ty n] ∧ TyOf K H x t ∧ PySem.W.kitOne K t (.type n) = some b ∧ Q (.bl b) H
theorem call_isi : CallR X (.builtin "isinstance") (rIsi X.K) := by
  intro pins s σ H xs us Q I r h
  obtain ⟨x, n, t, b, rfl, ty, e, q⟩ := h
  obtain ⟨u, w', rfl, ru, rw'⟩ := vals2 r
  cases (show w' = Value.type n from rw')
  exact isinst_ok I ru ty e fun tk => ⟨.bl b, H, I.tok tk, rfl, q⟩
theorem kit_same {K : PySem.W.Frag} (n : String) : PySem.W.kitOne K (.type n) (.type n) = some true := by
  unfold PySem.W.kitOne
  rw [if_pos (by simp)]

/-! ### join -/
/-! ### an item of a module's dict whose keys are texts -/
def rIxM (K : PySem.W.Frag) (P : Params) : R2 := fun x y H Q => ∃ a es n k v u, x = .ref a ∧ y = .str k ∧ K.lookup a = some ⟨.type "dict", none, .dict es n, #[]⟩ ∧ PySem.W.KeysLit P es.toList ∧ PySem.W.nsIn K a k = some (some u) ∧ RelV v u ∧ Q v H
theorem ix_mod : IxR X (rIxM X.K X.w.params) := by
  intro value slice pins s σ H x y v u Q I rx ry h hs
  obtain ⟨a, es, n, k, z, uz, rfl, rfl, lk, kl, ns, rz, q⟩ := h
  cases rx
  obtain ⟨t, rfl⟩ := ry
  obtain ⟨m, F⟩ := I.fr
  exact PySem.W.topItem_K F I.ok.mod.kin lk kl ns ⟨_, H, I.tok _, rz, q⟩ hs
end
end L2

set_option Elab.async false
set_option linter.all false
set_option maxRecDepth 100000
set_option maxHeartbeats 4000000
namespace PySem
open Sem (wp)
namespace RV
end RV
section
variable {prog : Program} {w : World} {A : Around} {E : Value → Shared → Prop} {s : Shared}
end
end PySem

set_option Elab.async false
set_option linter.all false
set_option maxRecDepth 100000
set_option maxHeartbeats 4000000
/-! reversed(text); rules by alternatives; callees in short -/
namespace L2
open PySem PySem.Spec PyProof.Rows

/-! ### reversed(text) -/
/-! ### a block's scope, over written scopes alone -/
structure LcS (os scope : Scope) (x : Str) (ys : List Str) : Prop where
  kind : scope.kind = .function
  nocell : ∀ y ∈ scope.names, y.2 ≠ .cell
  locs : ∀ y ∈ scope.names, y.2 = .local → scope.names.lookup y.1 = some .local
  own : scope.names.lookup x = some .local
  seen : ∀ y ∈ ys, scope.names.lookup y = some .free
  out : ∀ y ∈ scope.names, y.2 = .free → os.names.lookup y.1 = some .cell ∨ os.names.lookup y.1 = some .free
  nd : (x :: ys).Nodup
theorem LcS.to {X : Cx} {os scope : Scope} {x : Str} {ys : List Str} {js : List Nat} (h : LcS os scope x ys) (e : X.env.scope = os) (p : js.map (fun j => X.N[j]?) = ys.map some) : LcScope X scope x ys js :=
  ⟨h.kind, h.nocell, h.locs, h.own, h.seen, fun y hy hf => by
    have q := h.out y hy hf
    rw [← e] at q
    exact q, p, h.nd⟩

/-! ### a list made by a comprehension whose element leaves the heap as it is -/
theorem lc_on {J : It} {xs : List V} {Ok : Hp → Prop} (hJ : ItOn J xs Ok) {tc : TT} {te : TE} {js : List Nat} {σ : St} {H : Hp} {Q : VK} (f : V → V) (hok : Ok H) (hz : xs.length ≤ sizeLine)
    (he : ∀ (i : Nat) x Q', xs[i]? = some x → Q' (f x) H → tc (some x :: seenV σ js) H fun b H3 => if b = true then te (some x :: seenV σ js) H3 Q' else False)
    (mono : ∀ σ' H' (R R' : Bool → Hp → Prop), (∀ b h, R b h → R' b h) → tc σ' H' R → tc σ' H' R')
    (q : ∀ p, H p = none → Q (.ref p) (upd H p (.lst (xs.map f)))) : LcW J tc te js σ Q H := by
  refine ⟨fun i m acc H' => H' = H ∧ i ≤ xs.length ∧ m = xs.length - i ∧ acc = (xs.take i).map f, ⟨xs.length, rfl, Nat.zero_le _, by simp, by simp⟩, ?_⟩
  rintro i m acc H' ⟨rfl, hi, rfl, rfl⟩
  have hlen : ((xs.take i).map f).length = i := by simp; omega
  refine ⟨by omega, ?_⟩
  by_cases hlt : i < xs.length
  · refine .inr ⟨hJ.go i _ hok hlt, by omega, fun x H'' y => ?_⟩
    obtain ⟨e, hx⟩ := hJ.yld i _ x H'' hok hlt y
    subst e
    refine mono _ _ _ _ (fun b h z => ?_) (he i x (fun v H4 => ∃ m', m' < xs.length - i ∧ (H4 = H'' ∧ i + 1 ≤ xs.length ∧ m' = xs.length - (i + 1) ∧ (xs.take i).map f ++ [v] = (xs.take (i + 1)).map f)) hx ⟨xs.length - (i + 1), by omega, rfl, hlt, rfl, ?_⟩)
    · cases b with
      | true => exact z
      | false => exact z.elim
    · have e : xs.take (i + 1) = xs.take i ++ [x] := by
        rw [List.take_add_one, hx]
        rfl
      rw [e, List.map_append]
      rfl
  · have e : i = xs.length := by omega
    subst e
    refine .inl ⟨hJ.stop _ _ hok (Nat.le_refl _), fun p hp => ?_⟩
    rw [List.take_length]
    exact q p hp

/-- the same without a test -/
theorem lc_y {J : It} {xs : List V} {Ok : Hp → Prop} (hJ : ItOn J xs Ok) {te : TE} {js : List Nat} {σ : St} {H : Hp} {Q : VK} (f : V → V) (hok : Ok H) (hz : xs.length ≤ sizeLine)
    (he : ∀ (i : Nat) x Q', xs[i]? = some x → Q' (f x) H → te (some x :: seenV σ js) H Q') (q : ∀ p, H p = none → Q (.ref p) (upd H p (.lst (xs.map f)))) : LcW J tYes te js σ Q H :=
  lc_on hJ f hok hz (fun i x Q' hx hq => by
    show if true = true then te (some x :: seenV σ js) H Q' else False
    rw [if_pos rfl]
    exact he i x Q' hx hq) (fun _ _ _ _ hR z => hR _ _ z) q

/-! ### the names of built-ins -/
theorem bt_int : bootBuiltins "int" = some (.type "int") := by decide +kernel
theorem bt_str : bootBuiltins "str" = some (.type "str") := by decide +kernel
theorem bt_bool : bootBuiltins "bool" = some (.type "bool") := by decide +kernel
theorem bt_tuple : bootBuiltins "tuple" = some (.type "tuple") := by decide +kernel
theorem bt_len : bootBuiltins "len" = some (.builtin "len") := by decide +kernel
theorem bt_all : bootBuiltins "all" = some (.builtin "all") := by decide +kernel
theorem bt_any : bootBuiltins "any" = some (.builtin "any") := by decide +kernel
theorem bt_isinstance : bootBuiltins "isinstance" = some (.builtin "isinstance") := by decide +kernel
theorem bt_abs : bootBuiltins "abs" = some (.builtin "abs") := by decide +kernel

/-! ### operators by alternatives -/
section
variable {X : Cx}
def rAddS : R2 := fun x y H Q => ∃ i j, x = .str i ∧ y = .str j ∧ i.length + j.length ≤ sizeLine ∧ Q (.str (i ++ j)) H
def rPlus : R2 := fun x y H Q => rI0 (fun i j => .int (i + j)) x y H Q ∨ rAddS x y H Q
theorem op_plus : OpR X (binaryOp .Add) rPlus := OpR.or op_add op_add_str
def rNee (K : PySem.W.Frag) : R2 := fun x y H Q => rNe x y H Q ∨ rEqD K true x y H Q
theorem op_nee (hu : X.A.units + 64 < cLine) : OpR X (compareOp .NotEq) (rNee X.K) := OpR.or op_ne (op_neD hu)
def rInS : R2 := fun x y H Q => ∃ i j, x = .str i ∧ y = .str j ∧ Q (.bl (!(Builtin.Str.occurrences j i 0 j.length 1).isEmpty)) H
def rInn (K : PySem.W.Frag) : R2 := fun x y H Q => rIn K false x y H Q ∨ rInS x y H Q
theorem op_inn : OpR X (compareOp .In) (rInn X.K) := OpR.or op_in_seq op_in_str
def rIxA (K : PySem.W.Frag) (P : Params) : R2 := fun x y H Q => rIx K x y H Q ∨ rIxM K P x y H Q
theorem ix_any : IxR X (rIxA X.K X.w.params) := IxR.or ix_seq ix_mod
end

/-! ### the same with the written part named: within a block's element the reading may not hang on the block -/
section
variable {X : Cx} {K : PySem.W.Frag} {Pm : Params}
theorem op_neeK (hu : X.A.units + 64 < cLine) (e : X.K = K) : OpR X (compareOp .NotEq) (rNee K) := e ▸ op_nee hu
theorem op_innK (e : X.K = K) : OpR X (compareOp .In) (rInn K) := e ▸ op_inn
theorem ix_anyK (e : X.K = K) (e2 : X.w.params = Pm) : IxR X (rIxA K Pm) := e ▸ e2 ▸ ix_any
theorem call_isiK (e : X.K = K) : CallR X (.builtin "isinstance") (rIsi K) := e ▸ call_isi
def rLen (K : PySem.W.Frag) : List V → Hp → VK → Prop := fun xs H Q => ∃ x n, xs = [x] ∧ LenV K x H n ∧ Q (.int n) H
theorem call_lenK (e : X.K = K) : CallR X (.builtin "len") (rLen K) := e ▸ call_len
theorem call_allK (hc : X.calm = true) (e : X.K = K) : CallR X (.builtin "all") (rTruths K fun bs => bs.all id) := e ▸ call_all hc
end

/-! ### a callee in short -/
structure Callee (P : Program) (w : World) (K : PySem.W.Frag) (mg : Str → Option Value) (base : Heap) (k : Nat) (x : Str) (ps : List Str) (sp : Sp) : Prop where
  ex : ∃ f fd, FnOk P w K mg base CX0 k f fd ps sp ∧ mg x = some (.ref f) ∧ PySem.W.keepIn K (.ref f) = true ∧ Binds K fd ps []
theorem Callee.mono {P : Program} {w : World} {K : PySem.W.Frag} {mg : Str → Option Value} {base : Heap} {j k : Nat} {x : Str} {ps : List Str} {sp : Sp} (c : Callee P w K mg base j x ps sp) (h : j ≤ k) : Callee P w K mg base k x ps sp := by
  obtain ⟨f, fd, F, m, kp, b⟩ := c.ex
  exact ⟨f, fd, F.mono h, m, kp, b⟩
theorem pe_calls {X : Cx} {k : Nat} {x : Str} {ps : List Str} {sp : Sp} {e : Expr} {es : List Expr} {t : TA} {p pos : Pos} (c : Callee X.prog X.w X.K X.mg X.base k x ps sp) (hr : Room k X.A) (hg : Gl X x) (ha : PA X (e :: es) t)
    (hdb : (x == ("__debug__" : Str)) = false := by decide) (he : starEach (e :: es) X.env = (false, eval e X.env) :: starEach es X.env := by rfl) (hpl : (backTo pos (starEach es X.env)).any (·.1) = false := by rfl) :
    PE X (.Call (.Name x p) (e :: es) [] pos) (tCall sp [] E0 t) := by
  obtain ⟨f, fd, F, m, kp, b⟩ := c.ex
  exact pe_call F hr hg m kp b .nil (fun _ _ _ _ _ _ _ h => h.elim) ha hdb he hpl
theorem callee_of {P : Program} {w : World} {K : PySem.W.Frag} {mg : Str → Option Value} {base : Heap} {k : Nat} {x qual : Str} {st : Stmt} {f : Addr} {fd : FuncData} {ps : List Str} {sp : Sp} (F : Fun K x qual st f fd) (G : FnOk P w K mg base CX0 k f fd ps sp) (m : mg x = some (.ref f))
    (h : ∀ (kV doc pm : Value) (an : Option Addr) (cdv ct : Value) (us : List Value), us.length = ps.length → bindArgs (PySem.W.fnOf x qual (defArgs st) (defBody st) (defScope st) .none kV doc pm an cdv ct) ⟨us, []⟩ = pure (ps.zip us)) : Callee P w K mg base k x ps sp :=
  ⟨f, fd, G, m, F.kp, F.binds h⟩
end L2

set_option Elab.async false
set_option linter.all false
set_option maxRecDepth 100000
set_option maxHeartbeats 4000000
/-! an exception of an own class: raised, left, caught -/
namespace L2
open PySem PySem.Spec PyProof.Rows

/-- the record of an exception: its class, its traceback's record (where it has one) with the flight's mark -/
def ExcOf (h : Heap) (e : Addr) (C : Value) (T : Option Addr) (fl : Value) : Prop :=
  ∃ (oe : Obj) (vs : Array Value), h.get? e = some oe ∧ oe.cls = C ∧ oe.dict = none ∧ oe.data = .fields vs ∧ vs[2]? = some .none ∧
    (match T with
     | none => vs[1]? = some .none
     | some t => vs[1]? = some (.ref t) ∧ t ≠ e ∧ ∃ (ot : Obj) (ts : Array Value), h.get? t = some ot ∧ ot.data = .fields ts ∧ ts[3]? = some fl)

section
variable {M : Model} {A : Around} {E : Value → Shared → Prop} {s : Shared} {env : Env} {outer : List Env} {base : Heap} {L e : Addr} {oe : Obj} {vs : Array Value}

/-- what the new entry leaves -/
structure Entered (h h3 : Heap) (e : Addr) (oe : Obj) (vs : Array Value) (fs : List Addr) (fl : Value) (T : Addr) : Prop where
  ex : h3.get? e = some { oe with data := .fields (vs.setIfInBounds 1 (.ref T)) }
  tb : ∃ (ot : Obj) (ts : Array Value), h3.get? T = some ot ∧ ot.data = .fields ts ∧ ts[3]? = some fl
  ne : T ≠ e
  big : h.objs.size ≤ T
  keep : ∀ b o, b ≠ e → b ∉ fs → h.get? b = some o → h3.get? b = some o
  slot : ∀ b o, b ≠ e → h.get? b = some o → ∃ sl, h3.get? b = some { o with slots := sl }

theorem entry_step {head : Value} {hadNext : Bool} {Q : Unit → Shared → Prop} (hfr : A.frames = some (env :: outer)) (hl : s.heap.FunFrames base (env :: outer)) (hf : env.frame = some L)
    (he : s.heap.get? e = some oe) (hd : oe.data = .fields vs) (hsz : 1 < vs.size)
    (h : ∀ h3 T, Entered s.heap h3 e oe vs ((env :: outer).filterMap (·.frame)) (rawInt L) T → Q () { s with heap := h3 }) :
    wpAny M A (do let a ← frameOf env; let q ← entryPlaceOf L hadNext; let b ← EntryCells.newEntry head a .none (rawInt L) .none q; setField (.ref e) 1 b) Q E s := by
  have hne : e ∉ (env :: outer).filterMap (·.frame) := fun hm => by
    obtain ⟨_, o, ho, hnf⟩ := hl.mem hm
    rw [he] at ho
    exact hnf vs (Option.some.inj ho ▸ hd)
  refine wpAny_bind (wpAny_frameOf_fun hfr hl hf fun g1 k1 => wpAny_bind (wpAny_entryPlaceOf fun q hq => ?_))
  unfold EntryCells.newEntry newFields
  refine wpAny_bind (wpAny_newObj_type ?_ (hq.sizeOk5 _ _ _ _ _))
  generalize hts : ([head, Value.ref L, .none, rawInt L, .none] ++ (if q.isEmpty then List.replicate 6 Value.none else q)).toArray = ts
  have t3 : ts[3]? = some (rawInt L) := by rw [← hts]; simp
  have e1 : g1.get? e = some oe := (k1.2.1 e hne).trans he
  have e2 := Heap.get?_push_of_some (h := g1) { cls := .type "traceback", dict := none, data := .fields ts } e1
  have hTe : g1.objs.size ≠ e := Nat.ne_of_gt (Heap.lt_size e1)
  refine wpAny_setField e2 hd hsz (h _ g1.objs.size ⟨?_, ?_, hTe, ?_, ?_, ?_⟩)
  · have z := Heap.get?_update_self (Obj.mapFields (·.setIfInBounds 1 (Value.ref g1.objs.size))) e2 (Obj.isFreed_of_fields (Obj.data_mapFields hd _))
    rw [z]
    obtain ⟨c, d, dt, sl⟩ := oe
    cases hd
    rfl
  · exact ⟨_, ts, (Heap.get?_update_other _ _ (Ne.symm hTe)).trans (Heap.get?_push_size g1 rfl), rfl, t3⟩
  · rw [k1.1]; exact Nat.le_refl _
  · intro b o hb hbf ho
    have z : g1.get? b = some o := (k1.2.1 b hbf).trans ho
    rw [Heap.get?_update_other _ _ (Ne.symm hb)]
    exact Heap.get?_push_of_some _ z
  · intro b o hb ho
    obtain ⟨sl, z⟩ := k1.2.2 b o ho
    refine ⟨sl, ?_⟩
    rw [Heap.get?_update_other _ _ (Ne.symm hb)]
    exact Heap.get?_push_of_some _ z

theorem note_step {T0 : Option Addr} {C : Value} {Q : Unit → Shared → Prop} (hfr : A.frames = some (env :: outer)) (hl : s.heap.FunFrames base (env :: outer)) (hf : env.frame = some L) (hx : ExcOf s.heap e C T0 .none)
    (h : ∀ h3 T1, ExcOf h3 e C (some T1) (rawInt L) → s.heap.objs.size ≤ T1 → (∀ b o, b ≠ e → T0 ≠ some b → b ∉ (env :: outer).filterMap (·.frame) → s.heap.get? b = some o → h3.get? b = some o) →
      (∀ b o, b ≠ e → T0 ≠ some b → s.heap.get? b = some o → ∃ sl, h3.get? b = some { o with slots := sl }) → Q () { s with heap := h3 }) : wpAny M A (noteFrame (.ref e) env) Q E s := by
  obtain ⟨oe, vs, he, hc, hdc, hd, h2, hT⟩ := hx
  have fin : ∀ {h0 h3 : Heap} {T1 : Addr}, Entered h0 h3 e oe vs ((env :: outer).filterMap (·.frame)) (rawInt L) T1 → 1 < vs.size → ExcOf h3 e C (some T1) (rawInt L) := fun {h0 h3 T1} X hz => by
    obtain ⟨ot, ts, z1, z2, z3⟩ := X.tb
    refine ⟨_, _, X.ex, hc, hdc, rfl, ?_, ?_, X.ne, ot, ts, z1, z2, z3⟩
    · rw [Array.getElem?_setIfInBounds_ne (by decide)]; exact h2
    · simp [hz]
  unfold noteFrame
  simp only [hf]
  cases T0 with
  | none =>
    have h1 : vs[1]? = some .none := hT
    have hz : 1 < vs.size := (Array.getElem?_eq_some_iff.mp h1).1
    refine wpAny_bind (wpAny_field he hd h1 ?_)
    rw [if_neg (by decide)]
    exact entry_step hfr hl hf he hd hz fun h3 T1 X => h h3 T1 (fin X hz) X.big (fun b o hb _ => X.keep b o hb) fun b o hb _ => X.slot b o hb
  | some t =>
    obtain ⟨h1, hte, ot, ts, ht, hdt, h3⟩ := hT
    have hz : 1 < vs.size := (Array.getElem?_eq_some_iff.mp h1).1
    refine wpAny_bind (wpAny_field he hd h1 ?_)
    rw [if_pos (by simp)]
    refine wpAny_bind (wpAny_field ht hdt h3 ?_)
    rw [if_neg (by simp [rawInt])]
    refine wpAny_bind (wpAny_setField ht hdt (Array.getElem?_eq_some_iff.mp h3).1 ?_)
    have oth : ∀ b, b ≠ t → (s.heap.update t (Obj.mapFields (·.setIfInBounds 3 Value.none))).get? b = s.heap.get? b := fun b hb => Heap.get?_update_other _ _ (Ne.symm hb)
    have nrec : ∀ b o, s.heap.get? b = some o → (∀ ws, o.data ≠ .fields ws) → b ≠ t := fun b o hb hn z => by
      rw [z, ht] at hb
      exact hn ts (Option.some.inj hb ▸ hdt)
    refine entry_step (s := { s with heap := s.heap.update t (Obj.mapFields (·.setIfInBounds 3 Value.none)) }) hfr (hl.of_keeps fun b o hb hn => ⟨o, (oth b (nrec b o hb hn)).trans hb, rfl⟩) hf ((oth e (Ne.symm hte)).trans he) hd hz fun g T1 X => h g T1 (fin X hz) ?_ ?_ ?_
    · have z := X.big
      rw [Heap.size_update] at z
      exact z
    · exact fun b o hb hbt hbf ho => X.keep b o hb hbf ((oth b fun z => hbt (by rw [z])).trans ho)
    · exact fun b o hb hbt ho => X.slot b o hb ((oth b fun z => hbt (by rw [z])).trans ho)
theorem flight_step {T : Addr} {C fl : Value} {Q : Unit → Shared → Prop} (hx : ExcOf s.heap e C (some T) fl)
    (h : ∀ h3, ExcOf h3 e C (some T) .none → (∀ b o, b ≠ T → s.heap.get? b = some o → h3.get? b = some o) → Q () { s with heap := h3 }) : wpAny M A (setFlight (.ref e) none) Q E s := by
  obtain ⟨oe, vs, he, hc, hdc, hd, h2, h1, hte, ot, ts, ht, hdt, h3⟩ := hx
  have hz : 3 < ts.size := (Array.getElem?_eq_some_iff.mp h3).1
  have oth : ∀ b, b ≠ T → (s.heap.update T (Obj.mapFields (·.setIfInBounds 3 ((none : Option Addr).elim Value.none fun f => rawInt f)))).get? b = s.heap.get? b := fun b hb => Heap.get?_update_other _ _ (Ne.symm hb)
  unfold setFlight
  refine wpAny_bind (wpAny_field he hd h1 ?_)
  rw [if_pos (by simp)]
  refine wpAny_setField ht hdt hz (h _ ?_ fun b o hb ho => (oth b hb).trans ho)
  exact ⟨oe, vs, (oth e (Ne.symm hte)).trans he, hc, hdc, hd, h2, h1, hte, _, _, Heap.get?_update_self _ ht (Obj.isFreed_of_fields (Obj.data_mapFields hdt _)), Obj.data_mapFields hdt _, by simp [hz]⟩
theorem leave_step {T0 : Option Addr} {C : Value} {Q : Unit → Shared → Prop} (hfr : A.frames = some (env :: outer)) (hl : s.heap.FunFrames base (env :: outer)) (hf : env.frame = some L) (hx : ExcOf s.heap e C T0 .none)
    (h : ∀ h3 T1, ExcOf h3 e C (some T1) .none → s.heap.objs.size ≤ T1 → (∀ b o, b ≠ e → T0 ≠ some b → b ∉ (env :: outer).filterMap (·.frame) → s.heap.get? b = some o → h3.get? b = some o) →
      (∀ b o, b ≠ e → T0 ≠ some b → s.heap.get? b = some o → ∃ sl, h3.get? b = some { o with slots := sl }) → Q () { s with heap := h3 }) : wpAny M A (leaving env (.ref e)) Q E s := by
  unfold leaving
  refine wpAny_bind (note_step hfr hl hf hx fun g T1 x new keep slot => ?_)
  have nt : ∀ b o, s.heap.get? b = some o → b ≠ T1 := fun b o ho z => absurd (Heap.lt_size ho) (by rw [z]; exact Nat.not_lt.mpr new)
  refine flight_step (s := { s with heap := g }) x fun g2 x2 k2 => h g2 T1 x2 new (fun b o hb ht hbf ho => k2 b o (nt b o ho) (keep b o hb ht hbf ho)) fun b o hb ht ho => ?_
  obtain ⟨sl, z⟩ := slot b o hb ht ho
  exact ⟨sl, k2 b _ (nt b o ho) z⟩
end
end L2

namespace L2
open PySem PySem.Spec PyProof.Rows
theorem ObjOk.has {P : Program} {w : World} {H : Hp} {h : Heap} {a : Addr} {o : HO} (x : ObjOk P w H h a o) : ∃ ob, h.get? a = some ob := by
  cases o with
  | lst xs => obtain ⟨_, _, _, _, e⟩ := x; exact ⟨_, e⟩
  | tup xs => obtain ⟨_, _, _, ob, e, _⟩ := x; exact ⟨_, e⟩
  | dK kvs => obtain ⟨_, _, _, _, ob, _, _, e, _⟩ := x; exact ⟨_, e⟩
  | dT kvs => obtain ⟨_, _, _, _, ob, _, _, e, _⟩ := x; exact ⟨_, e⟩
  | set S n => obtain ⟨ob, _, _, _, e, _⟩ := x; exact ⟨_, e⟩
  | ins C dx fs => obtain ⟨_, _, _, e, _⟩ := x; exact ⟨_, e⟩
  | own y => exact x
  | xd fs => obtain ⟨_, ⟨ob, _, _, e, _⟩, _⟩ := x; exact ⟨_, e⟩
  | rng lo hi => obtain ⟨_, _, _, e⟩ := x; exact ⟨_, e⟩
  | frz ob u => obtain ⟨e, _⟩ := x; exact ⟨_, e⟩
  | tbl ps => exact ⟨_, (show h.get? a = some _ from x)⟩
  | met f y => exact ⟨_, (show h.get? a = some _ from x)⟩
  | ext φ => exact x.2.1
theorem HOk.none_of {P : Program} {w : World} {H : Hp} {h : Heap} {a : Addr} (x : HOk P w H h) (e : h.get? a = none) : H a = none := by
  cases q : H a with
  | none => rfl
  | some o =>
    obtain ⟨ob, z⟩ := (x a o q).has
    rw [e] at z
    cases z

/-- how an exception lies behind a call -/
def CXb (P : Program) (w : World) : CXT := fun outer H s E e s' => ∃ (a : Addr) (C : Value) (T : Addr) (H' : Hp), e = .ref a ∧ s'.os = s.os ∧ AllBare s'.gens ∧ Un (frs outer) [] H H' s.heap s'.heap ∧ HOk P w H' s'.heap ∧
  ExcOf s'.heap a C (some T) .none ∧ H' a = none ∧ H' T = none ∧ s.heap.get? a = none ∧ s.heap.get? T = none ∧ E C none H'

section
variable {CX : CXT} {P : Program} {w : World} {K : PySem.W.Frag} {mg : Str → Option Value} {base : Heap} {N : List Str} {qual : Str} {scope : Scope} {f : Addr} {cd : Value} {A : Around} {outer : List Env} {s s1 : Shared} {H H1 : Hp} {E : XK}
  {pins : List (Addr × Obj)} {σ : St} {e : Addr} {C : Value} {T0 : Option Addr}
/-- an exception leaves a def's body -/
theorem leave_cx (I : Inv (cxOf (CXb P w) P w K mg base N qual scope f cd A outer s H E) pins σ H1 s1) (hx : ExcOf s1.heap e C T0 .none) (hHe : H1 e = none) (hHT : ∀ t, T0 = some t → H1 t = none)
    (ne : s.heap.get? e = none) (nt : ∀ t, T0 = some t → s.heap.get? t = none) (q : E C none H1) : (cxOf (CXb P w) P w K mg base N qual scope f cd A outer s H E).xe (.ref e) s1 := by
  show wpAny (model P w) (A.deeper (envOfC qual scope s.heap.objs.size f cd)) (leaving (envOfC qual scope s.heap.objs.size f cd) (.ref e)) _ _ s1
  refine leave_step (outer := outer) (L := s.heap.objs.size) I.ok.frames I.stack rfl hx fun h3 T1 x big keep slot => ?_
  have B : Un (frs outer) [] H H1 s.heap s1.heap := I.base
  have hT1 : s1.heap.get? T1 = none := Heap.get?_none_of_le big
  have old : ∀ b o, s.heap.get? b = some o → b ≠ e ∧ T0 ≠ some b ∧ b ≠ s.heap.objs.size := fun b o h => ⟨(fun z => by rw [z, ne] at h; cases h), (fun z => by rw [nt b z] at h; cases h), Nat.ne_of_lt (Heap.lt_size h)⟩
  have nfr : ∀ b, b ∉ frs outer → b ≠ s.heap.objs.size → b ∉ (envOfC qual scope s.heap.objs.size f cd :: outer).filterMap (·.frame) := fun b h1 h2 z => by
    rw [List.filterMap_cons] at z
    rcases List.mem_cons.mp z with z | z
    · exact h2 z
    · exact h1 z
  have trk : ∀ b u, H1 b = some u → b ≠ e ∧ T0 ≠ some b ∧ b ∉ (envOfC qual scope s.heap.objs.size f cd :: outer).filterMap (·.frame) := fun b u h => by
    refine ⟨fun z => ?_, fun z => ?_, fun z => ?_⟩
    · rw [z, hHe] at h; cases h
    · rw [hHT b z] at h; cases h
    · have z2 := I.stkFree b z
      rw [h] at z2; cases z2
  refine ⟨e, C, T1, H1, rfl, I.os, I.bare, ⟨fun b o h n hb hx => ?_, fun b o h n hb hx => ?_, B.free, fun b o h hx => ?_, B.tups, B.frzs, B.tbls⟩, fun b u h => ?_, x, hHe, I.hok.none_of hT1, ne, ?_, q⟩
  · obtain ⟨z1, z2, z3⟩ := old b o h
    exact keep b o z1 z2 (nfr b hb z3) (B.keep b o h n hb hx)
  · obtain ⟨z1, z2, z3⟩ := old b o h
    obtain ⟨sl, z⟩ := B.slot b o h n hb hx
    obtain ⟨sl', z'⟩ := slot b _ z1 z2 z
    exact ⟨sl', z'⟩
  · obtain ⟨z1, z2, z3⟩ := old b o h
    obtain ⟨o', z⟩ := B.there b o h hx
    obtain ⟨sl', z'⟩ := slot b _ z1 z2 z
    exact ⟨_, z'⟩
  · refine (I.hok b u h).stay (fun c v hc z => ?_) (fun _ z => z) fun _ _ z => z
    rcases hc with rfl | hc
    · obtain ⟨z1, z2, z3⟩ := trk c u h
      exact keep c v z1 z2 z3 z
    · obtain ⟨z1, z2, z3⟩ := trk c _ hc
      exact keep c v z1 z2 z3 z
  · exact Heap.get?_none_of_le (Nat.le_trans (Nat.le_trans (Nat.le_refl _) I.sz) big)
/-- a def whose body may raise -/
theorem Fun.okX {x qual : Str} {st : Stmt} {f : Addr} {fd : FuncData} {N ps : List Str} {k : Nat} {sp : Sp} (F : Fun K x qual st f fd) (S : FnScope N ps (defScope st)) (len : ∀ vs H Q E, sp vs H Q E → vs.length = ps.length)
    (hbody : ∀ (cdv : Value) (A : Around) (outer : List Env) (s : Shared) (H : Hp) (vs : List V) (Q : VK) (E : XK), Room k (A.deeper (envOfC qual (defScope st) s.heap.objs.size f cdv)) → sp vs H Q E →
      ∃ t, PSs (cxOf (CXb P w) P w K mg base N qual (defScope st) f cdv A outer s H E) (defBody st) t ∧ t { nx := fun _ H' => Q .non H', rt := Q } (start N vs) H) : FnOk P w K mg base (CXb P w) (k + 1) f fd ps sp := by
  obtain ⟨oc, od, kV, doc, pm, an, cdv, ct, osl, rfl, lk, hcd⟩ := F.ex
  exact fn_of lk hcd S len fun A outer s H vs Q E hr hsp => hbody cdv A outer s H vs Q E hr hsp

/-! ### raise C(..), C a class of the text over ValueError -/
theorem topread_of (M : Mod K mg base) (p : Program) : ∃ loose mb, PySem.W.TopRead p loose mg mb base := by
  obtain ⟨o, es, ep, ho, hd, hk, hm⟩ := id M.glob
  obtain ⟨mb, h1, h2⟩ := M.blt
  refine ⟨es.toList.filterMap (fun d => match d.key with | .str x _ => some x | _ => none), mb, M.glob, h1, M.nolimit, h2, fun x _ hx _ _ _ => ?_⟩
  rw [← hm x]
  cases q : nsFind es x with
  | none => rfl
  | some v =>
    unfold nsFind findBy at q
    obtain ⟨d, hd1, _⟩ := Option.map_eq_some_iff.mp q
    have hmem := Array.mem_of_find?_eq_some hd1
    have hp := Array.find?_some hd1
    obtain ⟨n, t, ek⟩ := hk d hmem
    have en : n = x := by
      rw [ek] at hp
      simpa [Value.isStr] using hp
    exact absurd (List.mem_filterMap.mpr ⟨d, Array.mem_toList_iff.mpr hmem, by rw [ek, en]⟩) hx
theorem own_cls {x : Str} {C : Addr} {bm : List Value} {newId : String} (M : Mod K mg base) (e : PySem.W.nsIn K mainGlobals x = some (some (.ref C))) (q : PySem.W.excIn K C bm newId = true) : OwnCls x C bm newId mg base := by
  obtain ⟨loose, mb, T⟩ := topread_of M default
  exact PySem.W.own_of_in M.kin T e q
end
end L2

set_option Elab.async false
set_option linter.all false
set_option maxRecDepth 100000
set_option maxHeartbeats 4000000
namespace L2
open PySem PySem.Spec PyProof.Rows
section
variable {P : Program} {w : World} {K : PySem.W.Frag} {mg : Str → Option Value} {base : Heap} {N : List Str} {qual : Str} {scope : Scope} {f : Addr} {cd : Value} {A : Around} {outer : List Env} {s : Shared} {H : Hp} {E : XK}
/-- raise C(e, ..) in a def's own body -/
theorem ps_raise {x : Str} {np cpos pos : Pos} {e0 : Expr} {es : List Expr} {ta : TA} {C : Addr} {bm : List Value} {newId B initId : String} (O : OwnCls x C bm newId mg base) (FB : ExcBaseFacts B newId initId bm)
    (hg : Gl (cxOf (CXb P w) P w K mg base N qual scope f cd A outer s H E) x) (ha : PA (cxOf (CXb P w) P w K mg base N qual scope f cd A outer s H E) (e0 :: es) ta)
    (hst : starEach (e0 :: es) (cxOf (CXb P w) P w K mg base N qual scope f cd A outer s H E).env = (false, eval e0 (cxOf (CXb P w) P w K mg base N qual scope f cd A outer s H E).env) :: starEach es (cxOf (CXb P w) P w K mg base N qual scope f cd A outer s H E).env := by rfl)
    (hpl : (backTo cpos (starEach es (cxOf (CXb P w) P w K mg base N qual scope f cd A outer s H E).env)).any (·.1) = false := by rfl) (hdb : (x == ("__debug__" : Str)) = false := by decide) :
    PS (cxOf (CXb P w) P w K mg base N qual scope f cd A outer s H E) (.Raise (some (.Call (.Name x np) (e0 :: es) [] cpos)) none pos) (fun _ σ H1 => ta σ H1 fun vs H2 => vs.length ≤ sizeLine ∧ E (.ref C) none H2) := by
  intro pins s1 σ H1 D I h
  obtain ⟨y1, y2, y3, y4, y5, y6, y7, y8, y9, y10, y11, y12, y13, y14, y15, y16, y17, hC, hN, hni, hT⟩ := O.obj
  refine wpAny_Raise_call_subT (C := C) (nm := y3) (q := y4) (N := y2) (bs := y5) (bm := y1) (hdct := y6) (sn := y7) (sub := y8) (ab := y9) (col := y10) (dd := y11) (k0 := y12) (k1 := y13) (k2 := y14) (k3 := y15) (k5 := y16)
    FB (mN := y17) (hT.hasType FB.hasBase) (I.ok.hd rfl) (by rw [hst]; show (false || (backTo cpos (starEach es _)).any (·.1)) = false; rw [hpl]; rfl) hni (ld_glob I hg O.bound ⟨rfl, ?_⟩ hdb)
  have hA := ha cpos pins s1 σ H1 _ I h
  rw [hst] at hA ⊢
  refine Calls.evalArgs_plain (thn hA fun us s2 ⟨vs, H2, I2, r, hz, q⟩ => ?_)
  have kp : ∀ b o, base.get? b = some o → s2.heap.get? b = some o := I2.bk
  refine ⟨rfl, by rw [← r.length]; exact hz, kp _ _ hC, hN.keeps kp, hT.keeps kp, fun h' e hm => ?_⟩
  obtain ⟨t, he, _, _⟩ := hm.there
  have I3 : Inv (cxOf (CXb P w) P w K mg base N qual scope f cd A outer s H E) pins σ H2 { s2 with heap := h' } := I2.kept (t' := s2.toks) hm.keeps
  refine leave_cx (T0 := none) I3 ⟨_, _, he, rfl, rfl, rfl, rfl, rfl⟩ (I2.hok.none_of hm.new) (fun t z => nomatch z) ?_ (fun t z => nomatch z) q
  cases y : s.heap.get? e with
  | none => rfl
  | some o =>
    obtain ⟨o', z'⟩ := I2.base.there e o y (fun q => nomatch q)
    rw [hm.new] at z'
    cases z'
end

/-! ### try, except -/
/-- a caught exception as an object -/
def excφ (a : Addr) (C : Value) (h : Heap) : Prop := ∃ (oe : Obj) (vs : Array Value), h.get? a = some oe ∧ oe.cls = C ∧ oe.dict = none ∧ oe.data = .fields vs ∧ vs[2]? = some .none
def excO (a : Addr) (C : Value) : HO := .ext (excφ a C)
theorem ExcOf.phi {h : Heap} {e : Addr} {C fl : Value} {T : Option Addr} (x : ExcOf h e C T fl) : excφ e C h := by
  obtain ⟨oe, vs, he, hc, hdc, hd, h2, _⟩ := x
  exact ⟨oe, vs, he, hc, hdc, hd, h2⟩
theorem excO_ok {P : Program} {w : World} {H : Hp} {h : Heap} {a : Addr} {C : Value} (x : excφ a C h) : ObjOk P w H h a (excO a C) := by
  refine ⟨x, ?_, fun h1 h2 y k => ?_⟩
  · obtain ⟨oe, _, e, _⟩ := x; exact ⟨oe, e⟩
  · obtain ⟨oe, vs, e, r⟩ := y; exact ⟨oe, vs, k oe e, r⟩
/-- the context of a handler's suite -/
def cxHand (X : Cx) (e : Addr) : Cx := { X with A := X.A.mark (some (.ref e)), calm := false, xe := fun _ _ => False }
section
variable {X : Cx} {pins : List (Addr × Obj)} {σ : St} {H : Hp} {s : Shared}
theorem Inv.hand (I : Inv X pins σ H s) (e : Addr) : Inv (cxHand X e) pins σ H s :=
  ⟨⟨I.ok.mod, I.ok.kind, I.ok.glob, I.ok.blt, I.ok.above, I.ok.inj, I.ok.has, I.ok.cab, fun z => (nomatch z), I.ok.frames, I.ok.stk, I.ok.exf, I.ok.bs, I.ok.bsz, I.ok.noex, I.ok.exfs, I.ok.funs, I.ok.frf⟩, I.os, I.bare, I.base, I.loc, I.cell, I.free, I.freeC, I.pin, I.hok, I.len⟩
/-- behind the suite the names are forgotten -/
theorem Inv.lost {e : Addr} {h' : Heap} {m' : Str → Option Value} {t' : Nat} (ok : X.Ok) (I : Inv (cxHand X e) pins σ H s) (hn : h'.Ns X.env.locals m') (hs : Heap.SameBut X.env.locals s.heap h') : Inv X pins (List.replicate X.N.length none) H { s with heap := h', toks := t' } := by
  have ab : ∀ b o, X.s₀.heap.get? b = some o → b ≠ X.env.locals := fun b o h => Nat.ne_of_lt (Nat.lt_of_lt_of_le (Heap.lt_size h) ok.above)
  have B : Un X.fs X.ex X.H₀ H X.s₀.heap s.heap := I.base
  refine ⟨ok, I.os, I.bare, ⟨fun b o h n hb hx => (hs.2 b (ab b o h)).trans (B.keep b o h n hb hx), fun b o h n hb hx => ?_, B.free, fun b o h hx => ?_, B.tups, B.frzs, B.tbls⟩, ⟨m', hn, fun i y v e1 e2 e3 => ?_⟩, fun y c h => ?_, I.free, I.freeC, fun p hp => ?_, fun b u h => ?_, by simp⟩
  · obtain ⟨sl, z⟩ := B.slot b o h n hb hx
    exact ⟨sl, (hs.2 b (ab b o h)).trans z⟩
  · obtain ⟨o', z⟩ := B.there b o h hx
    exact ⟨o', (hs.2 b (ab b o h)).trans z⟩
  · rw [List.getElem?_replicate] at e2
    split at e2 <;> cases e2
  · obtain ⟨v, z⟩ := I.cell y c h
    exact ⟨v, z.sameBut hs (I.cne y c h)⟩
  · obtain ⟨h1, h2, h3, h4, h5⟩ := I.pin p hp
    exact ⟨(hs.2 p.1 h3).trans h1, h2, h3, h4, h5⟩
  · have fr : H X.env.locals = none := I.free
    refine (I.hok b u h).stay (fun c v hc z => (hs.2 c ?_).trans z) (fun _ z => z) fun _ _ z => z
    rcases hc with rfl | hc
    · exact ne_of_none h fr
    · exact ne_of_none hc fr
end
theorem pass0b {P : Program} {w : World} {X : Cx} : Passes (CXb P w) X E0 := fun _ _ _ _ _ _ _ h => by
  obtain ⟨_, _, _, _, _, _, _, _, _, _, _, _, _, _, q⟩ := h
  exact q.elim

/-- try: f(..) / except C as n: a suite that returns -/
def tTry (K : PySem.W.Frag) (sp : Sp) (D0 : Addr) (j : Nat) (ta : TA) (ts : Addr → TS) : TS := fun D σ H => ta σ H fun vs H1 => sp (vs ++ []) H1 (fun _ H2 => D.nx σ H2) fun C _ H2 => PySem.W.exmOne K C (.ref D0) = some true ∧
  ∀ a, H2 a = none → ts a { nx := fun _ _ => False, rt := D.rt } (σ.set j (some (.ref a))) (upd H2 a (excO a C))
theorem ps_try {X : Cx} {x c n : Str} {p cp sp0 cpos hp pos : Pos} {e0 : Expr} {es : List Expr} {b0 : Stmt} {suite : List Stmt} {ta : TA} {ts : Addr → TS} {k j : Nat} {f D0 : Addr} {fd : FuncData} {ps : List Str} {sp : Sp}
    (hstk : X.stack = X.env :: X.outer) (hfr : X.env.frame = some X.env.locals) (F : FnOk X.prog X.w X.K X.mg X.base (CXb X.prog X.w) k f fd ps sp) (hr : Room k X.A) (hg : Gl X x) (hm : X.mg x = some (.ref f)) (hk : PySem.W.keepIn X.K (.ref f) = true) (hb : Binds X.K fd ps [])
    (ha : ∀ E, PA (X.wish E) (e0 :: es) ta) (hgc : Gl X c) (hmc : X.mg c = some (.ref D0)) (hN : X.N.Nodup) (hj : X.N[j]? = some n) (hl : X.env.scope.names.lookup n = some .local) (hsu : ∀ a, PSs (cxHand X a) (b0 :: suite) (ts a))
    (hst : starEach (e0 :: es) X.env = (false, eval e0 X.env) :: starEach es X.env := by rfl) (hpl : (backTo cp (starEach es X.env)).any (·.1) = false := by rfl) (hsw : swapsWith (.Call (.Name x p) (e0 :: es) [] cp) none sp0.line X.env = pure false := by rfl)
    (hdb : (x == ("__debug__" : Str)) = false := by decide) (hdc : (c == ("__debug__" : Str)) = false := by decide) :
    PS X (.Try [.Expr (.Call (.Name x p) (e0 :: es) [] cp) sp0] [.ExceptHandler (some (.Name c cpos)) (some n) (b0 :: suite) hp] [] [] pos) (tTry X.K sp D0 j ta ts) := by
  intro pins s σ H D I h
  refine wpAny_Try_except ?_
  generalize hEy : (fun (e : Value) (s₁ : Shared) => wpAny (model X.prog X.w) X.A (noteFrame e X.env) (fun _ s₂ => wpAny (model X.prog X.w) X.A (setFlight e none) (fun _ s₃ =>
    wpAny (model X.prog X.w) X.A (handleBy e X.env [.ExceptHandler (some (.Name c cpos)) (some n) (b0 :: suite) hp]) (SP X pins D) X.xe s₃) X.xe s₂) X.xe s₁) = Ey
  have Iw := I.wish Ey
  refine wpAny_execs_cons (wpAny_Expr_any (wpAny_Call_Name_kw (ld_glob I hg hm ?_ hdb)) I.quiet hsw)
  refine PySem.W.callWith_K (h₀ := X.base) I.ok.mod.kin hk (thn (ha Ey cp pins s σ H _ Iw h) fun us s1 ⟨vs, H1, I1w, r, q⟩ => ⟨I1w.kIn, ?_⟩) hst hpl
  have I1 := I1w.unwish
  have r2 : Vals (vs ++ []) us := by rw [List.append_nil]; exact r
  have hlen : (us ++ []).length = ps.length := by rw [List.append_nil, ← r2.length]; exact F.len _ _ _ _ q
  refine wpAny_call (codeAny_mono (F.run X.A X.stack s1 H1 ⟨us, []⟩ (us ++ []) (vs ++ []) _ _ hr I1.env0 (hb s1 us I1.kIn hlen) (by rw [List.append_nil us]; exact r2) q) fun rs s2 hq => ?_)
  cases rs with
  | ok fl =>
    cases fl with
    | ret u =>
      obtain ⟨v, H2, I2, rv, q2⟩ := I1.after hq
      exact wpAny_execs_nil (wpAny_execs_nil ⟨σ, H2, I2, q2⟩)
    | next => exact False.elim hq
    | brk => exact False.elim hq
    | cont => exact False.elim hq
  | error e =>
    obtain ⟨a, C, T, H2, rfl, os, bare, un, hok, xe, hHa, hHT, na, nT, hexm, qs⟩ := hq
    show Ey (.ref a) s2
    rw [← hEy]
    have I2 : Inv X pins σ H2 s2 := I1.call' os un hok bare (fun b z => absurd z (by simp))
    have fsE : (X.env :: X.outer).filterMap (·.frame) = frs X.stack := by rw [hstk]; rfl
    have trk : ∀ b u, H2 b = some u → b ≠ a ∧ some T ≠ some b ∧ b ∉ (X.env :: X.outer).filterMap (·.frame) := fun b u h => by
      refine ⟨fun z => ?_, fun z => ?_, fun z => ?_⟩
      · rw [z, hHa] at h; cases h
      · rw [← Option.some.inj z, hHT] at h; cases h
      · rw [fsE] at z
        have z2 := I2.stkFree b z
        rw [h] at z2; cases z2
    have old : ∀ b o, s1.heap.get? b = some o → b ≠ a ∧ some T ≠ some b := fun b o h => by
      refine ⟨fun z => ?_, fun z => ?_⟩
      · rw [z, na] at h; cases h
      · rw [← Option.some.inj z, nT] at h; cases h
    -- from the call on: another heap that keeps all but the exception's records
    have again : ∀ (g : Heap) (s' : Shared), s'.os = s2.os → AllBare s'.gens → s'.heap = g → (∀ b o, b ≠ a → some T ≠ some b → b ∉ frs X.stack → s2.heap.get? b = some o → g.get? b = some o) → (∀ b o, b ≠ a → some T ≠ some b → s2.heap.get? b = some o → ∃ sl, g.get? b = some { o with slots := sl }) →
        excφ a C g → Inv X pins σ (upd H2 a (excO a C)) s' := by
      intro g s' ho hb hg keep slot hphi
      subst hg
      refine I1.call' (ch := []) (ho.trans os) ⟨fun b o h n hf hx => ?_, fun b o h n hf hx => ?_, fun b o h n hx => ?_, fun b o h hx => ?_, fun b xs h => ?_, fun b o u h => ?_, fun b p h => ?_⟩ ?_ hb (fun b z => absurd z (by simp))
      · exact keep b o (old b o h).1 (old b o h).2 hf (un.keep b o h n hf hx)
      · obtain ⟨sl, z⟩ := un.slot b o h n hf hx
        obtain ⟨sl', z'⟩ := slot b _ (old b o h).1 (old b o h).2 z
        exact ⟨sl', z'⟩
      · rw [upd_ne (old b o h).1]; exact un.free b o h n hx
      · obtain ⟨o', z⟩ := un.there b o h hx
        obtain ⟨sl', z'⟩ := slot b _ (old b o h).1 (old b o h).2 z
        exact ⟨_, z'⟩
      · have z := un.tups b xs h
        rw [upd_ne (ne_of_none z hHa)]; exact z
      · have z := un.frzs b o u h
        rw [upd_ne (ne_of_none z hHa)]; exact z
      · obtain ⟨more, z⟩ := un.tbls b p h
        exact ⟨more, by rw [upd_ne (ne_of_none z hHa)]; exact z⟩
      · intro b u h
        by_cases hba : b = a
        · subst hba
          rw [upd_same] at h
          cases h
          exact excO_ok hphi
        · rw [upd_ne hba] at h
          refine (hok b u h).stay (fun c v hc z => ?_) (fun c z => by rw [upd_ne (ne_of_none z hHa)]; exact z) fun c xs z => by rw [upd_ne (ne_of_none z hHa)]; exact z
          have tc : ∃ u', H2 c = some u' := by
            rcases hc with rfl | hc
            · exact ⟨u, h⟩
            · exact ⟨_, hc⟩
          obtain ⟨u', hu'⟩ := tc
          obtain ⟨z1, z2, z3⟩ := trk c u' hu'
          rw [fsE] at z3
          exact keep c v z1 z2 z3 z
    refine note_step (outer := X.outer) (L := X.env.locals) (base := X.base) (by rw [← hstk]; exact I2.ok.frames) (by rw [← hstk]; exact I2.stack) hfr xe fun g3 T1 x3 big keep3 slot3 => ?_
    rw [fsE] at keep3
    refine flight_step (s := { s2 with heap := g3 }) x3 fun g4 x4 k4 => ?_
    have nt1 : ∀ b o, s2.heap.get? b = some o → b ≠ T1 := fun b o h z => absurd (Heap.lt_size h) (by rw [z]; exact Nat.not_lt.mpr big)
    have keep4 : ∀ b o, b ≠ a → some T ≠ some b → b ∉ frs X.stack → s2.heap.get? b = some o → g4.get? b = some o := fun b o h1 h2 h3 h => k4 b o (nt1 b o h) (keep3 b o h1 h2 h3 h)
    have slot4 : ∀ b o, b ≠ a → some T ≠ some b → s2.heap.get? b = some o → ∃ sl, g4.get? b = some { o with slots := sl } := fun b o h1 h2 h => let ⟨sl, z⟩ := slot3 b o h1 h2 h; ⟨sl, k4 b _ (nt1 b o h) z⟩
    have I4 : Inv X pins σ (upd H2 a (excO a C)) { s2 with heap := g4 } := again g4 _ rfl bare rfl keep4 slot4 x4.phi
    refine wpAny_handleBy_cons (codeAny_handlers_test (ld_glob (X := cxHand X a) (I4.hand a) hgc hmc ?_ hdc)) (by intro z; cases z)
    obtain ⟨oe, vs', he, hcl, _⟩ := x4.phi
    have LT : PySem.W.Looks (model X.prog X.w) g4 (typeOf (.ref a)) C := hcl ▸ (PySem.W.Looks.ld he).andThen .now
    refine (PySem.W.exm_one (h := g4) I4.kIn LT hexm) _ _ _ _ (fun _ _ z => z) ?_
    refine codeAny_handlers_suite_as ?_
    refine flight_step (s := { s2 with heap := g4 }) x4 fun g5 x5 k5 => ?_
    have I5 : Inv X pins σ (upd H2 a (excO a C)) { s2 with heap := g5 } := again g5 _ rfl bare rfl (fun b o h1 h2 h3 h => k5 b o (nt1 b o h) (keep4 b o h1 h2 h3 h)) (fun b o h1 h2 h => let ⟨sl, z⟩ := slot4 b o h1 h2 h; ⟨sl, k5 b _ (nt1 b o h) z⟩) x5.phi
    refine store_ok (X := cxHand X a) (i := j) (v := .ref a) (I5.hand a) hN hj (.inl hl) rfl (fun s6 I6 => ?_) (.inr hl)
    refine wpAny_mono (hsu a pins s6 _ _ _ I6 (qs a hHa)) (fun fl s7 q7 => ?_) fun _ _ z => z.elim
    cases fl with
    | next => obtain ⟨_, _, _, z⟩ := q7; exact z.elim
    | brk => obtain ⟨_, _, _, z⟩ := q7; exact z.elim
    | cont => obtain ⟨_, _, _, z⟩ := q7; exact z.elim
    | ret u =>
      obtain ⟨v, σ7, H7, I7, rv, q7⟩ := q7
      obtain ⟨m7, hn7, _⟩ := I7.loc
      refine wpAny_nameGoes hl hn7 (by rw [I.ok.kind]; rfl) fun h8 m8 hn8 hs8 => ?_
      exact ⟨v, _, H7, Inv.lost I.ok I7 hn8 hs8, rv, q7⟩
end L2

set_option Elab.async false
set_option linter.all false
set_option maxRecDepth 100000
set_option maxHeartbeats 4000000
namespace L2
open PySem PySem.Spec PyProof.Rows

/-! ### __class__ of a caught exception of an own class -/
/-- what the fragment says of an own exception class -/
structure XCls (K : PySem.W.Frag) (C : Addr) : Prop where
  ga : PySem.W.findIn K (.ref C) "__getattribute__" = some (some (.builtin "BaseException.__getattribute__"))
  gt : PySem.W.findIn K (.ref C) "__getattr__" = some none
  at_ : PySem.W.findIn K (.ref C) "__class__" = some (some (.builtin "object.__class__"))
  sp : PySem.W.specialIn K (.builtin "object.__class__") "__get__" = some (some (.builtin "getset_descriptor.__get__"))
  tk : PySem.W.takesIn K (.builtin "object.__class__") = some true
  ob : PySem.W.mroIn K C (.type "object") = some true
  bx : PySem.W.mroIn K C (.type "BaseException") = some true
  cl : (PySem.W.clsIn K C).isSome = true

section
variable {prog : Program} {w : World} {A : Around} {E : Value → Shared → Prop} {s : Shared} {K : PySem.W.Frag} {x C : Addr} {ox : Obj} {tk : Tok}
theorem xc_entry {Q : Fin → Shared → Prop} (Z : XCls K C) (X : K.In s.heap) (I : PySem.W.InstAt s.heap x ox C none) (h : Q (.done (.ret (.ref C))) s) :
    wpAny (model prog w) A (Builtin.«object.__getattribute__» ⟨[.ref x, .str "__class__" tk], []⟩) Q E s := by
  obtain ⟨cd, hcd⟩ := Option.isSome_iff_exists.mp Z.cl
  have hf : PySem.W.findObj K C none "__class__" = some (.bind (.builtin "getset_descriptor.__get__") (.builtin "object.__class__")) := by
    unfold PySem.W.findObj
    simp only [hcd, Option.bind_some, Z.at_, Z.sp, Z.tk]
  obtain ⟨hh, gg, d, t, os⟩ := s
  have L0 := I.type (M := model prog w)
  have L1 := PySem.W.looks_find (M := model prog w) X I hf
  refine wpAny_bind (wpAny_pure (wpAny_bind (wpAny_pure (wpAny_bind (L0.at (wpAny_bind (L1.at ?_)))))))
  show wpAny _ _ (holding [Value.builtin "object.__class__"] (call (.builtin "getset_descriptor.__get__") [.builtin "object.__class__", .ref x, .ref C]) >>= ret) _ _ _
  exact wpAny_bind (wpAny_holding (wpAny_call (PySem.W.class_get X I Z.ob (wpAny_pure h))))
theorem xc_check {M : Model} {v : Value} {Q : Unit → Shared → Prop} (Z : XCls K C) (X : K.In s.heap) (I : PySem.W.InstAt s.heap x ox C none) (h : Q () s) : wpAny M A (checkBuiltinCall "BaseException.__getattribute__" ⟨[.ref x, v], []⟩) Q E s := by
  have hk : builtinKind "BaseException.__getattribute__" = some .slot := by decide +kernel
  have hs : splitId "BaseException.__getattribute__" = some ("BaseException", "__getattribute__") := by decide +kernel
  have ha := F.args_bexc_ga (.ref x) v
  obtain ⟨hh, gg, d, t, os⟩ := s
  have L0 := I.type (M := M)
  have L1 := PySem.W.looks_mroIn (M := M) X Z.bx
  have LI : PySem.W.Looks M hh (isInstance (.ref x) (.type "BaseException")) true := L0.andThen L1
  simp only [checkBuiltinCall, hk, hs]
  refine wpAny_bind (LI.at ?_)
  repeat (first | wp_step | assumption)
theorem xc_attr {Q : Option Value → Shared → Prop} (Z : XCls K C) (X : K.In s.heap) (I : PySem.W.InstAt s.heap x ox C none) (h : Q (some (.ref C)) { s with toks := s.toks + 1 }) :
    wpAny (model prog w) A (getAttr? (.ref x) "__class__") Q E s := by
  obtain ⟨hh, gg, d, t, os⟩ := s
  have L0 := I.type (M := model prog w)
  have L1 := PySem.W.looks_findIn (M := model prog w) X Z.ga
  have L2 := PySem.W.looks_findIn (M := model prog w) X Z.gt
  unfold getAttr? getAttrBy? getAttrBy
  refine wpAny_bind (wpAny_mkText (wpAny_bind (wpAny_attempt (wpAny_holding (wpAny_bind (L0.at (wpAny_bind (L1.at ?_))))))))
  show wpAny _ _ (if onTheHeap (.ref C) && Value.builtin "BaseException.__getattribute__" == .builtin "object.__getattribute__" then _ else _) _ _ _
  have ne : (Value.builtin "BaseException.__getattribute__" == Value.builtin "object.__getattribute__") = false := by decide +kernel
  rw [ne, Bool.and_false, if_neg Bool.false_ne_true]
  unfold getAttrByItsOwn
  refine wpAny_bind ?_
  show wpAny _ _ (typeLookup (.ref C) "__getattr__") _ _ _
  refine L2.at (wpAny_bind (wpAny_attempt (wpAny_holding ?_)))
  show wpAny _ _ (boundAndCalled _ _ _) _ _ _
  unfold boundAndCalled
  rw [F.excAttr_ValueError.ga.bind]
  refine wpAny_bind (wpAny_pure (wpAny_call (codeAny_call_builtin F.excAttr_ValueError.ga.plain F.entry_bexc_ga (xc_check Z X I (xc_entry Z X I ?_)))))
  exact PySem.W.handed_on rfl (wpAny_pure h)
end

theorem excφ.inst {h : Heap} {a C : Addr} (x : excφ a (.ref C) h) : ∃ ox, PySem.W.InstAt h a ox C none := by
  obtain ⟨oe, vs, e, c, d, f, _⟩ := x
  refine ⟨oe, e, c, ?_, ?_⟩
  · unfold PySem.W.notCls; rw [f]
  · rw [d]; trivial
theorem kitx_exc {K : PySem.W.Frag} {a C : Addr} (Z : XCls K C) : PySem.W.KitX K (.ref a) (.ref C) (excφ a (.ref C)) where
  ty := fun _ _ _ p => let ⟨_, I⟩ := p.inst; I.type
  it := fun _ _ X _ => by
    have e1 := Z.cl
    unfold PySem.W.clsIn at e1
    split at e1
    · rename_i c' d' cd' sl' ho
      intro A' Q' E' s' k q
      unfold isType loadHead
      exact wpAny_bind (wpAny_loadPart (k _ _ (X _ _ ho)) (wpAny_pure q))
    · cases e1
  ne := fun h tp dd its n sl X htp => by
    have e1 := Z.cl
    refine Bool.eq_false_iff.mpr fun q => ?_
    have e : C = tp := Value.ref.inj (beq_iff_eq.mp q)
    subst e
    unfold PySem.W.clsIn at e1
    split at e1
    · rename_i c' d' cd' sl' ho
      cases (X _ _ ho).symm.trans htp
    · cases e1
  ca := fun X p k => let ⟨_, I⟩ := p.inst; xc_attr Z X I k

/-! isinstance(error, own class) -/
section
variable {X : Cx}
def rIsx (K : PySem.W.Frag) : List V → Hp → VK → Prop := fun xs H Q => ∃ a C D b, xs = [V.ref a, V.ref D] ∧ H a = some (excO a (.ref C)) ∧ XCls K C ∧ PySem.W.kitOne K (.ref C) (.ref D) = some b ∧ Q (.bl b) H
theorem call_isx : CallR X (.builtin "isinstance") (rIsx X.K) := by
  intro pins s σ H xs us Q I r h
  obtain ⟨a, C, D, b, rfl, ea, Z, e, q⟩ := h
  obtain ⟨u, w', rfl, ru, rw'⟩ := vals2 r
  cases ru
  cases rw'
  have hx : excφ a (.ref C) s.heap := (I.hok a _ ea).1
  exact PySem.W.kia_one (kitx_exc Z) I.kIn hx e (fun z => nomatch z) fun tk => ⟨.bl b, H, I.tok tk, rfl, q⟩
theorem call_isxK {K : PySem.W.Frag} (e : X.K = K) : CallR X (.builtin "isinstance") (rIsx K) := e ▸ call_isx
end
end L2

/-! ### any in a handler's suite: the end of the list is told by an exception that is chained to the one at hand -/
namespace L2
open PySem PySem.Spec PyProof.Rows
theorem ent_unchain : entryFor table "proto.unchain" = some Builtin.«proto.unchain» := entryFor_of_tree (by kernel_rfl)
section
variable {prog : Program} {w : World} {A : Around} {E : Value → Shared → Prop} {s : Shared}
theorem upd_field {M : Model} {a : Addr} {o : Obj} {vs : Array Value} {i : Nat} {v : Value} {Q : Unit → Shared → Prop} (ho : s.heap.get? a = some o) (hd : o.data = .fields vs) (hi : i < vs.size)
    (h : Q () { s with heap := s.heap.update a (Obj.mapFields (·.setIfInBounds i v)) }) : wpAny M A (updateField a i v) Q E s := by
  unfold updateField
  refine wpAny_bind (wpAny_load ho ?_)
  rw [hd]
  show wpAny _ _ (if i < vs.size then _ else _) _ _ _
  rw [if_pos hi]
  exact wpAny_update ho h
theorem next_end_h {it l e : Addr} {i : Nat} {items : Array Value} {oe : Obj} {ve : Array Value} {Q : Option Value → Shared → Prop} (hh : A.handled = some (.ref e)) (hit : s.heap.IsListIter it l i) (hl : s.heap.IsList l items) (hx : items[i]? = none)
    (he : s.heap.get? e = some oe) (hde : oe.data = .fields ve) (h2 : ve[2]? = some .none) (hQ : ∀ h', Heap.ExtBut it s.heap h' → Q none { s with heap := h' }) : wpAny (model prog w) A (pyNext (.ref it)) Q E s := by
  obtain ⟨o, ho, hc, hd⟩ := id hit
  obtain ⟨ol, hol, _, nl, hdl⟩ := hl
  have hei : e ≠ it := fun z => by
    rw [z, ho] at he
    cases he
    rw [hd] at hde
    cases hde
    cases h2
  unfold pyNext
  refine wpAny_bind (wpAny_attempt (wpAny_callSpecial?_slot (name := Str.ofString "__next__") hit.typeIs slot_listiter_next (wpAny_call_entry slot_listiter_next hit.typeIs entry_listiter_next ?_ (args_listiter_next _))))
  refine wpAny_bind (m := field (.ref it) 0) (wpAny_field ho hd (x := .ref l) rfl ?_)
  show wpAny _ _ (if (Value.ref l == Value.none) = true then _ else (field (.ref it) 1 >>= _)) _ _ s
  rw [if_neg (show ¬ (Value.ref l == Value.none) = true from fun z => Bool.false_ne_true z)]
  refine wpAny_bind (m := field (.ref it) 1) (wpAny_field ho hd (x := .int i 0) rfl (wpAny_bind (m := seqItems? (.ref l)) (wpAny_seqItems hol hdl ?_)))
  simp only [Int.toNat_natCast, hx]
  refine wpAny_bind (wpAny_rule (wpAny_bind (wpAny_setField ho hd (by simp) (wpAny_bind (m := newExc (.type "StopIteration") []) ?_))))
  have e1 : (s.heap.update it (Obj.mapFields (·.setIfInBounds 0 Value.none))).get? e = some oe := (Heap.get?_update_other _ _ (Ne.symm hei)).trans he
  simp only [newExc, newTuple]
  refine wpAny_bind (wpAny_newObj_type (wpAny_bind (m := firstArgMember _ _) (wpAny_of_eq (a := Value.none) (by first | rfl | (simp only [firstArgMember]; rfl)) (wpAny_newObj_type ?_ (by size_fits)))) (by size_fits))
  simp only [raiseNew]
  refine wpAny_bind (wpAny_handled ?_)
  rw [show A.in1.handled = some (.ref e) from hh]
  have e2 := Heap.get?_push_of_some { cls := Value.type "tuple", data := Data.seq #[] } e1
  have x2 : Heap.ExtBut it s.heap ((s.heap.update it (Obj.mapFields fun x => x.setIfInBounds 0 Value.none)).push { cls := Value.type "tuple", data := Data.seq #[] }) := (Heap.SameBut.update ..).extBut.push _
  generalize ((s.heap.update it (Obj.mapFields fun x => x.setIfInBounds 0 Value.none)).push { cls := Value.type "tuple", data := Data.seq #[] }) = g at e2 x2 ⊢
  have hz : 2 < (#[Value.ref (s.heap.update it (Obj.mapFields fun x => x.setIfInBounds 0 Value.none)).objs.size, Value.none, Value.none, Value.none, Value.bool false, Value.none] ++ ownMembersOf (Value.type "StopIteration") []).size := by
    rw [Array.size_append]
    exact Nat.lt_of_lt_of_le (by decide : 2 < 6) (Nat.le_add_right _ _)
  generalize (#[Value.ref (s.heap.update it (Obj.mapFields fun x => x.setIfInBounds 0 Value.none)).objs.size, Value.none, Value.none, Value.none, Value.bool false, Value.none] ++ ownMembersOf (Value.type "StopIteration") []) = ws at hz ⊢
  have hng : (Value.ref e != Value.ref g.objs.size) = true := bne_iff_ne.mpr fun z => absurd (Heap.lt_size e2) (by rw [Value.ref.inj z]; exact Nat.lt_irrefl _)
  have e3 := Heap.get?_push_of_some { cls := Value.type "StopIteration", data := Data.fields ws } e2
  have n3 : (g.push { cls := Value.type "StopIteration", data := Data.fields ws }).get? g.objs.size = some { cls := Value.type "StopIteration", data := Data.fields ws } := Heap.get?_push_size _ rfl
  have x3 := x2.push { cls := Value.type "StopIteration", data := Data.fields ws }
  show wpAny _ _ (if (Value.ref e != Value.ref g.objs.size) = true then _ else _) _ _ _
  rw [if_pos hng]
  refine wpAny_bind (wpAny_holding (wpAny_runValue (codeAny_builtin ent_unchain ?_)))
  unfold Builtin.«proto.unchain»
  refine wpAny_bind (m := field (.ref e) 2) (wpAny_field e3 hde h2 ?_)
  show wpAny _ _ (if (Value.none == Value.none) = true then _ else _) _ _ _
  rw [if_pos (by decide)]
  refine wpAny_bind (m := ret Value.none) (wpAny_pure (wpAny_pure ?_))
  refine wpAny_bind (upd_field n3 rfl hz (wpAny_throw (wpAny_bind ?_)))
  have n4 := Heap.get?_update_self (Obj.mapFields (·.setIfInBounds 2 (Value.ref e))) n3 (Obj.isFreed_of_fields (Obj.data_mapFields rfl _))
  refine wpAny_isInstance (T := "StopIteration") (b := true) ⟨_, n4, rfl⟩ isSubtype_stop (wpAny_pure (hQ _ fun b o hb eb => ?_))
  have z := x3 b o hb eb
  rw [Heap.get?_update_other _ _ ?_]
  · exact z
  · exact fun z' => by
      have := Heap.lt_size (x2 b o hb eb)
      rw [z'] at this
      exact Nat.lt_irrefl _ this
theorem walks_h {e : Addr} {oe : Obj} {ve : Array Value} (hh : A.handled = some (.ref e)) (hde : oe.data = .fields ve) (h2 : ve[2]? = some .none) (I ax : Addr) (hne : ax ≠ I) (hei : e ≠ I) (items : Array Value) :
    Walks prog w A I [I, ax, e] [I] items.size (fun i v => items[i]? = some v) (fun i h => h.IsListIter I ax i ∧ h.IsList ax items ∧ h.get? e = some oe) where
  sub := fun b hb => by simp at hb; simp [hb]
  frame := fun _ _ _ st k => ⟨st.1.at fun o z => k I (by simp) o z, st.2.1.at fun o z => k ax (by simp) o z, k e (by simp) _ st.2.2⟩
  item := fun i s Q E hi st hQ => by
    refine wpAny_pyNext_list_item st.1 st.2.1 (x := items[i]) (by simp [hi]) fun h' st' sb => hQ _ h' s.toks (by simp [hi]) ⟨st', st.2.1.extBut sb.extBut hne, (sb.2 e hei).trans st.2.2⟩ fun b o hb z => sb.extBut b o (fun y => hb (by simp [y])) z
  done := fun s Q E st hQ => next_end_h hh st.1 st.2.1 (by simp) st.2.2 hde h2 fun h' x => hQ h' s.toks fun b o hb z => x b o (fun y => hb (by simp [y])) z
  self := fun _ _ _ _ st hQ => wpAny_pyIter_listiter st.1 hQ
end
def rTruthsH (K : PySem.W.Frag) (e : Addr) (f : List Bool → Bool) : List V → Hp → VK → Prop := fun xs H Q => ∃ p bs C, xs = [V.ref p] ∧ SqL K H p (bs.map V.bl) ∧ H e = some (excO e C) ∧ Q (.bl (f bs)) H
theorem call_anyH {X : Cx} {e : Addr} {K : PySem.W.Frag} (eK : X.K = K) : CallR (cxHand X e) (.builtin "any") (rTruthsH K e fun bs => bs.any id) := by
  subst eK
  intro pins s σ H xs us Q I r h
  obtain ⟨p, bs, C, rfl, hq, hE, q⟩ := h
  obtain ⟨u, rfl, ru⟩ := vals1 r
  cases ru
  obtain ⟨its, rv, pl, hz⟩ := I.list hq
  have ei := truths_of rv
  subst ei
  have hl := pl.isList
  have hp : p < s.heap.objs.size := let ⟨o, n, z, _⟩ := pl; Heap.lt_size z
  obtain ⟨oe, ve, he, _, _, hde, h2⟩ := (I.hok e _ hE).1
  refine call_any_walk (wpAny_pyIter_list hl ?_)
  refine ⟨s.heap.objs.size, _, _, _, _, _, _, rfl, walks_h (e := e) (oe := oe) (ve := ve) rfl hde h2 s.heap.objs.size p (Nat.ne_of_lt hp) (Nat.ne_of_lt (Heap.lt_size he)) (bs.map Value.bool).toArray, ⟨⟨_, Heap.get?_push_size _ rfl, rfl, rfl⟩, hl.push _, Heap.get?_push_of_some _ he⟩, truth_bools bs, fun h' tk hk => ⟨.bl _, H, I.kept (fun b o z => hk b o (fun y => ?_) (Heap.get?_push_of_some _ z)), rfl, ?_⟩⟩
  · have y' : b = s.heap.objs.size := by simpa using y
    exact absurd (Heap.lt_size z) (by rw [y']; exact Nat.lt_irrefl _)
  · have z : (bs.map Value.bool).toArray.size = bs.length := by simp
    rw [z, range_any]
    exact q
end L2

set_option Elab.async false
set_option linter.all false
set_option maxRecDepth 100000
set_option maxHeartbeats 4000000
/-! slices of texts, index; callees that may raise -/
namespace L2
open PySem PySem.Spec PyProof.Rows
def rSlS : V → Option Int → Option Int → Hp → VK → Prop := fun x lo hi H Q => ∃ y, x = .str y ∧ y.length ≤ sizeLine ∧ Q (.str (Txt.slice y lo hi)) H
theorem part_of {v : Value} {o : Option Int} (h : IsPart v o) : ∃ l : Option (Int × Tok), v = partValue l ∧ l.map (·.1) = o := by
  cases h with
  | none => exact ⟨none, rfl, rfl⟩
  | int i t => exact ⟨some (i, t), rfl, rfl⟩
theorem sl_str {X : Cx} : SlR X rSlS := by
  intro pins s σ H x v vl vu lo hi sl Q I rx hs pl pu h
  obtain ⟨y, rfl, hz, q⟩ := h
  obtain ⟨t, rfl⟩ := rx
  obtain ⟨l, rfl, rfl⟩ := part_of pl
  obtain ⟨u, rfl, rfl⟩ := part_of pu
  obtain ⟨o, ho, hc, hd⟩ := hs
  refine ⟨"str", _, F.slot_str_getitem.lookup, typeIs_str _ _ _, wpAny_getItem_str_slice (l := l) (u := u) (st := none) ⟨o, ho, hc, hd⟩ rfl ?_⟩
  exact post_val_or_str ⟨Nat.le_trans (Txt.slice_le y _ _) hz, fun t' k => ⟨.str (Txt.slice y (l.map (·.1)) (u.map (·.1))), H, I.tok k, ⟨t', rfl⟩, q⟩⟩
/-! ### the letters of a slice -/
open Builtin Builtin.Str in
theorem cut_to (x : Str) {a : Nat} (ha : a ≤ x.length) : Txt.slice x none (some (a : Int)) = ⟨(x.cps.toList.take a).toArray⟩ := by
  have z := StrLaws.sliceText_nat x (a := 0) (b := a) (Nat.zero_le _) ha
  have e : Txt.slice x none (some (a : Int)) = Txt.slice x (some ((0 : Nat) : Int)) (some (a : Int)) := by
    unfold Txt.slice
    rw [StrLaws.sliceIdx_none_lo]
    rfl
  rw [e]
  exact z
theorem cut_from (x : Str) {a : Nat} (ha : a ≤ x.length) : Txt.slice x (some (a : Int)) none = ⟨(x.cps.toList.drop a).toArray⟩ := by
  have z := StrLaws.sliceText_nat x (a := a) (b := x.length) ha (Nat.le_refl _)
  have e : Txt.slice x (some (a : Int)) none = Txt.slice x (some (a : Int)) (some (x.length : Int)) := by
    unfold Txt.slice
    rw [StrLaws.sliceIdx_none_hi]
  rw [e]
  refine Eq.trans z ?_
  have l : (x.cps.toList.drop a).length ≤ x.length - a := by rw [List.length_drop]; show x.cps.toList.length - a ≤ x.cps.size - a; rw [Array.length_toList]; exact Nat.le_refl _
  rw [List.take_of_length_le l]

/-! ### index of a text -/
/-! ### a callee that may raise -/
structure CalleeX (P : Program) (w : World) (K : PySem.W.Frag) (mg : Str → Option Value) (base : Heap) (k : Nat) (x : Str) (ps : List Str) (sp : Sp) : Prop where
  ex : ∃ f fd, FnOk P w K mg base (CXb P w) k f fd ps sp ∧ mg x = some (.ref f) ∧ PySem.W.keepIn K (.ref f) = true ∧ Binds K fd ps []
theorem CalleeX.mono {P : Program} {w : World} {K : PySem.W.Frag} {mg : Str → Option Value} {base : Heap} {j k : Nat} {x : Str} {ps : List Str} {sp : Sp} (c : CalleeX P w K mg base j x ps sp) (h : j ≤ k) : CalleeX P w K mg base k x ps sp := by
  obtain ⟨f, fd, F, m, kp, b⟩ := c.ex
  exact ⟨f, fd, F.mono h, m, kp, b⟩
/-- .. and doesn't at this call -/
theorem pe_callX0 {X : Cx} {k : Nat} {x : Str} {ps : List Str} {sp : Sp} {e : Expr} {es : List Expr} {t : TA} {p pos : Pos} (c : CalleeX X.prog X.w X.K X.mg X.base k x ps sp) (hr : Room k X.A) (hg : Gl X x) (ha : PA X (e :: es) t)
    (hdb : (x == ("__debug__" : Str)) = false := by decide) (he : starEach (e :: es) X.env = (false, eval e X.env) :: starEach es X.env := by rfl) (hpl : (backTo pos (starEach es X.env)).any (·.1) = false := by rfl) :
    PE X (.Call (.Name x p) (e :: es) [] pos) (tCall sp [] E0 t) := by
  obtain ⟨f, fd, F, m, kp, b⟩ := c.ex
  exact pe_call F hr hg m kp b .nil pass0b ha hdb he hpl
theorem calleeX_of {P : Program} {w : World} {K : PySem.W.Frag} {mg : Str → Option Value} {base : Heap} {k : Nat} {x qual : Str} {st : Stmt} {f : Addr} {fd : FuncData} {ps : List Str} {sp : Sp} (F : Fun K x qual st f fd) (G : FnOk P w K mg base (CXb P w) k f fd ps sp) (m : mg x = some (.ref f))
    (h : ∀ (kV doc pm : Value) (an : Option Addr) (cdv ct : Value) (us : List Value), us.length = ps.length → bindArgs (PySem.W.fnOf x qual (defArgs st) (defBody st) (defScope st) .none kV doc pm an cdv ct) ⟨us, []⟩ = pure (ps.zip us)) : CalleeX P w K mg base k x ps sp :=
  ⟨f, fd, G, m, F.kp, F.binds h⟩
/-- try: f(..) / except C as n, by the callee in short -/
theorem ps_tryc {X : Cx} {x c n : Str} {p cp sp0 cpos hp pos : Pos} {e0 : Expr} {es : List Expr} {b0 : Stmt} {suite : List Stmt} {ta : TA} {ts : Addr → TS} {k j : Nat} {D0 : Addr} {ps : List Str} {sp : Sp}
    (hstk : X.stack = X.env :: X.outer) (hfr : X.env.frame = some X.env.locals) (C : CalleeX X.prog X.w X.K X.mg X.base k x ps sp) (hr : Room k X.A) (hg : Gl X x)
    (ha : ∀ E, PA (X.wish E) (e0 :: es) ta) (hgc : Gl X c) (hmc : X.mg c = some (.ref D0)) (hN : X.N.Nodup) (hj : X.N[j]? = some n) (hl : X.env.scope.names.lookup n = some .local) (hsu : ∀ a, PSs (cxHand X a) (b0 :: suite) (ts a))
    (hst : starEach (e0 :: es) X.env = (false, eval e0 X.env) :: starEach es X.env := by rfl) (hpl : (backTo cp (starEach es X.env)).any (·.1) = false := by rfl) (hsw : swapsWith (.Call (.Name x p) (e0 :: es) [] cp) none sp0.line X.env = pure false := by rfl)
    (hdb : (x == ("__debug__" : Str)) = false := by decide) (hdc : (c == ("__debug__" : Str)) = false := by decide) :
    PS X (.Try [.Expr (.Call (.Name x p) (e0 :: es) [] cp) sp0] [.ExceptHandler (some (.Name c cpos)) (some n) (b0 :: suite) hp] [] [] pos) (tTry X.K sp D0 j ta ts) := by
  obtain ⟨f, fd, F, m, kp, b⟩ := C.ex
  exact ps_try hstk hfr F hr hg m kp b ha hgc hmc hN hj hl hsu hst hpl hsw hdb hdc
end L2
namespace L2
open PySem PySem.Spec PyProof.Rows
/-- raise C(e, ..), by what the fragment says of the class -/
theorem ps_raiseK {P : Program} {w : World} {K : PySem.W.Frag} {mg : Str → Option Value} {base : Heap} {N : List Str} {qual : Str} {scope : Scope} {f : Addr} {cd : Value} {A : Around} {outer : List Env} {s : Shared} {H : Hp} {E : XK}
    {x : Str} {np cpos pos : Pos} {e0 : Expr} {es : List Expr} {ta : TA} {C : Addr} {bm : List Value} {newId B initId : String} (ns : PySem.W.nsIn K mainGlobals x = some (some (.ref C))) (ex : PySem.W.excIn K C bm newId = true) (FB : ExcBaseFacts B newId initId bm)
    (hg : Gl (cxOf (CXb P w) P w K mg base N qual scope f cd A outer s H E) x) (ha : PA (cxOf (CXb P w) P w K mg base N qual scope f cd A outer s H E) (e0 :: es) ta)
    (hst : starEach (e0 :: es) (cxOf (CXb P w) P w K mg base N qual scope f cd A outer s H E).env = (false, eval e0 (cxOf (CXb P w) P w K mg base N qual scope f cd A outer s H E).env) :: starEach es (cxOf (CXb P w) P w K mg base N qual scope f cd A outer s H E).env := by rfl)
    (hpl : (backTo cpos (starEach es (cxOf (CXb P w) P w K mg base N qual scope f cd A outer s H E).env)).any (·.1) = false := by rfl) (hdb : (x == ("__debug__" : Str)) = false := by decide) :
    PS (cxOf (CXb P w) P w K mg base N qual scope f cd A outer s H E) (.Raise (some (.Call (.Name x np) (e0 :: es) [] cpos)) none pos) (fun _ σ H1 => ta σ H1 fun vs H2 => vs.length ≤ sizeLine ∧ E (.ref C) none H2) := by
  intro pins s1 σ H1 D I h
  exact ps_raise (own_cls I.ok.mod ns ex) FB hg ha hst hpl hdb pins s1 σ H1 D I h
end L2
namespace L2
open PySem PySem.Spec PyProof.Rows
/-- a comprehension whose element makes new things -/
theorem lc_grow {J : It} {xs : List V} {Ok : Hp → Prop} (hJ : ItOn J xs Ok) {te : TE} {js : List Nat} {σ : St} {H : Hp} {Q : VK} (f : V → V) (hok : ∀ H', Same H H' → Ok H') (hz : xs.length ≤ sizeLine)
    (he : ∀ (i : Nat) x H' Q', xs[i]? = some x → Same H H' → (∀ H'', Same H' H'' → Q' (f x) H'') → te (some x :: seenV σ js) H' Q')
    (q : ∀ H' p, Same H H' → H' p = none → Q (.ref p) (upd H' p (.lst (xs.map f)))) : LcW J tYes te js σ Q H := by
  refine ⟨fun i m acc H' => Same H H' ∧ i ≤ xs.length ∧ m = xs.length - i ∧ acc = (xs.take i).map f, ⟨xs.length, Same.refl _, Nat.zero_le _, by simp, by simp⟩, ?_⟩
  rintro i m acc H' ⟨hs, hi, rfl, rfl⟩
  have hlen : ((xs.take i).map f).length = i := by simp; omega
  refine ⟨by omega, ?_⟩
  by_cases hlt : i < xs.length
  · refine .inr ⟨hJ.go i _ (hok _ hs) hlt, by omega, fun x H'' y => ?_⟩
    obtain ⟨e, hx⟩ := hJ.yld i _ x H'' (hok _ hs) hlt y
    subst e
    unfold tYes
    dsimp only
    rw [if_pos rfl]
    refine he i x H'' _ hx hs fun H4 s4 => ⟨xs.length - (i + 1), by omega, hs.trans s4, hlt, rfl, ?_⟩
    have e : xs.take (i + 1) = xs.take i ++ [x] := by
      rw [List.take_add_one, hx]
      rfl
    rw [e, List.map_append]
    rfl
  · have e : i = xs.length := by omega
    subst e
    refine .inl ⟨hJ.stop _ _ (hok _ hs) (Nat.le_refl _), fun p hp => ?_⟩
    rw [List.take_length]
    exact q H' p hs hp
end L2

/-! fractions, letters, walks: plain mathematics -/
namespace TW
abbrev Fr := Int × Int
/-- what one letter leads a fraction to -/
def mv (c : Nat) (f : Fr) : Fr :=
  if c = 116 then (f.1 + f.2, f.2) else if c = 117 then (f.1 - f.2, f.2)
  else if 0 < f.1 then (-f.2, f.1) else if f.1 < 0 then (f.2, -f.1) else (1, 0)
def IsF (f : Fr) : Prop := (f.1 = 1 ∧ f.2 = 0) ∨ (0 < f.2 ∧ Int.gcd f.1 f.2 = 1)

theorem gcd_add (a b : Int) : Int.gcd (a + b) b = Int.gcd a b := by simp
theorem gcd_sub (a b : Int) : Int.gcd (a - b) b = Int.gcd a b := by simp
theorem mv_F {c : Nat} {f : Fr} (h : IsF f) : IsF (mv c f) := by
  obtain ⟨a, b⟩ := f
  unfold mv IsF at *
  dsimp only at h ⊢
  rcases h with ⟨rfl, rfl⟩ | ⟨hb, hg⟩
  · repeat' split <;> simp
  · by_cases h1 : c = 116
    · rw [if_pos h1]; right; exact ⟨hb, by rw [gcd_add]; exact hg⟩
    · rw [if_neg h1]
      by_cases h2 : c = 117
      · rw [if_pos h2]; right; exact ⟨hb, by rw [gcd_sub]; exact hg⟩
      · rw [if_neg h2]
        by_cases h3 : 0 < a
        · rw [if_pos h3]; right; refine ⟨h3, ?_⟩
          show Int.gcd (-b) a = 1
          rw [Int.neg_gcd, Int.gcd_comm]; exact hg
        · rw [if_neg h3]
          by_cases h4 : a < 0
          · rw [if_pos h4]; right
            refine ⟨by show 0 < -a; omega, ?_⟩
            show Int.gcd b (-a) = 1
            rw [Int.gcd_neg, Int.gcd_comm]; exact hg
          · rw [if_neg h4]; left; exact ⟨rfl, rfl⟩
theorem F_nought : IsF (0, 1) := Or.inr ⟨by decide, by decide⟩
theorem F_end : IsF (1, 0) := Or.inl ⟨rfl, rfl⟩
/-- one turn of the divisor's loop -/
theorem gcd_turn {a b : Int} (ha : 0 ≤ a) (hb : 0 < b) : Int.gcd b (a % b) = Int.gcd a b := by
  rw [Int.gcd_comm b, Int.emod_def]; simp
end TW

set_option Elab.async false
/-! the quiet pieces, and steps -/
namespace TW
end TW

set_option Elab.async false
set_option linter.all false
set_option maxRecDepth 100000
set_option maxHeartbeats 4000000
/-! texts as lists of codes, fractions as pairs: what the laws' proofs share -/
namespace TX
open PySem L2 TW
/-! ### texts as lists of codes -/
def S (w : List Nat) : Str := ⟨w.toArray⟩
theorem S_app (a b : List Nat) : S a ++ S b = S (a ++ b) := by
  show (⟨a.toArray ++ b.toArray⟩ : Str) = ⟨(a ++ b).toArray⟩
  simp
theorem S_len (w : List Nat) : (S w).length = w.length := by show w.toArray.size = w.length; simp
theorem S_inj {a b : List Nat} (h : S a = S b) : a = b := by
  have q := congrArg (fun x : Str => x.cps.toList) h
  simpa [S] using q
theorem S_eq (a b : List Nat) : (S a = S b) ↔ a = b := ⟨S_inj, fun h => by rw [h]⟩
theorem sg_S (w : List Nat) : sgV (S w) = w.map fun c => V.str (S [c]) := by unfold sgV S; simp
theorem small {n : Nat} (h : n ≤ 1000) : n ≤ sizeLine := Nat.le_of_lt (small1000 h)
/-! ### fractions -/
def fT (f : Fr) : HO := .tup [.int f.1, .int f.2]
def fD (f : Fr) : PyData := .tuple [.int f.1, .int f.2]
theorem fD_rd {K : PySem.W.Frag} {H : Hp} {p : Addr} {f : Fr} (h : H p = some (fT f)) : RdD K H (.ref p) (fD f) := by
  unfold fD RdD
  refine ⟨p, _, rfl, SqT.of h, ?_⟩
  unfold RdDs
  refine ⟨_, _, rfl, by unfold RdD; rfl, ?_⟩
  unfold RdDs
  refine ⟨_, _, rfl, by unfold RdD; rfl, ?_⟩
  unfold RdDs
  rfl
theorem fD_depth (f : Fr) : (fD f).depth ≤ 60 := by
  unfold fD
  simp [PyData.depth, PyData.depthAll]
theorem fD_eqv (f g : Fr) : PyData.eqv (fD f) (fD g) = decide (f = g) := by
  obtain ⟨a, b⟩ := f
  obtain ⟨c, d⟩ := g
  unfold fD
  simp only [PyData.eqv, PyData.eqvAll, Bool.and_true]
  rw [Bool.eq_iff_iff]
  simp
theorem same_new {H : Hp} {p : Addr} (h : H p = none) (o : HO) : Same H (upd H p o) := fun b u q => by rw [upd_ne (ne_of_none q h)]; exact q
theorem kit_int_bool {K : PySem.W.Frag} : PySem.W.kitOne K (.type "int") (.type "bool") = some false := by
  unfold PySem.W.kitOne PySem.W.kitCls
  rfl
theorem all_true (n : Nat) : (List.replicate n true).all id = true := by simp
theorem two_ok : 2 ≤ sizeLine := by decide
theorem eq_sign (c d : Nat) (x : Str) (hx : x = S [d]) : (decide (V.str (S [c]) = V.str x)) = decide (c = d) := by
  subst hx
  rw [Bool.eq_iff_iff]
  simp only [decide_eq_true_eq, V.str.injEq, S_eq, List.cons.injEq, and_true]
theorem lit_t : ("t" : Str) = S [116] := by decide +kernel
theorem lit_u : ("u" : Str) = S [117] := by decide +kernel
theorem sg_at {u : List Nat} {i : Nat} {x : V} (h : (sgV (S u))[i]? = some x) : ∃ c, u[i]? = some c ∧ x = .str (S [c]) := by
  rw [sg_S, List.getElem?_map] at h
  cases e : u[i]? with
  | none => rw [e] at h; cases h
  | some c => rw [e] at h; cases h; exact ⟨c, rfl, rfl⟩
def letr (i : Int) : Nat := if i = 0 then 116 else if i = 1 then 117 else 114
theorem three_ok : 3 ≤ sizeLine := by decide
theorem four_ok : 4 ≤ sizeLine := by decide
theorem S_list (u : List Nat) : (S u).cps.toList = u := by simp [S]
/-! slices of a text that is written as a list -/
theorem S_to {u : List Nat} {i : Int} (h0 : 0 ≤ i) (h : i ≤ u.length) : Txt.slice (S u) none (some i) = S (u.take i.toNat) := by
  have e : i = ((i.toNat : Nat) : Int) := by omega
  rw [e, cut_to (S u) (by rw [S_len]; omega), S_list]
  rfl
theorem S_from {u : List Nat} {i : Int} (h0 : 0 ≤ i) (h : i ≤ u.length) : Txt.slice (S u) (some i) none = S (u.drop i.toNat) := by
  have e : i = ((i.toNat : Nat) : Int) := by omega
  rw [e, cut_from (S u) (by rw [S_len]; omega), S_list]
  rfl
theorem eqS (x y : Str) : decide (V.str x = V.str y) = decide (x = y) := by
  rw [Bool.eq_iff_iff]
  simp
end TX

set_option Elab.async false
set_option linter.all false
set_option maxRecDepth 100000
set_option maxHeartbeats 4000000
/-! is True, is not True; a text some times -/
namespace L2
open PySem PySem.Spec PyProof.Rows
section
variable {X : Cx}
/-- a text some times -/
def timesL (u : List Nat) (n : Int) : List Nat := (List.replicate n.toNat u).flatten
theorem fold_times (a : Array Nat) : ∀ (k : Nat) (b : Array Nat), (List.replicate k a).foldl (· ++ ·) b = b ++ ((List.replicate k a.toList).flatten).toArray
  | 0, b => by simp
  | k + 1, b => by
    rw [List.replicate_succ, List.foldl_cons, fold_times a k]
    rw [List.replicate_succ, List.flatten_cons]
    apply Array.toList_inj.mp
    simp
end
end L2

set_option Elab.async false
set_option linter.all false
set_option maxRecDepth 100000
set_option maxHeartbeats 4000000
/-! range with a step -/
namespace L2
open PySem PySem.Spec PyProof.Rows
section
variable {X : Cx} {tg : Expr}
end
end L2

set_option Elab.async false
set_option linter.all false
set_option maxRecDepth 100000
set_option maxHeartbeats 4000000
/-! reversed(list), division of large numbers, lists joined, own classes -/
namespace L2
open PySem PySem.Spec PyProof.Rows
/-! ### reversed(list), the list left as it is -/
section
variable {X : Cx}
/-! ### // of numbers of any size that occurs -/
theorem log2_lt {n k : Nat} (h : n < 2 ^ k) (hk : 0 < k) : n.log2 < k := by
  by_cases h0 : n = 0
  · subst h0; simpa using hk
  · exact (Nat.log2_lt h0).mpr h
/-! ### + also of lists -/
/-! ### isinstance, also of own classes -/
end
end L2
namespace L2
open PySem PySem.Spec PyProof.Rows
/-! ### readings that keep what they are asked for -/
end L2

set_option Elab.async false
set_option linter.all false
set_option maxRecDepth 100000
set_option maxHeartbeats 4000000
/-! what the laws of stage 2 share: names of built-ins, constants, promises -/
namespace TX
open PySem L2 TW
structure Glo (mg : Str → Option Value) : Prop where
  n_len : mg "len" = none
  n_all : mg "all" = none
  n_any : mg "any" = none
  n_isinstance : mg "isinstance" = none
  n_abs : mg "abs" = none
  n_int : mg "int" = none
  n_bool : mg "bool" = none
  n_str : mg "str" = none
  n_tuple : mg "tuple" = none
  n_list : mg "list" = none
  n_reversed : mg "reversed" = none
  n_range : mg "range" = none
  n_max : mg "max" = none
theorem big {n : Nat} (h : n ≤ 1000000) : n ≤ sizeLine := by have := sizeLine_eq; omega
theorem len1 {α : Type} {us : List α} (h : us.length = 1) : ∃ a, us = [a] := List.length_eq_one_iff.mp h
theorem lenS {α : Type} {us : List α} {n : Nat} (h : us.length = n + 1) : ∃ a r, us = a :: r ∧ r.length = n := by
  cases us with
  | nil => cases h
  | cons a r => exact ⟨a, r, rfl, Nat.succ.inj h⟩
theorem len2 {α : Type} {us : List α} (h : us.length = 2) : ∃ a b, us = [a, b] := by
  obtain ⟨a, r, rfl, h'⟩ := lenS h
  obtain ⟨b, rfl⟩ := len1 h'
  exact ⟨a, b, rfl⟩
theorem gcd_abs (a b : Int) : Int.gcd (if a < 0 then -a else a) b = Int.gcd a b := by
  split
  · rw [Int.neg_gcd]
  · rfl
theorem abs_nonneg (a : Int) : 0 ≤ (if a < 0 then -a else a) := by split <;> omega
theorem tur_at (n b : Int) : atI (("tur" : Str).cps.toList) (n / b % 3) = some (letr (n / b % 3)) := by
  have h0 := Int.emod_nonneg (n / b) (show (3 : Int) ≠ 0 by decide)
  have h1 := Int.emod_lt_of_pos (n / b) (show (0 : Int) < 3 by decide)
  generalize n / b % 3 = i at h0 h1
  have h : i = 0 ∨ i = 1 ∨ i = 2 := by omega
  rcases h with rfl | rfl | rfl <;> decide +kernel
theorem neD_same {g g' : Fr} {A B : Prop} (e : g = g') (h : B) : if (if true = true then !PyData.eqv (fD g) (fD g') else PyData.eqv (fD g) (fD g')) = true then A else B := by
  subst e
  have z : PyData.eqv (fD g) (fD g) = true := by rw [fD_eqv]; simp
  simpa [z] using h
theorem neS_same {x y : Str} {A B : Prop} (e : x = y) (h : B) : if (!decide (V.str x = V.str y)) = true then A else B := by
  subst e
  simpa using h
/-! ### promises -/
def spWhole : Sp := fun vs H Q _ => ∃ i, vs = [.int i] ∧ Q (.bl true) H
def spGcd : Sp := fun vs H Q _ => ∃ a b : Int, vs = [.int a, .int b] ∧ 0 ≤ a ∧ 0 ≤ b ∧ Q (.int (Int.gcd a b)) H
def spLMoved : Sp := fun vs H Q _ => ∃ (c : Nat) (p : Addr) (g : Fr), vs = [.str (S [c]), .ref p] ∧ H p = some (fT g) ∧ ∀ q H', Same H H' → H' q = some (fT (mv c g)) → Q (.ref q) H'
def spLaw (K : PySem.W.Frag) : Sp := fun vs H Q _ => ∃ (a : Addr) (ns : List Int), vs = [.ref a] ∧ SqL K H a (ns.map V.int) ∧ ns.length ≤ 63 ∧ ∀ H', Q (.bl true) H'
end TX

set_option Elab.async false
set_option linter.all false
set_option maxRecDepth 100000
set_option maxHeartbeats 4000000
/-! comprehensions by the place, with a test, that make new things -/
namespace L2
open PySem PySem.Spec PyProof.Rows
end L2

set_option Elab.async false
set_option linter.all false
set_option maxRecDepth 100000
set_option maxHeartbeats 4000000
/-! a pair turned round by [::-1]; a short text many times -/
namespace HT
open PySem PySem.Spec PyProof.Rows
section
variable {prog : Program} {w : World} {A : Around} {E : Value → Shared → Prop} {s : Shared}
end
end HT
namespace L2
open PySem PySem.Spec PyProof.Rows
section
variable {X : Cx} {e st : Expr} {te ts : TE} {pos p2 : Pos}
/-- a short text many times -/
def rMulS1 : R2 := fun x y H Q => ∃ z n, x = .str z ∧ y = .int n ∧ -100000 ≤ n ∧ n ≤ 100000 ∧ z.length ≤ 100 ∧ Q (.str ⟨(timesL z.cps.toList n).toArray⟩) H
theorem op_mulS1 : OpR X (binaryOp .Mult) rMulS1 := by
  intro pins s σ H x y v u Q I rx ry h
  obtain ⟨z, n, rfl, rfl, h1, h2, h3, q⟩ := h
  obtain ⟨t, rfl⟩ := rx
  obtain ⟨t', rfl⟩ := ry
  have sl := sizeLine_eq
  have hlen : z.length * n.toNat ≤ 100 * 100000 := Nat.mul_le_mul h3 (by omega)
  refine P.mul_str ?_ (fun _ _ => ?_) (fun _ _ => ?_) ?_
  · rw [decide_eq_false (by omega), decide_eq_false (by omega)]; rfl
  · rename_i a b
    have p : (z.length : Int) * n ≤ 100 * 100000 := Int.mul_le_mul (by omega) h2 (by omega) (by omega)
    have e : (z.length : Int) ≤ (2 ^ 63 - 1) / n := (Int.le_ediv_iff_mul_le (by omega)).mpr (by omega)
    omega
  · refine decide_eq_false ?_
    omega
  · by_cases hn : n < 1
    · rw [if_pos hn]
      have e : timesL z.cps.toList n = [] := by
        unfold timesL
        rw [show n.toNat = 0 by omega]
        rfl
      rw [e] at q
      exact ⟨Nat.zero_le _, .str ⟨#[]⟩, H, I.tok _, ⟨_, rfl⟩, q⟩
    · rw [if_neg hn]
      by_cases h0 : (n == 1 || z.length == 0) = true
      · rw [if_pos h0]
        have e : (⟨(timesL z.cps.toList n).toArray⟩ : Str) = z := by
          rcases Bool.or_eq_true_iff.mp h0 with h | h
          · have e1 : n = 1 := eq_of_beq h
            subst e1
            unfold timesL
            cases z
            simp
          · have e1 : z.length = 0 := eq_of_beq h
            have e2 : z.cps = #[] := Array.eq_empty_of_size_eq_zero e1
            unfold timesL
            cases z
            simp only at e2
            subst e2
            simp
        rw [e] at q
        exact ⟨.str z, H, I, ⟨_, rfl⟩, q⟩
      · rw [if_neg h0]
        have e : (List.replicate n.toNat z.cps).foldl (· ++ ·) #[] = (timesL z.cps.toList n).toArray := by
          rw [fold_times]
          unfold timesL
          simp
        rw [e]
        refine ⟨?_, .str _, H, I.tok _, ⟨_, rfl⟩, q⟩
        show (timesL z.cps.toList n).toArray.size ≤ sizeLine
        rw [List.size_toArray]
        have l : (timesL z.cps.toList n).length = n.toNat * z.length := by
          unfold timesL
          simp
          rfl
        rw [l, Nat.mul_comm]
        omega
end
end L2
namespace L2
open PySem PySem.Spec PyProof.Rows
/-! ### a cut between two statements -/
end L2
namespace L2
open PySem PySem.Spec PyProof.Rows
section
variable {X : Cx} {K : PySem.W.Frag}
theorem ix_tupK (e : X.K = K) : IxR X (rIxT K) := e ▸ ix_tup
theorem op_eqDK (hu : X.A.units + 64 < cLine) (e : X.K = K) : OpR X (compareOp .Eq) (rEqD K false) := e ▸ op_eqD hu
theorem op_neDK (hu : X.A.units + 64 < cLine) (e : X.K = K) : OpR X (compareOp .NotEq) (rEqD K true) := e ▸ op_neD hu
end
end L2

/-! runs: words as whole numbers with a turn between each two -/
namespace TW
/-! ### how many letters it takes -/
end TW

/-! one run towards the end -/
namespace TW
end TW

set_option Elab.async false
set_option linter.all false
set_option maxRecDepth 100000
set_option maxHeartbeats 4000000
/-! runs: promises -/
namespace TX
open PySem L2 TW
theorem pick2 {b : Bool} {ta tb : TE} {σ : St} {H : Hp} {Q : VK} {v : V} (h1 : b = true → ∀ Q : VK, Q v H → ta σ H Q) (h2 : b = false → ∀ Q : VK, Q v H → tb σ H Q) (q : Q v H) : if b = true then ta σ H Q else tb σ H Q := by
  cases b with
  | true => exact iteT (h1 rfl _ q)
  | false => exact iteF (h2 rfl _ q)
end TX

set_option Elab.async false
set_option linter.all false
set_option maxRecDepth 100000
set_option maxHeartbeats 4000000
/-! a list made by a comprehension and given a name at once: the name is stored ahead of the block's own ones going -/
namespace L2
open PySem PySem.Spec PyProof.Rows
end L2

set_option Elab.async false
/-! words as matrices; three fractions tell all; what comes back does so within three -/
namespace TW
end TW

set_option Elab.async false
/-! what comes back does so within three times -/
namespace TW
end TW
set_option Elab.async false
set_option linter.all false
set_option maxRecDepth 100000
set_option maxHeartbeats 4000000
/-! alike, quiet; answers that are objects: promises -/
namespace TX
open PySem L2 TW
end TX

set_option Elab.async false
set_option linter.all false
set_option maxRecDepth 100000
set_option maxHeartbeats 4000000
/-! in a module's dict; find; lists that are changed by a callee -/
namespace L2
open PySem PySem.Spec PyProof.Rows
section
variable {X : Cx}
end
end L2

set_option Elab.async false
set_option linter.all false
set_option maxRecDepth 100000
set_option maxHeartbeats 4000000
/-! texts with their tokens: what replace asks for -/
namespace L2
open PySem PySem.Spec PyProof.Rows
open Builtin Builtin.Str
section
variable {X : Cx} {a b e : Expr} {es : List Expr} {ta tb te : TE} {t : TA} {pos : Pos}
/-! ### rules under 'tokens are given out' (toks is not 0), and rules behind which they are -/
end
end L2

set_option Elab.async false
set_option linter.all false
set_option maxRecDepth 100000
set_option maxHeartbeats 4000000
/-! a list turned round by [::-1] -/
namespace L2
open PySem PySem.Spec PyProof.Rows
section
variable {X : Cx} {e st : Expr} {te ts : TE} {pos p2 : Pos}
end
/-! ### a list taken apart -/
section
variable {prog : Program} {w : World} {A : Around} {E : Value → Shared → Prop}
end
end L2

set_option Elab.async false
set_option linter.all false
set_option maxRecDepth 100000
set_option maxHeartbeats 4000000
/-! texts taken apart, texts read as numbers -/
namespace L2
open PySem PySem.Spec PyProof.Rows
open Builtin Builtin.Str
section
variable {X : Cx}
def partV (a b : Str) : List V := match occurrences a b 0 a.length 1 with
  | i :: _ => [.str (strSub a 0 i), .str b, .str (strSub a (i + b.length) a.length)]
  | [] => [.str a, .str Str.empty, .str Str.empty]
def rPart : V → List V → Hp → VK → Prop := fun x vs H Q => ∃ a b, x = .str a ∧ vs = [.str b] ∧ (b.length == 0) = false ∧ a.length ≤ sizeLine ∧ ∀ p, H p = none → Q (.ref p) (upd H p (.tup (partV a b)))
theorem mt_part : MtR X "str.partition" rPart := by
  intro pins s σ H x xs v us Q I rx r h
  obtain ⟨a, b, rfl, rfl, hb, ha, q⟩ := h
  obtain ⟨u, rfl, ru⟩ := vals1 r
  obtain ⟨t, rfl⟩ := rx
  obtain ⟨t2, rfl⟩ := ru
  refine call_meets F.slot_str_partition (typeIs_str _ _ _) F.entry_str_partition (F.args_str_partition_2 _ _) (meets_str_partition a b t t2 hb ha) ?_
  have hf : H s.heap.objs.size = none := I.hok.fresh (Nat.le_refl _)
  have q' := q _ hf
  unfold partV at q'
  cases e : occurrences a b 0 a.length 1 with
  | nil =>
    rw [e] at q'
    refine ⟨.ref s.heap.objs.size, upd H s.heap.objs.size (.tup [.str a, .str Str.empty, .str Str.empty]), I.laid (t' := s.toks + 1) (fun b u e => Heap.get?_push_of_some _ e) (Nat.le_refl _) ?_, rfl, q'⟩
    exact ⟨by rw [sizeLine_eq]; exact (by decide : 3 ≤ 16777216), _, .cons ⟨_, rfl⟩ (.cons ⟨_, rfl⟩ (.cons ⟨_, rfl⟩ .nil)), ⟨_, Heap.get?_push_size _ rfl, rfl, _, rfl⟩⟩
  | cons i rest =>
    rw [e] at q'
    refine ⟨.ref s.heap.objs.size, upd H s.heap.objs.size (.tup [.str (strSub a 0 i), .str b, .str (strSub a (i + b.length) a.length)]), I.laid (t' := s.toks + 1 + 1) (fun b u e => Heap.get?_push_of_some _ e) (Nat.le_refl _) ?_, rfl, q'⟩
    exact ⟨by rw [sizeLine_eq]; exact (by decide : 3 ≤ 16777216), _, .cons ⟨_, rfl⟩ (.cons ⟨_, rfl⟩ (.cons ⟨_, rfl⟩ .nil)), ⟨_, Heap.get?_push_size _ rfl, rfl, _, rfl⟩⟩
def rStarts : V → List V → Hp → VK → Prop := fun x vs H Q => ∃ a b, x = .str a ∧ vs = [.str b] ∧ Q (.bl (Txt.startswith a b)) H
theorem mt_starts : MtR X "str.startswith" rStarts := by
  intro pins s σ H x xs v us Q I rx r h
  obtain ⟨a, b, rfl, rfl, q⟩ := h
  obtain ⟨u, rfl, ru⟩ := vals1 r
  obtain ⟨t, rfl⟩ := rx
  obtain ⟨t2, rfl⟩ := ru
  exact SC.startswith ⟨.bl _, H, I, rfl, q⟩
theorem call_int_text : CallR X (.type "int") (fun xs H Q => ∃ a n, xs = [.str a] ∧ PySem.intText? a = some n ∧ a.length ≤ 640 ∧ Q (.int n) H) := by
  intro pins s σ H xs us Q I r h
  obtain ⟨a, n, rfl, hn, hl, q⟩ := h
  obtain ⟨u, rfl, t, rfl⟩ := vals1 r
  exact PySem.W.KIN.call_text hn hl ⟨.int n, H, I.tok _, ⟨_, rfl⟩, q⟩
theorem rel_strs : ∀ (ps : List Str) (t : Tok), Vals (ps.map V.str) (strsFrom t ps)
  | [], _ => .nil
  | p :: ps, t => .cons ⟨_, rfl⟩ (rel_strs ps (t + 1))
/-- text.split(sep) -/
def rSplit : V → List V → Hp → VK → Prop := fun x vs H Q => ∃ a b, x = .str a ∧ vs = [.str b] ∧ (b.length == 0) = false ∧ a.length ≤ 100000 ∧ ∀ p, H p = none → Q (.ref p) (upd H p (.lst ((Txt.split a b).map V.str)))
theorem parts_few (x y : Str) (h : x.length ≤ 100000) : (partsBetween x (occurrences x y 0 x.length (x.length + 1)) y.length).length ≤ sizeLine := by
  have h1 := StrLaws.occ_length_le x y 0 x.length (x.length + 1)
  rw [length_partsBetween, sizeLine_eq]
  omega
theorem mt_split : MtR X "str.split" rSplit := by
  intro pins s σ H x xs v us Q I rx r h
  obtain ⟨a, b, rfl, rfl, hb, ha, q⟩ := h
  obtain ⟨u, rfl, ru⟩ := vals1 r
  obtain ⟨t, rfl⟩ := rx
  obtain ⟨t2, rfl⟩ := ru
  have hz : a.length ≤ sizeLine := by rw [sizeLine_eq]; omega
  have q' := q _ I.fresh
  cases h1 : (decide (a.length < b.length) || decide (strKind a < strKind b)) with
  | false =>
    cases hf : (occurrences a b 0 a.length (a.length + 1)).isEmpty with
    | false =>
      have e : Txt.split a b = partsBetween a (occurrences a b 0 a.length (a.length + 1)) b.length := (if_neg (ne_true_of_eq_false h1)).trans (if_neg (ne_true_of_eq_false hf))
      rw [e] at q'
      refine call_meets F.slot_str_split (typeIs_str _ _ _) F.entry_str_split (F.args_str_split_2 _ _) (meets_str_split_sep a b t t2 h1 hb hf hz (parts_few a b ha)) ?_
      exact ⟨.ref _, _, I.lnew (t' := s.toks + (partsBetween a (occurrences a b 0 a.length (a.length + 1)) b.length).length) (rel_strs _ s.toks) (by rw [List.length_map]; exact parts_few a b ha), rfl, q'⟩
    | true =>
      have e : Txt.split a b = [a] := (if_neg (ne_true_of_eq_false h1)).trans (if_pos hf)
      rw [e] at q'
      refine call_meets F.slot_str_split (typeIs_str _ _ _) F.entry_str_split (F.args_str_split_2 _ _) (meets_str_split_not_found a b t t2 h1 hb hf) ?_
      exact ⟨.ref _, _, I.lnew (t' := s.toks) (ys := [V.str a]) (its := [Value.str a t]) (.cons ⟨_, rfl⟩ .nil) (by rw [sizeLine_eq]; exact (by decide : 1 ≤ 16777216)), rfl, q'⟩
  | true =>
    have e : Txt.split a b = [a] := if_pos h1
    rw [e] at q'
    refine call_meets F.slot_str_split (typeIs_str _ _ _) F.entry_str_split (F.args_str_split_2 _ _) (meets_str_split_cannot_occur a b t t2 h1) ?_
    exact ⟨.ref _, _, I.lnew (t' := s.toks) (ys := [V.str a]) (its := [Value.str a t]) (.cons ⟨_, rfl⟩ .nil) (by rw [sizeLine_eq]; exact (by decide : 1 ≤ 16777216)), rfl, q'⟩
end
end L2

set_option Elab.async false
set_option linter.all false
/-! numbers and their figures -/
namespace TW
def dg (m : Nat) : List Nat := (Nat.toDigits 10 m).map Char.toNat
theorem digit_code : ∀ d : Nat, d < 10 → (Nat.digitChar d).toNat = 48 + d := by decide
theorem dg_small {m : Nat} (h : m < 10) : dg m = [48 + m] := by
  unfold dg
  rw [Nat.toDigits_of_lt_base h, List.map_cons, List.map_nil, digit_code m h]
theorem dg_step {m : Nat} (h : 10 ≤ m) : dg m = dg (m / 10) ++ [48 + m % 10] := by
  have hm : m % 10 < 10 := Nat.mod_lt m (by decide)
  have t : Nat.toDigits 10 (m / 10) ++ Nat.toDigits 10 (m % 10) = Nat.toDigits 10 (10 * (m / 10) + m % 10) := Nat.toDigits_append_toDigits (by decide) (by omega) hm
  rw [Nat.div_add_mod] at t
  unfold dg
  rw [← t, List.map_append, Nat.toDigits_of_lt_base hm, List.map_cons, List.map_nil, digit_code _ hm]
def Dig (c : Nat) : Prop := 48 ≤ c ∧ c ≤ 57
def Digs (u : List Nat) : Prop := ∀ c ∈ u, Dig c
def dval (u : List Nat) : Nat := u.foldl (fun a c => a * 10 + (c - 48)) 0
theorem dval_snoc (u : List Nat) (c : Nat) : dval (u ++ [c]) = dval u * 10 + (c - 48) := by
  unfold dval
  rw [List.foldl_append]
  rfl
theorem snocInd {P : List Nat → Prop} (h0 : P []) (h1 : ∀ u c, P u → P (u ++ [c])) (u : List Nat) : P u := by
  have h : ∀ n (u : List Nat), u.length = n → P u := by
    intro n
    induction n with
    | zero => intro u hu; have : u = [] := List.eq_nil_of_length_eq_zero hu; subst this; exact h0
    | succ n ih =>
      intro u hu
      have hn : u ≠ [] := fun z => by subst z; cases hu
      rw [← List.dropLast_concat_getLast hn]
      exact h1 _ _ (ih _ (by rw [List.length_dropLast]; omega))
  exact h _ u rfl
theorem dg_ne (m : Nat) : dg m ≠ [] := by
  by_cases h : m < 10
  · rw [dg_small h]; simp
  · rw [dg_step (by omega)]; simp
theorem dg_digs (m : Nat) : Digs (dg m) := by
  induction m using Nat.strongRecOn with
  | _ m ih =>
    by_cases h : m < 10
    · rw [dg_small h]
      intro c hc
      rw [List.mem_singleton.mp hc]
      unfold Dig
      omega
    · rw [dg_step (by omega)]
      intro c hc
      rcases List.mem_append.mp hc with hc | hc
      · exact ih _ (by omega) c hc
      · rw [List.mem_singleton.mp hc]
        unfold Dig
        omega
theorem dval_dg (m : Nat) : dval (dg m) = m := by
  induction m using Nat.strongRecOn with
  | _ m ih =>
    by_cases h : m < 10
    · rw [dg_small h]
      show 0 * 10 + (48 + m - 48) = m
      omega
    · rw [dg_step (by omega), dval_snoc, ih _ (by omega)]
      omega
theorem dg_len {m : Nat} : ∀ {k : Nat}, 1 ≤ k → m < 10 ^ k → (dg m).length ≤ k := by
  induction m using Nat.strongRecOn with
  | _ m ih =>
    intro k hk h
    by_cases h1 : m < 10
    · rw [dg_small h1]
      exact hk
    · rw [dg_step (by omega), List.length_append, List.length_singleton]
      have k2 : 2 ≤ k := by
        refine Classical.byContradiction fun z => ?_
        have : k = 1 := by omega
        subst this
        omega
      obtain ⟨j, rfl⟩ : ∃ j, k = j + 1 := ⟨k - 1, by omega⟩
      have := ih (m / 10) (by omega) (k := j) (by omega) (by rw [Nat.pow_succ] at h; omega)
      omega
theorem Digs.head {u : List Nat} {c : Nat} (h : Digs (u ++ [c])) : Digs u := fun d hd => h d (List.mem_append_left _ hd)
theorem Digs.last {u : List Nat} {c : Nat} (h : Digs (u ++ [c])) : Dig c := h c (by simp)
theorem dval_lt {u : List Nat} : Digs u → dval u < 10 ^ u.length := by
  refine snocInd (P := fun u => Digs u → dval u < 10 ^ u.length) (fun _ => by decide) (fun u c ih h => ?_) u
  have a := ih h.head
  have b := h.last
  unfold Dig at b
  rw [dval_snoc, List.length_append, List.length_singleton, Nat.pow_succ]
  omega
theorem head_snoc {u : List Nat} {c : Nat} (h : u ≠ []) : (u ++ [c]).head? = u.head? := by
  cases u with
  | nil => exact absurd rfl h
  | cons a r => rfl
theorem dval_pos {u : List Nat} : Digs u → u ≠ [] → u.head? ≠ some 48 → 1 ≤ dval u := by
  refine snocInd (P := fun u => Digs u → u ≠ [] → u.head? ≠ some 48 → 1 ≤ dval u) (fun _ h _ => absurd rfl h) (fun u c ih h _ hh => ?_) u
  rw [dval_snoc]
  by_cases hu : u = []
  · subst hu
    have b := h.last
    unfold Dig at b
    have : c ≠ 48 := fun z => hh (by rw [z]; rfl)
    omega
  · rw [head_snoc hu] at hh
    have := ih h.head hu hh
    omega
theorem dg_dval {u : List Nat} : Digs u → u ≠ [] → (u = [48] ∨ u.head? ≠ some 48) → dg (dval u) = u := by
  refine snocInd (P := fun u => Digs u → u ≠ [] → (u = [48] ∨ u.head? ≠ some 48) → dg (dval u) = u) (fun _ h _ => absurd rfl h) (fun u c ih h _ hh => ?_) u
  have b := h.last
  unfold Dig at b
  by_cases hu : u = []
  · subst hu
    have e : dval ([] ++ [c]) = c - 48 := by rw [dval_snoc]; show 0 * 10 + _ = _; omega
    rw [e, dg_small (by omega)]
    show [48 + (c - 48)] = [c]
    congr 1
    omega
  · have hh2 : u.head? ≠ some 48 := by
      rcases hh with e | e
      · exfalso
        have := congrArg List.length e
        rw [List.length_append, List.length_singleton] at this
        have h0 : u.length = 0 := by simpa using this
        exact hu (List.eq_nil_of_length_eq_zero h0)
      · rw [head_snoc hu] at e; exact e
    have p := dval_pos h.head hu hh2
    have i := ih h.head hu (.inr hh2)
    rw [dval_snoc, dg_step (by omega), show (dval u * 10 + (c - 48)) / 10 = dval u by omega, show (dval u * 10 + (c - 48)) % 10 = c - 48 by omega, i]
    congr 2
    omega
theorem dg_head {m : Nat} (h : m ≠ 0) : (dg m).head? ≠ some 48 := by
  induction m using Nat.strongRecOn with
  | _ m ih =>
    by_cases h1 : m < 10
    · rw [dg_small h1]
      intro z
      have := Option.some.inj z
      omega
    · rw [dg_step (by omega), head_snoc (dg_ne _)]
      exact ih _ (by omega) (by omega)
/-! ### numbers with their sign -/
def numT (n : Int) : List Nat := if n < 0 then 45 :: dg n.natAbs else dg n.natAbs
def fig (w : List Nat) : List Nat := if w.take 1 = [45] then w.drop 1 else w
def nval (w : List Nat) : Int := if w.take 1 = [45] then -(dval (fig w) : Int) else dval (fig w)
def isDig (c : Nat) : Bool := decide (48 ≤ c) && decide (c ≤ 57)
theorem isDig_iff (c : Nat) : isDig c = true ↔ Dig c := by
  unfold isDig Dig
  rw [Bool.and_eq_true, decide_eq_true_eq, decide_eq_true_eq]
def isNum (w : List Nat) : Bool := (decide (0 < (fig w).length) && decide ((fig w).length ≤ 60)) && (fig w).all isDig
theorem isNum_iff (w : List Nat) : isNum w = true ↔ fig w ≠ [] ∧ (fig w).length ≤ 60 ∧ Digs (fig w) := by
  unfold isNum
  rw [Bool.and_eq_true, Bool.and_eq_true, decide_eq_true_eq, decide_eq_true_eq, List.all_eq_true, ← List.length_pos_iff]
  constructor
  · rintro ⟨⟨a, b⟩, c⟩
    exact ⟨a, b, fun d hd => (isDig_iff d).mp (c d hd)⟩
  · rintro ⟨a, b, c⟩
    exact ⟨⟨a, b⟩, fun d hd => (isDig_iff d).mpr (c d hd)⟩
def lnum (w : List Nat) : Option Int := if isNum w = true ∧ ¬ ((fig w).head? = some 48 ∧ w ≠ [48]) then some (nval w) else none
theorem dg_take (m : Nat) : (dg m).take 1 ≠ [45] := by
  intro z
  have hm : 45 ∈ (dg m).take 1 := by rw [z]; simp
  have := dg_digs m 45 (List.mem_of_mem_take hm)
  unfold Dig at this
  omega
theorem fig_numT (n : Int) : fig (numT n) = dg n.natAbs := by
  unfold fig numT
  split
  · rw [if_pos (show List.take 1 (45 :: dg n.natAbs) = [45] from rfl)]; rfl
  · rw [if_neg (dg_take _)]
theorem nval_numT (n : Int) : nval (numT n) = n := by
  unfold nval
  rw [fig_numT, dval_dg]
  unfold numT
  by_cases h : n < 0
  · rw [if_pos h, if_pos (show List.take 1 (45 :: dg n.natAbs) = [45] from rfl)]; omega
  · rw [if_neg h, if_neg (dg_take _)]; omega
theorem isNum_numT {n : Int} (h : n.natAbs < 10 ^ 60) : isNum (numT n) = true := by
  rw [isNum_iff, fig_numT]
  exact ⟨dg_ne _, dg_len (by decide) h, dg_digs _⟩
theorem lnum_numT {n : Int} (h : n.natAbs < 10 ^ 60) : lnum (numT n) = some n := by
  unfold lnum
  rw [if_pos, nval_numT]
  refine ⟨isNum_numT h, fun z => ?_⟩
  rw [fig_numT] at z
  by_cases h0 : n.natAbs = 0
  · refine z.2 ?_
    have : n = 0 := by omega
    subst this
    rfl
  · exact dg_head h0 z.1
theorem nval_abs (w : List Nat) : (nval w).natAbs = dval (fig w) := by
  unfold nval
  split <;> omega
theorem isNum_lt {w : List Nat} (h : isNum w = true) : (nval w).natAbs < 10 ^ 60 := by
  obtain ⟨_, a, b⟩ := (isNum_iff w).mp h
  rw [nval_abs]
  exact Nat.lt_of_lt_of_le (dval_lt b) (Nat.pow_le_pow_right (by decide) a)
theorem lnum_some {w : List Nat} {n : Int} (h : lnum w = some n) : w = numT n ∧ n.natAbs < 10 ^ 60 := by
  unfold lnum at h
  split at h
  · rename_i c
    cases h
    refine ⟨?_, isNum_lt c.1⟩
    obtain ⟨a, _, b⟩ := (isNum_iff w).mp c.1
    have hc : fig w = [48] ∨ (fig w).head? ≠ some 48 := by
      by_cases e : (fig w).head? = some 48
      · left
        have hw : w = [48] := Classical.byContradiction fun z => c.2 ⟨e, z⟩
        rw [hw]; rfl
      · exact .inr e
    unfold numT
    rw [nval_abs, dg_dval b a hc]
    by_cases hs : w.take 1 = [45]
    · have ef : fig w = w.drop 1 := by unfold fig; rw [if_pos hs]
      have hne : fig w ≠ [48] := fun z => by
        have e48 : (fig w).head? = some 48 := by rw [z]; rfl
        refine c.2 ⟨e48, fun z2 => ?_⟩
        rw [z2] at hs
        cases hs
      have hh : (fig w).head? ≠ some 48 := hc.resolve_left hne
      have p := dval_pos b a hh
      have hneg : nval w < 0 := by
        unfold nval
        rw [if_pos hs]
        omega
      rw [if_pos hneg, ef]
      have := List.take_append_drop 1 w
      rw [hs] at this
      exact this.symm
    · have ef : fig w = w := by unfold fig; rw [if_neg hs]
      have hpos : ¬ nval w < 0 := by
        unfold nval
        rw [if_neg hs]
        omega
      rw [if_neg hpos, ef]
  · cases h
theorem numT_noSl (n : Int) : 47 ∉ numT n := by
  have hd : 47 ∉ dg n.natAbs := fun z => by
    have := dg_digs _ 47 z
    unfold Dig at this
    omega
  unfold numT
  split
  · intro z
    rcases List.mem_cons.mp z with z | z
    · cases z
    · exact hd z
  · exact hd
/-! ### texts of fractions -/
def txt (f : Fr) : List Nat := numT f.1 ++ [47] ++ numT f.2
/-- a fraction that can be written -/
def Wr (f : Fr) : Prop := IsF f ∧ f.1.natAbs < 10 ^ 60 ∧ f.2.natAbs < 10 ^ 60
theorem split_unique {p q p' q' : List Nat} (h : p ++ [47] ++ q = p' ++ [47] ++ q') (hp : 47 ∉ p) (hp' : 47 ∉ p') : p = p' ∧ q = q' := by
  induction p generalizing p' with
  | nil =>
    cases p' with
    | nil => exact ⟨rfl, by simpa using h⟩
    | cons a r =>
      have := (List.cons.inj (show 47 :: q = a :: (r ++ [47] ++ q') from h)).1
      exact absurd (by rw [this]; exact List.mem_cons_self) hp'
  | cons a r ih =>
    cases p' with
    | nil =>
      have := (List.cons.inj (show a :: (r ++ [47] ++ q) = 47 :: q' from h)).1
      exact absurd (by rw [← this]; exact List.mem_cons_self) hp
    | cons b s =>
      obtain ⟨e1, e2⟩ := List.cons.inj (show a :: (r ++ [47] ++ q) = b :: (s ++ [47] ++ q') from h)
      obtain ⟨i1, i2⟩ := ih e2 (fun z => hp (List.mem_cons_of_mem _ z)) (fun z => hp' (List.mem_cons_of_mem _ z))
      exact ⟨by rw [e1, i1], i2⟩
theorem txt_inj {f g : Fr} (h : txt f = txt g) : f = g := by
  obtain ⟨a, b⟩ := split_unique h (numT_noSl _) (numT_noSl _)
  have e1 := congrArg nval a
  have e2 := congrArg nval b
  rw [nval_numT, nval_numT] at e1 e2
  exact Prod.ext e1 e2
end TW

set_option Elab.async false
set_option linter.all false
set_option maxRecDepth 100000
set_option maxHeartbeats 4000000
/-! texts of fractions: promises, and what the library's texts are as lists -/
namespace L2
open PySem PySem.Spec PyProof.Rows
/-- str(n) -/
theorem call_strI {X : Cx} : CallR X (.type "str") (fun xs H Q => ∃ n : Int, xs = [.int n] ∧ n.natAbs.log2 < 1920 ∧ Q (.str (Str.ofString (toString n))) H) := by
  intro pins s σ H xs us Q I r h
  obtain ⟨n, rfl, hn, q⟩ := h
  obtain ⟨u, rfl, t, rfl⟩ := vals1 r
  exact PySem.P.str_of_int hn ⟨.str _, H, I.tok _, ⟨_, rfl⟩, q⟩
theorem pe_calls0 {X : Cx} {k : Nat} {x : Str} {sp : Sp} {p pos : Pos} (c : Callee X.prog X.w X.K X.mg X.base k x [] sp) (hr : Room k X.A) (hg : Gl X x) (hdb : (x == ("__debug__" : Str)) = false := by decide) : PE X (.Call (.Name x p) [] [] pos) (tCall sp [] E0 tNil) := by
  obtain ⟨f, fd, F, m, kp, b⟩ := c.ex
  exact pe_call0 F hr hg m kp b .nil (fun _ _ _ _ _ _ _ h => h.elim) hdb
end L2
namespace TX
open PySem L2 TW
theorem bt_max : bootBuiltins "max" = some (.builtin "max") := by decide +kernel
theorem len0 {α : Type} {us : List α} (h : us.length = 0) : us = [] := List.eq_nil_of_length_eq_zero h
theorem S_of (x : Str) : x = S x.cps.toList := by
  obtain ⟨c⟩ := x
  show (⟨c⟩ : Str) = ⟨c.toList.toArray⟩
  simp
theorem len_St {K : PySem.W.Frag} {H : Hp} {u : List Nat} (h : u.length ≤ 1000000) : LenV K (.str (S u)) H u.length := ⟨by rw [S_len]; exact big h, (S_len u).symm⟩
theorem str_num (n : Int) : Str.ofString (toString n) = S (numT n) := by
  have e : (Str.ofString (toString n)).cps.toList = numT n := by
    cases n with
    | ofNat m =>
      refine Eq.trans (PySem.W.KIN.signs_num m) ?_
      unfold numT
      rw [if_neg (show ¬ (Int.ofNat m) < 0 from Int.not_lt.mpr (Int.natCast_nonneg m))]
      rfl
    | negSucc m =>
      rw [PyProof.Rows.signs_ofString]
      unfold numT
      rw [if_pos (by omega)]
      show (("-" ++ Nat.repr (m + 1) : String)).toList.map Char.toNat = 45 :: dg (m + 1)
      rw [String.toList_append, List.map_append, Nat.toList_repr]
      rfl
  rw [S_of (Str.ofString _), e]
theorem lit_sl : ("/" : Str) = S [47] := by decide +kernel
theorem lit_mi : ("-" : Str) = S [45] := by decide +kernel
theorem lit_0 : ("0" : Str) = S [48] := by decide +kernel
theorem lit_no : ("" : Str) = S [] := by decide +kernel
theorem no_S : Str.empty = S [] := by decide +kernel
theorem starts_mi (w : List Nat) : Txt.startswith (S w) (S [45]) = decide (w.take 1 = [45]) := by
  unfold Txt.startswith
  rw [StrLaws.subAt_eq, S_list, S_list, S_len, S_len]
  cases w with
  | nil => rfl
  | cons c r =>
    rw [Bool.eq_iff_iff]
    simp
theorem figs_list : ("0123456789" : Str).cps.toList = [48, 49, 50, 51, 52, 53, 54, 55, 56, 57] := by decide +kernel
theorem in_figs (c : Nat) : (!(Builtin.Str.occurrences ("0123456789" : Str) (S [c]) 0 ("0123456789" : Str).length 1).isEmpty) = isDig c := by
  refine Eq.trans (StrLaws.found_one ("0123456789" : Str) c) ?_
  rw [figs_list]
  unfold isDig
  rw [Bool.eq_iff_iff]
  simp
  omega
def figV (x : V) : Bool := match x with | .str i => !(Builtin.Str.occurrences ("0123456789" : Str) i 0 ("0123456789" : Str).length 1).isEmpty | _ => false
theorem fig_signs (u : List Nat) : (sgV (S u)).map (fun x => V.bl (figV x)) = (u.map isDig).map V.bl := by
  rw [sg_S, List.map_map, List.map_map]
  refine List.map_congr_left fun c _ => ?_
  exact congrArg V.bl (in_figs c)
theorem all_figs (u : List Nat) : (u.map isDig).all id = u.all isDig := by rw [List.all_map]; rfl
def Figs (mg : Str → Option Value) : Prop := ∃ t, mg "FIGURES" = some (.str "0123456789" t)
/-! ### split, partition -/
theorem split_two {w : List Nat} {x y : Str} (h : Txt.split (S w) (S [47]) = [x, y]) : w = x.cps.toList ++ [47] ++ y.cps.toList ∧ 47 ∉ x.cps.toList ∧ 47 ∉ y.cps.toList := by
  have j := StrLaws.join_split (S w) (S [47])
  have f : ∀ p ∈ Txt.split (S w) (S [47]), 47 ∉ p.cps.toList := StrLaws.split_free (S w) 47
  rw [h] at j f
  have j' : x ++ S [47] ++ y = S w := j
  have e : S (x.cps.toList ++ [47] ++ y.cps.toList) = S w := by
    rw [← S_app, ← S_app, ← S_of, ← S_of]
    exact j'
  exact ⟨(S_inj e).symm, f x (by simp), f y (by simp)⟩
theorem cnt_free {c : Nat} : ∀ {l : List Nat}, c ∉ l → PyProof.Rows.cnt c l = 0
  | [], _ => rfl
  | a :: r, h => by
    rw [PyProof.Rows.cnt_cons, if_neg (fun z => h (by rw [z]; exact List.mem_cons_self)), cnt_free (fun z => h (List.mem_cons_of_mem _ z))]
    rfl
theorem cnt_app {c : Nat} : ∀ {l m : List Nat}, PyProof.Rows.cnt c (l ++ m) = PyProof.Rows.cnt c l + PyProof.Rows.cnt c m
  | [], m => by rw [List.nil_append, PyProof.Rows.cnt_nil]; omega
  | a :: r, m => by
    rw [List.cons_append, PyProof.Rows.cnt_cons, PyProof.Rows.cnt_cons, cnt_app]
    omega
theorem split_of {p q : List Nat} (hp : 47 ∉ p) (hq : 47 ∉ q) : Txt.split (S (p ++ [47] ++ q)) (S [47]) = [S p, S q] := by
  have l : ((Txt.split (S (p ++ [47] ++ q)) (S [47])).length : Int) = 1 + PyProof.Rows.cnt 47 (S (p ++ [47] ++ q)).cps.toList := PyProof.Rows.split_len _ 47
  rw [S_list, cnt_app, cnt_app, cnt_free hp, cnt_free hq, PyProof.Rows.cnt_cons, PyProof.Rows.cnt_nil] at l
  obtain ⟨x, y, e⟩ := len2 (show (Txt.split (S (p ++ [47] ++ q)) (S [47])).length = 2 by rw [if_pos rfl] at l; omega)
  obtain ⟨h1, h2, h3⟩ := split_two e
  obtain ⟨e1, e2⟩ := split_unique h1 hp h2
  rw [e, S_of x, S_of y, ← e1, ← e2]
theorem at_one (w : List Nat) (i : Nat) : StrLaws.At (S w) (S [47]) (S w).length i ↔ w[i]? = some 47 := by
  have := StrLaws.subAt_one (S w) 47 i
  rw [S_list] at this
  exact this
theorem part_no {w : List Nat} (h : 47 ∉ w) : partV (S w) (S [47]) = [.str (S w), .str (S []), .str (S [])] := by
  unfold partV
  rcases StrLaws.occ_head (S w) (S [47]) 1 (Nat.le_refl 1) with ⟨e, _⟩ | ⟨i, r, e, a, _⟩
  · rw [e, no_S]
  · exact absurd (List.mem_of_getElem? ((at_one w i).mp a)) h
theorem part_at {p q : List Nat} (hp : 47 ∉ p) : partV (S (p ++ [47] ++ q)) (S [47]) = [.str (S p), .str (S [47]), .str (S q)] := by
  have h0 : (p ++ [47] ++ q)[p.length]? = some 47 := by simp
  unfold partV
  rcases StrLaws.occ_head (S (p ++ [47] ++ q)) (S [47]) 1 (Nat.le_refl 1) with ⟨e, n⟩ | ⟨i, r, e, a, n⟩
  · exact absurd ((at_one _ _).mpr h0) (n _)
  · have hi : i = p.length := by
      rcases Nat.lt_trichotomy i p.length with h | h | h
      · have z := (at_one _ _).mp a
        rw [List.append_assoc, List.getElem?_append_left h] at z
        exact absurd (List.mem_of_getElem? z) hp
      · exact h
      · exact absurd ((at_one _ _).mpr h0) (n _ h)
    subst hi
    rw [e]
    dsimp only
    have e1 : Builtin.Str.strSub (S (p ++ [47] ++ q)) 0 p.length = S p := by
      rw [S_of (Builtin.Str.strSub _ _ _), StrLaws.strSub_toList, S_list]
      simp
    have e2 : Builtin.Str.strSub (S (p ++ [47] ++ q)) (p.length + (S [47]).length) (S (p ++ [47] ++ q)).length = S q := by
      rw [S_of (Builtin.Str.strSub _ _ _), StrLaws.strSub_toList, S_list, S_len, S_len]
      congr 1
      simp
      refine List.take_of_length_le ?_
      omega
    rw [e1, e2]
/-! ### texts and numbers -/
theorem num_len {w : List Nat} (h : isNum w = true) : w.length ≤ 61 := by
  obtain ⟨_, b, _⟩ := (isNum_iff w).mp h
  unfold fig at b
  split at b
  · rw [List.length_drop] at b; omega
  · omega
theorem int_num {w : List Nat} (h : isNum w = true) : PySem.intText? (S w) = some (nval w) := by
  obtain ⟨a, b, c⟩ := (isNum_iff w).mp h
  have l := num_len h
  have l' : (S w).length ≤ 4300 := by rw [S_len]; omega
  by_cases hs : w.take 1 = [45]
  · have ef : fig w = w.drop 1 := by unfold fig; rw [if_pos hs]
    have hw : (S w).cps.toList = 45 :: w.drop 1 := by
      rw [S_list]
      have := List.take_append_drop 1 w
      rw [hs] at this
      exact this.symm
    rw [ef] at a c
    have e := intText_neg hw c a l'
    unfold nval
    rw [if_pos hs, ef]
    exact e
  · have ef : fig w = w := by unfold fig; rw [if_neg hs]
    rw [ef] at a c
    have e := intText_digits (x := S w) (by rw [S_list]; exact c) (by rw [S_list]; exact a) l'
    unfold nval
    rw [if_neg hs, ef]
    rw [S_list] at e
    exact e
theorem numT_len {n : Int} (h : n.natAbs < 10 ^ 60) : (numT n).length ≤ 61 := num_len (isNum_numT h)
theorem wr_log {n : Int} (h : n.natAbs < 10 ^ 60) : n.natAbs.log2 < 1920 := Nat.lt_of_lt_of_le (log2_lt (k := 200) (Nat.lt_of_lt_of_le h (by decide)) (by decide)) (by decide)
def isF (f : Fr) : Bool := if f.2 = 0 then decide (f.1 = 1) else decide (0 < f.2) && decide (Int.gcd f.1 f.2 = 1)
theorem isF_iff (f : Fr) : isF f = true ↔ IsF f := by
  unfold isF IsF
  by_cases h : f.2 = 0
  · rw [if_pos h, decide_eq_true_eq]
    constructor
    · intro e; exact .inl ⟨e, h⟩
    · rintro (⟨e, _⟩ | ⟨e, _⟩)
      · exact e
      · omega
  · rw [if_neg h, Bool.and_eq_true, decide_eq_true_eq, decide_eq_true_eq]
    constructor
    · intro e; exact .inr e
    · rintro (⟨_, e⟩ | e)
      · exact absurd e h
      · exact e
def isWr (f : Fr) : Bool := isF f && (decide ((if f.1 < 0 then -f.1 else f.1) < 10 ^ 60) && decide (f.2 < 10 ^ 60))
theorem F_below {f : Fr} (h : IsF f) : 0 ≤ f.2 := by rcases h with ⟨_, e⟩ | ⟨e, _⟩ <;> omega
theorem isWr_iff (f : Fr) : isWr f = true ↔ Wr f := by
  unfold isWr Wr
  rw [Bool.and_eq_true, Bool.and_eq_true, decide_eq_true_eq, decide_eq_true_eq, isF_iff]
  have p : (10 : Int) ^ 60 = ((10 ^ 60 : Nat) : Int) := by norm_cast
  rw [p]
  constructor
  · rintro ⟨a, b, c⟩
    have := F_below a
    refine ⟨a, ?_, by omega⟩
    split at b <;> omega
  · rintro ⟨a, b, c⟩
    refine ⟨a, ?_, by omega⟩
    split <;> omega
theorem isF_of {f : Fr} (h : IsF f) : isF f = true := (isF_iff f).mpr h
theorem isF_no {f : Fr} (h : ¬ IsF f) : isF f = false := Bool.eq_false_iff.mpr fun z => h ((isF_iff f).mp z)
theorem isWr_of {f : Fr} (h : Wr f) : isWr f = true := (isWr_iff f).mpr h
theorem isWr_no {f : Fr} (h : ¬ Wr f) : isWr f = false := Bool.eq_false_iff.mpr fun z => h ((isWr_iff f).mp z)
/-- a text writes a fraction -/
def Told (w : List Nat) (f : Fr) : Prop := Wr f ∧ txt f = w
theorem told_parts {p q : List Nat} {f : Fr} (hp : 47 ∉ p) (h : Told (p ++ [47] ++ q) f) : p = numT f.1 ∧ q = numT f.2 := split_unique h.2.symm hp (numT_noSl _)
theorem told_no {w : List Nat} (h : 47 ∉ w) (f : Fr) : ¬ Told w f := fun z => h (by rw [← z.2]; unfold txt; simp)
theorem told_one {w : List Nat} {f g : Fr} (h : Told w f) (h' : Told w g) : f = g := txt_inj (h.2.trans h'.2.symm)
theorem cut_first : ∀ (w : List Nat), 47 ∈ w → ∃ p q, w = p ++ [47] ++ q ∧ 47 ∉ p
  | [], h => nomatch h
  | a :: r, h => by
    by_cases e : a = 47
    · exact ⟨[], r, by rw [e]; rfl, fun z => nomatch z⟩
    · rcases List.mem_cons.mp h with h | h
      · exact absurd h.symm e
      · obtain ⟨p, q, e1, e2⟩ := cut_first r h
        refine ⟨a :: p, q, by rw [e1]; rfl, fun z => ?_⟩
        rcases List.mem_cons.mp z with z | z
        · exact e z.symm
        · exact e2 z
theorem txt_S (f : Fr) : S (numT f.1) ++ ("/" : Str) ++ S (numT f.2) = S (txt f) := by rw [lit_sl, S_app, S_app]; rfl
theorem txt_len {f : Fr} (h : Wr f) : (txt f).length ≤ 123 := by
  have a := numT_len h.2.1
  have b := numT_len h.2.2
  unfold txt
  simp only [List.length_append, List.length_singleton]
  omega
theorem eqI (x y : Int) : decide (V.int x = V.int y) = decide (x = y) := by
  rw [Bool.eq_iff_iff]
  simp
theorem fits {u v : List Nat} (h : u.length + v.length ≤ 1000000) : (S u).length + (S v).length ≤ sizeLine := by rw [S_len, S_len]; exact big h
theorem fits_sl {n : Int} (h : n.natAbs < 10 ^ 60) : (S (numT n)).length + ("/" : Str).length ≤ sizeLine := by
  rw [lit_sl]
  exact fits (by have := numT_len h; show (numT n).length + 1 ≤ _; omega)
theorem fits_txt {a b : Int} (h : Wr (a, b)) : (S (numT a) ++ ("/" : Str)).length + (S (numT b)).length ≤ sizeLine := by
  rw [lit_sl, S_app]
  have h1 : (numT a).length ≤ 61 := numT_len h.2.1
  have h2 : (numT b).length ≤ 61 := numT_len h.2.2
  exact fits (by rw [List.length_append, List.length_singleton]; omega)
theorem fig_le (u : List Nat) : (fig u).length ≤ u.length := by
  unfold fig
  split
  · rw [List.length_drop]; omega
  · exact Nat.le_refl _
theorem take1_pos {u : List Nat} {c : Nat} (h : u.take 1 = [c]) : (1 : Int) ≤ u.length := by
  cases u with
  | nil => cases h
  | cons a r => simp; omega
theorem slice_1 (u : List Nat) : Txt.slice (S u) none (some 1) = S (u.take 1) := by
  cases u with
  | nil => decide +kernel
  | cons a r => rw [S_to (by decide) (by simp; omega)]; rfl
theorem take_mi (u : List Nat) : decide (V.str (Txt.slice (S u) none (some 1)) = V.str "-") = decide (u.take 1 = [45]) := by
  rw [slice_1, eqS, lit_mi]
  rw [Bool.eq_iff_iff]
  simp only [decide_eq_true_eq, S_eq]
theorem eq_sign0 (c : Nat) : decide (V.str (⟨#[c]⟩ : Str) = V.str "0") = decide (c = 48) := eq_sign c 48 _ lit_0
theorem lnum_no {u : List Nat} (h : isNum u = false) : lnum u = none := by
  unfold lnum
  rw [if_neg (fun z => by rw [h] at z; exact Bool.false_ne_true z.1)]
theorem lnum_nought {u r : List Nat} (e : fig u = 48 :: r) (h2 : u ≠ [48]) : lnum u = none := by
  unfold lnum
  rw [if_neg (fun z => z.2 ⟨by rw [e]; rfl, h2⟩)]
theorem lnum_yes {u r : List Nat} {c : Nat} (hn : isNum u = true) (e : fig u = c :: r) (h : ¬ (c = 48 ∧ u ≠ [48])) : lnum u = some (nval u) := by
  unfold lnum
  rw [if_pos ⟨hn, fun z => h ⟨by have := z.1; rw [e] at this; exact Option.some.inj this, z.2⟩⟩]
theorem kit_self {K : PySem.W.Frag} (t : Value) : PySem.W.kitOne K t t = some true := by
  unfold PySem.W.kitOne
  rw [if_pos (beq_self_eq_true t)]
theorem at_some {α : Type} (xs : List α) {i : Int} (h0 : 0 ≤ i) (h1 : i < xs.length) : ∃ v, v ∈ xs ∧ atI xs i = some v := by
  have hj : i.toNat < xs.length := by omega
  refine ⟨xs[i.toNat], List.getElem_mem hj, ?_⟩
  unfold atI ixN
  rw [if_pos h0, if_pos h1]
  show xs[i.toNat]? = _
  exact List.getElem?_eq_getElem hj
theorem at_head {α : Type} (c : α) (r : List α) : atI (c :: r) 0 = some c := by
  unfold atI ixN
  rw [if_pos (by decide), if_pos (by rw [List.length_cons]; omega)]
  rfl
theorem mod_in (n : Int) {m : Int} (h : 0 < m) : 0 ≤ n % m ∧ n % m < m := ⟨Int.emod_nonneg n (by omega), Int.emod_lt_of_pos n h⟩
theorem times_one (x : Str) (c : Nat) (hx : x.cps.toList = [c]) (n : Int) : (⟨(timesL x.cps.toList n).toArray⟩ : Str) = S (List.replicate n.toNat c) := by
  rw [hx]
  unfold timesL S
  congr 2
  simp [List.flatten_replicate_singleton]
theorem nine_list : ("9" : Str).cps.toList = [57] := by decide +kernel
theorem eight_list : ("8" : Str).cps.toList = [56] := by decide +kernel
/-- a text, not too long -/
def TxtV (x : V) : Prop := ∃ u : List Nat, x = .str (S u) ∧ u.length ≤ 5000
theorem txtV_lit {x : Str} (h : x.length ≤ 100) : TxtV (.str x) := ⟨x.cps.toList, by rw [← S_of], by rw [Array.length_toList]; exact Nat.le_trans h (by decide)⟩
def shortV : V → Bool
  | .str x => decide (x.length ≤ 100)
  | _ => false
theorem txtV_all {xs : List V} (h : xs.all shortV = true) : ∀ x ∈ xs, TxtV x := fun x hx => by
  have := List.all_eq_true.mp h x hx
  cases x with
  | str y => exact txtV_lit (of_decide_eq_true this)
  | _ => cases this
theorem rep_fits {n c : Nat} {y : Str} (h : n ≤ 4800) (hy : y.length ≤ 100) : (S (List.replicate n c)).length + y.length ≤ sizeLine := by
  rw [S_len, List.length_replicate]
  exact big (by omega)
theorem rep_fits2 {n c : Nat} {y : Str} (h : n ≤ 4800) (hy : y.length ≤ 100) : y.length + (S (List.replicate n c)).length ≤ sizeLine := by
  rw [S_len, List.length_replicate]
  exact big (by omega)
theorem len_list (y : Str) : y.cps.toList.length = y.length := Array.length_toList
theorem rep_txt {n c : Nat} {y : Str} (h : n ≤ 4800) (hy : y.length ≤ 100) : TxtV (.str (S (List.replicate n c) ++ y)) :=
  ⟨List.replicate n c ++ y.cps.toList, by rw [← S_app, ← S_of], by rw [List.length_append, List.length_replicate, len_list]; omega⟩
theorem rep_txt2 {n c : Nat} {y : Str} (h : n ≤ 4800) (hy : y.length ≤ 100) : TxtV (.str (y ++ S (List.replicate n c))) :=
  ⟨y.cps.toList ++ List.replicate n c, by rw [← S_app, ← S_of], by rw [List.length_append, List.length_replicate, len_list]; omega⟩
theorem max_Wr {g : Fr} (hF : IsF g) (h : (if g.2 > (if g.1 < 0 then -g.1 else g.1) then g.2 else (if g.1 < 0 then -g.1 else g.1)) < (10 : Int) ^ (60 : Int).toNat) : Wr g := by
  have p : (10 : Int) ^ (60 : Int).toNat = ((10 ^ 60 : Nat) : Int) := by decide +kernel
  rw [p] at h
  have := F_below hF
  refine ⟨hF, ?_, ?_⟩ <;> (split at h <;> split at h <;> omega)
theorem Wr_max {g : Fr} (h : Wr g) : (if g.2 > (if g.1 < 0 then -g.1 else g.1) then g.2 else (if g.1 < 0 then -g.1 else g.1)) < (10 : Int) ^ (60 : Int).toNat := by
  have p : (10 : Int) ^ (60 : Int).toNat = ((10 ^ 60 : Nat) : Int) := by decide +kernel
  rw [p]
  obtain ⟨a, b, c⟩ := h
  have := F_below a
  split <;> split <;> omega
theorem kit_non_str {K : PySem.W.Frag} : PySem.W.kitOne K (.type "NoneType") (.type "str") = some false := by unfold PySem.W.kitOne PySem.W.kitCls; rfl
theorem kit_int_str {K : PySem.W.Frag} : PySem.W.kitOne K (.type "int") (.type "str") = some false := by unfold PySem.W.kitOne PySem.W.kitCls; rfl
theorem kit_bool_str {K : PySem.W.Frag} : PySem.W.kitOne K (.type "bool") (.type "str") = some false := by unfold PySem.W.kitOne PySem.W.kitCls; rfl
theorem kit_list_str {K : PySem.W.Frag} : PySem.W.kitOne K (.type "list") (.type "str") = some false := by unfold PySem.W.kitOne PySem.W.kitCls; rfl
def numV : Option Int → V
  | none => .non
  | some n => .int n
theorem eqN (x y : Int) : decide (numV (some x) = V.int y) = decide (x = y) := eqI x y
/-! ### promises -/
def spFracB : Sp := fun vs H Q _ => ∃ p a b, vs = [.ref p] ∧ H p = some (.tup [.int a, .int b]) ∧ ∀ H', Same H H' → Q (.bl (isF (a, b))) H'
def spWritable : Sp := fun vs H Q _ => ∃ p a b, vs = [.ref p] ∧ H p = some (.tup [.int a, .int b]) ∧ ∀ H', Same H H' → Q (.bl (isWr (a, b))) H'
def spWritten (C : Addr) : Sp := fun vs H Q E => ∃ p a b, vs = [.ref p] ∧ H p = some (.tup [.int a, .int b]) ∧ (Wr (a, b) → ∀ H', Same H H' → Q (.str (S (txt (a, b)))) H') ∧ (¬ Wr (a, b) → ∀ H', Same H H' → E (.ref C) none H')
def spNumber : Sp := fun vs H Q _ => ∃ w : List Nat, vs = [.str (S w)] ∧ w.length ≤ 100000 ∧ ∀ H', Same H H' → Q (.bl (isNum w)) H'
def spTold : Sp := fun vs H Q _ => ∃ w : List Nat, vs = [.str (S w)] ∧ w.length ≤ 100000 ∧ (∀ f p H', Told w f → Same H H' → H' p = some (fT f) → Q (.ref p) H') ∧ ((∀ f, ¬ Told w f) → ∀ H', Same H H' → Q .non H')
def spRead (K : PySem.W.Frag) (C : Addr) : Sp := fun vs H Q E => (∃ w : List Nat, vs = [.str (S w)] ∧ w.length ≤ 100000 ∧ (∀ f p H', Told w f → Same H H' → H' p = some (fT f) → Q (.ref p) H') ∧ ((∀ f, ¬ Told w f) → ∀ H', Same H H' → E (.ref C) none H')) ∨
  ∃ x t, vs = [x] ∧ TyOf K H x t ∧ PySem.W.kitOne K t (.type "str") = some false ∧ ∀ H', Same H H' → E (.ref C) none H'
def spLNumber : Sp := fun vs H Q _ => ∃ w : List Nat, vs = [.str (S w)] ∧ w.length ≤ 100000 ∧ ∀ H', Same H H' → Q (numV (lnum w)) H'
def spLRefused (K : PySem.W.Frag) : Sp := fun vs H Q _ => ((∃ w : List Nat, vs = [.str (S w)] ∧ w.length ≤ 100000 ∧ ∀ f, ¬ Told w f) ∨ ∃ x t, vs = [x] ∧ TyOf K H x t ∧ PySem.W.kitOne K t (.type "str") = some false) ∧ ∀ H', Same H H' → Q (.bl true) H'
def spLRight : Sp := fun vs H Q _ => ∃ w : List Nat, vs = [.str (S w)] ∧ w.length ≤ 100000 ∧ ∀ H', Same H H' → Q (.bl true) H'
def spUnwr : Sp := fun vs H Q _ => ∃ p a b, vs = [.ref p] ∧ H p = some (.tup [.int a, .int b]) ∧ ¬ Wr (a, b) ∧ ∀ H', Same H H' → Q (.bl true) H'
def spFew : Sp := fun vs H Q _ => vs = [] ∧ ∀ p (xs : List V) H', Same H H' → H' p = some (.lst xs) → xs.length ≤ 100 → (∀ x ∈ xs, TxtV x) → Q (.ref p) H'
theorem read_no {K : PySem.W.Frag} {C : Addr} {x : V} {H : Hp} {Q : VK} {E : XK} (h : (∃ w : List Nat, [x] = [.str (S w)] ∧ w.length ≤ 100000 ∧ ∀ f, ¬ Told w f) ∨ ∃ y t, [x] = [y] ∧ TyOf K H y t ∧ PySem.W.kitOne K t (.type "str") = some false)
    (hE : ∀ H', Same H H' → E (.ref C) none H') : spRead K C [x] H Q E := by
  rcases h with ⟨u, e, hl, hn⟩ | ⟨y, t, e, ty, kt⟩
  · exact .inl ⟨u, e, hl, fun g _ _ hg => absurd hg (hn g), fun _ => hE⟩
  · exact .inr ⟨y, t, e, ty, kt, hE⟩
/-! ### own exceptions -/
structure Exc (K : PySem.W.Frag) (mg : Str → Option Value) (x : Str) (C D : Addr) : Prop where
  ns : PySem.W.nsIn K mainGlobals x = some (some (.ref C))
  ex : PySem.W.excIn K C [.type "ValueError", .type "Exception", .type "BaseException", .type "object"] "ValueError.__new__" = true
  xc : XCls K C
  m : mg x = some (.ref C)
  md : mg "DanceError" = some (.ref D)
  hit : PySem.W.exmOne K (.ref C) (.ref D) = some true
  own : PySem.W.kitOne K (.ref C) (.ref C) = some true
end TX

set_option Elab.async false
set_option linter.all false
set_option maxRecDepth 100000
set_option maxHeartbeats 4000000
namespace K09
open PySem L2 TW TX
seal L2.PE L2.PT L2.PA L2.PS L2.PSs L2.PI L2.PG L2.PGs L2.PW L2.PTs L2.PO
def top (i : Nat) : Stmt := PySem.Challenge.pw_twistturn_k09_texts.main.body.getD i (.Pass ⟨0, 0, 0, 0⟩)
section
variable {P : Program} {w : World} {K : PySem.W.Frag} {mg : Str → Option Value} {base : Heap} {f : Addr} {fd : FuncData} {k : Nat}
abbrev s_is_whole : Stmt := top 8
theorem sc_is_whole : FnScope ["value"] ["value"] (defScope s_is_whole) := ⟨rfl, rfl, rfl, by decide +kernel, rfl, by decide +kernel, by decide +kernel⟩
theorem ok_is_whole (G : Glo mg) (F : Fun K "is_whole" "is_whole" s_is_whole f fd) : FnOk P w K mg base CX0 (k + 1) f fd ["value"] spWhole := by
  refine F.ok sc_is_whole (fun vs H Q E h => ?_) (fun cdv A outer s H vs Q E hr h => ?_)
  · obtain ⟨i, rfl, _⟩ := h; rfl
  obtain ⟨i, rfl, q⟩ := h
  refine ⟨_, (pss_one (ps_ret (pe_and (pe_callB (call_isiK (K := K) rfl) rfl G.n_isinstance bt_isinstance (pa_cons (pv 0) (pa_cons (pe_bltn (v := .ty "int") rfl G.n_int bt_int rfl) pa_nil))) (pe_one (pe_not (pe_callB (call_isiK (K := K) rfl) rfl G.n_isinstance bt_isinstance (pa_cons (pv 0) (pa_cons (pe_bltn (v := .ty "bool") rfl G.n_bool bt_bool rfl) pa_nil)))))))), ?_⟩
  refine ⟨_, rfl, _, _, _, _, rfl, .int i, kit_same "int", _, rfl, ?_⟩
  refine iteT ?_
  exact ⟨_, rfl, _, _, _, _, rfl, .int i, kit_int_bool, _, rfl, q⟩

abbrev s_common_divisor : Stmt := top 9
theorem sc_common_divisor : FnScope ["one", "other", "larger", "smaller", "rest"] ["one", "other"] (defScope s_common_divisor) := ⟨rfl, rfl, rfl, by decide +kernel, rfl, by decide +kernel, by decide +kernel⟩
theorem ok_common_divisor (F : Fun K "common_divisor" "common_divisor" s_common_divisor f fd) : FnOk P w K mg base CX0 (k + 1) f fd ["one", "other"] spGcd := by
  refine F.ok sc_common_divisor (fun vs H Q E h => ?_) (fun cdv A outer s H vs Q E hr h => ?_)
  · obtain ⟨a, b, rfl, _⟩ := h; rfl
  obtain ⟨a, b, rfl, ha, hb, q⟩ := h
  have nd := sc_common_divisor.nd
  have hu := hr.units
  refine ⟨_, (pss_cons (ps_set (i := 2) nd rfl (Or.inl rfl) (pv 0))
      (pss_cons (ps_set (i := 3) nd rfl (Or.inl rfl) (pv 1))
      (pss_cons (ps_while PassesOwn.never (pt_cmpR (op_neeK (K := K) hu rfl) (pv 3) pe_int (nomark _)) (pss_cons (ps_set (i := 4) nd rfl (Or.inl rfl) (pe_op op_mod (pv 2) (pv 3)))
      (pss_cons (ps_set (i := 2) nd rfl (Or.inl rfl) (pv 3))
      (pss_one (ps_set (i := 3) nd rfl (Or.inl rfl) (pv 4))))))
      (pss_one (ps_ret (pv 2)))))), ?_⟩
  refine ⟨_, rfl, _, rfl, ?_⟩
  refine while_by (fun σ' H' => H' = H ∧ ∃ (x y : Int) (r : Option V), σ' = [some (.int a), some (.int b), some (.int x), some (.int y), r] ∧ 0 ≤ x ∧ 0 ≤ y ∧ Int.gcd x y = Int.gcd a b) (fun σ' _ => match σ' with | [_, _, _, some (.int y), _] => y.toNat | _ => 0) ⟨rfl, a, b, _, rfl, ha, hb, rfl⟩ ?_ ?_
  · rintro σ' H' ⟨rfl, x, y, r, rfl, hx, hy, hg⟩
    refine ⟨_, rfl, .inl ⟨rfl, _, rfl, ?_⟩⟩
    by_cases hy0 : y = 0
    · subst hy0
      refine iteF ?_
      refine ⟨_, rfl, ?_⟩
      have e : x = ((Int.gcd a b : Nat) : Int) := by
        rw [← hg, Int.gcd_zero_right]
        omega
      rw [e]
      exact q
    · have c : (!decide (V.int y = V.int 0)) = true := by simp [hy0]
      show if (!decide (V.int y = V.int 0)) = true then _ else _
      rw [if_pos c]
      refine ⟨_, rfl, _, rfl, _, _, rfl, rfl, (by omega), _, rfl, _, rfl, ⟨rfl, y, x % y, _, rfl, hy, Int.emod_nonneg _ hy0, ?_⟩, ?_⟩
      · rw [gcd_turn hx (by omega)]; exact hg
      · have := Int.emod_lt_of_pos x (show 0 < y by omega)
        have := Int.emod_nonneg x hy0
        show (x % y).toNat < y.toNat
        omega
  · intro σ' H' R R' hR z
    obtain ⟨v, e, z⟩ := z
    refine ⟨v, e, ?_⟩
    rcases z with ⟨z1, k, z2, z3⟩ | ⟨dx, dy, z1, z2, z3, k, z4, z5⟩
    · exact .inl ⟨z1, k, z2, hR _ _ z3⟩
    · exact .inr ⟨dx, dy, z1, z2, z3, k, z4, hR _ _ z5⟩

abbrev s_is_fraction : Stmt := top 10
theorem sc_is_fraction : FnScope ["value", "a", "b"] ["value"] (defScope s_is_fraction) := ⟨rfl, rfl, rfl, by decide +kernel, rfl, by decide +kernel, by decide +kernel⟩
theorem ok_is_fraction (G : Glo mg) (F : Fun K "is_fraction" "is_fraction" s_is_fraction f fd) (c_is_whole : Callee P w K mg base k "is_whole" ["value"] spWhole) (c_common_divisor : Callee P w K mg base k "common_divisor" ["one", "other"] spGcd) : FnOk P w K mg base CX0 (k + 1) f fd ["value"] spFracB := by
  refine F.ok sc_is_fraction (fun vs H Q E h => ?_) (fun cdv A outer s H vs Q E hr h => ?_)
  · obtain ⟨p, a, b, rfl, _⟩ := h; rfl
  obtain ⟨p, a, b, rfl, hp', q⟩ := h
  have nd := sc_is_fraction.nd
  have hu := hr.units
  refine ⟨_, (pss_cons (ps_if (PW.pt (pw_or (pt_not (pt_val (pe_callB (call_isiK (K := K) rfl) rfl G.n_isinstance bt_isinstance (pa_cons (pv 0) (pa_cons (pe_bltn (v := .ty "tuple") rfl G.n_tuple bt_tuple rfl) pa_nil))))) (pw_or1 (pt_cmpR op_ne (pe_callB (call_lenK (K := K) rfl) rfl G.n_len bt_len (pa_cons (pv 0) pa_nil)) pe_int (nomark _))))) (pss_one (ps_ret pe_bl)) pss_nil)
      (pss_cons (ps_set (i := 1) nd rfl (Or.inl rfl) (pe_ix (ix_tupK (K := K) rfl) (pv 0) pe_int (fun _ _ => rfl)))
      (pss_cons (ps_set (i := 2) nd rfl (Or.inl rfl) (pe_ix (ix_tupK (K := K) rfl) (pv 0) pe_int (fun _ _ => rfl)))
      (pss_cons (ps_if (PW.pt (pw_or (pt_not (pt_val (pe_calls c_is_whole hr rfl (pa_cons (pv 1) pa_nil)))) (pw_or1 (pt_not (pt_val (pe_calls c_is_whole hr rfl (pa_cons (pv 2) pa_nil))))))) (pss_one (ps_ret pe_bl)) pss_nil)
      (pss_cons (ps_if (pt_cmpR op_eq (pv 2) pe_int (nomark _)) (pss_one (ps_ret (pe_cmpR op_eq (pv 1) pe_int (nomark _)))) pss_nil)
      (pss_one (ps_ret (pe_and (pe_cmpR op_gt (pv 2) pe_int (nomark _)) (pe_one (pe_cmpR op_eq (pe_calls c_common_divisor hr rfl (pa_cons (pe_callB call_abs rfl G.n_abs bt_abs (pa_cons (pv 1) pa_nil)) (pa_cons (pv 2) pa_nil))) pe_int (nomark _))))))))))), ?_⟩
  refine ⟨_, rfl, _, _, _, _, rfl, .tup hp', kit_same "tuple", _, rfl, ?_⟩
  refine iteF ?_
  refine ⟨_, rfl, .ref p, 2, rfl, ?len, ⟨rfl, _, rfl, ?_⟩⟩
  case len => exact .inr ⟨_, SqT.of hp', rfl⟩
  refine iteF ?_
  refine ⟨_, rfl, ⟨p, _, 0, .int a, rfl, rfl, SqT.of hp', rfl, ?_⟩⟩
  refine ⟨_, rfl, ⟨p, _, 1, .int b, rfl, rfl, SqT.of hp', rfl, ?_⟩⟩
  refine ⟨_, rfl, _, rfl, _, rfl, ?_⟩
  refine iteF ?_
  refine ⟨_, rfl, _, rfl, _, rfl, ?_⟩
  refine iteF ?_
  refine ⟨_, rfl, ⟨rfl, _, rfl, ?_⟩⟩
  have qq := q H (Same.refl _)
  unfold isF at qq
  refine ite2 (fun c => ?_) (fun c => ?_)
  · have hb : b = 0 := by simpa using c
    rw [if_pos hb] at qq
    refine ⟨_, rfl, ⟨rfl, ?_⟩⟩
    rw [eqI]
    exact qq
  · have hb : b ≠ 0 := by simpa using c
    rw [if_neg hb] at qq
    refine ⟨_, rfl, _, _, rfl, rfl, _, rfl, ?_⟩
    refine ite2 (fun d => ?_) (fun d => ?_)
    · have d' : 0 < b := of_decide_eq_true d
      refine ⟨_, rfl, _, rfl, _, rfl, _, _, rfl, abs_nonneg a, by omega, ⟨rfl, ?_⟩⟩
      rw [gcd_abs, eqI]
      rw [decide_eq_true d', Bool.true_and] at qq
      have e : decide (((Int.gcd a b : Nat) : Int) = 1) = decide (Int.gcd a b = 1) := by
        rw [Bool.eq_iff_iff]
        simp only [decide_eq_true_eq]
        omega
      rw [e]
      exact qq
    · have d' : ¬ 0 < b := of_decide_eq_false (Bool.eq_false_iff.mpr d)
      rw [decide_eq_false d', Bool.false_and] at qq
      exact qq

abbrev s_is_writable : Stmt := top 13
theorem sc_is_writable : FnScope ["fraction"] ["fraction"] (defScope s_is_writable) := ⟨rfl, rfl, rfl, by decide +kernel, rfl, by decide +kernel, by decide +kernel⟩
theorem ok_is_writable (G : Glo mg) (F : Fun K "is_writable" "is_writable" s_is_writable f fd) (c_is_fraction : Callee P w K mg base k "is_fraction" ["value"] spFracB) : FnOk P w K mg base CX0 (k + 1) f fd ["fraction"] spWritable := by
  refine F.ok sc_is_writable (fun vs H Q E h => ?_) (fun cdv A outer s H vs Q E hr h => ?_)
  · obtain ⟨p, a, b, rfl, _⟩ := h; rfl
  obtain ⟨p, a, b, rfl, hp, q⟩ := h
  refine ⟨_, (pss_one (ps_ret (pe_and (pe_calls c_is_fraction hr rfl (pa_cons (pv 0) pa_nil)) (pe_and (pe_cmpR op_lt (pe_callB call_abs rfl G.n_abs bt_abs (pa_cons (pe_ix (ix_tupK (K := K) rfl) (pv 0) pe_int (fun _ _ => rfl)) pa_nil)) (pe_op op_pow pe_int pe_int) (nomark _)) (pe_one (pe_cmpR op_lt (pe_ix (ix_tupK (K := K) rfl) (pv 0) pe_int (fun _ _ => rfl)) (pe_op op_pow pe_int pe_int) (nomark _))))))), ?_⟩
  refine ⟨_, rfl, p, a, b, rfl, hp, fun H1 s1 => ⟨_, rfl, ?_⟩⟩
  have qq := q H1 s1
  unfold isWr at qq
  have hp1 := s1 _ _ hp
  refine ite2 (fun c => ?_) (fun c => ?_)
  · rw [c, Bool.true_and] at qq
    refine ⟨_, rfl, ⟨p, _, 0, .int a, rfl, rfl, SqT.of hp1, rfl, _, rfl, ?_⟩⟩
    refine ⟨_, _, rfl, rfl, ⟨by decide, by decide, by decide⟩, _, _, rfl, rfl, _, rfl, ?_⟩
    refine ite2 (fun d => ?_) (fun d => ?_)
    · have d2 : decide ((if a < 0 then -a else a) < (10 : Int) ^ 60) = true := d
      rw [d2, Bool.true_and] at qq
      refine ⟨_, rfl, ⟨p, _, 1, .int b, rfl, rfl, SqT.of hp1, rfl, ?_⟩⟩
      exact ⟨_, _, rfl, rfl, ⟨by decide, by decide, by decide⟩, _, _, rfl, rfl, qq⟩
    · have d2 : decide ((if a < 0 then -a else a) < (10 : Int) ^ 60) = false := Bool.eq_false_iff.mpr d
      rw [d2, Bool.false_and] at qq
      exact qq
  · rw [Bool.eq_false_iff.mpr c, Bool.false_and] at qq
    exact qq

abbrev s_written : Stmt := top 14
theorem sc_written : FnScope ["fraction"] ["fraction"] (defScope s_written) := ⟨rfl, rfl, rfl, by decide +kernel, rfl, by decide +kernel, by decide +kernel⟩
theorem ok_written {C D : Addr} (G : Glo mg) (X : Exc K mg "BadFraction" C D) (F : Fun K "written" "written" s_written f fd) (c_is_writable : Callee P w K mg base k "is_writable" ["fraction"] spWritable) : FnOk P w K mg base (CXb P w) (k + 1) f fd ["fraction"] (spWritten C) := by
  refine F.okX sc_written (fun vs H Q E h => ?_) (fun cdv A outer s H vs Q E hr h => ?_)
  · obtain ⟨p, a, b, rfl, _⟩ := h; rfl
  obtain ⟨p, a, b, rfl, hp, q, qe⟩ := h
  refine ⟨_, (pss_cons (ps_if (pt_not (pt_val (pe_calls c_is_writable hr rfl (pa_cons (pv 0) pa_nil)))) (pss_one (ps_raiseK X.ns X.ex PySem.F.excBase_ValueError rfl (pa_cons pe_str pa_nil))) pss_nil)
      (pss_one (ps_ret (pe_op op_plus (pe_op op_plus (pe_callTy call_strI rfl G.n_str bt_str (pa_cons (pe_ix (ix_tupK (K := K) rfl) (pv 0) pe_int (fun _ _ => rfl)) pa_nil)) pe_str) (pe_callTy call_strI rfl G.n_str bt_str (pa_cons (pe_ix (ix_tupK (K := K) rfl) (pv 0) pe_int (fun _ _ => rfl)) pa_nil)))))), ?_⟩
  refine ⟨_, rfl, p, a, b, rfl, hp, fun H1 s1 => ⟨_, rfl, ?_⟩⟩
  have hp1 := s1 _ _ hp
  by_cases h : Wr (a, b)
  · rw [isWr_of h]
    refine iteF ?_
    refine ⟨_, rfl, ⟨p, _, 0, .int a, rfl, rfl, SqT.of hp1, rfl, _, rfl, wr_log h.2.1, ?_⟩⟩
    rw [str_num]
    refine .inr ⟨_, _, rfl, rfl, fits_sl h.2.1, ?_⟩
    refine ⟨_, rfl, ⟨p, _, 1, .int b, rfl, rfl, SqT.of hp1, rfl, _, rfl, wr_log h.2.2, ?_⟩⟩
    rw [str_num]
    refine .inr ⟨_, _, rfl, rfl, fits_txt h, ?_⟩
    rw [txt_S (a, b)]
    exact q h _ s1
  · rw [isWr_no h]
    refine iteT ?_
    exact ⟨by show 1 ≤ sizeLine; decide, qe h _ s1⟩

abbrev s_is_number : Stmt := top 15
theorem sc_is_number : FnScope ["text", "figures"] ["text"] (defScope s_is_number) := ⟨rfl, rfl, rfl, by decide +kernel, rfl, by decide +kernel, by decide +kernel⟩
theorem ok_is_number (G : Glo mg) (cFIGURES : Figs mg) (F : Fun K "is_number" "is_number" s_is_number f fd) : FnOk P w K mg base CX0 (k + 1) f fd ["text"] spNumber := by
  refine F.ok sc_is_number (fun vs H Q E h => ?_) (fun cdv A outer s H vs Q E hr h => ?_)
  · obtain ⟨u, rfl, _⟩ := h; rfl
  obtain ⟨u, rfl, hl, q⟩ := h
  obtain ⟨tF, gF⟩ := cFIGURES
  have nd := sc_is_number.nd
  refine ⟨_, (pss_cons (ps_set (i := 1) nd rfl (Or.inl rfl) (pe_ifExp (pt_val (pe_bm PySem.F.plainAttrs_str PySem.F.slot_str_startswith PySem.F.type_str_startswith mt_starts (pv 0) (pa_cons pe_str pa_nil))) (pe_slice sl_str (pv 0) (po_some pe_int) po_none) (pv 0)))
      (pss_one (ps_ret (pe_and (pe_chain op_lt op_le pe_int (pe_callB (call_lenK (K := K) rfl) rfl G.n_len bt_len (pa_cons (pv 1) pa_nil)) pe_int) (pe_one (pe_callB (call_allK (K := K) rfl rfl) rfl G.n_all bt_all (pa_cons (pe_lc (ys := []) (js := []) rfl (LcS.to (os := defScope s_is_number) ⟨rfl, by decide +kernel, by decide +kernel, rfl, by decide +kernel, by decide +kernel, by decide +kernel⟩ rfl rfl) (pi_str (pv 1)) (fun _ _ _ _ => pts_none) (fun _ _ _ _ => (pe_cmpR (op_innK (K := K) rfl) (pv 0) (pe_glob (v := .str "0123456789") rfl gF ⟨tF, rfl⟩) rfl))) pa_nil))))))), ?_⟩
  refine ⟨_, rfl, rfl, _, _, rfl, rfl, _, rfl, ?_⟩
  rw [show Txt.startswith (S u) "-" = decide (u.take 1 = [45]) from starts_mi u]
  have lf : (fig u).length ≤ u.length := fig_le u
  refine pick2 (v := .str (S (fig u))) (fun c Q q => ?_) (fun c Q q => ?_) ?_
  · have c' : u.take 1 = [45] := of_decide_eq_true c
    refine ⟨_, rfl, 1, rfl, _, rfl, (by rw [S_len]; exact big (by omega)), ?_⟩
    rw [S_from (by decide) (take1_pos c')]
    have e : fig u = u.drop 1 := by unfold fig; rw [if_pos c']
    rw [e] at q
    exact q
  · have c' : ¬ u.take 1 = [45] := of_decide_eq_false c
    have e : fig u = u := by unfold fig; rw [if_neg c']
    rw [e] at q
    exact ⟨_, rfl, q⟩
  have qq : ∀ H', Same H H' → Q (.bl ((decide (0 < (fig u).length) && decide ((fig u).length ≤ 60)) && (fig u).all isDig)) H' := q
  refine ⟨_, rfl, .str (S (fig u)), _, rfl, len_St (by omega), ?_⟩
  refine ⟨_, _, rfl, rfl, _, rfl, ?_⟩
  refine ite2 (fun d => ?_) (fun d => ?_)
  · have d' : 0 < (fig u).length := by have := of_decide_eq_true d; omega
    refine ⟨_, _, rfl, rfl, _, rfl, ?_⟩
    rw [decide_eq_true d', Bool.true_and] at qq
    refine ite2 (fun e => ?_) (fun e => ?_)
    · have e' : (fig u).length ≤ 60 := by have := of_decide_eq_true e; omega
      rw [decide_eq_true e', Bool.true_and] at qq
      refine ⟨_, rfl, _, rfl, ?_⟩
      refine lc_y (Ok := fun _ => True) ItOn.str (fun x => V.bl (figV x)) trivial (by rw [sgV_length]; show (S (fig u)).length ≤ _; rw [S_len]; exact big (by omega)) (fun i x Q' hx hq => ?_) (fun p hp => ?_)
      · obtain ⟨c, _, rfl⟩ := sg_at hx
        exact ⟨_, rfl, .inr ⟨_, _, rfl, rfl, hq⟩⟩
      · rw [fig_signs]
        refine ⟨p, _, rfl, SqL.of upd_same, ?_⟩
        show Q (V.bl (((fig u).map isDig).all id)) _
        rw [all_figs]
        exact qq _ (same_new hp _)
    · have e' : ¬ (fig u).length ≤ 60 := by have := of_decide_eq_false (Bool.eq_false_iff.mpr e); omega
      rw [decide_eq_false e', Bool.false_and] at qq
      exact qq _ (Same.refl _)
  · have d' : ¬ 0 < (fig u).length := by have := of_decide_eq_false (Bool.eq_false_iff.mpr d); omega
    rw [decide_eq_false d', Bool.false_and, Bool.false_and] at qq
    exact ⟨_, rfl, iteF (qq _ (Same.refl _))⟩

end
end K09

set_option Elab.async false
set_option linter.all false
set_option maxRecDepth 100000
set_option maxHeartbeats 4000000
namespace K09
open PySem L2 TW TX
seal L2.PE L2.PT L2.PA L2.PS L2.PSs L2.PI L2.PG L2.PGs L2.PW L2.PTs L2.PO
section
variable {P : Program} {w : World} {K : PySem.W.Frag} {mg : Str → Option Value} {base : Heap} {f : Addr} {fd : FuncData} {k : Nat}
abbrev s_told_fraction : Stmt := top 16
theorem sc_told_fraction : FnScope ["text", "parts", "fraction"] ["text"] (defScope s_told_fraction) := ⟨rfl, rfl, rfl, by decide +kernel, rfl, by decide +kernel, by decide +kernel⟩
theorem ok_told_fraction {C : Addr} (G : Glo mg) (F : Fun K "told_fraction" "told_fraction" s_told_fraction f fd) (c_is_number : Callee P w K mg base k "is_number" ["text"] spNumber) (c_is_fraction : Callee P w K mg base k "is_fraction" ["value"] spFracB) (c_written : CalleeX P w K mg base k "written" ["fraction"] (spWritten C)) : FnOk P w K mg base CX0 (k + 1) f fd ["text"] spTold := by
  refine F.ok sc_told_fraction (fun vs H Q E h => ?_) (fun cdv A outer s H vs Q E hr h => ?_)
  · obtain ⟨u, rfl, _⟩ := h; rfl
  obtain ⟨u, rfl, hl, q, qn⟩ := h
  have nd := sc_told_fraction.nd
  have hu := hr.units
  refine ⟨_, (pss_cons (ps_set (i := 1) nd rfl (Or.inl rfl) (pe_bm PySem.F.plainAttrs_str PySem.F.slot_str_partition PySem.F.type_str_partition mt_part (pv 0) (pa_cons pe_str pa_nil)))
      (pss_cons (ps_if (PW.pt (pw_or (pt_not (pt_val (pe_calls c_is_number hr rfl (pa_cons (pe_ix (ix_tupK (K := K) rfl) (pv 1) pe_int (fun _ _ => rfl)) pa_nil)))) (pw_or1 (pt_not (pt_val (pe_calls c_is_number hr rfl (pa_cons (pe_ix (ix_tupK (K := K) rfl) (pv 1) pe_int (fun _ _ => rfl)) pa_nil))))))) (pss_one (ps_ret pe_non)) pss_nil)
      (pss_cons (ps_set (i := 2) nd rfl (Or.inl rfl) (pe_tup (pa_cons (pe_callTy call_int_text rfl G.n_int bt_int (pa_cons (pe_ix (ix_tupK (K := K) rfl) (pv 1) pe_int (fun _ _ => rfl)) pa_nil)) (pa_cons (pe_callTy call_int_text rfl G.n_int bt_int (pa_cons (pe_ix (ix_tupK (K := K) rfl) (pv 1) pe_int (fun _ _ => rfl)) pa_nil)) pa_nil))))
      (pss_cons (ps_if (PW.pt (pw_or (pt_not (pt_val (pe_calls c_is_fraction hr rfl (pa_cons (pv 2) pa_nil)))) (pw_or1 (pt_cmpR op_ne (pe_callX0 c_written hr rfl (pa_cons (pv 2) pa_nil)) (pv 0) (nomark _))))) (pss_one (ps_ret pe_non)) pss_nil)
      (pss_one (ps_ret (pv 2))))))), ?_⟩
  refine ⟨_, rfl, rfl, _, _, rfl, rfl, by decide +kernel, (by rw [S_len]; exact big (by omega)), fun t ht => ?_⟩
  have s1 := same_new ht (.tup (partV (S u) "/"))
  have eT : upd H t (.tup (partV (S u) "/")) t = some (.tup (partV (S u) "/")) := upd_same
  generalize upd H t (.tup (partV (S u) "/")) = H1 at s1 eT
  have eT2 : H1 t = some (.tup (partV (S u) (S [47]))) := by rw [← lit_sl]; exact eT
  by_cases hm : 47 ∈ u
  · obtain ⟨p, r, rfl, hp⟩ := cut_first u hm
    rw [part_at hp] at eT2
    have lp : p.length ≤ 100000 ∧ r.length ≤ 100000 := by
      simp only [List.length_append, List.length_singleton] at hl
      omega
    refine ⟨_, rfl, ⟨t, _, 0, .str (S p), rfl, rfl, SqT.of eT2, rfl, p, rfl, lp.1, fun H2 s2 => ⟨_, rfl, ?_⟩⟩⟩
    cases np : isNum p with
    | false =>
      refine iteT ?_
      refine qn (fun g z => ?_) _ (s1.trans s2)
      rw [(told_parts hp z).1, isNum_numT z.1.2.1] at np
      cases np
    | true =>
      refine iteF ?_
      refine ⟨_, rfl, ⟨t, _, 2, .str (S r), rfl, rfl, SqT.of (s2 _ _ eT2), rfl, r, rfl, lp.2, fun H3 s3 => ⟨_, rfl, ?_⟩⟩⟩
      cases nr : isNum r with
      | false =>
        refine iteT ?_
        refine qn (fun g z => ?_) _ (s1.trans (s2.trans s3))
        rw [(told_parts hp z).2, isNum_numT z.1.2.2] at nr
        cases nr
      | true =>
        refine iteF ?_
        have eT3 := s3 _ _ (s2 _ _ eT2)
        have l1 := num_len np
        have l2 := num_len nr
        refine ⟨_, rfl, ⟨t, _, 0, .str (S p), rfl, rfl, SqT.of eT3, rfl, _, _, rfl, int_num np, (by rw [S_len]; omega), ?_⟩⟩
        refine ⟨_, rfl, ⟨t, _, 2, .str (S r), rfl, rfl, SqT.of eT3, rfl, _, _, rfl, int_num nr, (by rw [S_len]; omega), ?_⟩⟩
        refine ⟨two_ok, fun t2 ht2 => ?_⟩
        have s4 := same_new ht2 (.tup [.int (nval p), .int (nval r)])
        have eF : upd H3 t2 (.tup [.int (nval p), .int (nval r)]) t2 = some (.tup [.int (nval p), .int (nval r)]) := upd_same
        generalize upd H3 t2 (.tup [.int (nval p), .int (nval r)]) = H4 at s4 eF
        have sH := s1.trans (s2.trans (s3.trans s4))
        have one : ∀ g, Told (p ++ [47] ++ r) g → g = (nval p, nval r) := fun g z => by
          obtain ⟨a, b⟩ := told_parts hp z
          rw [a, b, nval_numT, nval_numT]
        refine ⟨_, rfl, t2, _, _, rfl, eF, fun H5 s5 => ⟨_, rfl, ?_⟩⟩
        by_cases hF : IsF (nval p, nval r)
        · rw [isF_of hF]
          refine iteF ?_
          have hW : Wr (nval p, nval r) := ⟨hF, isNum_lt np, isNum_lt nr⟩
          refine ⟨_, rfl, t2, _, _, rfl, s5 _ _ eF, fun _ H6 s6 => ?_, fun z => absurd hW z⟩
          refine ⟨_, rfl, rfl, _, rfl, ?_⟩
          rw [eqS]
          by_cases e : txt (nval p, nval r) = p ++ [47] ++ r
          · rw [decide_eq_true (congrArg S e)]
            refine iteF ?_
            exact ⟨_, rfl, q _ _ _ ⟨hW, e⟩ (sH.trans (s5.trans s6)) (s6 _ _ (s5 _ _ eF))⟩
          · rw [decide_eq_false (fun z => e (S_inj z))]
            refine iteT ?_
            refine qn (fun g z => ?_) _ (sH.trans (s5.trans s6))
            have := one g z
            subst this
            exact e z.2
        · rw [isF_no hF]
          refine iteT ?_
          refine qn (fun g z => ?_) _ (sH.trans s5)
          have := one g z
          subst this
          exact hF z.1.1
  · rw [part_no hm] at eT2
    refine ⟨_, rfl, ⟨t, _, 0, .str (S u), rfl, rfl, SqT.of eT2, rfl, u, rfl, hl, fun H2 s2 => ⟨_, rfl, ?_⟩⟩⟩
    refine ite2 (fun _ => qn (fun g => told_no hm g) _ (s1.trans s2)) (fun _ => ?_)
    refine ⟨_, rfl, ⟨t, _, 2, .str (S []), rfl, rfl, SqT.of (s2 _ _ eT2), rfl, [], rfl, by decide, fun H3 s3 => ⟨_, rfl, ?_⟩⟩⟩
    exact iteT (qn (fun g => told_no hm g) _ (s1.trans (s2.trans s3)))

abbrev s_read : Stmt := top 17
theorem sc_read : FnScope ["text", "fraction"] ["text"] (defScope s_read) := ⟨rfl, rfl, rfl, by decide +kernel, rfl, by decide +kernel, by decide +kernel⟩
theorem ok_read {C D : Addr} (G : Glo mg) (X : Exc K mg "BadText" C D) (F : Fun K "read" "read" s_read f fd) (c_told_fraction : Callee P w K mg base k "told_fraction" ["text"] spTold) : FnOk P w K mg base (CXb P w) (k + 1) f fd ["text"] (spRead K C) := by
  refine F.okX sc_read (fun vs H Q E h => ?_) (fun cdv A outer s H vs Q E hr h => ?_)
  · rcases h with ⟨u, rfl, _⟩ | ⟨x, t, rfl, _⟩ <;> rfl
  have nd := sc_read.nd
  refine ⟨_, (pss_cons (ps_set (i := 1) nd rfl (Or.inl rfl) (pe_ifExp (pt_val (pe_callB (call_isiK (K := K) rfl) rfl G.n_isinstance bt_isinstance (pa_cons (pv 0) (pa_cons (pe_bltn (v := .ty "str") rfl G.n_str bt_str rfl) pa_nil)))) (pe_calls c_told_fraction hr rfl (pa_cons (pv 0) pa_nil)) pe_non))
      (pss_cons (ps_if (pt_cmpR op_isN (pv 1) pe_non (nomark _)) (pss_one (ps_raiseK X.ns X.ex PySem.F.excBase_ValueError rfl (pa_cons pe_str pa_nil))) pss_nil)
      (pss_one (ps_ret (pv 1))))), ?_⟩
  rcases h with ⟨u, rfl, hl, q, qe⟩ | ⟨x, t, rfl, ty, kt, qe⟩
  · refine ⟨_, rfl, _, _, _, _, rfl, .str _, kit_same "str", _, rfl, ?_⟩
    refine iteT ?_
    refine ⟨_, rfl, u, rfl, hl, fun g p H1 hg s1 hp => ?_, fun hn H1 s1 => ?_⟩
    · refine ⟨_, rfl, rfl, _, rfl, ?_⟩
      refine iteF ?_
      exact ⟨_, rfl, q g p H1 hg s1 hp⟩
    · refine ⟨_, rfl, rfl, _, rfl, ?_⟩
      refine iteT ?_
      exact ⟨by show 1 ≤ sizeLine; decide, qe hn H1 s1⟩
  · refine ⟨_, rfl, _, _, _, _, rfl, ty, kt, _, rfl, ?_⟩
    refine iteF ?_
    refine ⟨_, rfl, rfl, _, rfl, ?_⟩
    refine iteT ?_
    exact ⟨by show 1 ≤ sizeLine; decide, qe _ (Same.refl _)⟩

end
end K09

set_option Elab.async false
set_option linter.all false
set_option maxRecDepth 100000
set_option maxHeartbeats 4000000
namespace K09
open PySem L2 TW TX
seal L2.PE L2.PT L2.PA L2.PS L2.PSs L2.PI L2.PG L2.PGs L2.PW L2.PTs L2.PO
section
variable {P : Program} {w : World} {K : PySem.W.Frag} {mg : Str → Option Value} {base : Heap} {f : Addr} {fd : FuncData} {k : Nat}
abbrev s_law_moved : Stmt := top 19
theorem sc_law_moved : FnScope ["_law_letter", "_law_fraction", "_law_above", "_law_below"] ["_law_letter", "_law_fraction"] (defScope s_law_moved) := ⟨rfl, rfl, rfl, by decide +kernel, rfl, by decide +kernel, by decide +kernel⟩
theorem ok_law_moved (F : Fun K "_law_moved" "_law_moved" s_law_moved f fd) : FnOk P w K mg base CX0 (k + 1) f fd ["_law_letter", "_law_fraction"] spLMoved := by
  refine F.ok sc_law_moved (fun vs H Q E h => ?_) (fun cdv A outer s H vs Q E hr h => ?_)
  · obtain ⟨c, p, g, rfl, _⟩ := h; rfl
  obtain ⟨c, p, g, rfl, hp, q⟩ := h
  have nd := sc_law_moved.nd
  have hu := hr.units
  have hp' : H p = some (.tup [.int g.1, .int g.2]) := hp
  refine ⟨_, (pss_cons (ps_asg (pv 1) (pg_tup rfl (pgs_cons (pg_name (i := 2) nd rfl (Or.inl rfl)) (pgs_cons (pg_name (i := 3) nd rfl (Or.inl rfl)) pgs_nil))))
      (pss_cons (ps_if (pt_cmpR op_eq (pv 0) pe_str (nomark _)) (pss_one (ps_ret (pe_tup (pa_cons (pe_op op_plus (pv 2) (pv 3)) (pa_cons (pv 3) pa_nil))))) pss_nil)
      (pss_cons (ps_if (pt_cmpR op_eq (pv 0) pe_str (nomark _)) (pss_one (ps_ret (pe_tup (pa_cons (pe_op op_sub (pv 2) (pv 3)) (pa_cons (pv 3) pa_nil))))) pss_nil)
      (pss_cons (ps_if (pt_cmpR op_eq (pv 2) pe_int (nomark _)) (pss_one (ps_ret (pe_tup (pa_cons pe_int (pa_cons pe_int pa_nil))))) pss_nil)
      (pss_one (ps_ret (pe_ifExp (pt_cmpR op_gt (pv 2) pe_int (nomark _)) (pe_tup (pa_cons (pe_un un_neg (pv 3)) (pa_cons (pv 2) pa_nil))) (pe_tup (pa_cons (pv 3) (pa_cons (pe_un un_neg (pv 2)) pa_nil)))))))))), ?_⟩
  refine ⟨_, rfl, p, _, rfl, SqT.of hp', rfl, _, _, rfl, _, _, rfl, rfl, ?_⟩
  refine ⟨_, rfl, ⟨rfl, _, rfl, ?_⟩⟩
  rw [eq_sign c 116 _ lit_t]
  refine ite2 (fun e => ?_) (fun e => ?_)
  · have e' : c = 116 := of_decide_eq_true e
    refine ⟨_, rfl, _, rfl, .inl ⟨_, _, rfl, rfl, _, rfl, two_ok, fun r hr' => q r _ (same_new hr' _) ?_⟩⟩
    rw [upd_same, mv, if_pos e']
    rfl
  · have e' : ¬ c = 116 := of_decide_eq_false (Bool.eq_false_iff.mpr e)
    refine ⟨_, rfl, ⟨rfl, _, rfl, ?_⟩⟩
    rw [eq_sign c 117 _ lit_u]
    refine ite2 (fun d => ?_) (fun d => ?_)
    · have d' : c = 117 := of_decide_eq_true d
      refine ⟨_, rfl, _, rfl, _, _, rfl, rfl, _, rfl, two_ok, fun r hr' => q r _ (same_new hr' _) ?_⟩
      rw [upd_same, mv, if_neg e', if_pos d']
      rfl
    · have d' : ¬ c = 117 := of_decide_eq_false (Bool.eq_false_iff.mpr d)
      refine ⟨_, rfl, ⟨rfl, _, rfl, ?_⟩⟩
      refine ite2 (fun z => ?_) (fun z => ?_)
      · have z' : g.1 = 0 := by simpa using z
        refine ⟨two_ok, fun r hr' => q r _ (same_new hr' _) ?_⟩
        rw [upd_same, mv, if_neg e', if_neg d', if_neg (by omega), if_neg (by omega)]
        rfl
      · have z' : ¬ g.1 = 0 := by simpa using z
        refine ⟨_, rfl, _, _, rfl, rfl, _, rfl, ?_⟩
        refine ite2 (fun y => ?_) (fun y => ?_)
        · have y' : 0 < g.1 := of_decide_eq_true y
          refine ⟨_, rfl, _, rfl, _, rfl, two_ok, fun r hr' => q r _ (same_new hr' _) ?_⟩
          rw [upd_same, mv, if_neg e', if_neg d', if_pos y']
          rfl
        · have y' : ¬ 0 < g.1 := of_decide_eq_false (Bool.eq_false_iff.mpr y)
          refine ⟨_, rfl, _, rfl, _, rfl, two_ok, fun r hr' => q r _ (same_new hr' _) ?_⟩
          rw [upd_same, mv, if_neg e', if_neg d', if_neg y', if_pos (by omega)]
          rfl

abbrev s_law_common : Stmt := top 20
theorem sc_law_common : FnScope ["_law_one", "_law_other"] ["_law_one", "_law_other"] (defScope s_law_common) := ⟨rfl, rfl, rfl, by decide +kernel, rfl, by decide +kernel, by decide +kernel⟩
theorem ok_law_common (F : Fun K "_law_common" "_law_common" s_law_common f fd) : FnOk P w K mg base CX0 (k + 1) f fd ["_law_one", "_law_other"] spGcd := by
  refine F.ok sc_law_common (fun vs H Q E h => ?_) (fun cdv A outer s H vs Q E hr h => ?_)
  · obtain ⟨a, b, rfl, _⟩ := h; rfl
  obtain ⟨a, b, rfl, ha, hb, q⟩ := h
  have nd := sc_law_common.nd
  refine ⟨_, (pss_cons (ps_while PassesOwn.never (pt_cmpR op_gt (pv 1) pe_int (nomark _)) (pss_one (ps_par (i := 0) (j := 1) rfl nd rfl rfl (by decide) rfl rfl (pa_cons (pv 1) (pa_cons (pe_op op_mod (pv 0) (pv 1)) pa_nil)) rfl)))
      (pss_one (ps_ret (pv 0)))), ?_⟩
  refine while_by (fun σ' H' => H' = H ∧ ∃ (x y : Int), σ' = [some (.int x), some (.int y)] ∧ 0 ≤ x ∧ 0 ≤ y ∧ Int.gcd x y = Int.gcd a b) (fun σ' _ => match σ' with | [_, some (.int y)] => y.toNat | _ => 0) ⟨rfl, a, b, rfl, ha, hb, rfl⟩ ?_ ?_
  · rintro σ' H' ⟨rfl, x, y, rfl, hx, hy, hg⟩
    refine ⟨_, rfl, _, _, rfl, rfl, _, rfl, ?_⟩
    refine ite2 (fun c => ?_) (fun c => ?_)
    · have c' : 0 < y := of_decide_eq_true c
      refine ⟨_, rfl, _, rfl, _, rfl, _, _, rfl, rfl, c', _, _, rfl, ⟨rfl, y, x % y, rfl, hy, Int.emod_nonneg _ (by omega), ?_⟩, ?_⟩
      · rw [gcd_turn hx c']; exact hg
      · have := Int.emod_lt_of_pos x c'
        have := Int.emod_nonneg x (show y ≠ 0 by omega)
        show (x % y).toNat < y.toNat
        omega
    · have c' : ¬ 0 < y := of_decide_eq_false (Bool.eq_false_iff.mpr c)
      have hy0 : y = 0 := by omega
      subst hy0
      refine ⟨_, rfl, ?_⟩
      have e : x = ((Int.gcd a b : Nat) : Int) := by
        rw [← hg, Int.gcd_zero_right]
        omega
      rw [e]
      exact q
  · intro σ' H' R R' hR z
    obtain ⟨v, e, i, j, z1, z2, k, z3, z4⟩ := z
    exact ⟨v, e, i, j, z1, z2, k, z3, hR _ _ z4⟩

abbrev s_law_number : Stmt := top 21
theorem sc_law_number : FnScope ["_law_word", "_law_figures"] ["_law_word"] (defScope s_law_number) := ⟨rfl, rfl, rfl, by decide +kernel, rfl, by decide +kernel, by decide +kernel⟩
theorem ok_law_number (G : Glo mg) (F : Fun K "_law_number" "_law_number" s_law_number f fd) : FnOk P w K mg base CX0 (k + 1) f fd ["_law_word"] spLNumber := by
  refine F.ok sc_law_number (fun vs H Q E h => ?_) (fun cdv A outer s H vs Q E hr h => ?_)
  · obtain ⟨u, rfl, _⟩ := h; rfl
  obtain ⟨u, rfl, hl, q⟩ := h
  have nd := sc_law_number.nd
  refine ⟨_, (pss_cons (ps_set (i := 1) nd rfl (Or.inl rfl) (pe_ifExp (pt_cmpR op_eq (pe_slice sl_str (pv 0) po_none (po_some pe_int)) pe_str (nomark _)) (pe_slice sl_str (pv 0) (po_some pe_int) po_none) (pv 0)))
      (pss_cons (ps_if (PW.pt (pw_or (pt_not (pt_chain op_lt op_lt pe_int (pe_callB (call_lenK (K := K) rfl) rfl G.n_len bt_len (pa_cons (pv 1) pa_nil)) pe_int)) (pw_or1 (pt_not (pt_val (pe_callB (call_allK (K := K) rfl rfl) rfl G.n_all bt_all (pa_cons (pe_lc (ys := []) (js := []) rfl (LcS.to (os := defScope s_law_number) ⟨rfl, by decide +kernel, by decide +kernel, rfl, by decide +kernel, by decide +kernel, by decide +kernel⟩ rfl rfl) (pi_str (pv 1)) (fun _ _ _ _ => pts_none) (fun _ _ _ _ => (pe_cmpR (op_innK (K := K) rfl) (pv 0) pe_str rfl))) pa_nil))))))) (pss_one (ps_ret pe_non)) pss_nil)
      (pss_cons (ps_if (PW.pt (pw_and (pt_cmpR op_eq (pe_ix (ix_anyK (K := K) (Pm := w.params) rfl rfl) (pv 1) pe_int (fun _ _ => rfl)) pe_str (nomark _)) (pw_and1 (pt_cmpR op_ne (pv 0) pe_str (nomark _))))) (pss_one (ps_ret pe_non)) pss_nil)
      (pss_one (ps_ret (pe_callTy call_int_text rfl G.n_int bt_int (pa_cons (pv 0) pa_nil))))))), ?_⟩
  have hz : (S u).length ≤ sizeLine := by rw [S_len]; exact big (by omega)
  have lf : (fig u).length ≤ u.length := fig_le u
  have hzf : (S (fig u)).length ≤ sizeLine := by rw [S_len]; exact big (by omega)
  refine ⟨_, rfl, 1, rfl, _, rfl, hz, rfl, _, rfl, ?_⟩
  rw [take_mi]
  refine pick2 (v := .str (S (fig u))) (fun c Q q => ?_) (fun c Q q => ?_) ?_
  · have c' : u.take 1 = [45] := of_decide_eq_true c
    refine ⟨_, rfl, 1, rfl, _, rfl, hz, ?_⟩
    rw [S_from (by decide) (take1_pos c')]
    have e : fig u = u.drop 1 := by unfold fig; rw [if_pos c']
    rw [e] at q
    exact q
  · have c' : ¬ u.take 1 = [45] := of_decide_eq_false c
    have e : fig u = u := by unfold fig; rw [if_neg c']
    rw [e] at q
    exact ⟨_, rfl, q⟩
  have no : isNum u = false → ∀ H', Same H H' → Q .non H' := fun h H' hs => by
    have := q H' hs
    rw [lnum_no h] at this
    exact this
  have eN : isNum u = ((decide (0 < (fig u).length) && decide ((fig u).length ≤ 60)) && (fig u).all isDig) := rfl
  refine ⟨_, rfl, .str (S (fig u)), _, rfl, len_St (by omega), ?_⟩
  refine ⟨_, _, rfl, rfl, _, rfl, ?_⟩
  refine ite2 (fun d => ?_) (fun d => ?_)
  · have d' : 0 < (fig u).length := by have := of_decide_eq_true d; omega
    refine ⟨_, _, rfl, rfl, _, rfl, ?_⟩
    cases e : decide (((fig u).length : Int) < 61) with
    | false =>
      have e' : ¬ (fig u).length ≤ 60 := by have := of_decide_eq_false e; omega
      refine iteT (iteT ?_)
      exact no (by rw [eN, decide_eq_false e', Bool.and_false, Bool.false_and]) _ (Same.refl _)
    | true =>
      have e' : (fig u).length ≤ 60 := by have := of_decide_eq_true e; omega
      refine iteF ?_
      refine ⟨_, rfl, _, rfl, ?_⟩
      refine lc_y (Ok := fun _ => True) ItOn.str (fun x => V.bl (figV x)) trivial (by rw [sgV_length]; exact hzf) (fun i x Q' hx hq => ?_) (fun p hp => ?_)
      · obtain ⟨c, _, rfl⟩ := sg_at hx
        exact ⟨_, rfl, .inr ⟨_, _, rfl, rfl, hq⟩⟩
      · rw [fig_signs]
        have s1 := same_new hp (.lst (((fig u).map isDig).map V.bl))
        refine ⟨p, _, rfl, SqL.of upd_same, _, rfl, ?_⟩
        show if (!(((fig u).map isDig).all id)) = true then _ else _
        rw [all_figs]
        generalize upd H p _ = H1 at s1
        cases ea : (fig u).all isDig with
        | false =>
          refine iteT ?_
          exact no (by rw [eN, ea, Bool.and_false]) _ s1
        | true =>
          refine iteF ?_
          have hN : isNum u = true := by rw [eN, ea, decide_eq_true d', decide_eq_true e']; rfl
          cases ef : fig u with
          | nil => rw [ef] at d'; cases d'
          | cons c r =>
            refine ⟨_, rfl, .inl (.inr (.inr ⟨S (c :: r), 0, c, rfl, rfl, (by rw [← ef]; exact hzf), (by rw [S_list]; exact at_head c r), rfl, _, rfl, ?_⟩))⟩
            rw [eq_sign0]
            have qs := q _ s1
            have yes : ¬ (c = 48 ∧ u ≠ [48]) → tRet (tCB (fun xs H Q => ∃ a n, xs = [V.str a] ∧ PySem.intText? a = some n ∧ a.length ≤ 640 ∧ Q (.int n) H) (tCons (tVar 0) tNil)) { nx := fun _ H' => Q .non H', rt := Q } [some (.str (S u)), some (.str (S (c :: r)))] H1 := fun h => by
              rw [lnum_yes hN ef h] at qs
              exact ⟨_, rfl, _, _, rfl, int_num hN, (by rw [S_len]; have := num_len hN; omega), qs⟩
            refine ite2 (fun z => ?_) (fun z => ?_)
            · have z' : c = 48 := of_decide_eq_true z
              refine ⟨_, rfl, rfl, _, rfl, ?_⟩
              rw [eqS, lit_0]
              by_cases y : u = [48]
              · rw [y, decide_eq_true rfl]
                rw [y] at yes
                exact iteF (yes fun h => h.2 rfl)
              · rw [decide_eq_false (fun h => y (S_inj h))]
                refine iteT ?_
                subst z'
                rw [lnum_nought ef y] at qs
                exact qs
            · have z' : ¬ c = 48 := of_decide_eq_false (Bool.eq_false_iff.mpr z)
              exact yes fun h => z' h.1
  · have d' : ¬ 0 < (fig u).length := by have := of_decide_eq_false (Bool.eq_false_iff.mpr d); omega
    refine ⟨_, rfl, ?_⟩
    refine iteT (iteT ?_)
    exact no (by rw [eN, decide_eq_false d', Bool.false_and, Bool.false_and]) _ (Same.refl _)

abbrev s_law_in : Stmt := top 22
theorem sc_law_in : FnScope ["_law_text", "_law_words", "_law_above", "_law_below"] ["_law_text"] (defScope s_law_in) := ⟨rfl, rfl, rfl, by decide +kernel, rfl, by decide +kernel, by decide +kernel⟩
theorem ok_law_in (G : Glo mg) (F : Fun K "_law_in" "_law_in" s_law_in f fd) (c_law_number : Callee P w K mg base k "_law_number" ["_law_word"] spLNumber) (c_law_common : Callee P w K mg base k "_law_common" ["_law_one", "_law_other"] spGcd) : FnOk P w K mg base CX0 (k + 1) f fd ["_law_text"] spTold := by
  refine F.ok sc_law_in (fun vs H Q E h => ?_) (fun cdv A outer s H vs Q E hr h => ?_)
  · obtain ⟨u, rfl, _⟩ := h; rfl
  obtain ⟨u, rfl, hl, q, qn⟩ := h
  have nd := sc_law_in.nd
  have hu := hr.units
  refine ⟨_, (pss_cons (ps_set (i := 1) nd rfl (Or.inl rfl) (pe_bm PySem.F.plainAttrs_str PySem.F.slot_str_split PySem.F.type_str_split mt_split (pv 0) (pa_cons pe_str pa_nil)))
      (pss_cons (ps_if (pt_cmpR op_ne (pe_callB (call_lenK (K := K) rfl) rfl G.n_len bt_len (pa_cons (pv 1) pa_nil)) pe_int (nomark _)) (pss_one (ps_ret pe_non)) pss_nil)
      (pss_cons (ps_par (i := 2) (j := 3) rfl nd rfl rfl (by decide) rfl rfl (pa_cons (pe_calls c_law_number hr rfl (pa_cons (pe_ix (ix_anyK (K := K) (Pm := w.params) rfl rfl) (pv 1) pe_int (fun _ _ => rfl)) pa_nil)) (pa_cons (pe_calls c_law_number hr rfl (pa_cons (pe_ix (ix_anyK (K := K) (Pm := w.params) rfl rfl) (pv 1) pe_int (fun _ _ => rfl)) pa_nil)) pa_nil)) rfl)
      (pss_cons (ps_if (PW.pt (pw_or (pt_cmpR op_isN (pv 2) pe_non (nomark _)) (pw_or (pt_cmpR op_isN (pv 3) pe_non (nomark _)) (pw_or (pt_cmpR op_lt (pv 3) pe_int (nomark _)) (pw_or1 (PW.pt (pw_and (pt_cmpR op_eq (pv 3) pe_int (nomark _)) (pw_and1 (pt_cmpR op_ne (pv 2) pe_int (nomark _)))))))))) (pss_one (ps_ret pe_non)) pss_nil)
      (pss_cons (ps_if (PW.pt (pw_and (pt_cmpR op_gt (pv 3) pe_int (nomark _)) (pw_and1 (pt_cmpR op_ne (pe_calls c_law_common hr rfl (pa_cons (pe_callB call_abs rfl G.n_abs bt_abs (pa_cons (pv 2) pa_nil)) (pa_cons (pv 3) pa_nil))) pe_int (nomark _))))) (pss_one (ps_ret pe_non)) pss_nil)
      (pss_one (ps_ret (pe_tup (pa_cons (pv 2) (pa_cons (pv 3) pa_nil)))))))))), ?_⟩
  refine ⟨_, rfl, rfl, _, _, rfl, rfl, by decide +kernel, (by rw [S_len]; omega), fun t ht => ?_⟩
  have s1 := same_new ht (.lst ((Txt.split (S u) "/").map V.str))
  have eT : upd H t (.lst ((Txt.split (S u) "/").map V.str)) t = some (.lst ((Txt.split (S u) "/").map V.str)) := upd_same
  generalize upd H t (.lst ((Txt.split (S u) "/").map V.str)) = H1 at s1 eT
  have eT2 : H1 t = some (.lst ((Txt.split (S u) (S [47])).map V.str)) := by rw [← lit_sl]; exact eT
  refine ⟨_, rfl, .ref t, (Txt.split (S u) (S [47])).length, rfl, .inl ⟨_, SqL.of eT2, by rw [List.length_map]⟩, rfl, _, rfl, ?_⟩
  rw [eqI]
  by_cases hn : (Txt.split (S u) (S [47])).length = 2
  · obtain ⟨x, y, e⟩ := len2 hn
    obtain ⟨eu, hx, hy⟩ := split_two e
    rw [e, S_of x, S_of y] at eT2
    generalize x.cps.toList = p at eu hx eT2
    generalize y.cps.toList = r at eu hy eT2
    subst eu
    have eT3 : H1 t = some (.lst [.str (S p), .str (S r)]) := eT2
    rw [hn, decide_eq_true (show ((2 : Nat) : Int) = 2 from rfl)]
    refine iteF ?_
    have lp : p.length ≤ 100000 ∧ r.length ≤ 100000 := by
      simp only [List.length_append, List.length_singleton] at hl
      omega
    refine ⟨_, rfl, .inl (.inl ⟨t, _, 0, .str (S p), rfl, rfl, SqL.of eT3, rfl, p, rfl, lp.1, fun H2 s2 => ?_⟩)⟩
    refine ⟨_, rfl, .inl (.inl ⟨t, _, 1, .str (S r), rfl, rfl, SqL.of (s2 _ _ eT3), rfl, r, rfl, lp.2, fun H3 s3 => ?_⟩)⟩
    refine ⟨_, _, rfl, ?_⟩
    have sH := s1.trans (s2.trans s3)
    refine ⟨_, rfl, rfl, _, rfl, ?_⟩
    cases e1 : lnum p with
    | none =>
      refine iteT (iteT ?_)
      refine qn (fun g z => ?_) _ sH
      rw [(told_parts hx z).1, lnum_numT z.1.2.1] at e1
      cases e1
    | some n =>
      refine iteF ?_
      refine ⟨_, rfl, rfl, _, rfl, ?_⟩
      cases e2 : lnum r with
      | none =>
        refine iteT (iteT ?_)
        refine qn (fun g z => ?_) _ sH
        rw [(told_parts hx z).2, lnum_numT z.1.2.2] at e2
        cases e2
      | some m =>
        refine iteF ?_
        obtain ⟨en, ln⟩ := lnum_some e1
        obtain ⟨em, lm⟩ := lnum_some e2
        have one : ∀ g, Told (p ++ [47] ++ r) g → g = (n, m) := fun g z => by
          obtain ⟨a, b⟩ := told_parts hx z
          have a' := congrArg nval (en.symm.trans a)
          have b' := congrArg nval (em.symm.trans b)
          rw [nval_numT, nval_numT] at a' b'
          exact Prod.ext a'.symm b'.symm
        have no : ¬ IsF (n, m) → Q .non H3 := fun hF => qn (fun g z => by
          have := one g z
          subst this
          exact hF z.1.1) _ sH
        have yes : IsF (n, m) → ∀ t', H3 t' = none → Q (.ref t') (upd H3 t' (.tup [.int n, .int m])) := fun hF t' ht' => q (n, m) t' _ ⟨⟨hF, ln, lm⟩, by rw [en, em]; rfl⟩ (sH.trans (same_new ht' _)) upd_same
        refine ⟨_, rfl, _, _, rfl, rfl, _, rfl, ?_⟩
        refine ite2 (fun c => ?_) (fun c => ?_)
        · have c' : m < 0 := of_decide_eq_true c
          refine iteT ?_
          exact no fun z => by have := F_below z; have : 0 ≤ m := this; omega
        have c' : ¬ m < 0 := of_decide_eq_false (Bool.eq_false_iff.mpr c)
        have hmul : (¬ (m = 0 ∧ n ≠ 1)) → (tIfS (tAnd (tTest (tOp (rI0 fun i j => .bl (decide (j < i))) (tVar 3) (tC (.int 0)))) (tTest (tOp rNe (tCall spGcd [] E0 (tCons (tCB (fun xs H Q => ∃ i, xs = [.int i] ∧ Q (.int (if i < 0 then -i else i)) H) (tCons (tVar 2) tNil)) (tCons (tVar 3) tNil))) (tC (.int 1))))) (tRet (tC .non)) tNext) { nx := fun σ H' => tRet (tTup (tCons (tVar 2) (tCons (tVar 3) tNil))) { nx := fun _ H' => Q .non H', rt := Q } σ H', rt := Q } [some (.str (S (p ++ [47] ++ r))), some (.ref t), some (.int n), some (.int m)] H3 := fun hz => by
          refine ⟨_, rfl, _, _, rfl, rfl, _, rfl, ?_⟩
          refine ite2 (fun d => ?_) (fun d => ?_)
          · have d' : 0 < m := of_decide_eq_true d
            refine ⟨_, rfl, _, rfl, _, rfl, _, _, rfl, abs_nonneg n, by omega, ⟨rfl, _, rfl, ?_⟩⟩
            rw [gcd_abs, eqI]
            by_cases e : ((Int.gcd n m : Nat) : Int) = 1
            · rw [decide_eq_true e]
              refine iteF ?_
              exact ⟨_, rfl, _, rfl, two_ok, fun t' ht' => yes (.inr ⟨d', by show Int.gcd n m = 1; omega⟩) t' ht'⟩
            · rw [decide_eq_false e]
              refine iteT ?_
              refine no fun z => ?_
              rcases z with ⟨z1, z2⟩ | ⟨z1, z2⟩
              · have z2' : m = 0 := z2
                omega
              · have z2' : Int.gcd n m = 1 := z2
                omega
          · have d' : ¬ 0 < m := of_decide_eq_false (Bool.eq_false_iff.mpr d)
            refine iteF ?_
            have m0 : m = 0 := by omega
            have n1 : n = 1 := Classical.byContradiction fun z => hz ⟨m0, z⟩
            exact ⟨_, rfl, _, rfl, two_ok, fun t' ht' => yes (.inl ⟨n1, m0⟩) t' ht'⟩
        refine ⟨_, rfl, rfl, _, rfl, ?_⟩
        dsimp only
        rw [eqN]
        by_cases m0 : m = 0
        · rw [decide_eq_true m0]
          refine iteT ?_
          refine ⟨_, rfl, rfl, _, rfl, ?_⟩
          dsimp only
          rw [eqN]
          by_cases n1 : n = 1
          · rw [decide_eq_true n1]
            refine iteF ?_
            exact hmul fun z => z.2 n1
          · rw [decide_eq_false n1]
            refine iteT ?_
            refine no fun z => ?_
            rcases z with ⟨z1, z2⟩ | ⟨z1, z2⟩
            · exact n1 z1
            · have z1' : 0 < m := z1
              omega
        · rw [decide_eq_false m0]
          refine iteF (iteF ?_)
          exact hmul fun z => m0 z.1
  · have hn' : ¬ (((Txt.split (S u) (S [47])).length : Nat) : Int) = 2 := by omega
    rw [decide_eq_false hn']
    refine iteT ?_
    refine qn (fun g z => ?_) _ s1
    refine hn ?_
    have e : u = numT g.1 ++ [47] ++ numT g.2 := z.2.symm
    rw [e, split_of (numT_noSl _) (numT_noSl _)]
    rfl

end
end K09

set_option Elab.async false
set_option linter.all false
set_option maxRecDepth 100000
set_option maxHeartbeats 4000000
namespace K09
open PySem L2 TW TX
seal L2.PE L2.PT L2.PA L2.PS L2.PSs L2.PI L2.PG L2.PGs L2.PW L2.PTs L2.PO
section
variable {P : Program} {w : World} {K : PySem.W.Frag} {mg : Str → Option Value} {base : Heap} {f : Addr} {fd : FuncData} {k : Nat}
abbrev s_law_refused : Stmt := top 23
theorem sc_law_refused : FnScope ["_law_text", "error", "_law_others"] ["_law_text"] (defScope s_law_refused) := ⟨rfl, rfl, rfl, by decide +kernel, rfl, by decide +kernel, by decide +kernel⟩
theorem ok_law_refused {C D cF cT cW cS : Addr} (G : Glo mg) (X : Exc K mg "BadText" C D) (gF : mg "BadFraction" = some (.ref cF)) (gT : mg "BadStep" = some (.ref cT)) (gW : mg "BadWord" = some (.ref cW)) (gS : mg "Same" = some (.ref cS))
    (kF : PySem.W.kitOne K (.ref C) (.ref cF) = some false) (kT : PySem.W.kitOne K (.ref C) (.ref cT) = some false) (kW : PySem.W.kitOne K (.ref C) (.ref cW) = some false) (kS : PySem.W.kitOne K (.ref C) (.ref cS) = some false)
    (F : Fun K "_law_refused" "_law_refused" s_law_refused f fd) (c_read : CalleeX P w K mg base k "read" ["text"] (spRead K C)) : FnOk P w K mg base CX0 (k + 1) f fd ["_law_text"] (spLRefused K) := by
  refine F.ok sc_law_refused (fun vs H Q E h => ?_) (fun cdv A outer s H vs Q E hr h => ?_)
  · rcases h with ⟨⟨u, rfl, _⟩ | ⟨x, t, rfl, _⟩, _⟩ <;> rfl
  obtain ⟨x, rfl⟩ : ∃ x, vs = [x] := by rcases h with ⟨⟨u, rfl, _⟩ | ⟨x, t, rfl, _⟩, _⟩ <;> exact ⟨_, rfl⟩
  obtain ⟨h, q⟩ := h
  have nd := sc_law_refused.nd
  refine ⟨_, (pss_cons (ps_tryc (j := 1) rfl rfl c_read hr rfl (fun _ => pa_cons (pv 0) pa_nil) rfl X.md nd rfl rfl (fun a =>
        (pss_cons (ps_set (i := 2) nd rfl (Or.inl rfl) (pe_lst (pa_cons (pe_callB (call_isxK (K := K) rfl) rfl G.n_isinstance bt_isinstance (pa_cons (pv 1) (pa_cons (pe_glob (v := .ref cF) rfl gF rfl) pa_nil))) (pa_cons (pe_callB (call_isxK (K := K) rfl) rfl G.n_isinstance bt_isinstance (pa_cons (pv 1) (pa_cons (pe_glob (v := .ref cT) rfl gT rfl) pa_nil))) (pa_cons (pe_callB (call_isxK (K := K) rfl) rfl G.n_isinstance bt_isinstance (pa_cons (pv 1) (pa_cons (pe_glob (v := .ref cW) rfl gW rfl) pa_nil))) pa_nil)))))
        (pss_one (ps_ret (pe_and (pe_callB (call_isxK (K := K) rfl) rfl G.n_isinstance bt_isinstance (pa_cons (pv 1) (pa_cons (pe_glob (v := .ref C) rfl X.m rfl) pa_nil))) (pe_and (pe_not (pe_callB (call_anyH (K := K) rfl) rfl G.n_any bt_any (pa_cons (pv 2) pa_nil))) (pe_one (pe_not (pe_callB (call_isxK (K := K) rfl) rfl G.n_isinstance bt_isinstance (pa_cons (pv 1) (pa_cons (pe_glob (v := .ref cS) rfl gS rfl) pa_nil))))))))))))
      (pss_one (ps_ret pe_bl))), ?_⟩
  refine ⟨_, rfl, ?_⟩
  unfold tNil
  refine read_no h (fun H2 s2 => ?_)
  refine ⟨X.hit, fun a ha => ?_⟩
  refine ⟨_, rfl, a, C, cF, false, rfl, upd_same, X.xc, kF, ?_⟩
  refine ⟨_, rfl, a, C, cT, false, rfl, upd_same, X.xc, kT, ?_⟩
  refine ⟨_, rfl, a, C, cW, false, rfl, upd_same, X.xc, kW, ?_⟩
  refine ⟨three_ok, fun t ht => ?_⟩
  have hE : upd (upd H2 a (excO a (.ref C))) t (.lst [.bl false, .bl false, .bl false]) a = some (excO a (.ref C)) := same_new ht _ _ _ upd_same
  refine ⟨_, rfl, a, C, C, true, rfl, hE, X.xc, X.own, _, rfl, ?_⟩
  refine iteT ?_
  refine ⟨_, rfl, t, [false, false, false], _, rfl, SqL.of upd_same, hE, _, rfl, _, rfl, ?_⟩
  refine iteT ?_
  exact ⟨_, rfl, a, C, cS, false, rfl, hE, X.xc, kS, _, rfl, q _ (s2.trans ((same_new ha _).trans (same_new ht _)))⟩

abbrev s_law_right : Stmt := top 24
theorem sc_law_right : FnScope ["_law_text", "_law_due", "_law_found"] ["_law_text"] (defScope s_law_right) := ⟨rfl, rfl, rfl, by decide +kernel, rfl, by decide +kernel, by decide +kernel⟩
theorem ok_law_right {CT CF : Addr} (G : Glo mg) (F : Fun K "_law_right" "_law_right" s_law_right f fd) (c_law_in : Callee P w K mg base k "_law_in" ["_law_text"] spTold) (c_law_refused : Callee P w K mg base k "_law_refused" ["_law_text"] (spLRefused K)) (c_read : CalleeX P w K mg base k "read" ["text"] (spRead K CT)) (c_written : CalleeX P w K mg base k "written" ["fraction"] (spWritten CF)) : FnOk P w K mg base CX0 (k + 1) f fd ["_law_text"] spLRight := by
  refine F.ok sc_law_right (fun vs H Q E h => ?_) (fun cdv A outer s H vs Q E hr h => ?_)
  · obtain ⟨u, rfl, _⟩ := h; rfl
  obtain ⟨u, rfl, hl, q⟩ := h
  have nd := sc_law_right.nd
  have hu := hr.units
  refine ⟨_, (pss_cons (ps_set (i := 1) nd rfl (Or.inl rfl) (pe_calls c_law_in hr rfl (pa_cons (pv 0) pa_nil)))
      (pss_cons (ps_if (pt_cmpR op_isN (pv 1) pe_non (nomark _)) (pss_one (ps_ret (pe_calls c_law_refused hr rfl (pa_cons (pv 0) pa_nil)))) pss_nil)
      (pss_cons (ps_set (i := 2) nd rfl (Or.inl rfl) (pe_callX0 c_read hr rfl (pa_cons (pv 0) pa_nil)))
      (pss_one (ps_ret (pe_and (pe_callB (call_isiK (K := K) rfl) rfl G.n_isinstance bt_isinstance (pa_cons (pv 2) (pa_cons (pe_bltn (v := .ty "tuple") rfl G.n_tuple bt_tuple rfl) pa_nil))) (pe_and (pe_cmpR (op_eqDK (K := K) hu rfl) (pv 2) (pv 1) (nomark _)) (pe_one (pe_cmpR op_eq (pe_callX0 c_written hr rfl (pa_cons (pv 2) pa_nil)) (pv 0) (nomark _)))))))))), ?_⟩
  refine ⟨_, rfl, u, rfl, hl, fun g p H1 hg s1 hp => ?_, fun hn H1 s1 => ?_⟩
  · refine ⟨_, rfl, rfl, _, rfl, ?_⟩
    refine iteF ?_
    refine ⟨_, rfl, .inl ⟨u, rfl, hl, fun g' p' H2 hg' s2 hp' => ?_, fun hn => absurd hg (hn g)⟩⟩
    have e : g' = g := told_one hg' hg
    subst e
    have hp2 : H2 p' = some (.tup [.int g'.1, .int g'.2]) := hp'
    refine ⟨_, rfl, _, _, _, _, rfl, .tup hp2, kit_same "tuple", _, rfl, ?_⟩
    refine iteT ?_
    refine ⟨_, rfl, _, rfl, fD g', fD g', fD_rd hp', fD_rd (s2 _ _ hp), fD_depth _, _, rfl, ?_⟩
    show if PyData.eqv (fD g') (fD g') = true then _ else _
    rw [fD_eqv, decide_eq_true rfl]
    refine iteT ?_
    refine ⟨_, rfl, p', _, _, rfl, hp2, fun _ H3 s3 => ?_, fun z => absurd hg.1 z⟩
    refine ⟨_, rfl, rfl, ?_⟩
    rw [eqS]
    have e : txt (g'.1, g'.2) = u := hg.2
    rw [e, decide_eq_true rfl]
    exact q _ (s1.trans (s2.trans s3))
  · refine ⟨_, rfl, rfl, _, rfl, ?_⟩
    refine iteT ?_
    exact ⟨_, rfl, .inl ⟨u, rfl, hl, hn⟩, fun H2 s2 => q _ (s1.trans s2)⟩

abbrev s_law_unwritten : Stmt := top 25
theorem sc_law_unwritten : FnScope ["_law_fraction", "error"] ["_law_fraction"] (defScope s_law_unwritten) := ⟨rfl, rfl, rfl, by decide +kernel, rfl, by decide +kernel, by decide +kernel⟩
theorem ok_law_unwritten {C D cT : Addr} (G : Glo mg) (X : Exc K mg "BadFraction" C D) (gT : mg "BadText" = some (.ref cT)) (kT : PySem.W.kitOne K (.ref C) (.ref cT) = some false)
    (F : Fun K "_law_unwritten" "_law_unwritten" s_law_unwritten f fd) (c_written : CalleeX P w K mg base k "written" ["fraction"] (spWritten C)) : FnOk P w K mg base CX0 (k + 1) f fd ["_law_fraction"] spUnwr := by
  refine F.ok sc_law_unwritten (fun vs H Q E h => ?_) (fun cdv A outer s H vs Q E hr h => ?_)
  · obtain ⟨p, a, b, rfl, _⟩ := h; rfl
  obtain ⟨p, n, m, rfl, hp, hW, q⟩ := h
  have nd := sc_law_unwritten.nd
  refine ⟨_, (pss_cons (ps_tryc (j := 1) rfl rfl c_written hr rfl (fun _ => pa_cons (pv 0) pa_nil) rfl X.md nd rfl rfl (fun a =>
        (pss_one (ps_ret (pe_and (pe_callB (call_isxK (K := K) rfl) rfl G.n_isinstance bt_isinstance (pa_cons (pv 1) (pa_cons (pe_glob (v := .ref C) rfl X.m rfl) pa_nil))) (pe_one (pe_not (pe_callB (call_isxK (K := K) rfl) rfl G.n_isinstance bt_isinstance (pa_cons (pv 1) (pa_cons (pe_glob (v := .ref cT) rfl gT rfl) pa_nil))))))))))
      (pss_one (ps_ret pe_bl))), ?_⟩
  refine ⟨_, rfl, p, n, m, rfl, hp, fun z => absurd z hW, fun _ H2 s2 => ⟨X.hit, fun a ha => ?_⟩⟩
  refine ⟨_, rfl, a, C, C, true, rfl, upd_same, X.xc, X.own, _, rfl, ?_⟩
  refine iteT ?_
  exact ⟨_, rfl, a, C, cT, false, rfl, upd_same, X.xc, kT, _, rfl, q _ (s2.trans (same_new ha _))⟩

abbrev s_law_few : Stmt := top 26
theorem sc_law_few : FnScope ["_law_some"] [] (defScope s_law_few) := ⟨rfl, rfl, rfl, by decide +kernel, rfl, by decide +kernel, by decide +kernel⟩
theorem ok_law_few (F : Fun K "_law_few" "_law_few" s_law_few f fd) : FnOk P w K mg base CX0 (k + 1) f fd [] spFew := by
  refine F.ok sc_law_few (fun vs H Q E h => ?_) (fun cdv A outer s H vs Q E hr h => ?_)
  · obtain ⟨rfl, _⟩ := h; rfl
  obtain ⟨rfl, q⟩ := h
  have nd := sc_law_few.nd
  refine ⟨_, (pss_cons (ps_set (i := 0) nd rfl (Or.inl rfl) (pe_lst (pa_cons pe_str (pa_cons pe_str (pa_cons pe_str (pa_cons pe_str (pa_cons pe_str (pa_cons pe_str (pa_cons pe_str (pa_cons pe_str (pa_cons pe_str (pa_cons pe_str (pa_cons pe_str (pa_cons pe_str (pa_cons pe_str (pa_cons pe_str pa_nil))))))))))))))))
      (pss_cons (ps_set (i := 0) nd rfl (Or.inl rfl) (pe_op op_cat (pv 0) (pe_lst (pa_cons pe_str (pa_cons pe_str (pa_cons pe_str (pa_cons pe_str (pa_cons pe_str (pa_cons pe_str (pa_cons pe_str (pa_cons pe_str (pa_cons pe_str (pa_cons pe_str (pa_cons pe_str (pa_cons pe_str pa_nil)))))))))))))))
      (pss_cons (ps_set (i := 0) nd rfl (Or.inl rfl) (pe_op op_cat (pv 0) (pe_lst (pa_cons pe_str (pa_cons pe_str (pa_cons pe_str (pa_cons pe_str pa_nil)))))))
      (pss_one (ps_ret (pe_op op_cat (pv 0) (pe_lst (pa_cons (pe_op op_plus (pe_op op_mulS1 pe_str pe_int) pe_str) (pa_cons (pe_op op_plus (pe_op op_mulS1 pe_str pe_int) pe_str) (pa_cons (pe_op op_plus pe_str (pe_op op_mulS1 pe_str pe_int)) (pa_cons (pe_op op_plus pe_str (pe_op op_mulS1 pe_str pe_int)) (pa_cons (pe_op op_plus pe_str (pe_op op_mulS1 pe_str pe_int)) pa_nil)))))))))))), ?_⟩
  refine ⟨small (show 14 ≤ 1000 by decide), fun l1 h1 => ?_⟩
  refine ⟨_, rfl, small (show 12 ≤ 1000 by decide), fun l2 h2 => ⟨l1, l2, _, _, rfl, rfl, same_new h2 _ _ _ upd_same, upd_same, small (show 26 ≤ 1000 by decide), fun l3 h3 => ?_⟩⟩
  refine ⟨_, rfl, small (show 4 ≤ 1000 by decide), fun l4 h4 => ⟨l3, l4, _, _, rfl, rfl, same_new h4 _ _ _ upd_same, upd_same, small (show 30 ≤ 1000 by decide), fun l5 h5 => ?_⟩⟩
  refine ⟨_, rfl, _, _, rfl, rfl, by decide, by decide, by decide, ?_⟩
  rw [times_one _ 57 nine_list]
  refine .inr ⟨_, _, rfl, rfl, rep_fits (by decide) (by decide), ?_⟩
  refine ⟨_, _, rfl, rfl, by decide, by decide, by decide, ?_⟩
  rw [times_one _ 57 nine_list]
  refine .inr ⟨_, _, rfl, rfl, rep_fits (by decide) (by decide), ?_⟩
  refine ⟨_, _, rfl, rfl, by decide, by decide, by decide, ?_⟩
  rw [times_one _ 57 nine_list]
  refine .inr ⟨_, _, rfl, rfl, rep_fits2 (by decide) (by decide), ?_⟩
  refine ⟨_, _, rfl, rfl, by decide, by decide, by decide, ?_⟩
  rw [times_one _ 57 nine_list]
  refine .inr ⟨_, _, rfl, rfl, rep_fits2 (by decide) (by decide), ?_⟩
  refine ⟨_, _, rfl, rfl, by decide, by decide, by decide, ?_⟩
  rw [times_one _ 56 eight_list]
  refine .inr ⟨_, _, rfl, rfl, rep_fits2 (by decide) (by decide), ?_⟩
  refine ⟨small (show 5 ≤ 1000 by decide), fun l6 h6 => ⟨l5, l6, _, _, rfl, rfl, same_new h6 _ _ _ upd_same, upd_same, small (show 35 ≤ 1000 by decide), fun l7 h7 => ?_⟩⟩
  refine q l7 _ _ ((same_new h1 _).trans ((same_new h2 _).trans ((same_new h3 _).trans ((same_new h4 _).trans ((same_new h5 _).trans ((same_new h6 _).trans (same_new h7 _))))))) upd_same (show 35 ≤ 100 by decide) (fun x hx => ?_)
  rcases List.mem_append.mp hx with hx | hx
  · rcases List.mem_append.mp hx with hx | hx
    · rcases List.mem_append.mp hx with hx | hx
      · exact txtV_all (by decide +kernel) x hx
      · exact txtV_all (by decide +kernel) x hx
    · exact txtV_all (by decide +kernel) x hx
  · rcases List.mem_cons.mp hx with rfl | hx
    · exact rep_txt (by decide) (by decide)
    rcases List.mem_cons.mp hx with rfl | hx
    · exact rep_txt (by decide) (by decide)
    rcases List.mem_cons.mp hx with rfl | hx
    · exact rep_txt2 (by decide) (by decide)
    rcases List.mem_cons.mp hx with rfl | hx
    · exact rep_txt2 (by decide) (by decide)
    rcases List.mem_cons.mp hx with rfl | hx
    · exact rep_txt2 (by decide) (by decide)
    cases hx

end
end K09

set_option Elab.async false
set_option linter.all false
set_option maxRecDepth 100000
set_option maxHeartbeats 4000000
namespace K09
open PySem L2 TW TX
seal L2.PE L2.PT L2.PA L2.PS L2.PSs L2.PI L2.PG L2.PGs L2.PW L2.PTs L2.PO
section
variable {P : Program} {w : World} {K : PySem.W.Frag} {mg : Str → Option Value} {base : Heap} {f : Addr} {fd : FuncData} {k : Nat}
abbrev s_law : Stmt := top 27
theorem sc_law : FnScope ["_law_script", "_law_one", "_law_other", "_law_cell", "_law_fraction", "_law_text", "_law_at", "_law_sign", "_law_bent", "_law_great"] ["_law_script"] (defScope s_law) := ⟨rfl, rfl, rfl, by decide +kernel, rfl, by decide +kernel, by decide +kernel⟩
theorem ok_law {CT CF : Addr} (G : Glo mg) (F : Fun K "law" "law" s_law f fd) (c_law_moved : Callee P w K mg base k "_law_moved" ["_law_letter", "_law_fraction"] spLMoved) (c_written : CalleeX P w K mg base k "written" ["fraction"] (spWritten CF)) (c_read : CalleeX P w K mg base k "read" ["text"] (spRead K CT))
    (c_law_right : Callee P w K mg base k "_law_right" ["_law_text"] spLRight) (c_law_unwritten : Callee P w K mg base k "_law_unwritten" ["_law_fraction"] spUnwr) (c_law_few : Callee P w K mg base k "_law_few" [] spFew) (c_law_refused : Callee P w K mg base k "_law_refused" ["_law_text"] (spLRefused K)) : FnOk P w K mg base CX0 (k + 1) f fd ["_law_script"] (spLaw K) := by
  refine F.ok sc_law (fun vs H Q E h => ?_) (fun cdv A outer s H vs Q E hr h => ?_)
  · obtain ⟨a, ns, rfl, _⟩ := h; rfl
  obtain ⟨a, ns, rfl, hS, h63, q⟩ := h
  have nd := sc_law.nd
  have hu := hr.units
  refine ⟨_, (pss_cons (ps_asg (pe_tup (pa_cons (pe_tup (pa_cons pe_int (pa_cons pe_int pa_nil))) (pa_cons (pe_tup (pa_cons pe_int (pa_cons pe_int pa_nil))) pa_nil))) (pg_tup rfl (pgs_cons (pg_name (i := 1) nd rfl (Or.inl rfl)) (pgs_cons (pg_name (i := 2) nd rfl (Or.inl rfl)) pgs_nil))))
      (pss_cons (ps_for PassesOwn.never rfl (pi_list (pv 0)) (pg_name (i := 3) nd rfl (Or.inl rfl)) (pss_cons (ps_par (i := 1) (j := 2) rfl nd rfl rfl (by decide) rfl rfl (pa_cons (pe_calls c_law_moved hr rfl (pa_cons (pe_ix (ix_anyK (K := K) (Pm := w.params) rfl rfl) pe_str (pe_op op_mod (pv 3) pe_int) (fun _ _ => rfl)) (pa_cons (pv 1) pa_nil))) (pa_cons (pe_calls c_law_moved hr rfl (pa_cons (pe_ix (ix_anyK (K := K) (Pm := w.params) rfl rfl) pe_str (pe_op op_mod (pe_op op_fdiv (pv 3) pe_int) pe_int) (fun _ _ => rfl)) (pa_cons (pv 2) pa_nil))) pa_nil)) rfl)
      (pss_one (ps_for PassesOwn.never rfl (pi_list (pe_lst (pa_cons (pv 1) (pa_cons (pv 2) pa_nil)))) (pg_name (i := 4) nd rfl (Or.inl rfl)) (pss_one (ps_if (pt_cmpR op_lt (pe_callB (call_max2 rfl) rfl G.n_max bt_max (pa_cons (pe_callB call_abs rfl G.n_abs bt_abs (pa_cons (pe_ix (ix_tupK (K := K) rfl) (pv 4) pe_int (fun _ _ => rfl)) pa_nil)) (pa_cons (pe_ix (ix_tupK (K := K) rfl) (pv 4) pe_int (fun _ _ => rfl)) pa_nil))) (pe_op op_pow pe_int pe_int) (nomark _)) (pss_cons (ps_set (i := 5) nd rfl (Or.inl rfl) (pe_op op_plus (pe_op op_plus (pe_callTy call_strI rfl G.n_str bt_str (pa_cons (pe_ix (ix_tupK (K := K) rfl) (pv 4) pe_int (fun _ _ => rfl)) pa_nil)) pe_str) (pe_callTy call_strI rfl G.n_str bt_str (pa_cons (pe_ix (ix_tupK (K := K) rfl) (pv 4) pe_int (fun _ _ => rfl)) pa_nil))))
      (pss_cons (ps_set (i := 6) nd rfl (Or.inl rfl) (pe_op op_mod (pe_op op_fdiv (pv 3) pe_int) (pe_op op_plus (pe_callB (call_lenK (K := K) rfl) rfl G.n_len bt_len (pa_cons (pv 5) pa_nil)) pe_int)))
      (pss_cons (ps_set (i := 7) nd rfl (Or.inl rfl) (pe_ix (ix_tupK (K := K) rfl) (pe_tup (pa_cons pe_str (pa_cons (pe_ix (ix_anyK (K := K) (Pm := w.params) rfl rfl) pe_str (pe_op op_mod (pe_op op_fdiv (pv 3) pe_int) pe_int) (fun _ _ => rfl)) pa_nil))) (pe_op op_mod (pe_op op_fdiv (pv 3) pe_int) pe_int) (fun _ _ => rfl)))
      (pss_cons (ps_set (i := 8) nd rfl (Or.inl rfl) (pe_op op_plus (pe_op op_plus (pe_slice sl_str (pv 5) po_none (po_some (pv 6))) (pv 7)) (pe_slice sl_str (pv 5) (po_some (pe_op op_plus (pv 6) (pe_op op_mod (pe_op op_fdiv (pv 3) pe_int) pe_int))) po_none)))
      (pss_one (ps_if (PW.pt (pw_or (pt_cmpR op_ne (pe_callX0 c_written hr rfl (pa_cons (pv 4) pa_nil)) (pv 5) (nomark _)) (pw_or (pt_cmpR (op_neDK (K := K) hu rfl) (pe_callX0 c_read hr rfl (pa_cons (pv 5) pa_nil)) (pv 4) (nomark _)) (pw_or1 (pt_not (pt_val (pe_calls c_law_right hr rfl (pa_cons (pv 8) pa_nil)))))))) (pss_one (ps_ret pe_bl)) pss_nil)))))) (pss_one (ps_if (pt_not (pt_val (pe_calls c_law_unwritten hr rfl (pa_cons (pv 4) pa_nil)))) (pss_one (ps_ret pe_bl)) pss_nil))))))))
      (pss_cons (ps_if (pt_not (pt_val (pe_callB (call_allK (K := K) rfl rfl) rfl G.n_all bt_all (pa_cons (pe_lc (ys := []) (js := []) rfl (LcS.to (os := defScope s_law) ⟨rfl, by decide +kernel, by decide +kernel, rfl, by decide +kernel, by decide +kernel, by decide +kernel⟩ rfl rfl) (pi_list (pe_calls0 c_law_few hr rfl)) (fun _ _ _ _ => pts_none) (fun _ _ _ _ => (pe_calls c_law_right hr rfl (pa_cons (pv 0) pa_nil)))) pa_nil)))) (pss_one (ps_ret pe_bl)) pss_nil)
      (pss_cons (ps_set (i := 9) nd rfl (Or.inl rfl) (pe_op op_pow pe_int pe_int))
      (pss_cons (ps_if (PW.pt (pw_or (pt_not (pt_val (pe_calls c_law_unwritten hr rfl (pa_cons (pe_tup (pa_cons (pv 9) (pa_cons pe_int pa_nil))) pa_nil)))) (pw_or (pt_not (pt_val (pe_calls c_law_unwritten hr rfl (pa_cons (pe_tup (pa_cons (pe_op op_sub pe_int (pe_op op_mul pe_int (pv 9))) (pa_cons pe_int pa_nil))) pa_nil)))) (pw_or1 (pt_not (pt_val (pe_calls c_law_unwritten hr rfl (pa_cons (pe_tup (pa_cons pe_int (pa_cons (pv 9) pa_nil))) pa_nil)))))))) (pss_one (ps_ret pe_bl)) pss_nil)
      (pss_one (ps_ret (pe_callB (call_allK (K := K) rfl rfl) rfl G.n_all bt_all (pa_cons (pe_lc (ys := []) (js := []) rfl (LcS.to (os := defScope s_law) ⟨rfl, by decide +kernel, by decide +kernel, rfl, by decide +kernel, by decide +kernel, by decide +kernel⟩ rfl rfl) (pi_list (pe_lst (pa_cons pe_non (pa_cons pe_int (pa_cons (pe_lst (pa_cons pe_str pa_nil)) (pa_cons pe_bl pa_nil)))))) (fun _ _ _ _ => pts_none) (fun _ _ _ _ => (pe_calls c_law_refused hr rfl (pa_cons (pv 0) pa_nil)))) pa_nil))))))))), ?_⟩
  refine ⟨two_ok, fun x1 g1 => ⟨two_ok, fun x2 g2 => ⟨two_ok, fun x3 g3 => ⟨x3, _, rfl, SqT.of upd_same, rfl, _, _, rfl, _, _, rfl, rfl, ?_⟩⟩⟩⟩
  have sA := same_new g1 (fT (0, 1))
  have sB := same_new g2 (fT (1, 0))
  have sC := same_new g3 (.tup [.ref x1, .ref x2])
  have s0 := sA.trans (sB.trans sC)
  have d1 := sC _ _ (sB _ _ (@upd_same H x1 (fT (0, 1))))
  have d2 := sC _ _ (@upd_same (upd H x1 (fT (0, 1))) x2 (fT (1, 0)))
  refine ⟨_, rfl, a, rfl, ⟨_, s0.seq hS⟩, ?_⟩
  refine for_on (ItOn.list (xs := ns.map V.int)) (fun i σ' H' => Same H H' ∧ ∃ y1 y2 f1 f2 c3 c4 c5 c6 c7 c8 c9, σ' = [some (.ref a), some (.ref y1), some (.ref y2), c3, c4, c5, c6, c7, c8, c9] ∧ H' y1 = some (fT f1) ∧ H' y2 = some (fT f2) ∧ IsF f1 ∧ IsF f2) ⟨s0, x1, x2, (0, 1), (1, 0), _, _, _, _, _, _, _, rfl, d1, d2, F_nought, F_end⟩ (fun i σ' H' _ h => h.1.seq hS) ?_ ?_
  · clear d1 d2 sA sB sC s0 g1 g2 g3
    rintro i x σ' H1 hx ⟨hs, y1, y2, f1, f2, c3, c4, c5, c6, c7, c8, c9, rfl, h1, h2, hF1, hF2⟩
    rw [List.getElem?_map] at hx
    cases e : ns[i]? with
    | none => rw [e] at hx; cases hx
    | some n =>
      rw [e] at hx
      cases hx
      have e0 : n / 1 % 3 = n % 3 := by rw [Int.ediv_one]
      refine ⟨_, rfl, _, _, rfl, rfl, by show (0 : Int) < 3; decide, .inl (.inr (.inr ⟨_, _, _, rfl, rfl, by decide, e0 ▸ tur_at n 1, ?_⟩))⟩
      refine ⟨_, rfl, _, _, _, rfl, h1, fun z1 H2 s2 hz1 => ?_⟩
      refine ⟨_, rfl, _, _, rfl, rfl, ⟨by decide, by decide⟩, _, _, rfl, rfl, by show (0 : Int) < 3; decide, .inl (.inr (.inr ⟨_, _, _, rfl, rfl, by decide, tur_at n 3, ?_⟩))⟩
      refine ⟨_, rfl, _, _, _, rfl, s2 _ _ h2, fun z2 H3 s3 hz2 => ?_⟩
      refine ⟨_, _, rfl, ?_⟩
      have hz1' := s3 _ _ hz1
      have G1 : IsF (mv (letr (n % 3)) f1) := mv_F hF1
      have G2 : IsF (mv (letr (n / 3 % 3)) f2) := mv_F hF2
      have sH3 := hs.trans (s2.trans s3)
      generalize mv (letr (n % 3)) f1 = e1 at hz1' G1
      generalize mv (letr (n / 3 % 3)) f2 = e2 at hz2 G2
      refine ⟨_, rfl, _, rfl, two_ok, fun l hl => ⟨l, rfl, ⟨_, SqL.of upd_same⟩, ?_⟩⟩
      have s4 := same_new hl (.lst [.ref z1, .ref z2])
      have eL := @upd_same H3 l (.lst [.ref z1, .ref z2])
      generalize upd H3 l (.lst [.ref z1, .ref z2]) = H4 at s4 eL
      refine for_on (ItOn.list (xs := [.ref z1, .ref z2])) (fun i σ' H' => Same H4 H' ∧ ∃ c4 c5 c6 c7 c8, σ' = [some (.ref a), some (.ref z1), some (.ref z2), some (.int n), c4, c5, c6, c7, c8, c9]) ⟨Same.refl _, _, _, _, _, _, rfl⟩ (fun i σ' H' _ h => SqL.of (h.1 _ _ eL)) ?_ ?_
      · rintro j x σ' H5 hx ⟨s5, d4, d5, d6, d7, d8, rfl⟩
        have hg : ∃ p g, x = .ref p ∧ H5 p = some (fT g) ∧ IsF g := by
          have hm := List.mem_of_getElem? hx
          rcases List.mem_cons.mp hm with h | h
          · exact ⟨z1, _, h, s5 _ _ (s4 _ _ hz1'), G1⟩
          · rcases List.mem_cons.mp h with h | h
            · exact ⟨z2, _, h, s5 _ _ (s4 _ _ hz2), G2⟩
            · cases h
        obtain ⟨p, g, rfl, hp, hF⟩ := hg
        have hp' : H5 p = some (.tup [.int g.1, .int g.2]) := hp
        clear hx hz1' hz2 G1 G2 hz1 h1 h2
        refine ⟨_, rfl, ⟨p, _, 0, .int g.1, rfl, rfl, SqT.of hp', rfl, _, rfl, ?_⟩⟩
        refine ⟨_, rfl, ⟨p, _, 1, .int g.2, rfl, rfl, SqT.of hp', rfl, _, _, rfl, ?_⟩⟩
        refine ⟨_, _, rfl, rfl, ⟨by decide, by decide, by decide⟩, _, _, rfl, rfl, _, rfl, ?_⟩
        refine ite2 (fun c => ?_) (fun c => ?_)
        · have hW : Wr g := max_Wr hF (of_decide_eq_true c)
          clear c
          have lt := txt_len hW
          refine ⟨_, rfl, ⟨p, _, 0, .int g.1, rfl, rfl, SqT.of hp', rfl, _, rfl, wr_log hW.2.1, ?_⟩⟩
          rw [str_num]
          refine .inr ⟨_, _, rfl, rfl, fits_sl hW.2.1, ?_⟩
          refine ⟨_, rfl, ⟨p, _, 1, .int g.2, rfl, rfl, SqT.of hp', rfl, _, rfl, wr_log hW.2.2, ?_⟩⟩
          rw [str_num]
          refine .inr ⟨_, _, rfl, rfl, fits_txt hW, ?_⟩
          rw [txt_S g]
          refine ⟨_, rfl, _, _, rfl, rfl, ⟨by decide, by decide⟩, _, rfl, .str (S (txt g)), (txt g).length, rfl, len_St (by omega), .inl ⟨_, _, rfl, rfl, _, _, rfl, rfl, (by show (0 : Int) < ((txt g).length : Int) + 1; omega), ?_⟩⟩
          obtain ⟨cs, _, hat⟩ := at_some ("0123456789-/ +\n" : Str).cps.toList (mod_in (n / 99) (show (0 : Int) < 15 by decide)).1 (by rw [show (("0123456789-/ +\n" : Str).cps.toList.length : Int) = 15 by decide +kernel]; exact (mod_in (n / 99) (show (0 : Int) < 15 by decide)).2)
          obtain ⟨vs, hvs, hat2⟩ := at_some [V.str "", V.str ⟨#[cs]⟩] (mod_in (n / 7) (show (0 : Int) < 2 by decide)).1 (mod_in (n / 7) (show (0 : Int) < 2 by decide)).2
          have hsg : ∃ u : List Nat, vs = .str (S u) ∧ u.length ≤ 1 := by
            rcases List.mem_cons.mp hvs with h | h
            · exact ⟨[], by rw [h, lit_no], by decide⟩
            · exact ⟨[cs], List.mem_singleton.mp h, Nat.le_refl 1⟩
          obtain ⟨sg, rfl, hlg⟩ := hsg
          refine ⟨_, rfl, _, _, rfl, rfl, ⟨by decide, by decide⟩, _, _, rfl, rfl, by show (0 : Int) < 15; decide, .inl (.inr (.inr ⟨_, _, cs, rfl, rfl, by decide, hat, two_ok, fun t ht => ?_⟩))⟩
          refine ⟨_, rfl, _, _, rfl, rfl, ⟨by decide, by decide⟩, _, _, rfl, rfl, by show (0 : Int) < 2; decide, ⟨t, _, _, _, rfl, rfl, SqT.of upd_same, hat2, ?_⟩⟩
          have s6 := same_new ht (.tup [.str "", .str ⟨#[cs]⟩])
          generalize upd H5 t (.tup [.str "", .str ⟨#[cs]⟩]) = H6 at s6
          have hz : (S (txt g)).length ≤ sizeLine := by rw [S_len]; exact big (by omega)
          have lS : (S (txt g)).length ≤ 123 := by rw [S_len]; exact lt
          have lG : (S sg).length ≤ 1 := by rw [S_len]; exact hlg
          have l1 := Txt.slice_le (S (txt g)) none (some (n / 9 % (((txt g).length : Int) + 1)))
          refine ⟨_, rfl, _, rfl, _, rfl, _, rfl, hz, ?_⟩
          refine ⟨_, rfl, .inr ⟨_, _, rfl, rfl, big (by omega), ?_⟩⟩
          refine ⟨_, rfl, _, rfl, _, rfl, _, _, rfl, rfl, ⟨by decide, by decide⟩, _, _, rfl, rfl, by show (0 : Int) < 2; decide, .inl ⟨_, _, rfl, rfl, _, rfl, ?_⟩⟩
          have l2 := Txt.slice_le (S (txt g)) (some (n / 9 % (((txt g).length : Int) + 1) + n / 63 % 2)) none
          refine ⟨_, rfl, hz, .inr ⟨_, _, rfl, rfl, ?_, ?_⟩⟩
          · rw [Str.length_append]; exact big (by omega)
          have lB : (Txt.slice (S (txt g)) none (some (n / 9 % (((txt g).length : Int) + 1))) ++ S sg ++ Txt.slice (S (txt g)) (some (n / 9 % (((txt g).length : Int) + 1) + n / 63 % 2)) none).length ≤ 1000 := by
            rw [Str.length_append, Str.length_append]
            omega
          generalize Txt.slice (S (txt g)) none (some (n / 9 % (((txt g).length : Int) + 1))) ++ S sg ++ Txt.slice (S (txt g)) (some (n / 9 % (((txt g).length : Int) + 1) + n / 63 % 2)) none = bs at lB
          obtain ⟨bl, rfl⟩ : ∃ bl, bs = S bl := ⟨_, S_of bs⟩
          rw [S_len] at lB
          have hp6 := s6 _ _ hp'
          refine ⟨_, rfl, p, _, _, rfl, hp6, fun _ H7 s7 => ?_, fun z => absurd hW z⟩
          refine ⟨_, rfl, rfl, _, rfl, neS_same rfl ?_⟩
          refine ⟨_, rfl, .inl ⟨txt g, rfl, by omega, fun g' p' H8 hg' s8 hp8 => ?_, fun z => absurd ⟨hW, rfl⟩ (z g)⟩⟩
          have eg : g' = g := told_one hg' ⟨hW, rfl⟩
          refine ⟨_, rfl, fD g', fD g, fD_rd hp8, fD_rd (s8 _ _ (s7 _ _ (s6 _ _ hp))), fD_depth _, _, rfl, neD_same eg ?_⟩
          refine ⟨_, rfl, bl, rfl, by omega, fun H9 s9 => ⟨_, rfl, ?_⟩⟩
          refine iteF ?_
          exact ⟨s5.trans (s6.trans (s7.trans (s8.trans s9))), _, _, _, _, _, rfl⟩
        · have hW : ¬ Wr g := fun h => of_decide_eq_false (Bool.eq_false_iff.mpr c) (Wr_max h)
          refine ⟨_, rfl, p, _, _, rfl, hp', hW, fun H6 s6 => ⟨_, rfl, ?_⟩⟩
          refine iteF ?_
          exact ⟨s5.trans s6, _, _, _, _, _, rfl⟩
      · rintro σ' H5 ⟨s5, d4, d5, d6, d7, d8, rfl⟩
        exact ⟨sH3.trans (s4.trans s5), z1, z2, e1, e2, _, _, _, _, _, _, _, rfl, s5 _ _ (s4 _ _ hz1'), s5 _ _ (s4 _ _ hz2), G1, G2⟩
  · clear d1 d2 sA sB sC s0 g1 g2 g3
    rintro σ' H1 ⟨hs, y1, y2, f1, f2, c3, c4, c5, c6, c7, c8, c9, rfl, _⟩
    refine ⟨rfl, fun p xs H2 s2 hp hlen hall => ⟨p, rfl, ⟨_, SqL.of hp⟩, ?_⟩⟩
    refine lc_grow (ItOn.list (xs := xs)) (fun _ => V.bl true) (fun H' hs' => SqL.of (hs' _ _ hp)) (small (by omega)) (fun i x H' Q' hx hs' hq => ?_) (fun H3 l s3 hl => ?_)
    · obtain ⟨u, rfl, hu'⟩ := hall x (List.mem_of_getElem? hx)
      exact ⟨_, rfl, u, rfl, by omega, fun H'' hs'' => hq _ hs''⟩
    · refine ⟨l, List.replicate xs.length true, rfl, SqL.of (by rw [List.map_replicate]; rw [List.map_const']; exact upd_same), _, rfl, ?_⟩
      show if (!((List.replicate xs.length true).all id)) = true then _ else _
      rw [all_true]
      refine iteF ?_
      refine ⟨_, _, rfl, rfl, ⟨by decide, by decide, by decide⟩, ?_⟩
      refine ⟨_, rfl, two_ok, fun t1 h1 => ⟨t1, _, _, rfl, upd_same, (fun z => absurd z.2.1 (by decide +kernel)), fun H4 s4 => ⟨_, rfl, ?_⟩⟩⟩
      refine iteF ?_
      refine ⟨_, rfl, _, _, rfl, rfl, .inl ⟨by decide, by decide⟩, _, _, rfl, rfl, two_ok, fun t2 h2 => ⟨t2, _, _, rfl, upd_same, (fun z => absurd z.2.1 (by decide +kernel)), fun H5 s5 => ⟨_, rfl, ?_⟩⟩⟩
      refine iteF ?_
      refine ⟨_, rfl, two_ok, fun t3 h3 => ⟨t3, _, _, rfl, upd_same, (fun z => absurd z.2.2 (by decide +kernel)), fun H6 s6 => ⟨_, rfl, ?_⟩⟩⟩
      refine iteF ?_
      refine ⟨small (show 1 ≤ 1000 by decide), fun m1 k1 => ⟨four_ok, fun m2 k2 => ⟨m2, rfl, ⟨_, SqL.of upd_same⟩, ?_⟩⟩⟩
      have sM := same_new k2 (.lst [.non, .int 5, .ref m1, .bl true])
      have e1 := sM _ _ (@upd_same H6 m1 (.lst [.str "0/1"]))
      have e2 := @upd_same (upd H6 m1 (.lst [.str "0/1"])) m2 (.lst [.non, .int 5, .ref m1, .bl true])
      refine lc_grow (ItOn.list (xs := [.non, .int 5, .ref m1, .bl true])) (fun _ => V.bl true) (fun H' hs' => SqL.of (hs' _ _ e2)) four_ok (fun i x H' Q' hx hs' hq => ?_) (fun H7 l' s7 hl' => ?_)
      · have hm := List.mem_of_getElem? hx
        refine ⟨_, rfl, .inr ?_, fun H'' hs'' => hq _ hs''⟩
        rcases List.mem_cons.mp hm with h | hm
        · subst h; exact ⟨_, _, rfl, .non, kit_non_str⟩
        rcases List.mem_cons.mp hm with h | hm
        · subst h; exact ⟨_, _, rfl, .int _, kit_int_str⟩
        rcases List.mem_cons.mp hm with h | hm
        · subst h; exact ⟨_, _, rfl, .lst (hs' _ _ e1), kit_list_str⟩
        rcases List.mem_cons.mp hm with h | hm
        · subst h; exact ⟨_, _, rfl, .bl _, kit_bool_str⟩
        cases hm
      · exact ⟨l', [true, true, true, true], rfl, SqL.of upd_same, q _⟩

end
end K09

set_option Elab.async false
set_option linter.all false
set_option maxRecDepth 100000
set_option maxHeartbeats 4000000
namespace K09
open PySem L2 TW TX
theorem all_mk {l : PySem.W.OpenLaw} {w : World} {K : PySem.W.Frag} {h : Heap} {mg : Str → Option Value} {fa : Addr} (X : K.In h) (G : h.Ns mainGlobals mg) (hfa : mg "law" = some (.ref fa))
    {f0 : Addr} {od0 an0 : Option Addr} {sl0 : Array (Option Value)} {oc0 kV0 dc0 pm0 cd0 ct0 : Value}
    {f1 : Addr} {od1 an1 : Option Addr} {sl1 : Array (Option Value)} {oc1 kV1 dc1 pm1 cd1 ct1 : Value}
    {f2 : Addr} {od2 an2 : Option Addr} {sl2 : Array (Option Value)} {oc2 kV2 dc2 pm2 cd2 ct2 : Value}
    {f3 : Addr} {od3 an3 : Option Addr} {sl3 : Array (Option Value)} {oc3 kV3 dc3 pm3 cd3 ct3 : Value}
    {f4 : Addr} {od4 an4 : Option Addr} {sl4 : Array (Option Value)} {oc4 kV4 dc4 pm4 cd4 ct4 : Value}
    {f5 : Addr} {od5 an5 : Option Addr} {sl5 : Array (Option Value)} {oc5 kV5 dc5 pm5 cd5 ct5 : Value}
    {f6 : Addr} {od6 an6 : Option Addr} {sl6 : Array (Option Value)} {oc6 kV6 dc6 pm6 cd6 ct6 : Value}
    {f7 : Addr} {od7 an7 : Option Addr} {sl7 : Array (Option Value)} {oc7 kV7 dc7 pm7 cd7 ct7 : Value}
    {f8 : Addr} {od8 an8 : Option Addr} {sl8 : Array (Option Value)} {oc8 kV8 dc8 pm8 cd8 ct8 : Value}
    {f9 : Addr} {od9 an9 : Option Addr} {sl9 : Array (Option Value)} {oc9 kV9 dc9 pm9 cd9 ct9 : Value}
    {f10 : Addr} {od10 an10 : Option Addr} {sl10 : Array (Option Value)} {oc10 kV10 dc10 pm10 cd10 ct10 : Value}
    {f11 : Addr} {od11 an11 : Option Addr} {sl11 : Array (Option Value)} {oc11 kV11 dc11 pm11 cd11 ct11 : Value}
    {f12 : Addr} {od12 an12 : Option Addr} {sl12 : Array (Option Value)} {oc12 kV12 dc12 pm12 cd12 ct12 : Value}
    {f13 : Addr} {od13 an13 : Option Addr} {sl13 : Array (Option Value)} {oc13 kV13 dc13 pm13 cd13 ct13 : Value}
    {f14 : Addr} {od14 an14 : Option Addr} {sl14 : Array (Option Value)} {oc14 kV14 dc14 pm14 cd14 ct14 : Value}
    {f15 : Addr} {od15 an15 : Option Addr} {sl15 : Array (Option Value)} {oc15 kV15 dc15 pm15 cd15 ct15 : Value}
    {f16 : Addr} {od16 an16 : Option Addr} {sl16 : Array (Option Value)} {oc16 kV16 dc16 pm16 cd16 ct16 : Value}
    {tFG : Tok}
    {CDanceError : Addr}
    {CBadWord : Addr}
    {CBadStep : Addr}
    {CSame : Addr}
    {CBadFraction : Addr}
    {CBadText : Addr}
    (q_DanceError : PySem.W.nsIn K mainGlobals "DanceError" = some (some (.ref CDanceError)))
    (q_BadWord : PySem.W.nsIn K mainGlobals "BadWord" = some (some (.ref CBadWord)))
    (q_BadStep : PySem.W.nsIn K mainGlobals "BadStep" = some (some (.ref CBadStep)))
    (q_Same : PySem.W.nsIn K mainGlobals "Same" = some (some (.ref CSame)))
    (q_BadFraction : PySem.W.nsIn K mainGlobals "BadFraction" = some (some (.ref CBadFraction)))
    (q_BadText : PySem.W.nsIn K mainGlobals "BadText" = some (some (.ref CBadText)))
    (a0 : PySem.W.nsIn K mainGlobals "is_whole" = some (some (.ref f0)))
    (l0 : K.lookup f0 = some ⟨oc0, od0, .func (PySem.W.fnOf "is_whole" "is_whole" (defArgs s_is_whole) (defBody s_is_whole) (defScope s_is_whole) .none kV0 dc0 pm0 an0 cd0 ct0), sl0⟩)
    (c0 : PySem.W.codeIn K cd0 "is_whole" = true)
    (k0 : PySem.W.keepIn K (.ref f0) = true)
    (a1 : PySem.W.nsIn K mainGlobals "common_divisor" = some (some (.ref f1)))
    (l1 : K.lookup f1 = some ⟨oc1, od1, .func (PySem.W.fnOf "common_divisor" "common_divisor" (defArgs s_common_divisor) (defBody s_common_divisor) (defScope s_common_divisor) .none kV1 dc1 pm1 an1 cd1 ct1), sl1⟩)
    (c1 : PySem.W.codeIn K cd1 "common_divisor" = true)
    (k1 : PySem.W.keepIn K (.ref f1) = true)
    (a2 : PySem.W.nsIn K mainGlobals "is_fraction" = some (some (.ref f2)))
    (l2 : K.lookup f2 = some ⟨oc2, od2, .func (PySem.W.fnOf "is_fraction" "is_fraction" (defArgs s_is_fraction) (defBody s_is_fraction) (defScope s_is_fraction) .none kV2 dc2 pm2 an2 cd2 ct2), sl2⟩)
    (c2 : PySem.W.codeIn K cd2 "is_fraction" = true)
    (k2 : PySem.W.keepIn K (.ref f2) = true)
    (a3 : PySem.W.nsIn K mainGlobals "is_writable" = some (some (.ref f3)))
    (l3 : K.lookup f3 = some ⟨oc3, od3, .func (PySem.W.fnOf "is_writable" "is_writable" (defArgs s_is_writable) (defBody s_is_writable) (defScope s_is_writable) .none kV3 dc3 pm3 an3 cd3 ct3), sl3⟩)
    (c3 : PySem.W.codeIn K cd3 "is_writable" = true)
    (k3 : PySem.W.keepIn K (.ref f3) = true)
    (a4 : PySem.W.nsIn K mainGlobals "written" = some (some (.ref f4)))
    (l4 : K.lookup f4 = some ⟨oc4, od4, .func (PySem.W.fnOf "written" "written" (defArgs s_written) (defBody s_written) (defScope s_written) .none kV4 dc4 pm4 an4 cd4 ct4), sl4⟩)
    (c4 : PySem.W.codeIn K cd4 "written" = true)
    (k4 : PySem.W.keepIn K (.ref f4) = true)
    (a5 : PySem.W.nsIn K mainGlobals "is_number" = some (some (.ref f5)))
    (l5 : K.lookup f5 = some ⟨oc5, od5, .func (PySem.W.fnOf "is_number" "is_number" (defArgs s_is_number) (defBody s_is_number) (defScope s_is_number) .none kV5 dc5 pm5 an5 cd5 ct5), sl5⟩)
    (c5 : PySem.W.codeIn K cd5 "is_number" = true)
    (k5 : PySem.W.keepIn K (.ref f5) = true)
    (a6 : PySem.W.nsIn K mainGlobals "told_fraction" = some (some (.ref f6)))
    (l6 : K.lookup f6 = some ⟨oc6, od6, .func (PySem.W.fnOf "told_fraction" "told_fraction" (defArgs s_told_fraction) (defBody s_told_fraction) (defScope s_told_fraction) .none kV6 dc6 pm6 an6 cd6 ct6), sl6⟩)
    (c6 : PySem.W.codeIn K cd6 "told_fraction" = true)
    (k6 : PySem.W.keepIn K (.ref f6) = true)
    (a7 : PySem.W.nsIn K mainGlobals "read" = some (some (.ref f7)))
    (l7 : K.lookup f7 = some ⟨oc7, od7, .func (PySem.W.fnOf "read" "read" (defArgs s_read) (defBody s_read) (defScope s_read) .none kV7 dc7 pm7 an7 cd7 ct7), sl7⟩)
    (c7 : PySem.W.codeIn K cd7 "read" = true)
    (k7 : PySem.W.keepIn K (.ref f7) = true)
    (a8 : PySem.W.nsIn K mainGlobals "_law_moved" = some (some (.ref f8)))
    (l8 : K.lookup f8 = some ⟨oc8, od8, .func (PySem.W.fnOf "_law_moved" "_law_moved" (defArgs s_law_moved) (defBody s_law_moved) (defScope s_law_moved) .none kV8 dc8 pm8 an8 cd8 ct8), sl8⟩)
    (c8 : PySem.W.codeIn K cd8 "_law_moved" = true)
    (k8 : PySem.W.keepIn K (.ref f8) = true)
    (a9 : PySem.W.nsIn K mainGlobals "_law_common" = some (some (.ref f9)))
    (l9 : K.lookup f9 = some ⟨oc9, od9, .func (PySem.W.fnOf "_law_common" "_law_common" (defArgs s_law_common) (defBody s_law_common) (defScope s_law_common) .none kV9 dc9 pm9 an9 cd9 ct9), sl9⟩)
    (c9 : PySem.W.codeIn K cd9 "_law_common" = true)
    (k9 : PySem.W.keepIn K (.ref f9) = true)
    (a10 : PySem.W.nsIn K mainGlobals "_law_number" = some (some (.ref f10)))
    (l10 : K.lookup f10 = some ⟨oc10, od10, .func (PySem.W.fnOf "_law_number" "_law_number" (defArgs s_law_number) (defBody s_law_number) (defScope s_law_number) .none kV10 dc10 pm10 an10 cd10 ct10), sl10⟩)
    (c10 : PySem.W.codeIn K cd10 "_law_number" = true)
    (k10 : PySem.W.keepIn K (.ref f10) = true)
    (a11 : PySem.W.nsIn K mainGlobals "_law_in" = some (some (.ref f11)))
    (l11 : K.lookup f11 = some ⟨oc11, od11, .func (PySem.W.fnOf "_law_in" "_law_in" (defArgs s_law_in) (defBody s_law_in) (defScope s_law_in) .none kV11 dc11 pm11 an11 cd11 ct11), sl11⟩)
    (c11 : PySem.W.codeIn K cd11 "_law_in" = true)
    (k11 : PySem.W.keepIn K (.ref f11) = true)
    (a12 : PySem.W.nsIn K mainGlobals "_law_refused" = some (some (.ref f12)))
    (l12 : K.lookup f12 = some ⟨oc12, od12, .func (PySem.W.fnOf "_law_refused" "_law_refused" (defArgs s_law_refused) (defBody s_law_refused) (defScope s_law_refused) .none kV12 dc12 pm12 an12 cd12 ct12), sl12⟩)
    (c12 : PySem.W.codeIn K cd12 "_law_refused" = true)
    (k12 : PySem.W.keepIn K (.ref f12) = true)
    (a13 : PySem.W.nsIn K mainGlobals "_law_right" = some (some (.ref f13)))
    (l13 : K.lookup f13 = some ⟨oc13, od13, .func (PySem.W.fnOf "_law_right" "_law_right" (defArgs s_law_right) (defBody s_law_right) (defScope s_law_right) .none kV13 dc13 pm13 an13 cd13 ct13), sl13⟩)
    (c13 : PySem.W.codeIn K cd13 "_law_right" = true)
    (k13 : PySem.W.keepIn K (.ref f13) = true)
    (a14 : PySem.W.nsIn K mainGlobals "_law_unwritten" = some (some (.ref f14)))
    (l14 : K.lookup f14 = some ⟨oc14, od14, .func (PySem.W.fnOf "_law_unwritten" "_law_unwritten" (defArgs s_law_unwritten) (defBody s_law_unwritten) (defScope s_law_unwritten) .none kV14 dc14 pm14 an14 cd14 ct14), sl14⟩)
    (c14 : PySem.W.codeIn K cd14 "_law_unwritten" = true)
    (k14 : PySem.W.keepIn K (.ref f14) = true)
    (a15 : PySem.W.nsIn K mainGlobals "_law_few" = some (some (.ref f15)))
    (l15 : K.lookup f15 = some ⟨oc15, od15, .func (PySem.W.fnOf "_law_few" "_law_few" (defArgs s_law_few) (defBody s_law_few) (defScope s_law_few) .none kV15 dc15 pm15 an15 cd15 ct15), sl15⟩)
    (c15 : PySem.W.codeIn K cd15 "_law_few" = true)
    (k15 : PySem.W.keepIn K (.ref f15) = true)
    (a16 : PySem.W.nsIn K mainGlobals "law" = some (some (.ref f16)))
    (l16 : K.lookup f16 = some ⟨oc16, od16, .func (PySem.W.fnOf "law" "law" (defArgs s_law) (defBody s_law) (defScope s_law) .none kV16 dc16 pm16 an16 cd16 ct16), sl16⟩)
    (c16 : PySem.W.codeIn K cd16 "law" = true)
    (k16 : PySem.W.keepIn K (.ref f16) = true)
    (z_len : PySem.W.nsIn K mainGlobals "len" = some none)
    (z_all : PySem.W.nsIn K mainGlobals "all" = some none)
    (z_any : PySem.W.nsIn K mainGlobals "any" = some none)
    (z_isinstance : PySem.W.nsIn K mainGlobals "isinstance" = some none)
    (z_abs : PySem.W.nsIn K mainGlobals "abs" = some none)
    (z_int : PySem.W.nsIn K mainGlobals "int" = some none)
    (z_bool : PySem.W.nsIn K mainGlobals "bool" = some none)
    (z_str : PySem.W.nsIn K mainGlobals "str" = some none)
    (z_tuple : PySem.W.nsIn K mainGlobals "tuple" = some none)
    (z_list : PySem.W.nsIn K mainGlobals "list" = some none)
    (z_reversed : PySem.W.nsIn K mainGlobals "reversed" = some none)
    (z_range : PySem.W.nsIn K mainGlobals "range" = some none)
    (z_max : PySem.W.nsIn K mainGlobals "max" = some none)
    (gFG : PySem.W.nsIn K mainGlobals "FIGURES" = some (some (.str "0123456789" tFG)))
    (ex_BadFraction : PySem.W.excIn K CBadFraction [.type "ValueError", .type "Exception", .type "BaseException", .type "object"] "ValueError.__new__" = true)
    (xga_BadFraction : PySem.W.findIn K (.ref CBadFraction) "__getattribute__" = some (some (.builtin "BaseException.__getattribute__")))
    (xgt_BadFraction : PySem.W.findIn K (.ref CBadFraction) "__getattr__" = some none)
    (xat_BadFraction : PySem.W.findIn K (.ref CBadFraction) "__class__" = some (some (.builtin "object.__class__")))
    (xob_BadFraction : PySem.W.mroIn K CBadFraction (.type "object") = some true)
    (xbx_BadFraction : PySem.W.mroIn K CBadFraction (.type "BaseException") = some true)
    (xcl_BadFraction : PySem.W.isClsIn K CBadFraction = true)
    (hit_BadFraction : PySem.W.exmOne K (.ref CBadFraction) (.ref CDanceError) = some true)
    (ex_BadText : PySem.W.excIn K CBadText [.type "ValueError", .type "Exception", .type "BaseException", .type "object"] "ValueError.__new__" = true)
    (xga_BadText : PySem.W.findIn K (.ref CBadText) "__getattribute__" = some (some (.builtin "BaseException.__getattribute__")))
    (xgt_BadText : PySem.W.findIn K (.ref CBadText) "__getattr__" = some none)
    (xat_BadText : PySem.W.findIn K (.ref CBadText) "__class__" = some (some (.builtin "object.__class__")))
    (xob_BadText : PySem.W.mroIn K CBadText (.type "object") = some true)
    (xbx_BadText : PySem.W.mroIn K CBadText (.type "BaseException") = some true)
    (xcl_BadText : PySem.W.isClsIn K CBadText = true)
    (hit_BadText : PySem.W.exmOne K (.ref CBadText) (.ref CDanceError) = some true)
    (hnC : PySem.W.specialIn K (.builtin "object.__class__") "__get__" = some (some (.builtin "getset_descriptor.__get__")))
    (htkC : PySem.W.takesIn K (.builtin "object.__class__") = some true)
    (kt_BadText_BadFraction : PySem.W.kitOne K (.ref CBadText) (.ref CBadFraction) = some false)
    (kt_BadText_BadStep : PySem.W.kitOne K (.ref CBadText) (.ref CBadStep) = some false)
    (kt_BadText_BadWord : PySem.W.kitOne K (.ref CBadText) (.ref CBadWord) = some false)
    (kt_BadText_Same : PySem.W.kitOne K (.ref CBadText) (.ref CSame) = some false)
    (kt_BadFraction_BadText : PySem.W.kitOne K (.ref CBadFraction) (.ref CBadText) = some false) :
    ∃ fd : FuncData, (∀ (s : Shared) (v : Value), BindsTo s fd ⟨[v], []⟩ [("_law_script", v)]) ∧ ∀ base : Heap, K.In base → base.Ns mainGlobals mg → FnOk l.prog w K mg base CX0 9 fa fd ["_law_script"] (spLaw K) := by
  have e := hfa.symm.trans (PySem.W.mg_of X G a16)
  cases e
  have GL : Glo mg := ⟨PySem.W.mg_none_of X G z_len, PySem.W.mg_none_of X G z_all, PySem.W.mg_none_of X G z_any, PySem.W.mg_none_of X G z_isinstance, PySem.W.mg_none_of X G z_abs, PySem.W.mg_none_of X G z_int, PySem.W.mg_none_of X G z_bool, PySem.W.mg_none_of X G z_str, PySem.W.mg_none_of X G z_tuple, PySem.W.mg_none_of X G z_list, PySem.W.mg_none_of X G z_reversed, PySem.W.mg_none_of X G z_range, PySem.W.mg_none_of X G z_max⟩
  have cFIGURES : Figs mg := ⟨tFG, PySem.W.mg_of X G gFG⟩
  have m_DanceError := PySem.W.mg_of X G q_DanceError
  have m_BadWord := PySem.W.mg_of X G q_BadWord
  have m_BadStep := PySem.W.mg_of X G q_BadStep
  have m_Same := PySem.W.mg_of X G q_Same
  have m_BadFraction := PySem.W.mg_of X G q_BadFraction
  have m_BadText := PySem.W.mg_of X G q_BadText
  have xe_BadFraction : Exc K mg "BadFraction" CBadFraction CDanceError := ⟨q_BadFraction, ex_BadFraction, ⟨xga_BadFraction, xgt_BadFraction, xat_BadFraction, hnC, htkC, xob_BadFraction, xbx_BadFraction, xcl_BadFraction⟩, m_BadFraction, m_DanceError, hit_BadFraction, kit_self _⟩
  have xe_BadText : Exc K mg "BadText" CBadText CDanceError := ⟨q_BadText, ex_BadText, ⟨xga_BadText, xgt_BadText, xat_BadText, hnC, htkC, xob_BadText, xbx_BadText, xcl_BadText⟩, m_BadText, m_DanceError, hit_BadText, kit_self _⟩
  have F0 := fun_mk (st := s_is_whole) l0 c0 k0
  have F1 := fun_mk (st := s_common_divisor) l1 c1 k1
  have F2 := fun_mk (st := s_is_fraction) l2 c2 k2
  have F3 := fun_mk (st := s_is_writable) l3 c3 k3
  have F4 := fun_mk (st := s_written) l4 c4 k4
  have F5 := fun_mk (st := s_is_number) l5 c5 k5
  have F6 := fun_mk (st := s_told_fraction) l6 c6 k6
  have F7 := fun_mk (st := s_read) l7 c7 k7
  have F8 := fun_mk (st := s_law_moved) l8 c8 k8
  have F9 := fun_mk (st := s_law_common) l9 c9 k9
  have F10 := fun_mk (st := s_law_number) l10 c10 k10
  have F11 := fun_mk (st := s_law_in) l11 c11 k11
  have F12 := fun_mk (st := s_law_refused) l12 c12 k12
  have F13 := fun_mk (st := s_law_right) l13 c13 k13
  have F14 := fun_mk (st := s_law_unwritten) l14 c14 k14
  have F15 := fun_mk (st := s_law_few) l15 c15 k15
  have F16 := fun_mk (st := s_law) l16 c16 k16
  refine ⟨PySem.W.fnOf "law" "law" (defArgs s_law) (defBody s_law) (defScope s_law) .none kV16 dc16 pm16 an16 cd16 ct16, fun s v => .of_eq rfl, fun base _ _ => ?_⟩
  have C0 := callee_of F0 (ok_is_whole (P := l.prog) (w := w) (base := base) (mg := mg) (k := 0) GL F0) (PySem.W.mg_of X G a0) fun _ _ _ _ _ _ us hl => by obtain ⟨_, rfl⟩ := len1 hl; rfl
  have C1 := callee_of F1 (ok_common_divisor (P := l.prog) (w := w) (base := base) (mg := mg) (k := 0) F1) (PySem.W.mg_of X G a1) fun _ _ _ _ _ _ us hl => by obtain ⟨_, _, rfl⟩ := len2 hl; rfl
  have C2 := callee_of F2 (ok_is_fraction (P := l.prog) (w := w) (base := base) (mg := mg) (k := 1) GL F2 (C0.mono (by decide)) (C1.mono (by decide))) (PySem.W.mg_of X G a2) fun _ _ _ _ _ _ us hl => by obtain ⟨_, rfl⟩ := len1 hl; rfl
  have C3 := callee_of F3 (ok_is_writable (P := l.prog) (w := w) (base := base) (mg := mg) (k := 2) GL F3 (C2.mono (by decide))) (PySem.W.mg_of X G a3) fun _ _ _ _ _ _ us hl => by obtain ⟨_, rfl⟩ := len1 hl; rfl
  have C4 := calleeX_of F4 (ok_written (P := l.prog) (w := w) (base := base) (mg := mg) (k := 3) GL xe_BadFraction F4 (C3.mono (by decide))) (PySem.W.mg_of X G a4) fun _ _ _ _ _ _ us hl => by obtain ⟨_, rfl⟩ := len1 hl; rfl
  have C5 := callee_of F5 (ok_is_number (P := l.prog) (w := w) (base := base) (mg := mg) (k := 0) GL cFIGURES F5) (PySem.W.mg_of X G a5) fun _ _ _ _ _ _ us hl => by obtain ⟨_, rfl⟩ := len1 hl; rfl
  have C6 := callee_of F6 (ok_told_fraction (P := l.prog) (w := w) (base := base) (mg := mg) (k := 4) GL F6 (C5.mono (by decide)) (C2.mono (by decide)) (C4.mono (by decide))) (PySem.W.mg_of X G a6) fun _ _ _ _ _ _ us hl => by obtain ⟨_, rfl⟩ := len1 hl; rfl
  have C7 := calleeX_of F7 (ok_read (P := l.prog) (w := w) (base := base) (mg := mg) (k := 5) GL xe_BadText F7 (C6.mono (by decide))) (PySem.W.mg_of X G a7) fun _ _ _ _ _ _ us hl => by obtain ⟨_, rfl⟩ := len1 hl; rfl
  have C8 := callee_of F8 (ok_law_moved (P := l.prog) (w := w) (base := base) (mg := mg) (k := 0) F8) (PySem.W.mg_of X G a8) fun _ _ _ _ _ _ us hl => by obtain ⟨_, _, rfl⟩ := len2 hl; rfl
  have C9 := callee_of F9 (ok_law_common (P := l.prog) (w := w) (base := base) (mg := mg) (k := 0) F9) (PySem.W.mg_of X G a9) fun _ _ _ _ _ _ us hl => by obtain ⟨_, _, rfl⟩ := len2 hl; rfl
  have C10 := callee_of F10 (ok_law_number (P := l.prog) (w := w) (base := base) (mg := mg) (k := 0) GL F10) (PySem.W.mg_of X G a10) fun _ _ _ _ _ _ us hl => by obtain ⟨_, rfl⟩ := len1 hl; rfl
  have C11 := callee_of F11 (ok_law_in (P := l.prog) (w := w) (base := base) (mg := mg) (k := 1) GL F11 (C10.mono (by decide)) (C9.mono (by decide))) (PySem.W.mg_of X G a11) fun _ _ _ _ _ _ us hl => by obtain ⟨_, rfl⟩ := len1 hl; rfl
  have C12 := callee_of F12 (ok_law_refused (P := l.prog) (w := w) (base := base) (mg := mg) (k := 6) GL xe_BadText m_BadFraction m_BadStep m_BadWord m_Same kt_BadText_BadFraction kt_BadText_BadStep kt_BadText_BadWord kt_BadText_Same F12 (C7.mono (by decide))) (PySem.W.mg_of X G a12) fun _ _ _ _ _ _ us hl => by obtain ⟨_, rfl⟩ := len1 hl; rfl
  have C13 := callee_of F13 (ok_law_right (P := l.prog) (w := w) (base := base) (mg := mg) (k := 7) GL F13 (C11.mono (by decide)) (C12.mono (by decide)) (C7.mono (by decide)) (C4.mono (by decide))) (PySem.W.mg_of X G a13) fun _ _ _ _ _ _ us hl => by obtain ⟨_, rfl⟩ := len1 hl; rfl
  have C14 := callee_of F14 (ok_law_unwritten (P := l.prog) (w := w) (base := base) (mg := mg) (k := 4) GL xe_BadFraction m_BadText kt_BadFraction_BadText F14 (C4.mono (by decide))) (PySem.W.mg_of X G a14) fun _ _ _ _ _ _ us hl => by obtain ⟨_, rfl⟩ := len1 hl; rfl
  have C15 := callee_of F15 (ok_law_few (P := l.prog) (w := w) (base := base) (mg := mg) (k := 0) F15) (PySem.W.mg_of X G a15) fun _ _ _ _ _ _ us hl => by obtain rfl := len0 hl; rfl
  exact ok_law (k := 8) GL F16 (C8.mono (by decide)) (C4.mono (by decide)) (C7.mono (by decide)) (C13.mono (by decide)) (C14.mono (by decide)) (C15.mono (by decide)) (C12.mono (by decide))
theorem walk {l : PySem.W.OpenLaw} {q : Program} {loose : List Str} {XP : (Str → Option Value) → Heap → Prop} {YP : World → Heap → Prop} {d : DefRec} {K : Params → PySem.W.Frag} (hn : l.most = some 63) (hdf : d.params.defaults = [])
    (hY : ∀ (w : World) (h : Heap), YP w h → (K w.params).In h)
    (F : ∀ (w : World) (mg : Str → Option Value) (fa : Addr) (h : Heap), (K w.params).In h → h.Ns mainGlobals mg → mg d.name = some (.ref fa) →
      ∃ fd : FuncData, (∀ (s : Shared) (u : Value), BindsTo s fd ⟨[u], []⟩ [("_law_script", u)]) ∧ ∀ base : Heap, (K w.params).In base → base.Ns mainGlobals mg → FnOk l.prog w (K w.params) mg base CX0 9 fa fd ["_law_script"] (spLaw (K w.params))) :
    PySem.W.WalkO q loose XP YP l.row.toRowW d [] (fun f vs => PySem.call f vs) :=
  L2.walk_of (n := 63) (k := 9) (x := "_law_script") (CX := fun _ => CX0) (sp := fun w => spLaw (K w.params)) hn (by decide) hdf ⟨rfl, by decide, by decide⟩ hY F (fun _ _ a ns hl _ hS => ⟨a, ns, rfl, hS, hl, fun _ => rfl⟩) fun _ _ _ _ _ z => z
open PySem.W PySem.W.X in
theorem walkX {l : PySem.W.OpenLaw} {q : Program} {loose : List Str} {XP : (Str → Option Value) → Heap → Prop} {d : DefRec} {K : Params → PySem.W.Frag} {as : List Addr} {n t : Nat} (hn : l.most = some 63) (hdf : d.params.defaults = []) (hk : ∀ P, as = (K P).map (·.1))
    (F : ∀ (w : World) (mg : Str → Option Value) (fa : Addr) (h : Heap), (K w.params).In h → h.Ns mainGlobals mg → mg d.name = some (.ref fa) →
      ∃ fd : FuncData, (∀ (s : Shared) (u : Value), BindsTo s fd ⟨[u], []⟩ [("_law_script", u)]) ∧ ∀ base : Heap, (K w.params).In base → base.Ns mainGlobals mg → FnOk l.prog w (K w.params) mg base CX0 9 fa fd ["_law_script"] (spLaw (K w.params))) :
    WalkX q loose XP (obsZ as) (valZ K n t) l.row.toRowW d [] (fun f vs => PySem.call f vs) :=
  fun w s₀ s₁ mg mb G y a o pm cd doc dV kV h2 h3 h4 h5 h6 h7 args vals as' L hpre hlay hrd hwl hlo =>
    walk (K := K) (YP := fun w h => (K w.params).In h) hn hdf (fun w h Y => Y) F w s₀ s₁ mg mb G (InK.keeps w s₀.heap s₁.heap (z_facts hk y).2.1 L.keeps) a o pm cd doc dV kV h2 h3 h4 h5 h6 h7 args vals as' hpre hlay hrd hwl hlo
end K09
open PySem PySem.W PyProof.Rows
set_option maxRecDepth 100000 in
set_option maxHeartbeats 0 in
theorem PySem.Challenge.cw_twistturn_k09_texts_holds : PySem.Challenge.rw_twistturn_k09_texts.Holds := by
  w_on; o_law; z_head; (case hw => w_witness2)
  refine K09.walkX (l := PySem.Challenge.rw_twistturn_k09_texts) rfl rfl (fun P => rfl) ?F
  case F =>
    intro w mg fa h KX G hmg
    refine' K09.all_mk KX G hmg ?q_DanceError ?q_BadWord ?q_BadStep ?q_Same ?q_BadFraction ?q_BadText ?a0 ?l0 ?c0 ?k0 ?a1 ?l1 ?c1 ?k1 ?a2 ?l2 ?c2 ?k2 ?a3 ?l3 ?c3 ?k3 ?a4 ?l4 ?c4 ?k4 ?a5 ?l5 ?c5 ?k5 ?a6 ?l6 ?c6 ?k6 ?a7 ?l7 ?c7 ?k7 ?a8 ?l8 ?c8 ?k8 ?a9 ?l9 ?c9 ?k9 ?a10 ?l10 ?c10 ?k10 ?a11 ?l11 ?c11 ?k11 ?a12 ?l12 ?c12 ?k12 ?a13 ?l13 ?c13 ?k13 ?a14 ?l14 ?c14 ?k14 ?a15 ?l15 ?c15 ?k15 ?a16 ?l16 ?c16 ?k16 ?z_len ?z_all ?z_any ?z_isinstance ?z_abs ?z_int ?z_bool ?z_str ?z_tuple ?z_list ?z_reversed ?z_range ?z_max ?gFG ?ex_BadFraction ?xga_BadFraction ?xgt_BadFraction ?xat_BadFraction ?xob_BadFraction ?xbx_BadFraction ?xcl_BadFraction ?hit_BadFraction ?ex_BadText ?xga_BadText ?xgt_BadText ?xat_BadText ?xob_BadText ?xbx_BadText ?xcl_BadText ?hit_BadText ?hnC ?htkC ?kt_BadText_BadFraction ?kt_BadText_BadStep ?kt_BadText_BadWord ?kt_BadText_Same ?kt_BadFraction_BadText
    (case q_DanceError => k_is)
    (case q_BadWord => k_is)
    (case q_BadStep => k_is)
    (case q_Same => k_is)
    (case q_BadFraction => k_is)
    (case q_BadText => k_is)
    (case a0 => k_is)
    (case l0 => k_is)
    (case c0 => k_is)
    (case k0 => k_is)
    (case a1 => k_is)
    (case l1 => k_is)
    (case c1 => k_is)
    (case k1 => k_is)
    (case a2 => k_is)
    (case l2 => k_is)
    (case c2 => k_is)
    (case k2 => k_is)
    (case a3 => k_is)
    (case l3 => k_is)
    (case c3 => k_is)
    (case k3 => k_is)
    (case a4 => k_is)
    (case l4 => k_is)
    (case c4 => k_is)
    (case k4 => k_is)
    (case a5 => k_is)
    (case l5 => k_is)
    (case c5 => k_is)
    (case k5 => k_is)
    (case a6 => k_is)
    (case l6 => k_is)
    (case c6 => k_is)
    (case k6 => k_is)
    (case a7 => k_is)
    (case l7 => k_is)
    (case c7 => k_is)
    (case k7 => k_is)
    (case a8 => k_is)
    (case l8 => k_is)
    (case c8 => k_is)
    (case k8 => k_is)
    (case a9 => k_is)
    (case l9 => k_is)
    (case c9 => k_is)
    (case k9 => k_is)
    (case a10 => k_is)
    (case l10 => k_is)
    (case c10 => k_is)
    (case k10 => k_is)
    (case a11 => k_is)
    (case l11 => k_is)
    (case c11 => k_is)
    (case k11 => k_is)
    (case a12 => k_is)
    (case l12 => k_is)
    (case c12 => k_is)
    (case k12 => k_is)
    (case a13 => k_is)
    (case l13 => k_is)
    (case c13 => k_is)
    (case k13 => k_is)
    (case a14 => k_is)
    (case l14 => k_is)
    (case c14 => k_is)
    (case k14 => k_is)
    (case a15 => k_is)
    (case l15 => k_is)
    (case c15 => k_is)
    (case k15 => k_is)
    (case a16 => k_is)
    (case l16 => k_is)
    (case c16 => k_is)
    (case k16 => k_is)
    (case z_len => k_is)
    (case z_all => k_is)
    (case z_any => k_is)
    (case z_isinstance => k_is)
    (case z_abs => k_is)
    (case z_int => k_is)
    (case z_bool => k_is)
    (case z_str => k_is)
    (case z_tuple => k_is)
    (case z_list => k_is)
    (case z_reversed => k_is)
    (case z_range => k_is)
    (case z_max => k_is)
    (case gFG => k_is)
    (case ex_BadFraction => k_exc)
    (case xga_BadFraction => k_is)
    (case xgt_BadFraction => k_is)
    (case xat_BadFraction => k_is)
    (case xob_BadFraction => k_is)
    (case xbx_BadFraction => k_is)
    (case xcl_BadFraction => k_is)
    (case hit_BadFraction => kts_exm)
    (case ex_BadText => k_exc)
    (case xga_BadText => k_is)
    (case xgt_BadText => k_is)
    (case xat_BadText => k_is)
    (case xob_BadText => k_is)
    (case xbx_BadText => k_is)
    (case xcl_BadText => k_is)
    (case hit_BadText => kts_exm)
    (case hnC => k_is)
    (case htkC => k_is)
    (case kt_BadText_BadFraction => kit_is)
    (case kt_BadText_BadStep => kit_is)
    (case kt_BadText_BadWord => kit_is)
    (case kt_BadText_Same => kit_is)
    (case kt_BadFraction_BadText => kit_is)
#print axioms PySem.Challenge.cw_twistturn_k09_texts_holds

