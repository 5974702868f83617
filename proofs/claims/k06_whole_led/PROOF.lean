import PyProof.Rows.All
import Wide.All
import OpenK.AllK
import Wide.FinOn
import Lean
import PyProof.EqAt
import PyProof.EqKinds
import PyProof.TupleCall
import PySem.Challenge.RW_twistturn_k06_whole_led
-- CHANGE: your row's module here, as the last of these rows
set_option Elab.async false
set_option linter.all false
set_option maxRecDepth 100000
/-! the hand layer, lists and dicts together -/
namespace L2
open PySem PySem.Spec PyProof.Rows
/-- a key: an int or a str -/
abbrev Key := Sum Int Str
def keyIs : Key → Value → Bool
  | .inl k, v => Value.isInt k v
  | .inr x, v => Value.isStrOf x v
def keyH (w : World) : Key → Int
  | .inl k => hashInt k
  | .inr x => hashStr w x
theorem keyIs_shape : ∀ {k : Key} {v : Value}, keyIs k v = true → (∃ i t, k = Sum.inl i ∧ v = Value.int i t) ∨ (∃ x t, k = Sum.inr x ∧ v = Value.str x t)
  | .inl i, v, h => by
    obtain ⟨t, e⟩ := Value.isInt_shape (k := i) (v := v) h
    exact .inl ⟨i, t, rfl, e⟩
  | .inr x, v, h => by
    obtain ⟨t, e⟩ := Value.isStrOf_shape (x := x) (v := v) h
    exact .inr ⟨x, t, rfl, e⟩
theorem key_ll (a b : Int) : decide ((Sum.inl a : Key) = Sum.inl b) = (a == b) := by
  by_cases e : a = b
  · subst e; simp
  · have h : ¬ (Sum.inl a : Key) = Sum.inl b := fun q => e (Sum.inl.inj q)
    rw [decide_eq_false h]
    exact (beq_eq_false_iff_ne.mpr e).symm
theorem key_rr (a b : Str) : decide ((Sum.inr a : Key) = Sum.inr b) = decide (a = b) := by
  by_cases e : a = b
  · subst e; simp
  · have h : ¬ (Sum.inr a : Key) = Sum.inr b := fun q => e (Sum.inr.inj q)
    rw [decide_eq_false h, decide_eq_false e]
theorem key_lr (a : Int) (b : Str) : decide ((Sum.inl a : Key) = Sum.inr b) = false := decide_eq_false (fun q => nomatch q)
theorem key_rl (a : Str) (b : Int) : decide ((Sum.inr a : Key) = Sum.inl b) = false := decide_eq_false (fun q => nomatch q)
def mixKind (prog : Program) (w : World) : PySem.KeyKind prog w Key where
  is := keyIs
  hash := keyH w
  inj := fun v a b ha hb => by
    rcases keyIs_shape ha with ⟨i, t, rfl, rfl⟩ | ⟨x, t, rfl, rfl⟩
    · rcases keyIs_shape hb with ⟨j, u, rfl, e⟩ | ⟨y, u, rfl, e⟩
      · injection e with e1 _; rw [e1]
      · exact nomatch e
    · rcases keyIs_shape hb with ⟨j, u, rfl, e⟩ | ⟨y, u, rfl, e⟩
      · exact nomatch e
      · injection e with e1 _; rw [e1]
  byValue := fun k v h => by
    rcases keyIs_shape h with ⟨i, t, rfl, rfl⟩ | ⟨x, t, rfl, rfl⟩ <;> rfl
  pyHash := fun hv h => by
    rcases keyIs_shape hv with ⟨i, t, rfl, rfl⟩ | ⟨x, t, rfl, rfl⟩
    · exact wpAny_pyHash_int h
    · exact wpAny_pyHash_str h
  eqBool := fun hu hv h => by
    rcases keyIs_shape hu with ⟨i, t, rfl, rfl⟩ | ⟨x, t, rfl, rfl⟩
    · rcases keyIs_shape hv with ⟨j, u, rfl, rfl⟩ | ⟨y, u, rfl, rfl⟩
      · rw [key_ll] at h; exact wpAny_eqBool_int h
      · rw [key_lr] at h; exact SeqAt.EqAt.int_str i t y u _ _ _ _ h
    · rcases keyIs_shape hv with ⟨j, u, rfl, rfl⟩ | ⟨y, u, rfl, rfl⟩
      · rw [key_rl] at h; exact SeqAt.EqAt.str_int x t j u _ _ _ _ h
      · rw [key_rr] at h; exact wpAny_eqBool_str h
  «strs» := fun k x t v h => by
    rcases keyIs_shape h with ⟨i, u, rfl, e⟩ | ⟨y, u, rfl, e⟩
    · exact nomatch e
    · injection e with e1 _
      subst e1
      cases v <;> rfl
end L2
namespace L2
open PySem PySem.Spec PyProof.Rows
/-- a value, without the heap -/
inductive V where
  | non | bl (b : Bool) | int (i : Int) | str (x : Str) | byt (b : Array UInt8) | flt (b : UInt64) | ref (a : Addr) | ty (n : String)
  deriving DecidableEq
def RelV : V → Value → Prop
  | .non, u => u = Value.none
  | .bl b, u => u = Value.bool b
  | .int i, u => ∃ t, u = Value.int i t
  | .str x, u => ∃ t, u = Value.str x t
  | .byt b, u => ∃ t, u = Value.bytes b t
  | .flt b, u => ∃ t, u = Value.float b t
  | .ref a, u => u = Value.ref a
  | .ty n, u => u = Value.type n
abbrev Vals : List V → List Value → Prop := Paired RelV
theorem Vals.length {xs : List V} {us : List Value} (r : Vals xs us) : xs.length = us.length := Paired.length r
theorem Vals.get : ∀ {xs : List V} {us : List Value} {i : Nat} {x : V}, Vals xs us → xs[i]? = some x → ∃ u, us[i]? = some u ∧ RelV x u
  | _, _, _, _, .nil, e => by simp at e
  | _, _, 0, _, .cons r _, e => by simp at e; subst e; exact ⟨_, rfl, r⟩
  | _, _, i + 1, x, .cons _ t, e => by
    obtain ⟨u, h1, h2⟩ := Vals.get (i := i) (x := x) t (by simpa using e)
    exact ⟨u, by simpa using h1, h2⟩
theorem Vals.append : ∀ {xs ys : List V} {us ws : List Value}, Vals xs us → Vals ys ws → Vals (xs ++ ys) (us ++ ws)
  | _, _, _, _, .nil, s => s
  | _, _, _, _, .cons r t, s => .cons r (Vals.append t s)
theorem Vals.take : ∀ {xs : List V} {us : List Value} (n : Nat), Vals xs us → Vals (xs.take n) (us.take n)
  | _, _, 0, _ => .nil
  | _, _, _ + 1, .nil => .nil
  | _, _, n + 1, .cons r t => .cons r (Vals.take n t)
theorem Vals.drop : ∀ {xs : List V} {us : List Value} (n : Nat), Vals xs us → Vals (xs.drop n) (us.drop n)
  | _, _, 0, r => r
  | _, _, _ + 1, .nil => .nil
  | _, _, n + 1, .cons _ t => Vals.drop n t
def RelO : Option V → Option Value → Prop
  | some v, some u => RelV v u
  | none, none => True
  | _, _ => False
def KV {κ : Type} : List (κ × V) → List (κ × Value) → Prop := Paired fun (p : κ × V) (q : κ × Value) => p.1 = q.1 ∧ RelV p.2 q.2
/-- a key of a dict (00_mix): an int or a text -/
def kV : Key → V
  | .inl i => .int i
  | .inr x => .str x
/-- what stands at a tracked address -/
inductive HO where
  /-- a list -/
  | lst (xs : List V)
  /-- a tuple (never changes) -/
  | tup (xs : List V)
  /-- a dict whose keys are ints and texts; one whose keys are tuples of ints and texts (the empty one is both) -/
  | dK (kvs : List (Key × V)) | dT (kvs : List (List Key × V))
  /-- a set of ints: its members, its size -/
  | set (S : Int → Bool) (n : Nat)
  /-- an instance of the class at C, its dict at dx, its attributes -/
  | ins (C dx : Addr) (fs : List (Str × V))
  /-- the dict of the instance at x -/
  | own (x : Addr)
  /-- the dict of an exception -/
  | xd (fs : List (Str × V))
  /-- a bound method, f of x -/
  | met (f x : Addr)
  /-- a range object lo, lo + 1, .. below hi -/
  | rng (lo hi : Int)
  /-- a thing that is known to the object (the script; a dict while a loop walks it): read, never written while it is so -/
  | frz (o : Obj) (u : HO)
  /-- a code object's table -/
  | tbl (ps : Array Value)
  /-- any other thing, by what is true of its one object (a def of one's own: SetO a S n := HO.ext fun h => ..) -/
  | ext (φ : Heap → Prop)
abbrev Hp := Addr → Option HO
def upd (H : Hp) (a : Addr) (o : HO) : Hp := fun b => if b = a then some o else H b
theorem upd_same {H : Hp} {a : Addr} {o : HO} : upd H a o a = some o := by unfold upd; rw [if_pos rfl]
theorem upd_ne {H : Hp} {a b : Addr} {o : HO} (h : b ≠ a) : upd H a o b = H b := by unfold upd; rw [if_neg h]
theorem upd_upd {H : Hp} {a : Addr} {o u : HO} : upd (upd H a o) a u = upd H a u := by
  funext b; unfold upd; split <;> rfl
/-- two objects of different content stand apart -/
theorem ne_of {H : Hp} {a b : Addr} {o u : HO} (h : H a = some o) (h' : H b = some u) (d : o ≠ u) : a ≠ b := by
  intro e; subst e; rw [h] at h'; exact d (Option.some.inj h')
theorem ne_of_none {H : Hp} {a b : Addr} {o : HO} (h : H a = some o) (h' : H b = none) : a ≠ b := by
  intro e; subst e; rw [h] at h'; cases h'
section
variable (P : Program) (w : World)
def ObjOk (H : Hp) (h : Heap) (a : Addr) : HO → Prop
  | .lst xs => xs.length ≤ sizeLine ∧ ∃ (its : List Value) (n : Nat), Vals xs its ∧ h.get? a = some { cls := .type "list", data := .seq its.toArray n }
  | .tup xs => xs.length ≤ sizeLine ∧ ∃ its : List Value, Vals xs its ∧ IsTup h a its.toArray
  | .dK kvs => kvs.length ≤ sizeLine ∧ (a == sysModules) = false ∧ ∃ vs, KV kvs vs ∧ h.DictOf (mixKind P w) a vs
  | .dT kvs => kvs.length ≤ sizeLine ∧ (a == sysModules) = false ∧ ∃ xs : List (List Key × Addr × Value),
      Paired (fun (p : List Key × V) (q : List Key × Addr × Value) => p.1 = q.1 ∧ H q.2.1 = some (.tup (p.1.map kV)) ∧ RelV p.2 q.2.2) kvs xs ∧
      ∃ o es ep, h.get? a = some o ∧ o.ExactDict ∧ o.data = .dict es ep ∧ es.toList = xs.map (entryOfKey (tupleKind (mixKind P w))) ∧ (xs.map (·.1)).Nodup
  | .set S n => h.SetOf (intKind P w) a S n
  | .ins C dx fs => H dx = some (.own a) ∧ fs.length ≤ 1000 ∧ dx ≠ a ∧ h.get? a = some (PySem.W.instObj C dx) ∧
      ∃ mA, h.Ns1 dx mA ∧ (∀ f, RelO (fs.lookup f) (mA f)) ∧ PySem.Within mA (fs.map (·.1))
  | .own _ => ∃ o, h.get? a = some o
  | .xd fs => ∃ mA, h.Ns1 a mA ∧ ∀ f, RelO (fs.lookup f) (mA f)
  | .rng lo hi => ∃ t u v, h.get? a = some { cls := .type "range", data := .fields #[.int lo t, .int hi u, .int 1 v] }
  | .frz o u => h.get? a = some o ∧ ObjOk H h a u
  | .tbl ps => h.get? a = some { cls := .none, data := .fields ps }
  | .met f x => h.get? a = some (PySem.W.methodObj (.ref f) (.ref x))
  | .ext φ => φ h ∧ (∃ o, h.get? a = some o) ∧ ∀ h1 h2 : Heap, φ h1 → (∀ o, h1.get? a = some o → h2.get? a = some o) → φ h2
/-- the abstract heap is held -/
def HOk (H : Hp) (h : Heap) : Prop := ∀ a o, H a = some o → ObjOk P w H h a o
end
section
variable {P : Program} {w : World} {H H' : Hp} {h h' : Heap} {a : Addr} {o : HO}
theorem ObjOk.lt (x : ObjOk P w H h a o) : a < h.objs.size := by
  cases o with
  | lst xs => obtain ⟨_, _, _, _, e⟩ := x; exact Heap.lt_size e
  | tup xs => obtain ⟨_, _, _, p⟩ := x; exact p.lt
  | dK kvs => obtain ⟨_, _, _, _, o, _, _, e, _⟩ := x; exact Heap.lt_size e
  | dT kvs => obtain ⟨_, _, _, _, o, _, _, e, _⟩ := x; exact Heap.lt_size e
  | set S n => obtain ⟨o, _, _, _, e, _⟩ := x; exact Heap.lt_size e
  | ins C dx fs => obtain ⟨_, _, _, e, _⟩ := x; exact Heap.lt_size e
  | own y => obtain ⟨_, e⟩ := x; exact Heap.lt_size e
  | xd fs => obtain ⟨_, ⟨_, _, _, e, _⟩, _⟩ := x; exact Heap.lt_size e
  | rng lo hi => obtain ⟨_, _, _, e⟩ := x; exact Heap.lt_size e
  | frz ob u => obtain ⟨e, _⟩ := x; exact Heap.lt_size e
  | tbl ps => exact Heap.lt_size (show h.get? a = some _ from x)
  | met f y => exact Heap.lt_size (show h.get? a = some _ from x)
  | ext φ => obtain ⟨_, ⟨_, e⟩, _⟩ := x; exact Heap.lt_size e
theorem Paired.mapP {α β : Type} {F G : α → β → Prop} : ∀ {l₁ : List α} {l₂ : List β}, Paired F l₁ l₂ → (∀ a b, F a b → G a b) → Paired G l₁ l₂
  | _, _, .nil, _ => .nil
  | _, _, .cons r t, f => .cons (f _ _ r) (Paired.mapP t f)
/-- what an object's description leans on: its own object, its own dict, the tuples -/
theorem ObjOk.stay (x : ObjOk P w H h a o) (k : ∀ b u, (b = a ∨ H b = some (.own a)) → h.get? b = some u → h'.get? b = some u)
    (ho : ∀ b, H b = some (.own a) → H' b = some (.own a)) (ht : ∀ b xs, H b = some (.tup xs) → H' b = some (.tup xs)) : ObjOk P w H' h' a o := by
  induction o with
  | lst xs => obtain ⟨z, its, n, r, e⟩ := x; exact ⟨z, its, n, r, k _ _ (.inl rfl) e⟩
  | tup xs => obtain ⟨z, its, r, ob, e, c⟩ := x; exact ⟨z, its, r, ob, k _ _ (.inl rfl) e, c⟩
  | dK kvs => obtain ⟨z, y, vs, r, ob, es, ep, e, c⟩ := x; exact ⟨z, y, vs, r, ob, es, ep, k _ _ (.inl rfl) e, c⟩
  | dT kvs =>
    obtain ⟨z, y, xs, r, ob, es, ep, e, c⟩ := x
    exact ⟨z, y, xs, Paired.mapP r fun p q z => ⟨z.1, ht _ _ z.2.1, z.2.2⟩, ob, es, ep, k _ _ (.inl rfl) e, c⟩
  | set S n => obtain ⟨ob, es, ep, t, e, c⟩ := x; exact ⟨ob, es, ep, t, k _ _ (.inl rfl) e, c⟩
  | ins C dx fs =>
    obtain ⟨d, z, ne, e, mA, ⟨od, es, ep, e2, c⟩, r⟩ := x
    exact ⟨ho _ d, z, ne, k _ _ (.inl rfl) e, mA, ⟨od, es, ep, k _ _ (.inr d) e2, c⟩, r⟩
  | own y => obtain ⟨ob, e⟩ := x; exact ⟨ob, k _ _ (.inl rfl) e⟩
  | xd fs => obtain ⟨mA, ⟨od, es, ep, e, c⟩, r⟩ := x; exact ⟨mA, ⟨od, es, ep, k _ _ (.inl rfl) e, c⟩, r⟩
  | rng lo hi => obtain ⟨t, u, v, e⟩ := x; exact ⟨t, u, v, k _ _ (.inl rfl) e⟩
  | frz ob u ih => obtain ⟨e, q⟩ := x; exact ⟨k _ _ (.inl rfl) e, ih q⟩
  | tbl ps =>
    have e : h.get? a = some { cls := .none, data := .fields ps } := x
    show h'.get? a = some { cls := .none, data := .fields ps }
    exact k a _ (.inl rfl) e
  | met f y =>
    have e : h.get? a = some (PySem.W.methodObj (.ref f) (.ref y)) := x
    show h'.get? a = some (PySem.W.methodObj (.ref f) (.ref y))
    exact k a _ (.inl rfl) e
  | ext φ => obtain ⟨p, ⟨o, e⟩, st⟩ := x; exact ⟨st _ _ p fun o q => k _ _ (.inl rfl) q, ⟨o, k _ _ (.inl rfl) e⟩, st⟩
theorem HOk.lt (x : HOk P w H h) (e : H a = some o) : a < h.objs.size := (x a o e).lt
theorem HOk.fresh (x : HOk P w H h) (e : h.objs.size ≤ a) : H a = none := by
  cases q : H a with
  | none => rfl
  | some u => exact absurd (Nat.lt_of_lt_of_le (x.lt q) e) (Nat.lt_irrefl _)
/-- every object of the heap is kept -/
theorem HOk.kept (x : HOk P w H h) (k : ∀ b u, h.get? b = some u → h'.get? b = some u) : HOk P w H h' := fun a o e =>
  (x a o e).stay (fun b u _ q => k b u q) (fun _ q => q) fun _ _ q => q
/-- a new object is laid and tracked -/
theorem HOk.laid (x : HOk P w H h) (k : ∀ b u, h.get? b = some u → h'.get? b = some u) (hp : h.objs.size ≤ a) (new : ObjOk P w (upd H a o) h' a o) : HOk P w (upd H a o) h' := fun b u e => by
  have hn := x.fresh hp
  by_cases hb : b = a
  · subst hb; rw [upd_same] at e; cases e; exact new
  · rw [upd_ne hb] at e
    exact (x b u e).stay (fun c v _ q => k c v q) (fun c q => by rw [upd_ne (ne_of_none q hn)]; exact q) fun c xs q => by rw [upd_ne (ne_of_none q hn)]; exact q
end
/-- what may be read as u: it is u, or a known u -/
def Rd (H : Hp) (a : Addr) (u : HO) : Prop := H a = some u ∨ ∃ o, H a = some (.frz o u)
theorem Rd.ok {P : Program} {w : World} {H : Hp} {h : Heap} {a : Addr} {u : HO} (r : Rd H a u) (x : HOk P w H h) : ObjOk P w H h a u := by
  rcases r with r | ⟨o, r⟩
  · exact x a u r
  · obtain ⟨_, q⟩ := x a _ r
    exact q
/-- what may be written -/
def Mut : Option HO → Prop
  | some (.lst _) => True
  | some (.dK _) => True
  | some (.dT _) => True
  | some (.set _ _) => True
  | some (.ins _ _ _) => True
  | some (.ext _) => True
  | _ => False
section
variable {P : Program} {w : World} {H : Hp} {h h' : Heap} {x e : Addr} {o' : HO}
/-- the object at e is changed: x itself, or the dict of the instance x -/
theorem HOk.write (ok : HOk P w H h) (mu : Mut (H x)) (he : e = x ∨ H e = some (.own x)) (k : ∀ b u, b ≠ e → h.get? b = some u → h'.get? b = some u) (heo : ∃ u, h'.get? e = some u)
    (new : ObjOk P w (upd H x o') h' x o') : HOk P w (upd H x o') h' := fun b u q => by
  have nown : ∀ c y, H c = some (.own y) → c ≠ x := fun c y r z => by subst z; rw [r] at mu; exact mu
  have ntup : ∀ c xs, H c = some (.tup xs) → c ≠ x := fun c xs r z => by subst z; rw [r] at mu; exact mu
  by_cases hb : b = x
  · subst hb; rw [upd_same] at q; cases q; exact new
  · rw [upd_ne hb] at q
    by_cases hbe : b = e
    · have q' : H b = some (.own x) := by
        rcases he with z | z
        · exact absurd (hbe.trans z) hb
        · rw [hbe]; exact z
      rw [q] at q'; cases q'
      obtain ⟨v, hv⟩ := heo
      exact ⟨v, by rw [hbe]; exact hv⟩
    · refine (ok b u q).stay (fun c v hc r => k c v ?_ r) (fun c r => by rw [upd_ne (nown c b r)]; exact r) fun c xs r => by rw [upd_ne (ntup c xs r)]; exact r
      rcases hc with rfl | hc
      · exact hbe
      · rintro rfl
        rcases he with z | z
        · exact nown c b hc z
        · rw [hc] at z; cases z; exact hb rfl
end
/-! ### kept unless tracked; of the frames at fs (the callers') the slots may change (an exception that passes writes there); of the records at ex (iterators) nothing is said -/
structure Un (fs ex : List Addr) (H H' : Hp) (h h' : Heap) : Prop where
  keep : ∀ b o, h.get? b = some o → H b = none → b ∉ fs → b ∉ ex → h'.get? b = some o
  slot : ∀ b o, h.get? b = some o → H b = none → b ∈ fs → b ∉ ex → ∃ sl, h'.get? b = some { o with slots := sl }
  free : ∀ b o, h.get? b = some o → H b = none → b ∉ ex → H' b = none
  there : ∀ b o, h.get? b = some o → b ∉ ex → ∃ o', h'.get? b = some o'
  tups : ∀ b xs, H b = some (.tup xs) → H' b = some (.tup xs)
  frzs : ∀ b o u, H b = some (.frz o u) → H' b = some (.frz o u)
  tbls : ∀ b ps, H b = some (.tbl ps) → ∃ more, H' b = some (.tbl (ps ++ more))
section
variable {fs fs' ex ex' : List Addr} {H H1 H2 : Hp} {h h1 h2 h' : Heap} {a x e : Addr} {o : HO}
theorem Un.any (u : Un fs ex H H1 h h1) {b : Addr} {ob : Obj} (q : h.get? b = some ob) (n : H b = none) (hx : b ∉ ex) : ∃ sl, h1.get? b = some { ob with slots := sl } := by
  by_cases hb : b ∈ fs
  · exact u.slot b ob q n hb hx
  · exact ⟨ob.slots, u.keep b ob q n hb hx⟩
theorem Un.kept (k : ∀ b u, h.get? b = some u → h'.get? b = some u) : Un fs ex H H h h' :=
  ⟨fun b ob q _ _ _ => k b ob q, fun b ob q _ _ _ => ⟨ob.slots, k b ob q⟩, fun _ _ _ n _ => n, fun b ob q _ => ⟨ob, k b ob q⟩, fun _ _ q => q, fun _ _ _ q => q, fun _ ps q => ⟨#[], by rw [q]; simp⟩⟩
theorem Un.refl : Un fs ex H H h h := Un.kept fun _ _ q => q
theorem Un.laid (k : ∀ b u, h.get? b = some u → h'.get? b = some u) (hp : h.objs.size ≤ a) (hn : H a = none) : Un fs ex H (upd H a o) h h' where
  keep := fun b u q _ _ _ => k b u q
  slot := fun b u q _ _ _ => ⟨u.slots, k b u q⟩
  free := fun b u q n _ => by rw [upd_ne (Nat.ne_of_lt (Nat.lt_of_lt_of_le (Heap.lt_size q) hp))]; exact n
  there := fun b u q _ => ⟨u, k b u q⟩
  tups := fun b xs q => by rw [upd_ne (ne_of_none q hn)]; exact q
  frzs := fun b u xs q => by rw [upd_ne (ne_of_none q hn)]; exact q
  tbls := fun b ps q => ⟨#[], by rw [upd_ne (ne_of_none q hn), q]; simp⟩
theorem Un.write (mu : Mut (H x)) (he : e = x ∨ H e = some (.own x)) (k : ∀ b u, b ≠ e → h.get? b = some u → h'.get? b = some u) (heo : ∃ u, h'.get? e = some u) : Un fs ex H (upd H x o) h h' := by
  have hx : ∀ b, H b = none → b ≠ x := fun b n z => by subst z; rw [n] at mu; exact mu
  have hb : ∀ b, H b = none → b ≠ e := fun b n z => by
    subst z
    rcases he with r | r
    · exact hx b n r
    · rw [n] at r; cases r
  have hm : ∀ b u, H b = some u → ¬ Mut (some u) → b ≠ x := fun b u q nm z => by subst z; rw [q] at mu; exact nm mu
  refine ⟨fun b u q n _ _ => k b u (hb b n) q, fun b u q n _ _ => ⟨u.slots, k b u (hb b n) q⟩, fun b u q n _ => by rw [upd_ne (hx b n)]; exact n, fun b u q _ => ?_,
    fun b xs q => by rw [upd_ne (hm b _ q fun z => z)]; exact q, fun b u xs q => by rw [upd_ne (hm b _ q fun z => z)]; exact q, fun b ps q => ⟨#[], by rw [upd_ne (hm b _ q fun z => z), q]; simp⟩⟩
  by_cases hbe : b = e
  · subst hbe; exact heo
  · exact ⟨u, k b u hbe q⟩
end
/-! ### the heap without what is tracked -/
def trk (h : Heap) (H : Hp) : List Addr := (List.range h.objs.size).filter fun a => (H a).isSome
def hidT (h : Heap) (H : Hp) : Heap := PySem.W.hideAll h (trk h H)
theorem hidT_size (h : Heap) (H : Hp) : (hidT h H).objs.size = h.objs.size := PySem.W.hideAll_size _ _
theorem hidT_get {h : Heap} {H : Hp} {b : Addr} {o : Obj} (e : h.get? b = some o) (n : H b = none) : (hidT h H).get? b = some o :=
  PySem.W.hideAll_get _ e fun hm => by
    have q : (H b).isSome = true := (List.mem_filter.mp hm).2
    rw [n] at q; simp at q
theorem of_hidT {h : Heap} {H : Hp} {b : Addr} {o : Obj} (e : (hidT h H).get? b = some o) : h.get? b = some o ∧ H b = none := by
  have e' : h.get? b = some o := PySem.W.of_hideAll (trk h H) e
  refine ⟨e', ?_⟩
  cases q : H b with
  | none => rfl
  | some x =>
    have hm : b ∈ trk h H := List.mem_filter.mpr ⟨List.mem_range.mpr (Heap.lt_size e'), by simp [q]⟩
    have z : (hidT h H).get? b = none := PySem.W.hideAll_none (trk h H) hm
    rw [z] at e; cases e
/-! ### OpenK's ledger, filled with every new object but one -/
end L2
namespace L2
open PySem PySem.Spec PyProof.Rows
/-- the module's facts, over the base: the heap at the law's entry without what is tracked there -/
structure Mod (K : PySem.W.Frag) (mg : Str → Option Value) (base : Heap) : Prop where
  kin : K.In base
  glob : base.Ns mainGlobals mg
  blt : ∃ mb, base.Ns builtinsNs mb ∧ ∀ x : Str, x ≠ "__name__" → mb x = bootBuiltins x
  nolimit : base.NoLimit
/-- the context: a def's body (or a comprehension's block) running. base: fixed through the whole law; s₀, H₀: the entry; outer: the frames whose slots others may change (a def's callers); stack: all frames that run;
   ex: iterators that were made ahead of the entry and are walked here (a comprehension's); fn: the names whose cells were made at the entry (a def: all; a comprehension's block: its own); calm: not within an except suite; pn: pins that every state bears; xe: what is wanted of an exception that leaves the code -/
structure Cx where
  prog : Program
  w : World
  K : PySem.W.Frag
  mg : Str → Option Value
  base : Heap
  A : Around
  N : List Str
  s₀ : Shared
  H₀ : Hp
  env : Env
  outer : List Env
  stack : List Env
  ex : List Addr
  fn : Str → Bool
  calm : Bool
  pn : List (Addr × Obj)
  xe : Value → Shared → Prop
/-- the callers' frames -/
def frs (l : List Env) : List Addr := l.filterMap (·.frame)
abbrev Cx.fs (X : Cx) : List Addr := frs X.outer
def Vis (sc : Scope) (x : Str) : Prop := sc.names.lookup x = some .local ∨ sc.names.lookup x = some .cell ∨ sc.names.lookup x = some .free
def Loc (sc : Scope) (x : Str) : Prop := sc.names.lookup x = some .local ∨ sc.names.lookup x = some .cell
def Look (env : Env) (h : Heap) (m : Str → Option Value) (x : Str) (u : Value) : Prop :=
  (env.kindOf x = some .local ∧ m x = some u) ∨ ((env.kindOf x = some .cell ∨ env.kindOf x = some .free) ∧ ∃ c, env.cells.lookup x = some c ∧ h.IsCell c (some u))
structure Cx.Ok (X : Cx) : Prop where
  mod : Mod X.K X.mg X.base
  kind : X.env.scope.kind = .function
  glob : X.env.globals = mainGlobals
  blt : X.env.builtins = builtinsNs
  above : X.s₀.heap.objs.size ≤ X.env.locals
  inj : ∀ x y c, X.env.cells.lookup x = some c → X.env.cells.lookup y = some c → x = y
  has : ∀ x, (X.env.kindOf x = some .cell ∨ X.env.kindOf x = some .free) → ∃ c, X.env.cells.lookup x = some c
  cab : ∀ x c, X.fn x = true → X.env.cells.lookup x = some c → X.s₀.heap.objs.size ≤ c
  hd : X.calm = true → X.A.handled = none
  frames : X.A.frames = some X.stack
  stk : X.stack = X.outer ∨ (X.stack = X.env :: X.outer ∧ X.env.frame = some X.env.locals)
  exf : ∀ b ∈ X.ex, b ≠ X.env.locals ∧ ∀ x c, X.env.cells.lookup x = some c → c ≠ b
  bs : ∀ b o, X.base.get? b = some o → X.s₀.heap.get? b = some o ∧ X.H₀ b = none
  bsz : X.base.objs.size ≤ X.s₀.heap.objs.size
  noex : ∀ b o, X.base.get? b = some o → b ∉ X.ex
  exfs : ∀ b ∈ X.ex, b ∉ X.fs
  funs : X.s₀.heap.FunFrames X.base X.outer
  frf : ∀ b ∈ X.fs, X.H₀ b = none
structure Inv (X : Cx) (pins : List (Addr × Obj)) (σ : List (Option V)) (H : Hp) (s : Shared) : Prop where
  ok : X.Ok
  os : s.os = X.s₀.os
  bare : AllBare s.gens
  base : Un X.fs X.ex X.H₀ H X.s₀.heap s.heap
  loc : ∃ m, s.heap.Ns X.env.locals m ∧ ∀ (i : Nat) (x : Str) (v : V), X.N[i]? = some x → σ[i]? = some (some v) → Vis X.env.scope x → ∃ u, RelV v u ∧ Look X.env s.heap m x u
  cell : ∀ x c, X.env.cells.lookup x = some c → ∃ v, s.heap.IsCell c v
  free : H X.env.locals = none
  freeC : ∀ x c, X.env.cells.lookup x = some c → H c = none
  pin : ∀ p ∈ X.pn ++ pins, s.heap.get? p.1 = some p.2 ∧ H p.1 = none ∧ p.1 ≠ X.env.locals ∧ p.1 ∉ X.fs ∧ ∀ v, p.2.data ≠ .cell v
  hok : HOk X.prog X.w H s.heap
  len : σ.length = X.N.length
section
variable {X : Cx} {pins : List (Addr × Obj)} {σ : List (Option V)} {H H' : Hp} {s : Shared} {h' : Heap}
theorem Cx.Ok.nofr (ok : X.Ok) {b : Addr} {o : Obj} (e : X.base.get? b = some o) : b ∉ X.fs := fun hb => by
  have := (ok.funs.mem hb).1
  rw [e] at this; cases this
theorem Inv.bs (I : Inv X pins σ H s) : ∀ b o, X.base.get? b = some o → s.heap.get? b = some o ∧ H b = none := fun b o e =>
  ⟨I.base.keep b o (I.ok.bs b o e).1 (I.ok.bs b o e).2 (I.ok.nofr e) (I.ok.noex b o e), I.base.free b o (I.ok.bs b o e).1 (I.ok.bs b o e).2 (I.ok.noex b o e)⟩
theorem Inv.bk (I : Inv X pins σ H s) : ∀ b o, X.base.get? b = some o → s.heap.get? b = some o := fun b o e => (I.bs b o e).1
theorem Inv.mod (I : Inv X pins σ H s) : Mod X.K X.mg X.base := I.ok.mod
theorem Inv.kIn (I : Inv X pins σ H s) : X.K.In s.heap := I.ok.mod.kin.keeps I.bk
/-- the frame over the base: for OpenK's rules (K.In X.base is I.mod.kin) -/
theorem Inv.fr (I : Inv X pins σ H s) : ∃ m, Fr X.base X.env.locals s.heap m :=
  let ⟨m, hn, _⟩ := I.loc
  ⟨m, hn, I.bk, Nat.le_trans I.ok.bsz I.ok.above⟩
theorem Inv.lt (I : Inv X pins σ H s) : X.env.locals < s.heap.objs.size := let ⟨_, hn, _⟩ := I.loc; hn.lt
theorem Inv.sz (I : Inv X pins σ H s) : X.s₀.heap.objs.size ≤ s.heap.objs.size := Nat.le_trans I.ok.above (Nat.le_of_lt I.lt)
theorem Inv.nofs (I : Inv X pins σ H s) {a : Addr} (h : s.heap.objs.size ≤ a) : a ∉ X.fs := fun hb => by
  obtain ⟨_, o, ho, _⟩ := I.ok.funs.mem hb
  exact absurd (Nat.lt_of_lt_of_le (Heap.lt_size ho) (Nat.le_trans I.sz h)) (Nat.lt_irrefl _)
theorem Inv.cne (I : Inv X pins σ H s) : ∀ x c, X.env.cells.lookup x = some c → c ≠ X.env.locals := fun x c e z => by
  obtain ⟨v, o, ho, hd⟩ := I.cell x c e
  obtain ⟨m, ⟨o', es, ep, ho', hd', _⟩, _⟩ := I.loc
  rw [z, ho'] at ho; cases ho; rw [hd'] at hd; cases hd
theorem Inv.funs (I : Inv X pins σ H s) : s.heap.FunFrames X.base X.outer := by
  have all : ∀ (l : List Env), (∀ b ∈ frs l, b ∈ X.fs) → X.s₀.heap.FunFrames X.base l → s.heap.FunFrames X.base l := by
    intro l
    induction l with
    | nil => intro _ _; trivial
    | cons env r ih =>
      intro hs hl
      obtain ⟨hk, ⟨L, o, hf, hn, ho, hd⟩, hr⟩ := hl
      have hL : L ∈ X.fs := hs L (by unfold frs; rw [List.filterMap_cons, hf]; exact List.mem_cons_self)
      obtain ⟨sl, e⟩ := I.base.slot L o ho (I.ok.frf L hL) hL fun z => I.ok.exfs L z hL
      exact ⟨hk, ⟨L, _, hf, hn, e, hd⟩, ih (fun b hb => hs b (by unfold frs; rw [List.filterMap_cons, hf]; exact List.mem_cons_of_mem _ hb)) hr⟩
  exact all X.outer (fun _ hb => hb) I.ok.funs
/-- the frames that run, for a call -/
theorem Inv.stack (I : Inv X pins σ H s) : s.heap.FunFrames X.base X.stack := by
  rcases I.ok.stk with e | ⟨e, hf⟩
  · rw [e]; exact I.funs
  · rw [e]
    obtain ⟨m, hn, _⟩ := I.loc
    refine .cons (by rw [I.ok.kind]; decide) hf hn ?_ I.funs
    exact Heap.get?_none_of_le (Nat.le_trans I.ok.bsz I.ok.above)
theorem Inv.stkSub (I : Inv X pins σ H s) : ∀ b ∈ frs X.stack, b ∈ X.env.locals :: X.fs := fun b hb => by
  rcases I.ok.stk with e | ⟨e, hf⟩
  · rw [e] at hb; exact List.mem_cons_of_mem _ hb
  · rw [e] at hb
    unfold frs at hb
    rw [List.filterMap_cons, hf] at hb
    exact hb
theorem Inv.stkFree (I : Inv X pins σ H s) : ∀ b ∈ frs X.stack, H b = none := fun b hb => by
  rcases List.mem_cons.mp (I.stkSub b hb) with e | hb
  · rw [e]; exact I.free
  · obtain ⟨_, o, ho, _⟩ := I.ok.funs.mem hb
    exact I.base.free b o ho (I.ok.frf b hb) fun z => I.ok.exfs b z hb
/-- THE STEP: the untracked objects but the frame and the records at ch are kept (the callers' frames up to slots), the frame's map is kept, the new abstract heap is held -/
theorem Inv.step {g' : Array GenState} {t' : Nat} {d' : Drawn} {ch : List Addr} (I : Inv X pins σ H s)
    (hch : ∀ b ∈ ch, (b ∈ X.ex ∨ X.s₀.heap.objs.size ≤ b) ∧ b ≠ X.env.locals ∧ (∀ x c, X.env.cells.lookup x = some c → c ≠ b) ∧ ∀ p ∈ X.pn ++ pins, p.1 ≠ b)
    (keep : ∀ b o, b ≠ X.env.locals → b ∉ X.fs → b ∉ ch → s.heap.get? b = some o → H b = none → h'.get? b = some o)
    (slot : ∀ b o, b ≠ X.env.locals → b ∈ X.fs → b ∉ ch → s.heap.get? b = some o → H b = none → ∃ sl, h'.get? b = some { o with slots := sl }) (free : ∀ b o, b ∉ ch → s.heap.get? b = some o → H b = none → H' b = none)
    (there : ∀ b o, b ∉ ch → s.heap.get? b = some o → ∃ o', h'.get? b = some o')
    (tups : ∀ b xs, H b = some (.tup xs) → H' b = some (.tup xs)) (frzs : ∀ b o u, H b = some (.frz o u) → H' b = some (.frz o u)) (tbls : ∀ b ps, H b = some (.tbl ps) → ∃ more, H' b = some (.tbl (ps ++ more)))
    (ns : ∀ m, s.heap.Ns X.env.locals m → h'.Ns X.env.locals m) (hok : HOk X.prog X.w H' h') (hg : AllBare g') :
    Inv X pins σ H' { s with heap := h', gens := g', drawn := d', toks := t' } := by
  have neL : ∀ b o, X.s₀.heap.get? b = some o → b ≠ X.env.locals := fun b o e => Nat.ne_of_lt (Nat.lt_of_lt_of_le (Heap.lt_size e) I.ok.above)
  have neC : ∀ b o, X.s₀.heap.get? b = some o → b ∉ X.ex → b ∉ ch := fun b o e hx hb => by
    rcases (hch b hb).1 with z | z
    · exact hx z
    · exact absurd (Nat.lt_of_lt_of_le (Heap.lt_size e) z) (Nat.lt_irrefl _)
  have cellK : ∀ x c, X.env.cells.lookup x = some c → ∀ v, s.heap.IsCell c v → h'.IsCell c v := fun x c e v ⟨o, ho, hd⟩ => by
    have nch : c ∉ ch := fun z => (hch c z).2.2.1 x c e rfl
    by_cases hc : c ∈ X.fs
    · obtain ⟨sl, q⟩ := slot c o (I.cne x c e) hc nch ho (I.freeC x c e)
      exact ⟨_, q, hd⟩
    · exact ⟨o, keep c o (I.cne x c e) hc nch ho (I.freeC x c e), hd⟩
  refine ⟨I.ok, I.os, hg, ⟨fun b o e n hb hx => ?_, fun b o e n hb hx => ?_, fun b o e n hx => ?_, fun b o e hx => ?_, fun b xs e => tups b xs (I.base.tups b xs e), fun b o xs e => frzs b o xs (I.base.frzs b o xs e), fun b ps e => ?_⟩, ?_, fun x c e => ?_, ?_, fun x c e => ?_, fun p hp => ?_, hok, I.len⟩
  · exact keep b o (neL b o e) hb (neC b o e hx) (I.base.keep b o e n hb hx) (I.base.free b o e n hx)
  · obtain ⟨sl, e1⟩ := I.base.slot b o e n hb hx
    obtain ⟨sl', e2⟩ := slot b _ (neL b o e) hb (neC b o e hx) e1 (I.base.free b o e n hx)
    exact ⟨sl', e2⟩
  · obtain ⟨o', e1⟩ := I.base.there b o e hx
    exact free b o' (neC b o e hx) e1 (I.base.free b o e n hx)
  · obtain ⟨o', e1⟩ := I.base.there b o e hx
    exact there b o' (neC b o e hx) e1
  · obtain ⟨m1, e1⟩ := I.base.tbls b ps e
    obtain ⟨m2, e2⟩ := tbls b _ e1
    exact ⟨m1 ++ m2, by rw [e2, Array.append_assoc]⟩
  · obtain ⟨m, hn, hl⟩ := I.loc
    refine ⟨m, ns m hn, fun i x v e1 e2 e3 => ?_⟩
    obtain ⟨u, r, l⟩ := hl i x v e1 e2 e3
    refine ⟨u, r, ?_⟩
    rcases l with l | ⟨k, c, e, z⟩
    · exact .inl l
    · exact .inr ⟨k, c, e, cellK x c e _ z⟩
  · obtain ⟨v, z⟩ := I.cell x c e
    exact ⟨v, cellK x c e v z⟩
  · obtain ⟨m, ⟨o, _, _, ho, _⟩, _⟩ := I.loc
    exact free _ o (fun z => (hch _ z).2.1 rfl) ho I.free
  · obtain ⟨v, o, ho, hd⟩ := I.cell x c e
    exact free c o (fun z => (hch c z).2.2.1 x c e rfl) ho (I.freeC x c e)
  · obtain ⟨e, n, ne, nf, d⟩ := I.pin p hp
    have nch : p.1 ∉ ch := fun z => (hch p.1 z).2.2.2 p hp rfl
    exact ⟨keep p.1 p.2 ne nf nch e n, free p.1 p.2 nch e n, ne, nf, d⟩
/-- .. where the frame's own object is kept too -/
theorem Inv.un {t' : Nat} (I : Inv X pins σ H s) (u : Un X.fs [] H H' s.heap h') (hok : HOk X.prog X.w H' h') : Inv X pins σ H' { s with heap := h', toks := t' } := by
  obtain ⟨m, ⟨o, es, ep, ho, r⟩, _⟩ := id I.loc
  obtain ⟨sl, hL⟩ := u.any ho I.free (by simp)
  exact I.step (g' := s.gens) (d' := s.drawn) (ch := []) (fun _ z => nomatch z) (fun b o _ hb _ e n => u.keep b o e n hb (by simp)) (fun b o _ hb _ e n => u.slot b o e n hb (by simp)) (fun b o _ e n => u.free b o e n (by simp)) (fun b o _ e => u.there b o e (by simp)) u.tups u.frzs u.tbls (fun m' hm => by
    obtain ⟨o', es', ep', ho', r'⟩ := hm
    rw [ho] at ho'; cases ho'
    exact ⟨_, es', ep', hL, r'⟩) hok I.bare
/-- behind a call (or a comprehension's block): the slots of this frame may have changed too, the records at ch may have turned -/
theorem Inv.call {g' : Array GenState} {t' : Nat} {d' : Drawn} {ch : List Addr} (I : Inv X pins σ H s) (u : Un (frs X.stack) ch H H' s.heap h') (hok : HOk X.prog X.w H' h') (hg : AllBare g')
    (hch : ∀ b ∈ ch, (b ∈ X.ex ∨ X.s₀.heap.objs.size ≤ b) ∧ b ≠ X.env.locals ∧ (∀ x c, X.env.cells.lookup x = some c → c ≠ b) ∧ ∀ p ∈ X.pn ++ pins, p.1 ≠ b) :
    Inv X pins σ H' { s with heap := h', gens := g', drawn := d', toks := t' } := by
  obtain ⟨m, ⟨o, es, ep, ho, r⟩, _⟩ := id I.loc
  obtain ⟨sl, hL⟩ := u.any ho I.free fun z => (hch _ z).2.1 rfl
  exact I.step (ch := ch) hch (fun b o hL hb hc e n => u.keep b o e n (fun z => (List.mem_cons.mp (I.stkSub b z)).elim hL hb) hc) (fun b o _ _ hc e n => u.any e n hc) (fun b o hc e n => u.free b o e n hc) (fun b o hc e => u.there b o e hc) u.tups u.frzs u.tbls (fun m' hm => by
    obtain ⟨o', es', ep', ho', r'⟩ := hm
    rw [ho] at ho'; cases ho'
    exact ⟨_, es', ep', hL, r'⟩) hok hg
/-- an untracked record of ours (an iterator) has turned -/
theorem Inv.turned {t' : Nat} {it : Addr} (I : Inv X pins σ H s) (k : ∀ b o, b ≠ it → s.heap.get? b = some o → h'.get? b = some o) (hn : H it = none) (hL : it ≠ X.env.locals)
    (h1 : it ∈ X.ex ∨ X.s₀.heap.objs.size ≤ it) (h2 : ∀ x c, X.env.cells.lookup x = some c → c ≠ it) (h3 : ∀ p ∈ X.pn ++ pins, p.1 ≠ it) : Inv X pins σ H { s with heap := h', toks := t' } := by
  have nit : ∀ b u, H b = some u → b ≠ it := fun b u e z => by rw [z, hn] at e; cases e
  refine I.step (g' := s.gens) (d' := s.drawn) (ch := [it]) (fun b hb => ?_) (fun b o _ _ hc e _ => k b o (fun z => hc (by simp [z])) e) (fun b o _ _ hc e _ => ⟨o.slots, k b o (fun z => hc (by simp [z])) e⟩) (fun _ _ _ _ n => n)
    (fun b o hc e => ⟨o, k b o (fun z => hc (by simp [z])) e⟩) (fun _ _ e => e) (fun _ _ _ e => e) (fun b ps e => ⟨#[], by rw [e]; simp⟩) (fun m hm => ?_) (fun b u e => ?_) I.bare
  · have e : b = it := by simpa using hb
    subst e
    exact ⟨h1, hL, h2, h3⟩
  · obtain ⟨o, es, ep, ho, r⟩ := hm
    exact ⟨o, es, ep, k _ o (Ne.symm hL) ho, r⟩
  · refine (I.hok b u e).stay (fun c v hc q => k c v ?_ q) (fun _ q => q) fun _ _ q => q
    rcases hc with z | z
    · rw [z]; exact nit b u e
    · exact nit c _ z
theorem Inv.tok (I : Inv X pins σ H s) (t : Nat) : Inv X pins σ H { s with toks := t } := I.un (h' := s.heap) (t' := t) Un.refl I.hok
/-- all objects kept -/
theorem Inv.kept {t' : Nat} (I : Inv X pins σ H s) (k : ∀ b u, s.heap.get? b = some u → h'.get? b = some u) : Inv X pins σ H { s with heap := h', toks := t' } := I.un (Un.kept k) (I.hok.kept k)
/-- a new object laid and tracked -/
theorem Inv.laid {a : Addr} {o : HO} {t' : Nat} (I : Inv X pins σ H s) (k : ∀ b u, s.heap.get? b = some u → h'.get? b = some u) (hp : s.heap.objs.size ≤ a) (new : ObjOk X.prog X.w (upd H a o) h' a o) :
    Inv X pins σ (upd H a o) { s with heap := h', toks := t' } := I.un (Un.laid k hp (I.hok.fresh hp)) (I.hok.laid k hp new)
/-- an object written -/
theorem Inv.write {x e : Addr} {o : HO} {t' : Nat} (I : Inv X pins σ H s) (mu : Mut (H x)) (he : e = x ∨ H e = some (.own x)) (k : ∀ b u, b ≠ e → s.heap.get? b = some u → h'.get? b = some u) (heo : ∃ u, h'.get? e = some u)
    (new : ObjOk X.prog X.w (upd H x o) h' x o) : Inv X pins σ (upd H x o) { s with heap := h', toks := t' } := I.un (Un.write mu he k heo) (I.hok.write mu he k heo new)
/-- forgetting slots, pins -/
theorem Inv.weak {σ' : List (Option V)} (I : Inv X pins σ H s) (hl : σ'.length = σ.length) (w : ∀ (i : Nat) v, σ'[i]? = some (some v) → σ[i]? = some (some v)) : Inv X pins σ' H s :=
  ⟨I.ok, I.os, I.bare, I.base, let ⟨m, hn, hl'⟩ := I.loc; ⟨m, hn, fun i x v e1 e2 e3 => hl' i x v e1 (w i v e2) e3⟩, I.cell, I.free, I.freeC, I.pin, I.hok, hl.trans I.len⟩
theorem Inv.pins_of {pins' : List (Addr × Obj)} (I : Inv X pins σ H s) (h : ∀ p ∈ pins', s.heap.get? p.1 = some p.2 ∧ H p.1 = none ∧ p.1 ≠ X.env.locals ∧ p.1 ∉ X.fs ∧ ∀ v, p.2.data ≠ .cell v) : Inv X pins' σ H s :=
  ⟨I.ok, I.os, I.bare, I.base, I.loc, I.cell, I.free, I.freeC, fun p hp => (List.mem_append.mp hp).elim (fun z => I.pin p (List.mem_append_left _ z)) (h p), I.hok, I.len⟩
theorem nodup_ix {N : List Str} (hN : N.Nodup) {i j : Nat} {x : Str} (a : N[i]? = some x) (b : N[j]? = some x) : i = j := by
  obtain ⟨h1, e1⟩ := List.getElem?_eq_some_iff.mp a
  obtain ⟨h2, e2⟩ := List.getElem?_eq_some_iff.mp b
  exact (List.getElem_inj hN).mp (e1.trans e2.symm)
/-- a name is stored; what changed -/
theorem store_ok2 {M : Model} {A : Around} {E : Value → Shared → Prop} {i : Nat} {x : Str} {v : V} {u : Value} {Q : Unit → Shared → Prop} (I : Inv X pins σ H s) (hN : X.N.Nodup) (hi : X.N[i]? = some x) (hx : Loc X.env.scope x) (r : RelV v u)
    (h : ∀ s', Inv X pins (σ.set i (some v)) H s' → (∃ a, Heap.SameBut a s.heap s'.heap ∧ (a = X.env.locals ∨ X.env.cells.lookup x = some a)) → Q () s') (hf : X.fn x = true ∨ X.env.scope.names.lookup x = some .local := by first | exact .inl rfl | exact .inr rfl | assumption) : wpAny M A (storeName X.env x u) Q E s := by
  obtain ⟨m, hn, hl⟩ := id I.loc
  have hcls : (X.env.scope.kind == .class || (X.env.scope.kind == .module && X.env.locals != X.env.globals)) = false := by rw [I.ok.kind]; rfl
  have hiσ : i < σ.length := by rw [I.len]; exact (List.getElem?_eq_some_iff.mp hi).1
  have cne := I.cne
  have tracked : ∀ {a : Addr} {h' : Heap}, (∃ o, s.heap.get? a = some o ∧ H a = none) → Heap.SameBut a s.heap h' → HOk X.prog X.w H h' := fun {a h'} ha hs b ob e => by
    obtain ⟨_, _, hfree⟩ := ha
    refine (I.hok b ob e).stay (fun c w' hc q => (hs.2 c ?_).trans q) (fun _ q => q) fun _ _ q => q
    rintro rfl
    rcases hc with rfl | hc
    · rw [hfree] at e; cases e
    · rw [hfree] at hc; cases hc
  rcases hx with hk | hk
  · refine wpAny_storeName_local hk hn (fun h' hn' hs => ?_) hcls
    obtain ⟨oL, _, _, hoL, _⟩ := id hn
    refine h _ ⟨I.ok, I.os, I.bare, ⟨fun b o e n hb hx => ?_, fun b o e n hb hx => ?_, I.base.free, fun b o e hx => ?_, I.base.tups, I.base.frzs, I.base.tbls⟩, ⟨_, hn', fun j y v' e1 e2 e3 => ?_⟩, fun y c e => ?_, I.free, I.freeC, fun p hp => ?_, tracked ⟨oL, hoL, I.free⟩ hs, by simpa using I.len⟩ ⟨_, hs, .inl rfl⟩
    · exact (hs.2 b (Nat.ne_of_lt (Nat.lt_of_lt_of_le (Heap.lt_size e) I.ok.above))).trans (I.base.keep b o e n hb hx)
    · obtain ⟨sl, e1⟩ := I.base.slot b o e n hb hx
      exact ⟨sl, (hs.2 b (Nat.ne_of_lt (Nat.lt_of_lt_of_le (Heap.lt_size e) I.ok.above))).trans e1⟩
    · obtain ⟨o', e1⟩ := I.base.there b o e hx
      exact ⟨o', (hs.2 b (Nat.ne_of_lt (Nat.lt_of_lt_of_le (Heap.lt_size e) I.ok.above))).trans e1⟩
    · by_cases hj : j = i
      · subst hj
        rw [hi] at e1; cases e1
        rw [List.getElem?_set_self hiσ] at e2
        cases e2
        exact ⟨u, r, .inl ⟨hk, by simp⟩⟩
      · rw [List.getElem?_set_ne (Ne.symm hj)] at e2
        obtain ⟨u', r', q⟩ := hl j y v' e1 e2 e3
        refine ⟨u', r', ?_⟩
        rcases q with ⟨k, e⟩ | ⟨k, c, e, z⟩
        · refine .inl ⟨k, ?_⟩
          have : y ≠ x := fun e => hj (nodup_ix hN e1 (e ▸ hi))
          simp [this, e]
        · exact .inr ⟨k, c, e, z.sameBut hs (cne y c e)⟩
    · obtain ⟨w', z⟩ := I.cell y c e
      exact ⟨w', z.sameBut hs (cne y c e)⟩
    · obtain ⟨e, n, ne, nf, d⟩ := I.pin p hp
      exact ⟨(hs.2 p.1 ne).trans e, n, ne, nf, d⟩
  · have hfn : X.fn x = true := by
      rcases hf with z | z
      · exact z
      · rw [z] at hk; cases hk
    obtain ⟨c, hc⟩ := I.ok.has x (.inl hk)
    obtain ⟨w', z⟩ := I.cell x c hc
    refine wpAny_storeName_cell I.ok.kind hk hc z (fun h' hc' hs => ?_)
    obtain ⟨oc, hoc, hocd⟩ := id z
    refine h { s with heap := h' } ⟨I.ok, I.os, I.bare, ⟨fun b o e n hb hx => ?_, fun b o e n hb hx => ?_, I.base.free, fun b o e hx => ?_, I.base.tups, I.base.frzs, I.base.tbls⟩, ⟨m, hn.sameBut hs (Ne.symm (cne x c hc)), fun j y v' e1 e2 e3 => ?_⟩, fun y c' e => ?_, I.free, I.freeC, fun p hp => ?_, tracked ⟨oc, hoc, I.freeC x c hc⟩ hs, by simpa using I.len⟩ ⟨c, hs, .inr hc⟩
    · exact (hs.2 b (Nat.ne_of_lt (Nat.lt_of_lt_of_le (Heap.lt_size e) (I.ok.cab x c hfn hc)))).trans (I.base.keep b o e n hb hx)
    · obtain ⟨sl, e1⟩ := I.base.slot b o e n hb hx
      exact ⟨sl, (hs.2 b (Nat.ne_of_lt (Nat.lt_of_lt_of_le (Heap.lt_size e) (I.ok.cab x c hfn hc)))).trans e1⟩
    · obtain ⟨o', e1⟩ := I.base.there b o e hx
      exact ⟨o', (hs.2 b (Nat.ne_of_lt (Nat.lt_of_lt_of_le (Heap.lt_size e) (I.ok.cab x c hfn hc)))).trans e1⟩
    · by_cases hj : j = i
      · subst hj
        rw [hi] at e1; cases e1
        rw [List.getElem?_set_self hiσ] at e2
        cases e2
        exact ⟨u, r, .inr ⟨.inl hk, c, hc, hc'⟩⟩
      · rw [List.getElem?_set_ne (Ne.symm hj)] at e2
        obtain ⟨u', r', q⟩ := hl j y v' e1 e2 e3
        refine ⟨u', r', ?_⟩
        rcases q with q | ⟨k, c', e, z'⟩
        · exact .inl q
        · refine .inr ⟨k, c', e, z'.sameBut hs ?_⟩
          rintro rfl
          exact hj (nodup_ix hN e1 (I.ok.inj _ _ _ e hc ▸ hi))
    · by_cases hcc : c' = c
      · subst hcc; exact ⟨_, hc'⟩
      · obtain ⟨w2, z2⟩ := I.cell y c' e
        exact ⟨w2, z2.sameBut hs hcc⟩
    · obtain ⟨e, n, ne, nf, d⟩ := I.pin p hp
      refine ⟨(hs.2 p.1 ?_).trans e, n, ne, nf, d⟩
      intro q
      rw [q, hoc] at e
      have q' : oc = p.2 := Option.some.inj e
      exact d w' (by rw [← q']; exact hocd)
theorem store_ok {M : Model} {A : Around} {E : Value → Shared → Prop} {i : Nat} {x : Str} {v : V} {u : Value} {Q : Unit → Shared → Prop} (I : Inv X pins σ H s) (hN : X.N.Nodup) (hi : X.N[i]? = some x) (hx : Loc X.env.scope x) (r : RelV v u)
    (h : ∀ s', Inv X pins (σ.set i (some v)) H s' → Q () s') (hf : X.fn x = true ∨ X.env.scope.names.lookup x = some .local := by first | exact .inl rfl | exact .inr rfl | assumption) : wpAny M A (storeName X.env x u) Q E s :=
  store_ok2 I hN hi hx r (fun s' I' _ => h s' I') hf
/-- behind a call or a block, the state as it is -/
theorem Inv.call' {s' : Shared} {ch : List Addr} (I : Inv X pins σ H s) (ho : s'.os = s.os) (u : Un (frs X.stack) ch H H' s.heap s'.heap) (hok : HOk X.prog X.w H' s'.heap) (hg : AllBare s'.gens)
    (hch : ∀ b ∈ ch, (b ∈ X.ex ∨ X.s₀.heap.objs.size ≤ b) ∧ b ≠ X.env.locals ∧ (∀ x c, X.env.cells.lookup x = some c → c ≠ b) ∧ ∀ p ∈ X.pn ++ pins, p.1 ≠ b) : Inv X pins σ H' s' := by
  obtain ⟨h', g', d', t', o'⟩ := s'
  have e : o' = s.os := ho
  subst e
  exact I.call (g' := g') (t' := t') (d' := d') u hok hg hch
end
/-! ### the judgements -/
/-- an exception: its class, its own dict's address (where it has one), the abstract heap behind it -/
abbrev XK := Value → Option Addr → Hp → Prop
abbrev St := List (Option V)
abbrev VK := V → Hp → Prop
/-- an expression's reading; a test's; an argument list's -/
abbrev TE := St → Hp → VK → Prop
abbrev TT := St → Hp → (Bool → Hp → Prop) → Prop
abbrev TA := St → Hp → (List V → Hp → Prop) → Prop
/-- what is wanted behind a statement -/
structure Ends where
  nx : St → Hp → Prop
  rt : VK
  bk : St → Hp → Prop := fun _ _ => False
  ct : St → Hp → Prop := fun _ _ => False
abbrev TS := Ends → St → Hp → Prop
def EP (X : Cx) (pins : List (Addr × Obj)) (σ : St) (Q : VK) (u : Value) (s' : Shared) : Prop := ∃ v H', Inv X pins σ H' s' ∧ RelV v u ∧ Q v H'
def TP (X : Cx) (pins : List (Addr × Obj)) (σ : St) (Q : Bool → Hp → Prop) (b : Bool) (s' : Shared) : Prop := ∃ H', Inv X pins σ H' s' ∧ Q b H'
def AP (X : Cx) (pins : List (Addr × Obj)) (σ : St) (Q : List V → Hp → Prop) (us : List Value) (s' : Shared) : Prop := ∃ vs H', Inv X pins σ H' s' ∧ Vals vs us ∧ Q vs H'
def SP (X : Cx) (pins : List (Addr × Obj)) (D : Ends) (f : Flow) (s' : Shared) : Prop :=
  match f with
  | .next => ∃ σ' H', Inv X pins σ' H' s' ∧ D.nx σ' H'
  | .brk => ∃ σ' H', Inv X pins σ' H' s' ∧ D.bk σ' H'
  | .cont => ∃ σ' H', Inv X pins σ' H' s' ∧ D.ct σ' H'
  | .ret u => ∃ v σ' H', Inv X pins σ' H' s' ∧ RelV v u ∧ D.rt v H'
def PE (X : Cx) (e : Expr) (t : TE) : Prop :=
  ∀ (pins : List (Addr × Obj)) (s : Shared) (σ : St) (H : Hp) (Q : VK), Inv X pins σ H s → t σ H Q → wpAny (model X.prog X.w) X.A (eval e X.env) (EP X pins σ Q) X.xe s
def PT (X : Cx) (e : Expr) (t : TT) : Prop :=
  ∀ (pins : List (Addr × Obj)) (s : Shared) (σ : St) (H : Hp) (Q : Bool → Hp → Prop), Inv X pins σ H s → t σ H Q → wpAny (model X.prog X.w) X.A (isTrue e X.env (eval e X.env)) (TP X pins σ Q) X.xe s
/-- a test whatever its 'whole' is (and, or) -/
def PW (X : Cx) (e : Expr) (t : TT) : Prop :=
  ∀ (whole : Sem Value) (pins : List (Addr × Obj)) (s : Shared) (σ : St) (H : Hp) (Q : Bool → Hp → Prop), Inv X pins σ H s → t σ H Q → wpAny (model X.prog X.w) X.A (isTrue e X.env whole) (TP X pins σ Q) X.xe s
theorem PW.pt {X : Cx} {e : Expr} {t : TT} (h : PW X e t) : PT X e t := h _
/-- an argument list (no star), from the left -/
def PA (X : Cx) (es : List Expr) (t : TA) : Prop :=
  ∀ (pos : Pos) (pins : List (Addr × Obj)) (s : Shared) (σ : St) (H : Hp) (Q : List V → Hp → Prop), Inv X pins σ H s → t σ H Q → wpAny (model X.prog X.w) X.A (spliced (backTo pos (starEach es X.env))) (AP X pins σ Q) X.xe s
def PS (X : Cx) (st : Stmt) (t : TS) : Prop :=
  ∀ (pins : List (Addr × Obj)) (s : Shared) (σ : St) (H : Hp) (D : Ends), Inv X pins σ H s → t D σ H → wpAny (model X.prog X.w) X.A (exec st X.env) (SP X pins D) X.xe s
def PSs (X : Cx) (st : List Stmt) (t : TS) : Prop :=
  ∀ (pins : List (Addr × Obj)) (s : Shared) (σ : St) (H : Hp) (D : Ends), Inv X pins σ H s → t D σ H → wpAny (model X.prog X.w) X.A (execs st X.env) (SP X pins D) X.xe s
/-- weaken the end -/
theorem thn {α : Type} {t : Sem α} {Q Q' : α → Shared → Prop} {M : Model} {A : Around} {E : Value → Shared → Prop} {s : Shared} (h : wpAny M A t Q E s) (hQ : ∀ a s, Q a s → Q' a s) : wpAny M A t Q' E s := wpAny_mono h hQ fun _ _ x => x
end L2
namespace L2
open PySem PySem.Spec PyProof.Rows
section
variable {X : Cx}
/-- two expressions in a row -/
theorem bin {a b : Expr} {ta tb : TE} (ha : PE X a ta) (hb : PE X b tb) {pins : List (Addr × Obj)} {s : Shared} {σ : St} {H : Hp} {R : V → V → Hp → Prop} (I : Inv X pins σ H s) (h : ta σ H fun x H1 => tb σ H1 fun y H2 => R x y H2)
    {α : Type} {Q : α → Shared → Prop} {f : Value → Value → Sem α}
    (hf : ∀ v u s2 x y H2, Inv X pins σ H2 s2 → RelV x v → RelV y u → R x y H2 → wpAny (model X.prog X.w) X.A (f v u) Q X.xe s2) :
    wpAny (model X.prog X.w) X.A (eval a X.env) (fun v s₁ => wpAny (model X.prog X.w) X.A (eval b X.env) (fun u s₂ => wpAny (model X.prog X.w) X.A (f v u) Q X.xe s₂) X.xe s₁) X.xe s := by
  refine thn (ha pins s σ H _ I h) fun v s1 ⟨x, H1, I1, r1, q1⟩ => ?_
  refine thn (hb pins s1 σ H1 _ I1 q1) fun u s2 ⟨y, H2, I2, r2, q2⟩ => ?_
  exact hf v u s2 x y H2 I2 r1 r2 q2
/-! ### names and constants -/
def tVar (i : Nat) : TE := fun σ H Q => ∃ v, σ[i]? = some (some v) ∧ Q v H
def tC (v : V) : TE := fun _ H Q => Q v H
theorem pe_var {i : Nat} {x : Str} {pos : Pos} (hN : X.N[i]? = some x) (hv : Vis X.env.scope x) (hd : (x == ("__debug__" : Str)) = false := by decide) (hcd : (x == ("__classdict__" : Str)) = false := by decide) : PE X (.Name x pos) (tVar i) := by
  intro pins s σ H Q I h
  obtain ⟨v, e, h⟩ := h
  obtain ⟨m, hn, hl⟩ := I.loc
  obtain ⟨u, r, l⟩ := hl i x v hN e hv
  have fin : EP X pins σ Q u s := ⟨v, H, I, r, h⟩
  rcases l with ⟨hk, hm⟩ | ⟨hk, c, hc, hcell⟩
  · exact wpAny_Name (wpAny_loadName_local I.ok.kind hk hn hm fin) hd
  · rcases hk with hk | hk
    · exact wpAny_Name (wpAny_loadName_cell I.ok.kind hk hc hcell fin) hd
    · exact wpAny_Name (wpAny_loadName_free I.ok.kind hk hc hcell fin hcd) hd
theorem pe_int {i j pos} : PE X (.Constant (.int i) j pos) (tC (.int i)) := fun _ _ _ H _ I h => wpAny_Constant_int ⟨.int i, H, I.tok _, ⟨_, rfl⟩, h⟩
theorem pe_bl {b j pos} : PE X (.Constant (.bool b) j pos) (tC (.bl b)) := fun _ _ _ H _ I h => Constant_bool ⟨.bl b, H, I, rfl, h⟩
theorem pe_str {x j pos} : PE X (.Constant (.str x) j pos) (tC (.str x)) := fun _ _ _ H _ I h => Calls.Constant_str ⟨.str x, H, I.tok _, ⟨_, rfl⟩, h⟩
/-- a global name of the def -/
def Gl (X : Cx) (x : Str) : Prop := X.env.kindOf x = some .globalImplicit
theorem ld_glob {E : Value → Shared → Prop} {pins : List (Addr × Obj)} {s : Shared} {σ : St} {H : Hp} {x : Str} {u : Value} {pos : Pos} {Q : Value → Shared → Prop} (I : Inv X pins σ H s) (hg : Gl X x) (hm : X.mg x = some u) (h : Q u s)
    (hd : (x == ("__debug__" : Str)) = false := by decide) : wpAny (model X.prog X.w) X.A (eval (.Name x pos) X.env) Q E s :=
  Calls.Name_function_global I.ok.kind hg (Calls.loadGlobal_global (by rw [I.ok.glob]; exact I.mod.glob.keeps I.bk) hm h) hd
theorem ld_blt {E : Value → Shared → Prop} {pins : List (Addr × Obj)} {s : Shared} {σ : St} {H : Hp} {x : Str} {u : Value} {pos : Pos} {Q : Value → Shared → Prop} (I : Inv X pins σ H s) (hg : Gl X x) (hm : X.mg x = none) (hv : bootBuiltins x = some u) (h : Q u s)
    (hn : x ≠ "__name__" := by decide) (hd : (x == ("__debug__" : Str)) = false := by decide) : wpAny (model X.prog X.w) X.A (eval (.Name x pos) X.env) Q E s := by
  obtain ⟨mb, h1, h2⟩ := I.mod.blt
  exact Calls.Name_function_global I.ok.kind hg (Calls.loadGlobal_builtin (by rw [I.ok.glob]; exact I.mod.glob.keeps I.bk) hm (by rw [I.ok.blt]; exact h1.keeps I.bk) ((h2 x hn).trans hv) h) hd
/-- a module's constant, a class, a function, as a value -/
theorem pe_glob {x : Str} {v : V} {u : Value} {pos : Pos} (hg : Gl X x) (hm : X.mg x = some u) (r : RelV v u) (hd : (x == ("__debug__" : Str)) = false := by decide) : PE X (.Name x pos) (tC v) :=
  fun _ _ _ H _ I h => ld_glob I hg hm ⟨v, H, I, r, h⟩ hd
theorem pe_bltn {x : Str} {v : V} {u : Value} {pos : Pos} (hg : Gl X x) (hm : X.mg x = none) (hv : bootBuiltins x = some u) (r : RelV v u) (hn : x ≠ "__name__" := by decide) (hd : (x == ("__debug__" : Str)) = false := by decide) : PE X (.Name x pos) (tC v) :=
  fun _ _ _ H _ I h => ld_blt I hg hm hv ⟨v, H, I, r, h⟩ hn hd
/-! ### arithmetic -/
variable {a b : Expr} {ta tb : TE} {pos : Pos}
/-! ### comparisons -/
def PC (X : Cx) (op : CmpOp) (a b : Expr) (t : TE) : Prop :=
  ∀ (pins : List (Addr × Obj)) (s : Shared) (σ : St) (H : Hp) (Q : VK), Inv X pins σ H s → t σ H Q →
    wpAny (model X.prog X.w) X.A (eval a X.env) (fun v s₁ => wpAny (model X.prog X.w) X.A (eval b X.env) (fun u s₂ => wpAny (model X.prog X.w) X.A (compareOp op v u) (EP X pins σ Q) X.xe s₂) X.xe s₁) X.xe s
/-- a comparison as a value, as a test -/
def tB (t : TE) : TT := fun σ H Q => t σ H fun x H1 => ∃ c, x = .bl c ∧ Q c H1
theorem pt_cmp {op : CmpOp} {t : TE} (h : PC X op a b t) (h1 : behindInMarks op b = false := by first | exact nobehind _ (by decide) (by decide) | rfl) : PT X (.Compare a [op] [b] pos) (tB t) := by
  intro pins s σ H Q I hw
  refine wpAny_isTrue_Compare1 (thn (h pins s σ H _ I hw) fun v s1 h1 => thn h1 fun u s2 h2 => thn h2 fun c s3 ⟨x, H1, I1, r1, q1⟩ => ?_) h1
  obtain ⟨d, rfl, q⟩ := q1
  cases r1
  exact wpAny_truthy_bool ⟨H1, I1, q⟩
/-- an expression whose value is a bool, as a test -/
theorem pt_val {e : Expr} {t : TE} (h : PE X e t) (he : ∀ whole, isTrue e X.env whole = (do let v ← whole; standAt e.pos; holding [v] (truthy v)) := by intro _; rfl) : PT X e (tB t) := by
  intro pins s σ H Q I hw
  refine isTrue_plain (thn (h pins s σ H _ I hw) fun v s1 ⟨x, H1, I1, r1, q1⟩ => ?_) (he _)
  obtain ⟨d, rfl, q⟩ := q1
  cases r1
  exact wpAny_truthy_bool ⟨H1, I1, q⟩
/-! ### and, or, not -/
variable {tA tB' : TT} {rest : List Expr}
def tAnd (t u : TT) : TT := fun σ H Q => t σ H fun c H1 => if c = true then u σ H1 Q else Q false H1
def tOr (t u : TT) : TT := fun σ H Q => t σ H fun c H1 => if c = true then Q true H1 else u σ H1 Q
def tNot (t : TT) : TT := fun σ H Q => t σ H fun c H1 => Q (!c) H1
theorem pw_and1 (ha : PT X a tA) : PW X (.BoolOp .And [a] pos) tA := by
  intro wh pins s σ H Q I h
  refine isTrue_and (thn (ha pins s σ H Q I h) fun c s1 e => ?_)
  cases c with
  | true => exact isTrue_and_nil e
  | false => exact e
theorem pw_or1 (ha : PT X a tA) : PW X (.BoolOp .Or [a] pos) tA := by
  intro wh pins s σ H Q I h
  refine isTrue_or (thn (ha pins s σ H Q I h) fun c s1 e => ?_)
  cases c with
  | false => exact isTrue_or_nil e
  | true => exact e
theorem pw_and (ha : PT X a tA) (hb : PW X (.BoolOp .And (b :: rest) pos) tB') : PW X (.BoolOp .And (a :: b :: rest) pos) (tAnd tA tB') := by
  intro wh pins s σ H Q I h
  refine isTrue_and (thn (ha pins s σ H _ I h) fun c s1 ⟨H1, I1, q1⟩ => ?_)
  cases c with
  | true => exact hb wh pins s1 σ H1 Q I1 q1
  | false => exact ⟨H1, I1, q1⟩
theorem pw_or (ha : PT X a tA) (hb : PW X (.BoolOp .Or (b :: rest) pos) tB') : PW X (.BoolOp .Or (a :: b :: rest) pos) (tOr tA tB') := by
  intro wh pins s σ H Q I h
  refine isTrue_or (thn (ha pins s σ H _ I h) fun c s1 ⟨H1, I1, q1⟩ => ?_)
  cases c with
  | true => exact ⟨H1, I1, q1⟩
  | false => exact hb wh pins s1 σ H1 Q I1 q1
theorem pt_not (ha : PT X a tA) : PT X (.UnaryOp .Not a pos) (tNot tA) := by
  intro pins s σ H Q I h
  exact isTrue_not (ha pins s σ H (fun c H1 => Q (!c) H1) I h)
/-- .. as values (bools) -/
def tAndV (ta tb : TE) : TE := fun σ H Q => ta σ H fun x H1 => ∃ c, x = .bl c ∧ if c = true then tb σ H1 Q else Q (.bl false) H1
def tNotV (ta : TE) : TE := fun σ H Q => ta σ H fun x H1 => ∃ c, x = .bl c ∧ Q (.bl (!c)) H1
theorem pe_one {op} {t : TE} (h : PE X a t) : PE X (.BoolOp op [a] pos) t := fun pins s σ H Q I hw => BoolOp_one (h pins s σ H Q I hw)
theorem pe_and (ha : PE X a ta) (hb : PE X (.BoolOp .And (b :: rest) pos) tb) : PE X (.BoolOp .And (a :: b :: rest) pos) (tAndV ta tb) := by
  intro pins s σ H Q I h
  refine BoolOp_and (thn (ha pins s σ H _ I h) fun v s1 ⟨x, H1, I1, r1, q1⟩ => ?_)
  obtain ⟨c, rfl, q1⟩ := q1
  cases r1
  refine wpAny_truthy_bool ?_
  cases c with
  | true => exact hb pins s1 σ H1 Q I1 q1
  | false => exact ⟨.bl false, H1, I1, rfl, q1⟩
theorem pe_not (ha : PE X a ta) : PE X (.UnaryOp .Not a pos) (tNotV ta) := by
  intro pins s σ H Q I h
  refine UnaryOp_ (thn (ha pins s σ H _ I h) fun v s1 ⟨x, H1, I1, r1, q1⟩ => ?_)
  obtain ⟨c, rfl, q1⟩ := q1
  cases r1
  exact not_of (wpAny_truthy_bool ⟨.bl (!c), H1, I1, rfl, q1⟩)
/-- a if t else b -/
def tIf (t : TT) (ta tb : TE) : TE := fun σ H Q => t σ H fun c H1 => if c = true then ta σ H1 Q else tb σ H1 Q
theorem pe_ifExp {c : Expr} (hc : PT X c tA) (ha : PE X a ta) (hb : PE X b tb) : PE X (.IfExp c a b pos) (tIf tA ta tb) := by
  intro pins s σ H Q I h
  refine wpAny_IfExp (thn (hc pins s σ H _ I h) fun d s1 ⟨H1, I1, q1⟩ => ?_)
  cases d with
  | true => exact ha pins s1 σ H1 Q I1 q1
  | false => exact hb pins s1 σ H1 Q I1 q1
end
end L2
namespace L2
open PySem PySem.Spec PyProof.Rows
/-! ### a list, a tuple that is read: tracked, frozen, or an object of the module -/
def SqL (K : PySem.W.Frag) (H : Hp) (a : Addr) (xs : List V) : Prop :=
  Rd H a (.lst xs) ∨
    ∃ (o : Obj) (its : Array Value) (n : Nat), K.lookup a = some o ∧ o.cls = .type "list" ∧ o.dict = none ∧ o.data = .seq its n ∧ its.size ≤ sizeLine ∧ Vals xs its.toList
def SqT (K : PySem.W.Frag) (H : Hp) (a : Addr) (xs : List V) : Prop :=
  Rd H a (.tup xs) ∨
    ∃ (o : Obj) (its : Array Value) (n : Nat), K.lookup a = some o ∧ o.cls = .type "tuple" ∧ o.data = .seq its n ∧ its.size ≤ sizeLine ∧ Vals xs its.toList
def absV : Value → Option V
  | .none => some .non
  | .bool b => some (.bl b)
  | .int i _ => some (.int i)
  | .str x _ => some (.str x)
  | .bytes b _ => some (.byt b)
  | .float b _ => some (.flt b)
  | .ref a => some (.ref a)
  | .type n => some (.ty n)
  | _ => none
theorem RelV.abs {x : V} {u : Value} (r : RelV x u) : absV u = some x := by
  cases x with
  | non => cases r; rfl
  | bl _ => cases r; rfl
  | int _ => obtain ⟨t, rfl⟩ := r; rfl
  | str _ => obtain ⟨t, rfl⟩ := r; rfl
  | byt _ => obtain ⟨t, rfl⟩ := r; rfl
  | flt _ => obtain ⟨t, rfl⟩ := r; rfl
  | ref _ => cases r; rfl
  | ty _ => cases r; rfl
theorem RelV.inj {x y : V} {u : Value} (r : RelV x u) (q : RelV y u) : x = y := Option.some.inj (r.abs.symm.trans q.abs)
theorem Vals.inj : ∀ {xs ys : List V} {us : List Value}, Vals xs us → Vals ys us → xs = ys
  | _, _, _, .nil, .nil => rfl
  | _, _, _, .cons r t, .cons r' t' => by rw [r.inj r', Vals.inj t t']
section
variable {X : Cx} {pins : List (Addr × Obj)} {σ : St} {H : Hp} {s : Shared} {a : Addr} {xs ys : List V}
theorem SqL.of {K : PySem.W.Frag} (h : H a = some (.lst xs)) : SqL K H a xs := .inl (.inl h)
theorem SqT.of {K : PySem.W.Frag} (h : H a = some (.tup xs)) : SqT K H a xs := .inl (.inl h)
theorem Inv.list (I : Inv X pins σ H s) (h : SqL X.K H a xs) : ∃ its : List Value, Vals xs its ∧ PlainL s.heap a its.toArray ∧ xs.length ≤ sizeLine := by
  rcases h with h | ⟨o, its, n, hk, hc, hd, hs, hz, r⟩
  · obtain ⟨z, its, n, r, e⟩ := h.ok I.hok
    exact ⟨its, r, ⟨_, n, e, rfl, rfl, rfl⟩, z⟩
  · refine ⟨its.toList, r, ⟨o, n, I.kIn a o hk, hc, hd, by simpa using hs⟩, ?_⟩
    have e := r.length
    simp only [Array.length_toList] at e
    omega
theorem Inv.tuple (I : Inv X pins σ H s) (h : SqT X.K H a xs) : ∃ its : List Value, Vals xs its ∧ IsTup s.heap a its.toArray ∧ xs.length ≤ sizeLine := by
  rcases h with h | ⟨o, its, n, hk, hc, hs, hz, r⟩
  · obtain ⟨z, its, r, p⟩ := h.ok I.hok
    exact ⟨its, r, p, z⟩
  · refine ⟨its.toList, r, ⟨o, I.kIn a o hk, hc, n, by simpa using hs⟩, ?_⟩
    have e := r.length
    simp only [Array.length_toList] at e
    omega
theorem Inv.list_inj (I : Inv X pins σ H s) (h : SqL X.K H a xs) (h' : SqL X.K H a ys) : xs = ys := by
  obtain ⟨its, r, ⟨o, n, e, _, _, d⟩, _⟩ := I.list h
  obtain ⟨its', r', ⟨o', n', e', _, _, d'⟩, _⟩ := I.list h'
  rw [e] at e'; cases e'
  rw [d] at d'
  injection d' with d1 _
  have : its = its' := by simpa using congrArg Array.toList d1
  subst this
  exact r.inj r'
end
/-! ### another wish about exceptions -/
abbrev Cx.wish (X : Cx) (E : Value → Shared → Prop) : Cx := { X with xe := E }
/-- no exception leaves -/
abbrev Cx.nox (X : Cx) : Cx := X.wish fun _ _ => False
theorem Cx.Ok.wish {X : Cx} (ok : X.Ok) (E : Value → Shared → Prop) : (X.wish E).Ok :=
  ⟨ok.mod, ok.kind, ok.glob, ok.blt, ok.above, ok.inj, ok.has, ok.cab, ok.hd, ok.frames, ok.stk, ok.exf, ok.bs, ok.bsz, ok.noex, ok.exfs, ok.funs, ok.frf⟩
theorem Cx.Ok.unwish {X : Cx} {E : Value → Shared → Prop} (ok : (X.wish E).Ok) : X.Ok :=
  ⟨ok.mod, ok.kind, ok.glob, ok.blt, ok.above, ok.inj, ok.has, ok.cab, ok.hd, ok.frames, ok.stk, ok.exf, ok.bs, ok.bsz, ok.noex, ok.exfs, ok.funs, ok.frf⟩
section
variable {X : Cx} {pins : List (Addr × Obj)} {σ : St} {H : Hp} {s : Shared} {E : Value → Shared → Prop}
theorem Inv.wish (I : Inv X pins σ H s) (E : Value → Shared → Prop) : Inv (X.wish E) pins σ H s := ⟨I.ok.wish E, I.os, I.bare, I.base, I.loc, I.cell, I.free, I.freeC, I.pin, I.hok, I.len⟩
theorem Inv.unwish (I : Inv (X.wish E) pins σ H s) : Inv X pins σ H s := ⟨I.ok.unwish, I.os, I.bare, I.base, I.loc, I.cell, I.free, I.freeC, I.pin, I.hok, I.len⟩
theorem SP.unwish {D : Ends} {f : Flow} {s' : Shared} (h : SP (X.wish E) pins D f s') : SP X pins D f s' := by
  cases f with
  | next => obtain ⟨σ', H', I, q⟩ := h; exact ⟨σ', H', I.unwish, q⟩
  | brk => obtain ⟨σ', H', I, q⟩ := h; exact ⟨σ', H', I.unwish, q⟩
  | cont => obtain ⟨σ', H', I, q⟩ := h; exact ⟨σ', H', I.unwish, q⟩
  | ret u => obtain ⟨v, σ', H', I, r, q⟩ := h; exact ⟨v, σ', H', I.unwish, r, q⟩
theorem PSs.nox {st : List Stmt} {t : TS} (h : PSs X.nox st t) : PSs X st t := fun pins s σ H D I hw =>
  wpAny_mono (h pins s σ H D (I.wish _) hw) (fun _ _ q => q.unwish) fun _ _ z => False.elim z
end
/-! ### blocks and small statements -/
section
variable {X : Cx} {st : Stmt} {rest : List Stmt} {t u : TS} {e : Expr} {te : TE} {pos : Pos}
def tNext : TS := fun D σ H => D.nx σ H
def tSeq (t u : TS) : TS := fun D σ H => t { D with nx := u D } σ H
theorem pss_nil : PSs X [] tNext := fun _ _ σ H _ I h => wpAny_execs_nil ⟨σ, H, I, h⟩
theorem pss_cons (h1 : PS X st t) (h2 : PSs X rest u) : PSs X (st :: rest) (tSeq t u) := by
  intro pins s σ H D I h
  refine wpAny_execs_cons (thn (h1 pins s σ H { D with nx := u D } I h) fun f s1 q => ?_)
  cases f with
  | next =>
    obtain ⟨σ', H', I', q⟩ := q
    exact h2 pins s1 σ' H' D I' q
  | ret v => exact q
  | brk => exact q
  | cont => exact q
theorem pss_one (h1 : PS X st t) : PSs X [st] t := by
  intro pins s σ H D I h
  refine wpAny_execs_cons (thn (h1 pins s σ H D I h) fun f s1 q => ?_)
  cases f with
  | next => exact wpAny_execs_nil q
  | ret v => exact q
  | brk => exact q
  | cont => exact q
/-- in a def's body nothing is shown -/
theorem Inv.quiet {pins : List (Addr × Obj)} {σ : St} {H : Hp} {s : Shared} (I : Inv X pins σ H s) : interactive X.env = false := by simp [interactive, I.ok.kind]
/-- an expression whose value is dropped -/
def tDrop (te : TE) : TS := fun D σ H => te σ H fun _ H1 => D.nx σ H1
theorem ps_expr (he : PE X e te) (hs : swapsWith e none pos.line X.env = pure false := by rfl) : PS X (.Expr e pos) (tDrop te) := by
  intro pins s σ H D I h
  exact wpAny_Expr_any (thn (he pins s σ H _ I h) fun v s1 ⟨x, H1, I1, r1, q1⟩ => ⟨σ, H1, I1, q1⟩) I.quiet hs
def tRet (te : TE) : TS := fun D σ H => te σ H D.rt
theorem ps_ret (he : PE X e te) : PS X (.Return (some e) pos) (tRet te) := by
  intro pins s σ H D I h
  exact wpAny_Return_some (thn (he pins s σ H _ I h) fun v s1 ⟨x, H1, I1, r1, q1⟩ => ⟨x, σ, H1, I1, r1, q1⟩)
def tIfS (c : TT) (t u : TS) : TS := fun D σ H => c σ H fun b H1 => if b = true then t D σ H1 else u D σ H1
theorem ps_if {c : Expr} {a b : List Stmt} {tc : TT} (hc : PT X c tc) (ha : PSs X a t) (hb : PSs X b u) : PS X (.If c a b pos) (tIfS tc t u) := by
  intro pins s σ H D I h
  refine wpAny_If (thn (hc pins s σ H _ I h) fun d s1 ⟨H1, I1, q1⟩ => ?_)
  cases d with
  | true => exact ha pins s1 σ H1 D I1 q1
  | false => exact hb pins s1 σ H1 D I1 q1
/-- code that the proof never comes to -/
def tNever : TS := fun _ _ _ => False
theorem ps_never : PS X st tNever := fun _ _ _ _ _ _ h => h.elim
end
/-! ### targets -/
abbrev TG := V → St → Hp → (St → Hp → Prop) → Prop
abbrev TGs := List V → St → Hp → (St → Hp → Prop) → Prop
def PG (X : Cx) (target : Expr) (t : TG) : Prop :=
  ∀ (pins : List (Addr × Obj)) (s : Shared) (σ : St) (H : Hp) (v : V) (u : Value) (Q : St → Hp → Prop), Inv X pins σ H s → RelV v u → t v σ H Q →
    wpAny (model X.prog X.w) X.A (assign target X.env u) (fun _ s' => ∃ σ' H', Inv X pins σ' H' s' ∧ Q σ' H') X.xe s
/-- several targets, one after another -/
def PGs (X : Cx) (ts : List Expr) (t : TGs) : Prop :=
  ∀ (pins : List (Addr × Obj)) (s : Shared) (σ : St) (H : Hp) (vs : List V) (us : List Value) (Q : St → Hp → Prop), Inv X pins σ H s → Vals vs us → t vs σ H Q →
    wpAny (model X.prog X.w) X.A (assignInOrder ((assignEach ts X.env).map (·.2)) us) (fun _ s' => ∃ σ' H', Inv X pins σ' H' s' ∧ Q σ' H') X.xe s
/-- a op= b, by values -/
abbrev TIp := V → V → Hp → VK → Prop
def PIp (X : Cx) (op : Operator) (t : TIp) : Prop :=
  ∀ (pins : List (Addr × Obj)) (s : Shared) (σ : St) (H : Hp) (x y : V) (v u : Value) (Q : VK), Inv X pins σ H s → RelV x v → RelV y u → t x y H Q →
    wpAny (model X.prog X.w) X.A (inplaceOp op v u) (EP X pins σ Q) X.xe s
section
variable {X : Cx} {pos : Pos}
def gName (i : Nat) : TG := fun v σ H Q => Q (σ.set i (some v)) H
theorem pg_name {i : Nat} {x : Str} (hN : X.N.Nodup) (hi : X.N[i]? = some x) (hx : Loc X.env.scope x) (hf : X.fn x = true ∨ X.env.scope.names.lookup x = some .local := by first | exact .inl rfl | exact .inr rfl | assumption) : PG X (.Name x pos) (gName i) := by
  intro pins s σ H v u Q I r h
  exact wpAny_assign_Name (store_ok I hN hi hx r (fun s' I' => ⟨_, H, I', h⟩) hf)
def gNil : TGs := fun vs σ H Q => vs = [] ∧ Q σ H
def gCons (t : TG) (u : TGs) : TGs := fun vs σ H Q => ∃ v r, vs = v :: r ∧ t v σ H fun σ' H' => u r σ' H' Q
theorem pgs_nil : PGs X [] gNil := by
  intro pins s σ H vs us Q I r h
  obtain ⟨e, h⟩ := h
  subst e
  cases r
  exact assignInOrder_nil ⟨σ, H, I, h⟩
theorem pgs_cons {e : Expr} {es : List Expr} {t : TG} {u : TGs} (h1 : PG X e t) (h2 : PGs X es u)
    (hs : (assignEach (e :: es) X.env).map (·.2) = assign e X.env :: (assignEach es X.env).map (·.2) := by rfl) : PGs X (e :: es) (gCons t u) := by
  intro pins s σ H vs us Q I r h
  obtain ⟨v, vr, e1, h⟩ := h
  subst e1
  cases r with
  | cons r rr =>
    rw [hs]
    refine assignInOrder_cons (thn (h1 pins s σ H _ _ _ I r h) fun _ s1 ⟨σ1, H1, I1, q1⟩ => ?_)
    exact h2 pins s1 σ1 H1 _ _ Q I1 rr q1
/-- (a, b, ..) = a tuple of that length -/
def gTup (K : PySem.W.Frag) (n : Nat) (t : TGs) : TG := fun v σ H Q => ∃ a xs, v = .ref a ∧ SqT K H a xs ∧ xs.length = n ∧ t xs σ H Q
theorem pg_tup {es : List Expr} {k : Nat} {t : TGs} {n : Nat} (hc : X.calm = true) (h : PGs X es t)
    (hn : (assignEach es X.env).length = n := by rfl) (hst : (assignEach es X.env).findIdx? (·.1) = none := by rfl) : PG X (.Tuple es k pos) (gTup X.K n t) := by
  intro pins s σ H v u Q I r hw
  obtain ⟨a, xs, e1, hq, hl, hw⟩ := hw
  subst e1
  cases r
  obtain ⟨its, rv, ht, hz⟩ := I.tuple hq
  refine assign_Tuple_tuple (I.ok.hd hc) ht (by simp [hn, ← hl, rv.length]) hst fun h' hx => ?_
  have I1 : Inv X pins σ H { s with heap := h' } := I.kept (t' := s.toks) fun b o e => hx b o (Nat.ne_of_lt (Heap.lt_size e)) e
  exact h pins _ σ H xs _ Q I1 (by simpa using rv) hw
/-- target = value -/
def tAsg (te : TE) (g : TG) : TS := fun D σ H => te σ H fun x H1 => g x σ H1 D.nx
theorem ps_asg {tg e : Expr} {te : TE} {g : TG} (he : PE X e te) (hg : PG X tg g) (hs : swapsWithSole [tg] e pos.line X.env = pure false := by rfl) (hw : swappedStores [tg] e X.env = pure none := by rfl)
    (h1 : (assignEach [tg] X.env).map (·.2) = [assign tg X.env] := by rfl) : PS X (.Assign [tg] e pos) (tAsg te g) := by
  intro pins s σ H D I h
  refine wpAny_Assign_stores (thn (he pins s σ H _ I h) fun v s1 ⟨x, H1, I1, r1, q1⟩ => ?_) hs hw
  rw [h1]
  exact thn (hg pins s1 σ H1 x v _ I1 r1 q1) fun _ s2 q => q
/-- name = value -/
theorem ps_set {i : Nat} {x : Str} {e : Expr} {te : TE} {pos' : Pos} (hN : X.N.Nodup) (hi : X.N[i]? = some x) (hx : Loc X.env.scope x) (he : PE X e te) (hs : swapsWith e (some (.Name x pos')) pos.line X.env = pure false := by rfl) (hf : X.fn x = true ∨ X.env.scope.names.lookup x = some .local := by first | exact .inl rfl | exact .inr rfl | assumption) :
    PS X (.Assign [.Name x pos'] e pos) (tAsg te (gName i)) := by
  intro pins s σ H D I h
  refine wpAny_Assign_Name (thn (he pins s σ H _ I h) fun v s1 ⟨y, H1, I1, r1, q1⟩ => ?_) hs
  exact store_ok I1 hN hi hx r1 (fun s2 I2 => ⟨_, H1, I2, q1⟩) hf
/-- a, b = x, y with plain local names: stored from the right; the pair itself is not tracked (the opening rows as in PyProof/Rows/TupAssign.lean:23) -/
def tPar (i j : Nat) (ta : TA) : TS := fun D σ H => ta σ H fun vs H1 => ∃ v w, vs = [v, w] ∧ D.nx ((σ.set i (some v)).set j (some w)) H1
theorem ps_par {i j : Nat} {x y : Str} {a b : Expr} {ta : TA} {px py pt : Pos} {kt k2 pt2} (hc : X.calm = true) (hN : X.N.Nodup) (hi : X.N[i]? = some x) (hj : X.N[j]? = some y) (hij : i ≠ j)
    (hx : X.env.scope.names.lookup x = some .local) (hy : X.env.scope.names.lookup y = some .local) (ha : PA X [a, b] ta)
    (hw : swappedStores [.Tuple [.Name x px, .Name y py] kt pt] (.Tuple [a, b] k2 pt2) X.env = pure (some [x, y]))
    (hs : swapsWithSole [.Tuple [.Name x px, .Name y py] kt pt] (.Tuple [a, b] k2 pt2) pos.line X.env = pure false := by rfl) :
    PS X (.Assign [.Tuple [.Name x px, .Name y py] kt pt] (.Tuple [a, b] k2 pt2) pos) (tPar i j ta) := by
  intro pins s σ H D I h
  rw [exec_Assign_arm]
  refine wpAny_bind (wpAny_standAt ?_)
  rw [hs]
  refine wpAny_bind (wpAny_pure ?_)
  rw [if_neg (by decide)]
  refine wpAny_bind (Tuple_ (thn (ha _ pins s σ H _ I h) fun us s1 ⟨vs, H1, I1, r1, q1⟩ => ?_))
  obtain ⟨v, w, e1, q1⟩ := q1
  subst e1
  obtain ⟨u1, u2, rfl, rv, rw'⟩ : ∃ u1 u2, us = [u1, u2] ∧ RelV v u1 ∧ RelV w u2 := by
    cases r1 with
    | cons p q =>
      cases q with
      | cons p' q' =>
        cases q'
        exact ⟨_, _, rfl, p, p'⟩
  refine wpAny_newObj_type ?_ (by show 2 ≤ sizeLine; decide)
  have I2 : Inv X pins σ H1 { s1 with heap := s1.heap.push { cls := .type "tuple", data := .seq [u1, u2].toArray } } := I1.kept (t' := s1.toks) fun b o e => Heap.get?_push_of_some _ e
  rw [hw]
  refine wpAny_bind (wpAny_pure ?_)
  show wpAny (model X.prog X.w) X.A (do rule "assign.swapped-stores"; let items ← unpackItems (.ref s1.heap.objs.size) 2 none; assignInOrder [fun v => bindName X.env y v, fun v => bindName X.env x v] items.reverse; pure Flow.next) _ _ _
  refine wpAny_bind (wpAny_rule (wpAny_bind (unpackItems_tuple (items := #[u1, u2]) (I.ok.hd hc) (IsTup.new s1.heap _) fun h' hx' => ?_)))
  have I3 := I2.kept (h' := h') (t' := s1.toks) fun b o e => hx' b o (Nat.ne_of_lt (Heap.lt_size e)) e
  show wpAny _ _ (assignInOrder [fun v => bindName X.env y v, fun v => bindName X.env x v] [u2, u1] >>= fun _ => pure Flow.next) _ _ _
  refine wpAny_bind (assignInOrder_cons (wpAny_bindName (store_ok I3 hN hj (.inl hy) rw' (fun s2 I4 => ?_) (.inr hy))))
  refine assignInOrder_cons (wpAny_bindName (store_ok I4 hN hi (.inl hx) rv (fun s3 I5 => assignInOrder_nil (wpAny_pure ?_)) (.inr hx)))
  rw [List.set_comm _ _ (Ne.symm hij)] at I5
  exact ⟨_, H1, I5, q1⟩
/-- name op= e -/
def tAug (i : Nat) (te : TE) (ti : TIp) : TS := fun D σ H => ∃ x, σ[i]? = some (some x) ∧ te σ H fun y H1 => ti x y H1 fun z H2 => D.nx (σ.set i (some z)) H2
theorem ps_aug {i : Nat} {x : Str} {e : Expr} {te : TE} {op : Operator} {ti : TIp} {pos' : Pos} (hN : X.N.Nodup) (hi : X.N[i]? = some x) (hx : Loc X.env.scope x) (he : PE X e te) (ho : PIp X op ti) (hf : X.fn x = true ∨ X.env.scope.names.lookup x = some .local := by first | exact .inl rfl | exact .inr rfl | assumption) :
    PS X (.AugAssign (.Name x pos') op e pos) (tAug i te ti) := by
  intro pins s σ H D I h
  obtain ⟨v, e1, h⟩ := h
  obtain ⟨m, hn, hl⟩ := I.loc
  have vis : Vis X.env.scope x := by rcases hx with k | k; exact .inl k; exact .inr (.inl k)
  obtain ⟨u, r, l⟩ := hl i x v hi e1 vis
  refine wpAny_AugAssign_Name ?_
  have go : wpAny (model X.prog X.w) X.A (eval e X.env) (fun w s₂ => wpAny (model X.prog X.w) X.A (inplaceOp op u w) (fun r s₃ => wpAny (model X.prog X.w) X.A (storeName X.env x r) (fun _ => SP X pins D .next) X.xe s₃) X.xe s₂) X.xe s := by
    refine thn (he pins s σ H _ I h) fun w s1 ⟨y, H1, I1, r1, q1⟩ => ?_
    refine thn (ho pins s1 σ H1 v y u w _ I1 r r1 q1) fun z s2 ⟨zv, H2, I2, r2, q2⟩ => ?_
    exact store_ok I2 hN hi hx r2 (fun s3 I3 => ⟨_, H2, I3, q2⟩) hf
  rcases l with ⟨hk, hm⟩ | ⟨hk, c, hc, hcell⟩
  · exact wpAny_loadName_local I.ok.kind hk hn hm go
  · rcases hk with hk | hk
    · exact wpAny_loadName_cell I.ok.kind hk hc hcell go
    · rcases hx with k | k
      · have : X.env.scope.names.lookup x = some .free := hk
        rw [k] at this; cases this
      · have : X.env.scope.names.lookup x = some .free := hk
        rw [k] at this; cases this
/-- ints -/
def ipI (f : Int → Int → Int) : TIp := fun x y H Q => ∃ i j, x = .int i ∧ y = .int j ∧ Q (.int (f i j)) H
theorem ip_add : PIp X .Add (ipI fun i j => i + j) := by
  intro pins s σ H x y v u Q I r1 r2 h
  obtain ⟨i, j, e1, e2, q⟩ := h
  subst e1; subst e2
  obtain ⟨t, rfl⟩ := r1
  obtain ⟨t', rfl⟩ := r2
  exact iadd_int ⟨.int _, H, I.tok _, ⟨_, rfl⟩, q⟩
end
/-! ### while -/
section
variable {X : Cx} {pos : Pos}
/-- the invariant W with its measure -/
def tWhile (c : TT) (tb : TS) : TS := fun D σ H => ∃ W : Nat → St → Hp → Prop, (∃ m, W m σ H) ∧ ∀ m σ H, W m σ H →
  c σ H fun b H1 => if b = true then ∃ N : St → Hp → Prop, (∀ σ' H', N σ' H' → ∃ m', m' < m ∧ W m' σ' H') ∧ tb { D with nx := N, ct := N, bk := D.nx } σ H1 else D.nx σ H1
theorem ps_while {c : Expr} {body : List Stmt} {tc : TT} {tb : TS} (hp : PassesOwn (model X.prog X.w) X.A X.env X.xe) (hc : PT X c tc) (hb : PSs X body tb) : PS X (.While c body [] pos) (tWhile tc tb) := by
  intro pins s σ H D I h
  obtain ⟨W, ⟨m0, w0⟩, turn⟩ := h
  refine wpAny_While (codeAny_whileLoop (fun n s' => ∃ σ' H', Inv X pins σ' H' s' ∧ W n σ' H') ?_ m0 ⟨σ, H, I, w0⟩)
  rintro n s1 ⟨σ1, H1, I1, w1⟩
  refine wpAny_passesOwn hp (thn (hc pins s1 σ1 H1 _ I1 (turn n σ1 H1 w1)) fun b s2 ⟨H2, I2, q2⟩ => ?_)
  cases b with
  | true =>
    obtain ⟨N, hN, q2⟩ := q2
    rw [if_pos rfl]
    refine wpAny_passesOwn hp (thn (hb pins s2 σ1 H2 _ I2 q2) fun f s3 q3 => ?_)
    cases f with
    | next =>
      obtain ⟨σ3, H3, I3, n3⟩ := q3
      obtain ⟨m', hm, w3⟩ := hN σ3 H3 n3
      exact ⟨m', hm, σ3, H3, I3, w3⟩
    | cont =>
      obtain ⟨σ3, H3, I3, n3⟩ := q3
      obtain ⟨m', hm, w3⟩ := hN σ3 H3 n3
      exact ⟨m', hm, σ3, H3, I3, w3⟩
    | brk => exact q3
    | ret v => exact q3
  | false =>
    rw [if_neg Bool.false_ne_true]
    exact wpAny_execs_nil ⟨σ1, H2, I2, q2⟩
end
/-! ### what a loop or a comprehension walks -/
/-- at turn i: it yields x (the heap may grow), or it stops -/
structure It where
  go : Nat → Hp → Prop
  yld : Nat → Hp → V → Hp → Prop
  stop : Nat → Hp → Prop
/-- the iterator's own objects may turn: they are not the frame's, not pinned, younger than the entry (or a comprehension's own) -/
def FpOk (X : Cx) (pins : List (Addr × Obj)) (H : Hp) (b : Addr) : Prop :=
  H b = none ∧ b ≠ X.env.locals ∧ b ∉ X.fs ∧ (b ∈ X.ex ∨ X.s₀.heap.objs.size ≤ b) ∧ (∀ x c, X.env.cells.lookup x = some c → c ≠ b) ∧ ∀ p ∈ X.pn ++ pins, p.1 ≠ b
theorem Inv.fpOk {X : Cx} {pins : List (Addr × Obj)} {σ : St} {H H' : Hp} {s : Shared} {b : Addr} (I : Inv X pins σ H s) (hb : s.heap.objs.size ≤ b) (hn : H' b = none) : FpOk X pins H' b := by
  refine ⟨hn, Nat.ne_of_gt (Nat.lt_of_lt_of_le I.lt hb), I.nofs hb, .inr (Nat.le_trans I.sz hb), fun x c e z => ?_, fun p hp z => ?_⟩
  · obtain ⟨v, q⟩ := I.cell x c e
    exact absurd (Nat.lt_of_lt_of_le q.lt (by rw [z]; exact hb)) (Nat.lt_irrefl _)
  · exact absurd (Nat.lt_of_lt_of_le (Heap.lt_size (I.pin p hp).1) (by rw [z]; exact hb)) (Nat.lt_irrefl _)
structure Turn (P : Program) (w : World) (K : PySem.W.Frag) (tg : Expr) (J : It) (fp : List Addr) (it : Addr) (tn : Nat → Heap → Prop) : Prop where
  mem : it ∈ fp
  obj : ∀ i h, tn i h → ∀ b ∈ fp, ∃ o, h.get? b = some o ∧ ∀ v, o.data ≠ .cell v
  keep : ∀ i h h', tn i h → (∀ b ∈ fp, ∀ o, h.get? b = some o → h'.get? b = some o) → tn i h'
  item : ∀ (X : Cx), X.prog = P → X.w = w → X.K = K → X.calm = true → ∀ (i : Nat) (pins : List (Addr × Obj)) (s : Shared) (σ : St) (H : Hp) (E : Value → Shared → Prop), Inv X pins σ H s → (∀ b ∈ fp, FpOk X pins H b) → tn i s.heap → J.go i H →
    wpAny (model P w) X.A (pyNext (.ref it)) (fun r s1 => ∃ u, r = some u ∧
      wpAny (model P w) X.A (letOwnedTupleGo tg (.ref it) u) (fun _ s2 => ∃ x H', Inv X pins σ H' s2 ∧ RelV x u ∧ J.yld i H x H' ∧ tn (i + 1) s2.heap ∧ ∀ b ∈ fp, H' b = none) E s1) E s
  done : ∀ (X : Cx), X.prog = P → X.w = w → X.K = K → X.calm = true → ∀ (i : Nat) (pins : List (Addr × Obj)) (s : Shared) (σ : St) (H : Hp) (E : Value → Shared → Prop), Inv X pins σ H s → (∀ b ∈ fp, FpOk X pins H b) → tn i s.heap → J.stop i H →
    wpAny (model P w) X.A (pyNext (.ref it)) (fun r s1 => r = none ∧ Inv X pins σ H s1) E s
  self : ∀ (A : Around) (i : Nat) (s : Shared) (Q : Value → Shared → Prop) (E : Value → Shared → Prop), tn i s.heap → Q (.ref it) s → wpAny (model P w) A (pyIter (.ref it)) Q E s
abbrev TI := St → Hp → (It → Hp → Prop) → Prop
/-- an iterator has come -/
def PIE (X : Cx) (pins : List (Addr × Obj)) (σ : St) (tg : Expr) (R : It → Hp → Prop) (itv : Value) (s2 : Shared) : Prop :=
  ∃ (it : Addr) (fp : List Addr) (tn : Nat → Heap → Prop) (J : It) (H' : Hp), itv = .ref it ∧ Inv X pins σ H' s2 ∧ Turn X.prog X.w X.K tg J fp it tn ∧ tn 0 s2.heap ∧ (∀ b ∈ fp, FpOk X pins H' b) ∧ R J H'
def PI (X : Cx) (tg iter : Expr) (wi : TI) : Prop :=
  ∀ (pins : List (Addr × Obj)) (s : Shared) (σ : St) (H : Hp) (R : It → Hp → Prop), Inv X pins σ H s → wi σ H R →
    wpAny (model X.prog X.w) X.A (eval iter X.env) (fun v s1 => wpAny (model X.prog X.w) X.A (pyIter v) (PIE X pins σ tg R) X.xe s1) X.xe s
/-- the step ahead of the store is nothing for an iterator that keeps no tuple -/
theorem go_of {M : Model} {A : Around} {E : Value → Shared → Prop} {s : Shared} {tg : Expr} {it : Addr} {u : Value} {o : Obj} {n : String} {vs : Array Value} {Q : Unit → Shared → Prop} (ho : s.heap.get? it = some o) (hc : o.cls = .type n) (hd : o.data = .fields vs)
    (hn : ["enumerate", "zip", "dict_itemiterator", "dict_reverseitemiterator", "odict_iterator", "itertools.zip_longest", "itertools.pairwise"].contains n = false) (hQ : Q () s) : wpAny M A (letOwnedTupleGo tg (.ref it) u) Q E s := by
  unfold letOwnedTupleGo
  cases tg <;> first
    | exact wpAny_pure hQ
    | (cases u <;> first
        | exact wpAny_pure hQ
        | (refine wpAny_bind (wpAny_load ho ?_)
           rw [hc, hd]
           show wpAny M A (if (["enumerate", "zip", "dict_itemiterator", "dict_reverseitemiterator", "odict_iterator", "itertools.zip_longest", "itertools.pairwise"].contains n && vs[0]? == some (rawInt _)) = true then _ else _) Q E s
           rw [if_neg (by intro h; rw [hn, Bool.false_and] at h; cases h)]
           exact wpAny_pure hQ))
/-- the list at a, as it stands at each turn (a loop may append to it) -/
def Itl (K : PySem.W.Frag) (a : Addr) : It :=
  ⟨fun i H => ∃ xs x, SqL K H a xs ∧ xs[i]? = some x, fun i H x H' => H' = H ∧ ∀ xs, SqL K H a xs → xs[i]? = some x, fun i H => ∃ xs, SqL K H a xs ∧ xs.length ≤ i⟩
theorem turn_list {P : Program} {w : World} {K : PySem.W.Frag} {tg : Expr} (a it : Addr) : Turn P w K tg (Itl K a) [it] it (fun i h => h.IsListIter it a i) where
  mem := by simp
  obj := fun i h st b hb => by
    have e : b = it := by simpa using hb
    subst e
    obtain ⟨o, e, c, d⟩ := st
    exact ⟨o, e, fun v z => by rw [d] at z; cases z⟩
  keep := fun i h h' st k => st.at fun o e => k it (by simp) o e
  item := by
    intro X hP hw hK hc i pins s σ H E I hf st hg
    subst hP hw hK
    obtain ⟨xs, x, hq, hx⟩ := hg
    obtain ⟨its, rv, p, hz⟩ := I.list hq
    obtain ⟨u, hu, ru⟩ := rv.get hx
    obtain ⟨f0, f1, f2, f3, f4, f5⟩ := hf it (by simp)
    refine wpAny_pyNext_list_item st p.isList (x := u) (by simpa using hu) fun h' st' sb => ?_
    have I1 : Inv X pins σ H { s with heap := h' } := I.turned (t' := s.toks) (fun b o hb e => (sb.2 b hb).trans e) f0 f1 f3 f4 f5
    obtain ⟨o, e, c, d⟩ := id st'
    exact ⟨u, rfl, go_of (s := { s with heap := h' }) e c d (by decide) ⟨x, H, I1, ru, ⟨rfl, fun ys hy => by rw [I.list_inj hy hq]; exact hx⟩, st', fun b hb => (hf b hb).1⟩⟩
  done := by
    intro X hP hw hK hc i pins s σ H E I hf st hg
    subst hP hw hK
    obtain ⟨xs, hq, hx⟩ := hg
    obtain ⟨its, rv, p, hz⟩ := I.list hq
    obtain ⟨f0, f1, f2, f3, f4, f5⟩ := hf it (by simp)
    have hl := rv.length
    exact wpAny_pyNext_list_end (I.ok.hd hc) st p.isList (by simp; omega) fun h' eb => ⟨rfl, I.turned (t' := s.toks) (fun b o hb e => eb b o hb e) f0 f1 f3 f4 f5⟩
  self := fun _ _ _ _ _ st h => wpAny_pyIter_listiter st h
end L2
namespace L2
open PySem PySem.Spec PyProof.Rows
section
variable {X : Cx} {tg : Expr}
def iList (K : PySem.W.Frag) (tl : TE) : TI := fun σ H R => tl σ H fun x H1 => ∃ a, x = .ref a ∧ (∃ xs, SqL K H1 a xs) ∧ R (Itl K a) H1
theorem pi_list {l : Expr} {tl : TE} (hl : PE X l tl) : PI X tg l (iList X.K tl) := by
  intro pins s σ H R I h
  refine thn (hl pins s σ H _ I h) fun v s1 ⟨x, H1, I1, r1, q1⟩ => ?_
  obtain ⟨a, e, ⟨xs, hq⟩, q⟩ := q1
  subst e
  cases r1
  obtain ⟨its, rv, p, hz⟩ := I1.list hq
  refine wpAny_pyIter_list p.isList ?_
  refine ⟨s1.heap.objs.size, [s1.heap.objs.size], _, _, H1, rfl, I1.kept (t' := s1.toks) fun b o e => Heap.get?_push_of_some _ e, turn_list a _, ⟨_, Heap.get?_push_size _ rfl, rfl, rfl⟩, fun b hb => ?_, q⟩
  have e : b = s1.heap.objs.size := by simpa using hb
  subst e
  exact I1.fpOk (Nat.le_refl _) (I1.hok.fresh (Nat.le_refl _))
/-! ### for -/
/-- W: the invariant by the turn and a measure; N: what the body is to reach -/
def tFor (wi : TI) (g : TG) (tb : TS) : TS := fun D σ H => wi σ H fun J H1 => ∃ W : Nat → Nat → St → Hp → Prop, (∃ m, W 0 m σ H1) ∧ ∀ i m σ H, W i m σ H →
  (J.stop i H ∧ D.nx σ H) ∨ (J.go i H ∧ ∃ N : St → Hp → Prop, (∀ σ' H', N σ' H' → ∃ m', m' < m ∧ W (i + 1) m' σ' H') ∧ ∀ x H', J.yld i H x H' → g x σ H' fun σ2 H2 => tb { D with nx := N, ct := N, bk := D.nx } σ2 H2)
/-- the records at fp as they stand -/
def pinsAt (fp : List Addr) (h : Heap) : List (Addr × Obj) := fp.filterMap fun b => (h.get? b).map fun o => (b, o)
theorem mem_pinsAt {fp : List Addr} {h : Heap} {b : Addr} {o : Obj} (hb : b ∈ fp) (e : h.get? b = some o) : (b, o) ∈ pinsAt fp h := List.mem_filterMap.mpr ⟨b, hb, by rw [e]; rfl⟩
theorem of_pinsAt {fp : List Addr} {h : Heap} {p : Addr × Obj} (hp : p ∈ pinsAt fp h) : p.1 ∈ fp ∧ h.get? p.1 = some p.2 := by
  obtain ⟨b, hb, e⟩ := List.mem_filterMap.mp hp
  cases q : h.get? b with
  | none => rw [q] at e; cases e
  | some o =>
    rw [q] at e
    have e' : (b, o) = p := Option.some.inj e
    subst e'
    exact ⟨hb, q⟩
theorem Inv.pinned {pins : List (Addr × Obj)} {σ : St} {H : Hp} {s : Shared} {fp : List Addr} (I : Inv X pins σ H s) (hf : ∀ b ∈ fp, FpOk X pins H b) (ho : ∀ b ∈ fp, ∃ o, s.heap.get? b = some o ∧ ∀ v, o.data ≠ .cell v) : Inv X (pins ++ pinsAt fp s.heap) σ H s :=
  I.pins_of fun p hp => (List.mem_append.mp hp).elim (fun z => I.pin p (List.mem_append_right _ z)) fun z => by
    obtain ⟨hb, e⟩ := of_pinsAt z
    obtain ⟨f0, f1, f2, _⟩ := hf p.1 hb
    obtain ⟨o, e', d⟩ := ho p.1 hb
    rw [e] at e'; cases e'
    exact ⟨e, f0, f1, f2, d⟩
theorem Inv.unpinned {pins pl : List (Addr × Obj)} {σ : St} {H : Hp} {s : Shared} (I : Inv X (pins ++ pl) σ H s) : Inv X pins σ H s := I.pins_of fun p hp => I.pin p (List.mem_append_right _ (List.mem_append_left _ hp))
theorem ps_for {iter : Expr} {body : List Stmt} {wi : TI} {g : TG} {tb : TS} {pos : Pos} (hp : PassesOwn (model X.prog X.w) X.A X.env X.xe) (hc : X.calm = true) (hi : PI X tg iter wi) (hg : PG X tg g) (hb : PSs X body tb)
    (hs : ∀ x, foldedSetIterable iter X.env x = pure x := by intro _; rfl) : PS X (.For tg iter body [] pos) (tFor wi g tb) := by
  intro pins s σ H D I h
  refine wpAny_For (thn (hi pins s σ H _ I h) fun v s1 h1 => thn h1 fun itv s2 h2 => ?_) hs
  obtain ⟨it, fp, tn, J, H2, e, I2, T, st2, f2, W, ⟨m0, w0⟩, turn⟩ := h2
  subst e
  -- what stays true of the iterator's objects through the loop
  have stat : ∀ {H' : Hp}, (∀ b ∈ fp, H' b = none) → ∀ b ∈ fp, FpOk X pins H' b := fun hn b hb => ⟨hn b hb, (f2 b hb).2⟩
  refine codeAny_forLoop_any (fun n s' => ∃ i σ' H', Inv X pins σ' H' s' ∧ tn i s'.heap ∧ (∀ b ∈ fp, H' b = none) ∧ W i n σ' H') ?_ m0 ⟨0, σ, H2, I2, st2, fun b hb => (f2 b hb).1, w0⟩
  rintro n s3 ⟨i, σ3, H3, I3, st3, fr3, w3⟩
  rcases turn i n σ3 H3 w3 with ⟨stop, qn⟩ | ⟨go, N, hN, step⟩
  · refine wpAny_passesOwn hp (thn (T.done X rfl rfl rfl hc i pins s3 σ3 H3 X.xe I3 (stat fr3) st3 stop) fun r s4 ⟨hr, I4⟩ => ?_)
    subst hr
    exact wpAny_execs_nil ⟨σ3, H3, I4, qn⟩
  · refine wpAny_passesOwn hp (thn (T.item X rfl rfl rfl hc i pins s3 σ3 H3 X.xe I3 (stat fr3) st3 go) fun r s4 ⟨u, hr, h4⟩ => ?_)
    subst hr
    refine wpAny_passesOwn hp (thn h4 fun _ s5 ⟨x, H5, I5, r5, y5, st5, fr5⟩ => ?_)
    have I5' := I5.pinned (stat fr5) (T.obj _ _ st5)
    refine wpAny_passesOwn hp (thn (hg _ s5 σ3 H5 x u _ I5' r5 (step x H5 y5)) fun _ s6 ⟨σ6, H6, I6, q6⟩ => ?_)
    refine wpAny_passesOwn hp (thn (hb _ s6 σ6 H6 _ I6 q6) fun f s7 q7 => ?_)
    have again : ∀ {σ7 : St} {H7 : Hp}, Inv X (pins ++ pinsAt fp s5.heap) σ7 H7 s7 → N σ7 H7 → ∃ m, m < n ∧ ∃ i σ' H', Inv X pins σ' H' s7 ∧ tn i s7.heap ∧ (∀ b ∈ fp, H' b = none) ∧ W i m σ' H' := fun {σ7 H7} I7 n7 => by
      obtain ⟨m', hm, w7⟩ := hN σ7 H7 n7
      refine ⟨m', hm, i + 1, σ7, H7, I7.unpinned, T.keep _ _ _ st5 fun b hb o e => (I7.pin (b, o) (List.mem_append_right _ (List.mem_append_right _ (mem_pinsAt hb e)))).1, fun b hb => ?_, w7⟩
      obtain ⟨o, e, d⟩ := T.obj _ _ st5 b hb
      exact (I7.pin (b, o) (List.mem_append_right _ (List.mem_append_right _ (mem_pinsAt hb e)))).2.1
    cases f with
    | next => obtain ⟨σ7, H7, I7, n7⟩ := q7; exact again I7 n7
    | cont => obtain ⟨σ7, H7, I7, n7⟩ := q7; exact again I7 n7
    | brk => obtain ⟨σ7, H7, I7, q7⟩ := q7; exact ⟨σ7, H7, I7.unpinned, q7⟩
    | ret v => obtain ⟨x7, σ7, H7, I7, r7, q7⟩ := q7; exact ⟨x7, σ7, H7, I7.unpinned, r7, q7⟩
end
/-! ### the forms one uses -/
/-- while, by a word and a measure of the state -/
theorem while_by {c : TT} {tb : TS} {D : Ends} {σ : St} {H : Hp} (Pv : St → Hp → Prop) (μ : St → Hp → Nat) (h0 : Pv σ H)
    (hs : ∀ σ H, Pv σ H → c σ H fun b H1 => if b = true then tb { D with nx := fun σ' H' => Pv σ' H' ∧ μ σ' H' < μ σ H, ct := fun σ' H' => Pv σ' H' ∧ μ σ' H' < μ σ H, bk := D.nx } σ H1 else D.nx σ H1)
    (mono : ∀ σ H Q Q', (∀ b H1, Q b H1 → Q' b H1) → c σ H Q → c σ H Q') : tWhile c tb D σ H := by
  refine ⟨fun m σ H => m = μ σ H ∧ Pv σ H, ⟨_, rfl, h0⟩, ?_⟩
  rintro m σ H ⟨rfl, p⟩
  refine mono σ H _ _ (fun b H1 q => ?_) (hs σ H p)
  cases b with
  | true => exact ⟨_, fun σ' H' ⟨p', l⟩ => ⟨_, l, rfl, p'⟩, q⟩
  | false => exact q
end L2
namespace L2
open PySem PySem.Spec PyProof.Rows
abbrev R2 := V → V → Hp → VK → Prop
/-- a two-place operation on values: f is binaryOp op, inplaceOp op or compareOp op -/
def OpR (X : Cx) (f : Value → Value → Sem Value) (r : R2) : Prop :=
  ∀ (pins : List (Addr × Obj)) (s : Shared) (σ : St) (H : Hp) (x y : V) (v u : Value) (Q : VK), Inv X pins σ H s → RelV x v → RelV y u → r x y H Q →
    wpAny (model X.prog X.w) X.A (f v u) (EP X pins σ Q) X.xe s
/-- a one-place operation -/
def UnR (X : Cx) (f : Value → Sem Value) (r : V → Hp → VK → Prop) : Prop :=
  ∀ (pins : List (Addr × Obj)) (s : Shared) (σ : St) (H : Hp) (x : V) (v : Value) (Q : VK), Inv X pins σ H s → RelV x v → r x H Q →
    wpAny (model X.prog X.w) X.A (f v) (EP X pins σ Q) X.xe s
/-- a call of a value that is known (a builtin, a type) with values -/
def CallR (X : Cx) (f : Value) (r : List V → Hp → VK → Prop) : Prop :=
  ∀ (pins : List (Addr × Obj)) (s : Shared) (σ : St) (H : Hp) (xs : List V) (us : List Value) (Q : VK), Inv X pins σ H s → Vals xs us → r xs H Q →
    wpAny (model X.prog X.w) X.A (call f us) (EP X pins σ Q) X.xe s
/-- a value's truth -/
def TruR (X : Cx) (r : V → Hp → (Bool → Hp → Prop) → Prop) : Prop :=
  ∀ (pins : List (Addr × Obj)) (s : Shared) (σ : St) (H : Hp) (x : V) (v : Value) (Q : Bool → Hp → Prop), Inv X pins σ H s → RelV x v → r x H Q →
    wpAny (model X.prog X.w) X.A (truthy v) (TP X pins σ Q) X.xe s
def tOp (r : R2) (ta tb : TE) : TE := fun σ H Q => ta σ H fun x H1 => tb σ H1 fun y H2 => r x y H2 Q
def tUn (r : V → Hp → VK → Prop) (ta : TE) : TE := fun σ H Q => ta σ H fun x H1 => r x H1 Q
/-- ints in, under C, and a value out -/
def rI (C : Int → Int → Prop) (g : Int → Int → V) : R2 := fun x y H Q => ∃ i j, x = .int i ∧ y = .int j ∧ C i j ∧ Q (g i j) H
def rI0 (g : Int → Int → V) : R2 := fun x y H Q => ∃ i j, x = .int i ∧ y = .int j ∧ Q (g i j) H
def rU (g : Int → V) : V → Hp → VK → Prop := fun x H Q => ∃ i, x = .int i ∧ Q (g i) H
section
variable {X : Cx} {a b c : Expr} {ta tb tc : TE} {pos : Pos}
theorem binT (ha : PE X a ta) (hb : PE X b tb) {pins : List (Addr × Obj)} {s : Shared} {σ : St} {H : Hp} {R : V → V → Hp → Prop} (I : Inv X pins σ H s)
    (h : ta σ H fun x H1 => tb σ H1 fun y H2 => R x y H2) {Q : Value → Shared → Prop} {f : Value → Value → Sem Value}
    (hf : ∀ v u s2 x y H2, Inv X pins σ H2 s2 → RelV x v → RelV y u → R x y H2 → wpAny (model X.prog X.w) X.A (f v u) Q X.xe s2) :
    wpAny (model X.prog X.w) X.A (eval a X.env) (fun v s₁ => wpAny (model X.prog X.w) X.A (eval b X.env) (fun u s₂ => wpAny (model X.prog X.w) X.A (f v u) Q X.xe s₂) X.xe s₁) X.xe s := by
  refine thn (ha pins s σ H _ I h) fun v s1 ⟨x, H1, I1, r1, q1⟩ => ?_
  refine thn (hb pins s1 σ H1 _ I1 q1) fun u s2 ⟨y, H2, I2, r2, q2⟩ => ?_
  exact hf v u s2 x y H2 I2 r1 r2 q2
theorem pe_op {op : Operator} {r : R2} (ho : OpR X (binaryOp op) r) (ha : PE X a ta) (hb : PE X b tb) : PE X (.BinOp a op b pos) (tOp r ta tb) := by
  intro pins s σ H Q I h
  exact wpAny_BinOp (binT ha hb I h fun v u s2 x y H2 I2 rx ry q => ho pins s2 σ H2 x y v u Q I2 rx ry q)
theorem pe_un {op : UnaryOp} {r : V → Hp → VK → Prop} (ho : UnR X (unaryOp op) r) (ha : PE X a ta) : PE X (.UnaryOp op a pos) (tUn r ta) := by
  intro pins s σ H Q I h
  exact UnaryOp_ (thn (ha pins s σ H _ I h) fun v s1 ⟨x, H1, I1, r1, q1⟩ => ho pins s1 σ H1 x v Q I1 r1 q1)
/-! ### ints -/
theorem opI {f : Value → Value → Sem Value} {C : Int → Int → Prop} {g : Int → Int → Int}
    (rule : ∀ (i j : Int) (t u : Tok) (s : Shared) (Q : Value → Shared → Prop) (E : Value → Shared → Prop), C i j → Q (.int (g i j) s.toks) { s with toks := s.toks + 1 } → wpAny (model X.prog X.w) X.A (f (.int i t) (.int j u)) Q E s) :
    OpR X f (rI C fun i j => .int (g i j)) := by
  intro pins s σ H x y v u Q I rx ry h
  obtain ⟨i, j, rfl, rfl, hc, q⟩ := h
  obtain ⟨t, rfl⟩ := rx
  obtain ⟨t', rfl⟩ := ry
  exact rule i j t t' s _ _ hc ⟨.int (g i j), H, I.tok _, ⟨_, rfl⟩, q⟩
theorem opI0 {f : Value → Value → Sem Value} {g : Int → Int → Int}
    (rule : ∀ (i j : Int) (t u : Tok) (s : Shared) (Q : Value → Shared → Prop) (E : Value → Shared → Prop), Q (.int (g i j) s.toks) { s with toks := s.toks + 1 } → wpAny (model X.prog X.w) X.A (f (.int i t) (.int j u)) Q E s) :
    OpR X f (rI0 fun i j => .int (g i j)) := by
  intro pins s σ H x y v u Q I rx ry h
  obtain ⟨i, j, rfl, rfl, q⟩ := h
  obtain ⟨t, rfl⟩ := rx
  obtain ⟨t', rfl⟩ := ry
  exact rule i j t t' s _ _ ⟨.int (g i j), H, I.tok _, ⟨_, rfl⟩, q⟩
theorem opB0 {f : Value → Value → Sem Value} {g : Int → Int → Bool}
    (rule : ∀ (i j : Int) (t u : Tok) (s : Shared) (Q : Value → Shared → Prop) (E : Value → Shared → Prop), Q (.bool (g i j)) s → wpAny (model X.prog X.w) X.A (f (.int i t) (.int j u)) Q E s) :
    OpR X f (rI0 fun i j => .bl (g i j)) := by
  intro pins s σ H x y v u Q I rx ry h
  obtain ⟨i, j, rfl, rfl, q⟩ := h
  obtain ⟨t, rfl⟩ := rx
  obtain ⟨t', rfl⟩ := ry
  exact rule i j t t' s _ _ ⟨.bl (g i j), H, I, rfl, q⟩
def CDiv (i j : Int) : Prop := 0 < j ∧ j < 1073741824
def CMul (i j : Int) : Prop := (-(2 ^ 64) < i ∧ i < 2 ^ 64) ∨ (-(2 ^ 64) < j ∧ j < 2 ^ 64)
theorem CMul.ok {i j : Int} (h : CMul i j) : IntMulOk i j := by
  rcases h with ⟨h1, h2⟩ | ⟨h1, h2⟩
  · exact .of_left (intBits_le_64 h1 h2)
  · exact .of_right (intBits_le_64 h1 h2)
theorem op_add : OpR X (binaryOp .Add) (rI0 fun i j => .int (i + j)) := opI0 fun _ _ _ _ _ _ _ q => add_int q
theorem op_sub : OpR X (binaryOp .Sub) (rI0 fun i j => .int (i - j)) := opI0 fun _ _ _ _ _ _ _ q => sub_int q
theorem op_mul : OpR X (binaryOp .Mult) (rI CMul fun i j => .int (i * j)) := opI fun _ _ _ _ _ _ _ hc q => mul_int q hc.ok
/-- // by a positive divisor -/
theorem op_fdiv : OpR X (binaryOp .FloorDiv) (rI CDiv fun i j => .int (i / j)) := opI fun i j _ _ _ _ _ hc q => by
  have h1 : (0 : Int) < j := hc.1
  have h2 : j < 1073741824 := hc.2
  exact floordiv_int (by omega) (by rw [Int.fdiv_eq_ediv_of_nonneg i (by omega)]; exact q) (.inl (PyProof.noPylong_small (by omega)))
/-- % by a positive divisor of any size -/
theorem op_mod : OpR X (binaryOp .Mod) (rI (fun _ j => 0 < j) fun i j => .int (i % j)) := opI fun i j _ _ _ _ _ hc q => by
  have h1 : (0 : Int) < j := hc
  exact mod_int' (by omega) (by rw [Int.fmod_eq_emod_of_nonneg i (by omega)]; exact q)
theorem unI {f : Value → Sem Value} {g : Int → Int}
    (rule : ∀ (i : Int) (t : Tok) (s : Shared) (Q : Value → Shared → Prop) (E : Value → Shared → Prop), Q (.int (g i) s.toks) { s with toks := s.toks + 1 } → wpAny (model X.prog X.w) X.A (f (.int i t)) Q E s) :
    UnR X f (rU fun i => .int (g i)) := by
  intro pins s σ H x v Q I rx h
  obtain ⟨i, rfl, q⟩ := h
  obtain ⟨t, rfl⟩ := rx
  exact rule i t s _ _ ⟨.int (g i), H, I.tok _, ⟨_, rfl⟩, q⟩
theorem un_neg : UnR X (unaryOp .USub) (rU fun i => .int (-i)) := unI fun _ _ _ _ _ q => neg_int q
/-! ### bools among ints: n += (a < b) -/
end
/-! ### comparisons -/
/-- the scalars that == tells apart as data does -/
def scal : V → V → Bool
  | .non, .non => true | .non, .int _ => true | .int _, .non => true | .non, .bl _ => true | .bl _, .non => true | .non, .str _ => true | .str _, .non => true
  | .int _, .int _ => true | .bl _, .bl _ => true | .str _, .str _ => true | .byt _, .byt _ => true
  | .int _, .str _ => true | .str _, .int _ => true | .bl _, .str _ => true | .str _, .bl _ => true
  | _, _ => false
def rEq : R2 := fun x y H Q => scal x y = true ∧ Q (.bl (decide (x = y))) H
def rNe : R2 := fun x y H Q => scal x y = true ∧ Q (.bl (!decide (x = y))) H
theorem dec_int {i j : Int} : decide (V.int i = V.int j) = (i == j) := by
  rw [Bool.eq_iff_iff]
  simp
theorem dec_bl {i j : Bool} : decide (V.bl i = V.bl j) = (i == j) := by
  rw [Bool.eq_iff_iff]
  simp
theorem dec_str {i j : Str} : decide (V.str i = V.str j) = (i == j) := by
  rw [Bool.eq_iff_iff]
  simp
theorem dec_byt {i j : Array UInt8} : decide (V.byt i = V.byt j) = (i.toList == j.toList) := by
  rw [Bool.eq_iff_iff]
  cases i
  cases j
  simp
section
variable {X : Cx} {a b c : Expr} {ta tb tc : TE} {pos : Pos}
theorem fin_bl {pins : List (Addr × Obj)} {σ : St} {H : Hp} {s : Shared} {Q : VK} {k k' : Bool} (I : Inv X pins σ H s) (q : Q (.bl k) H) (e : k = k') : EP X pins σ Q (.bool k') s := by
  subst e
  exact ⟨.bl k, H, I, rfl, q⟩
theorem op_eq : OpR X (compareOp .Eq) rEq := by
  intro pins s σ H x y v u Q I rx ry h
  obtain ⟨hs, q⟩ := h
  cases x with
  | non =>
    cases rx
    cases y with
    | non => cases ry; exact PySem.EqNone.eq_none_none (fin_bl I q (by simp))
    | bl j => cases ry; exact PySem.EqNone.eq_none_bool (fin_bl I q (by simp))
    | int j => obtain ⟨t', rfl⟩ := ry; exact PySem.EqNone.eq_none_int (fin_bl I q (by simp))
    | str j => obtain ⟨t', rfl⟩ := ry; exact PySem.EqNone.eq_none_str (fin_bl I q (by simp))
    | _ => exact absurd (show false = true from hs) Bool.false_ne_true
  | bl i =>
    cases rx
    cases y with
    | non => cases ry; exact PySem.EqNone.eq_bool_none (fin_bl I q (by simp))
    | bl j => cases ry; exact eq_bool (fin_bl I q dec_bl)
    | str j => obtain ⟨t', rfl⟩ := ry; exact PySem.EqMixed.eq_bool_str (fin_bl I q (by simp))
    | _ => exact absurd (show false = true from hs) Bool.false_ne_true
  | int i =>
    obtain ⟨t, rfl⟩ := rx
    cases y with
    | non => cases ry; exact PySem.EqNone.eq_int_none (fin_bl I q (by simp))
    | int j => obtain ⟨t', rfl⟩ := ry; exact eq_int (fin_bl I q dec_int)
    | str j => obtain ⟨t', rfl⟩ := ry; exact PySem.EqMixed.eq_int_str (fin_bl I q (by simp))
    | _ => exact absurd (show false = true from hs) Bool.false_ne_true
  | str i =>
    obtain ⟨t, rfl⟩ := rx
    cases y with
    | non => cases ry; exact PySem.EqNone.eq_str_none (fin_bl I q (by simp))
    | bl j => cases ry; exact PySem.EqMixed.eq_str_bool (fin_bl I q (by simp))
    | int j => obtain ⟨t', rfl⟩ := ry; exact PySem.EqMixed.eq_str_int (fin_bl I q (by simp))
    | str j => obtain ⟨t', rfl⟩ := ry; exact eq_str (fin_bl I q dec_str)
    | _ => exact absurd (show false = true from hs) Bool.false_ne_true
  | byt i =>
    obtain ⟨t, rfl⟩ := rx
    cases y with
    | byt j => obtain ⟨t', rfl⟩ := ry; exact PySem.W.eq_bytes (fin_bl I q dec_byt)
    | _ => exact absurd (show false = true from hs) Bool.false_ne_true
  | _ => cases y <;> exact absurd (show false = true from hs) Bool.false_ne_true
theorem op_ne : OpR X (compareOp .NotEq) rNe := by
  intro pins s σ H x y v u Q I rx ry h
  obtain ⟨hs, q⟩ := h
  cases x with
  | non =>
    cases rx
    cases y with
    | non => cases ry; exact PySem.EqNone.ne_none_none (fin_bl I q (by simp))
    | bl j => cases ry; exact PySem.EqNone.ne_none_bool (fin_bl I q (by simp))
    | int j => obtain ⟨t', rfl⟩ := ry; exact PySem.EqNone.ne_none_int (fin_bl I q (by simp))
    | str j => obtain ⟨t', rfl⟩ := ry; exact PySem.EqNone.ne_none_str (fin_bl I q (by simp))
    | _ => exact absurd (show false = true from hs) Bool.false_ne_true
  | bl i =>
    cases rx
    cases y with
    | non => cases ry; exact PySem.EqNone.ne_bool_none (fin_bl I q (by simp))
    | bl j => cases ry; exact ne_bool (fin_bl I q (congrArg not dec_bl))
    | str j => obtain ⟨t', rfl⟩ := ry; exact PySem.EqMixed.ne_bool_str (fin_bl I q (by simp))
    | _ => exact absurd (show false = true from hs) Bool.false_ne_true
  | int i =>
    obtain ⟨t, rfl⟩ := rx
    cases y with
    | non => cases ry; exact PySem.EqNone.ne_int_none (fin_bl I q (by simp))
    | int j => obtain ⟨t', rfl⟩ := ry; exact ne_int (fin_bl I q (congrArg not dec_int))
    | str j => obtain ⟨t', rfl⟩ := ry; exact PySem.EqMixed.ne_int_str (fin_bl I q (by simp))
    | _ => exact absurd (show false = true from hs) Bool.false_ne_true
  | str i =>
    obtain ⟨t, rfl⟩ := rx
    cases y with
    | non => cases ry; exact PySem.EqNone.ne_str_none (fin_bl I q (by simp))
    | bl j => cases ry; exact PySem.EqMixed.ne_str_bool (fin_bl I q (by simp))
    | int j => obtain ⟨t', rfl⟩ := ry; exact PySem.EqMixed.ne_str_int (fin_bl I q (by simp))
    | str j => obtain ⟨t', rfl⟩ := ry; exact ne_str (fin_bl I q (congrArg not dec_str))
    | _ => exact absurd (show false = true from hs) Bool.false_ne_true
  | byt i =>
    obtain ⟨t, rfl⟩ := rx
    cases y with
    | byt j => obtain ⟨t', rfl⟩ := ry; exact PySem.W.ne_bytes (fin_bl I q (congrArg not dec_byt))
    | _ => exact absurd (show false = true from hs) Bool.false_ne_true
  | _ => cases y <;> exact absurd (show false = true from hs) Bool.false_ne_true
theorem op_lt : OpR X (compareOp .Lt) (rI0 fun i j => .bl (decide (i < j))) := opB0 fun _ _ _ _ _ _ _ q => lt_int q
theorem op_le : OpR X (compareOp .LtE) (rI0 fun i j => .bl (decide (i ≤ j))) := opB0 fun _ _ _ _ _ _ _ q => le_int q
theorem op_gt : OpR X (compareOp .Gt) (rI0 fun i j => .bl (decide (j < i))) := opB0 fun _ _ _ _ _ _ _ q => gt_int q
/-- the one string within the other -/
theorem op_in_str : OpR X (compareOp .In) (fun x y H Q => ∃ i j, x = .str i ∧ y = .str j ∧ Q (.bl (!(Builtin.Str.occurrences j i 0 j.length 1).isEmpty)) H) := by
  intro pins s σ H x y v u Q I rx ry h
  obtain ⟨i, j, rfl, rfl, q⟩ := h
  obtain ⟨t, rfl⟩ := rx
  obtain ⟨t', rfl⟩ := ry
  exact in_str (fin_bl I q rfl)
theorem op_notN : OpR X (compareOp .IsNot) (fun x y H Q => y = .non ∧ Q (.bl (!decide (x = .non))) H) := by
  intro pins s σ H x y v u Q I rx ry h
  obtain ⟨rfl, q⟩ := h
  cases ry
  refine isnot_none_gen (fin_bl I q ?_)
  cases x <;> first
    | (cases rx; rfl)
    | (obtain ⟨t, rfl⟩ := rx; rfl)
/-- two rules for one operation: by cases -/
theorem OpR.or {f : Value → Value → Sem Value} {r r' : R2} (h : OpR X f r) (h' : OpR X f r') : OpR X f (fun x y H Q => r x y H Q ∨ r' x y H Q) := by
  intro pins s σ H x y v u Q I rx ry q
  rcases q with q | q
  · exact h pins s σ H x y v u Q I rx ry q
  · exact h' pins s σ H x y v u Q I rx ry q
theorem nomark (b : Expr) {op : CmpOp} (h : op ≠ .In := by decide) (h2 : op ≠ .NotIn := by decide) : behindInMarks op b = false := by
  have e1 : (op == CmpOp.In) = false := by cases op <;> first | rfl | exact absurd rfl h
  have e2 : (op == CmpOp.NotIn) = false := by cases op <;> first | rfl | exact absurd rfl h2
  cases b <;> simp [behindInMarks, e1, e2]
/-- a comparison as a value; hm: nomark b, or (for in, not in) by with_unfolding_all rfl -/
theorem pe_cmpR {op : CmpOp} {r : R2} (ho : OpR X (compareOp op) r) (ha : PE X a ta) (hb : PE X b tb) (hm : behindInMarks op b = false) : PE X (.Compare a [op] [b] pos) (tOp r ta tb) := by
  intro pins s σ H Q I h
  exact wpAny_Compare1 (binT ha hb I h fun v u s2 x y H2 I2 rx ry q => ho pins s2 σ H2 x y v u Q I2 rx ry q) hm
/-- a reading of a value as a test -/
def tTest (t : TE) : TT := fun σ H Q => t σ H fun x H' => ∃ k, x = .bl k ∧ Q k H'
theorem pt_cmpR {op : CmpOp} {r : R2} (ho : OpR X (compareOp op) r) (ha : PE X a ta) (hb : PE X b tb) (hm : behindInMarks op b = false) : PT X (.Compare a [op] [b] pos) (tTest (tOp r ta tb)) := by
  intro pins s σ H Q I h
  refine wpAny_isTrue_Compare1 (thn (ha pins s σ H _ I h) fun v s1 ⟨x, H1, I1, r1, q1⟩ => thn (hb pins s1 σ H1 _ I1 q1) fun u s2 ⟨y, H2, I2, r2, q2⟩ =>
    thn (ho pins s2 σ H2 x y v u _ I2 r1 r2 q2) fun c s3 ⟨z, H3, I3, r3, k, e, q3⟩ => ?_) hm
  subst e
  cases r3
  exact wpAny_truthy_bool ⟨H3, I3, q3⟩
/-- a op1 b op2 c -/
def tChain (r r' : R2) (ta tb tc : TE) : TE := fun σ H Q => ta σ H fun x H1 => tb σ H1 fun y H2 => r x y H2 fun z H3 => ∃ k, z = .bl k ∧
  (if k = true then tc σ H3 fun w' H4 => r' y w' H4 Q else Q (.bl false) H3)
theorem pe_chain {op op' : CmpOp} {r r' : R2} (ho : OpR X (compareOp op) r) (ho' : OpR X (compareOp op') r') (ha : PE X a ta) (hb : PE X b tb) (hc : PE X c tc)
    (hm : lastMarks [op, op'] [b, c] = false := by with_unfolding_all rfl) : PE X (.Compare a [op, op'] [b, c] pos) (tChain r r' ta tb tc) := by
  intro pins s σ H Q I h
  refine Compare_chain (thn (ha pins s σ H _ I h) fun v s1 ⟨x, H1, I1, r1, q1⟩ => chain_link (thn (hb pins s1 σ H1 _ I1 q1) fun u s2 ⟨y, H2, I2, r2, q2⟩ =>
    thn (ho pins s2 σ H2 x y v u _ I2 r1 r2 q2) fun d s3 ⟨z, H3, I3, r3, k, e, q3⟩ => ?_)) hm
  subst e
  cases r3
  refine wpAny_truthy_bool ?_
  cases k with
  | false => exact ite_ff ⟨.bl false, H3, I3, rfl, q3⟩
  | true => exact ite_tt (chain_last (thn (hc pins s3 σ H3 _ I3 q3) fun w' s4 ⟨z', H4, I4, r4, q4⟩ => ho' pins s4 σ H4 y z' u w' Q I4 r2 r4 q4))
/-! ### truth -/
/-- a value's truth by the abstract heap -/
def TruV (K : PySem.W.Frag) (x : V) (H : Hp) (k : Bool) : Prop :=
  match x with
  | .non => k = false
  | .bl b => k = b
  | .int i => k = (i != 0)
  | .str y => y.length ≤ sizeLine ∧ k = ((y.length : Int) != 0)
  | .byt y => y.size ≤ sizeLine ∧ k = ((y.size : Int) != 0)
  | .ref p => (∃ xs, SqL K H p xs ∧ k = !xs.isEmpty) ∨ (∃ xs, SqT K H p xs ∧ k = !xs.isEmpty) ∨ ∃ kvs, H p = some (.dK kvs) ∧ k = !kvs.isEmpty
  | _ => False
theorem isEmpty_kv {κ : Type} {kvs : List (κ × V)} {vs : List (κ × Value)} (r : KV kvs vs) : (!vs.isEmpty) = !kvs.isEmpty := by
  cases r <;> rfl
theorem isEmpty_of {xs : List V} {its : List Value} (r : Vals xs its) : (!its.toArray.isEmpty) = !xs.isEmpty := by
  cases r <;> simp
theorem line63 : (sizeLine : Nat) < 2 ^ 63 := by rw [sizeLine_eq]; decide
theorem tru_ok : TruR X (fun x H Q => ∃ k, TruV X.K x H k ∧ Q k H) := by
  intro pins s σ H x v Q I rx h
  obtain ⟨k, e, q⟩ := h
  have hl := line63
  have hs : sizeLine = 16777216 := sizeLine_eq
  cases x with
  | non =>
    cases rx
    have e' : k = false := e
    subst e'
    exact truthy_none ⟨H, I, q⟩
  | bl b =>
    cases rx
    have e' : k = b := e
    subst e'
    exact wpAny_truthy_bool ⟨H, I, q⟩
  | int i =>
    obtain ⟨t, rfl⟩ := rx
    have e' : k = (i != 0) := e
    subst e'
    exact PySem.P.truthy_int ⟨H, I, q⟩
  | str y =>
    obtain ⟨t, rfl⟩ := rx
    obtain ⟨hy, e'⟩ : y.length ≤ sizeLine ∧ k = ((y.length : Int) != 0) := e
    subst e'
    exact PySem.P.truthy_str (by omega) ⟨H, I.tok _, q⟩
  | byt y =>
    obtain ⟨t, rfl⟩ := rx
    obtain ⟨hy, e'⟩ : y.size ≤ sizeLine ∧ k = ((y.size : Int) != 0) := e
    subst e'
    exact PySem.W.truthy_bytes (by omega) ⟨H, I.tok _, q⟩
  | ref p =>
    cases rx
    have e' : (∃ xs, SqL X.K H p xs ∧ k = !xs.isEmpty) ∨ (∃ xs, SqT X.K H p xs ∧ k = !xs.isEmpty) ∨ ∃ kvs, H p = some (.dK kvs) ∧ k = !kvs.isEmpty := e
    rcases e' with ⟨xs, hx, e'⟩ | ⟨xs, hx, e'⟩ | ⟨kvs, hx, e'⟩
    · subst e'
      obtain ⟨its, r, pl, hz⟩ := I.list hx
      have hlen := r.length
      exact wpAny_truthy_list pl.isList (by simp only [List.size_toArray]; omega) ⟨H, I.tok _, by rw [isEmpty_of r]; exact q⟩
    · subst e'
      obtain ⟨its, r, pl, hz⟩ := I.tuple hx
      have hlen := r.length
      exact truthy_tuple pl (by simp only [List.size_toArray]; omega) ⟨H, I.tok _, by rw [isEmpty_of r]; exact q⟩
    · subst e'
      obtain ⟨hz, hS, vs, r, m⟩ : kvs.length ≤ sizeLine ∧ (p == sysModules) = false ∧ ∃ vs, KV kvs vs ∧ s.heap.DictOf (mixKind X.prog X.w) p vs := I.hok p _ hx
      have hlen : kvs.length = vs.length := Paired.length r
      exact wpAny_truthy_dict hS m (by omega) ⟨H, I.tok _, by rw [isEmpty_kv r]; exact q⟩
  | _ => exact (show False from e).elim
/-- any expression whose test is its value's truth (a name, a call, a subscript, a field ..: he by fun _ => rfl) -/
theorem pt_truth (ha : PE X a ta) (he : ∀ whole, isTrue a X.env whole = (do let v ← whole; standAt a.pos; holding [v] (truthy v))) :
    PT X a (fun σ H Q => ta σ H fun x H' => ∃ k, TruV X.K x H' k ∧ Q k H') := by
  intro pins s σ H Q I h
  exact isTrue_plain (thn (ha pins s σ H _ I h) fun v s1 ⟨x, H1, I1, r1, q1⟩ => tru_ok pins s1 σ H1 x v Q I1 r1 q1) (he _)
/-! ### strs and bytes -/
theorem op_add_str : OpR X (binaryOp .Add) (fun x y H Q => ∃ i j, x = .str i ∧ y = .str j ∧ i.length + j.length ≤ sizeLine ∧ Q (.str (i ++ j)) H) := by
  intro pins s σ H x y v u Q I rx ry h
  obtain ⟨i, j, rfl, rfl, hz, q⟩ := h
  obtain ⟨t, rfl⟩ := rx
  obtain ⟨t', rfl⟩ := ry
  exact add_str (fun t' tk => ⟨.str (i ++ j), H, I.tok _, ⟨_, rfl⟩, q⟩) hz
/-! ### scalar builtins, by CallR -/
theorem vals1 {x : V} {us : List Value} (r : Vals [x] us) : ∃ u, us = [u] ∧ RelV x u := by
  cases r with
  | cons r1 r2 => cases r2; exact ⟨_, rfl, r1⟩
theorem vals2 {x y : V} {us : List Value} (r : Vals [x, y] us) : ∃ u w', us = [u, w'] ∧ RelV x u ∧ RelV y w' := by
  cases r with
  | cons r1 r2 =>
    cases r2 with
    | cons r3 r4 => cases r4; exact ⟨_, _, rfl, r1, r3⟩
theorem call_abs : CallR X (.builtin "abs") (fun xs H Q => ∃ i, xs = [.int i] ∧ Q (.int (if i < 0 then -i else i)) H) := by
  intro pins s σ H xs us Q I r h
  obtain ⟨i, rfl, q⟩ := h
  obtain ⟨u, rfl, t, rfl⟩ := vals1 r
  exact call_abs_int fun u tk => ⟨.int (if i < 0 then -i else i), H, I.tok _, ⟨_, rfl⟩, q⟩
/-- len of a str, a bytes, a list, a tuple -/
def LenV (K : PySem.W.Frag) (x : V) (H : Hp) (n : Nat) : Prop :=
  match x with
  | .str y => y.length ≤ sizeLine ∧ n = y.length
  | .byt y => y.size ≤ sizeLine ∧ n = y.size
  | .ref p => (∃ xs, SqL K H p xs ∧ n = xs.length) ∨ ∃ xs, SqT K H p xs ∧ n = xs.length
  | _ => False
theorem call_len : CallR X (.builtin "len") (fun xs H Q => ∃ x n, xs = [x] ∧ LenV X.K x H n ∧ Q (.int n) H) := by
  intro pins s σ H xs us Q I r h
  obtain ⟨x, n, rfl, e, q⟩ := h
  obtain ⟨u, rfl, rx⟩ := vals1 r
  have hl := line63
  have hs : sizeLine = 16777216 := sizeLine_eq
  cases x with
  | str y =>
    obtain ⟨t, rfl⟩ := rx
    obtain ⟨hy, e'⟩ : y.length ≤ sizeLine ∧ n = y.length := e
    subst e'
    exact len_str (by omega) ⟨.int _, H, I.tok _, ⟨_, rfl⟩, q⟩
  | byt y =>
    obtain ⟨t, rfl⟩ := rx
    obtain ⟨hy, e'⟩ : y.size ≤ sizeLine ∧ n = y.size := e
    subst e'
    exact PySem.W.len_bytes (by omega) ⟨.int _, H, I.tok _, ⟨_, rfl⟩, q⟩
  | ref p =>
    cases rx
    have e' : (∃ xs, SqL X.K H p xs ∧ n = xs.length) ∨ ∃ xs, SqT X.K H p xs ∧ n = xs.length := e
    rcases e' with ⟨xs, hx, e'⟩ | ⟨xs, hx, e'⟩
    · subst e'
      obtain ⟨its, r', pl, hz⟩ := I.list hx
      have hlen := r'.length
      exact Calls.call_len_list pl.isList (by simp only [List.size_toArray]; omega) ⟨.int xs.length, H, I.tok _, ⟨_, by simp only [List.size_toArray]; rw [hlen]⟩, q⟩
    · subst e'
      obtain ⟨its, r', pl, hz⟩ := I.tuple hx
      have hlen := r'.length
      exact len_tuple pl (by simp only [List.size_toArray]; omega) ⟨.int xs.length, H, I.tok _, ⟨_, by simp only [List.size_toArray]; rw [hlen]⟩, q⟩
  | _ => exact (show False from e).elim
end
end L2
namespace L2
open PySem PySem.Spec PyProof.Rows
/-! ### an instance, its attributes a map -/
structure ObjM (h : Heap) (x dx C : Addr) (mA : Str → Option Value) : Prop where
  obj : h.get? x = some (PySem.W.instObj C dx)
  ns : h.Ns1 dx mA
  ne : dx ≠ x
theorem lookIn_ns {h : Heap} {dx : Addr} {mA : Str → Option Value} (n : h.Ns1 dx mA) : ∃ od, h.get? dx = some od ∧ ∀ name, PySem.W.lookIn name od = some (mA name) := by
  obtain ⟨o, es, ep, ho, hd, hk, _, hm⟩ := n
  refine ⟨o, ho, fun name => ?_⟩
  have e := hm name
  unfold nsFind findBy at e
  rw [← Array.find?_toList] at e
  unfold PySem.W.lookIn
  rw [hd]
  dsimp only
  split
  · rename_i y q
    rw [q] at e
    exact congrArg some e
  · rename_i q
    rw [q] at e
    have a : es.toList.any (·.refKey) = false := by
      rw [List.any_eq_false]
      intro y hy
      obtain ⟨z, t, hkey⟩ := hk y (Array.mem_toList_iff.mp hy)
      simp [DictEntry.refKey, hkey]
    have a' : ¬ es.toList.any (·.refKey) = true := by rw [a]; exact Bool.false_ne_true
    rw [if_neg a']
    exact congrArg some e
theorem ObjM.look {h : Heap} {x dx C : Addr} {mA : Str → Option Value} (I : ObjM h x dx C mA) : ∃ od, PySem.W.InstAt h x (PySem.W.instObj C dx) C (some od) ∧ ∀ name, PySem.W.lookIn name od = some (mA name) :=
  let ⟨od, ho, hl⟩ := lookIn_ns I.ns
  ⟨od, ⟨I.obj, rfl, rfl, ho⟩, hl⟩
section
variable {prog : Program} {w : World} {A : Around} {E : Value → Shared → Prop} {s : Shared} {K : PySem.W.Frag} {x dx C f : Addr} {mA : Str → Option Value} {name : Str} {v : Value}
theorem get_map {expr : Bool} {Q : Value → Shared → Prop} (X : K.In s.heap) (I : ObjM s.heap x dx C mA) (hg : PySem.W.plainGet K C name = true) (hh : PySem.W.hasDictIn K C = true)
    (ha : PySem.W.findIn K (.ref C) name = some none) (hv : mA name = some v) (hv' : PySem.W.handedIn v = true) (h : Q v { s with toks := s.toks + 1 }) :
    wpAny (model prog w) A (getAttr (.ref x) name expr) Q E s := by
  obtain ⟨od, J, hl⟩ := I.look
  exact PySem.W.get_value X J (PySem.W.plainGet_of hg).1 (PySem.W.findObj_own hh ha rfl (by rw [hl, hv])) hv' h
theorem get_meth {pl : Sem Bool} {Q : Value × List Value → Shared → Prop} (X : K.In s.heap) (I : ObjM s.heap x dx C mA) (hg : PySem.W.plainGet K C name = true)
    (hf : PySem.W.findIn K (.ref C) name = some (some (.ref f))) (ht : PySem.W.isFn K (.ref f) = true) (hv : mA name = none) (h : Q (.ref f, [.ref x]) s) :
    wpAny (model prog w) A (getMethod (.ref x) name pl) Q E s := by
  obtain ⟨od, J, hl⟩ := I.look
  exact PySem.W.method_fn X J (PySem.W.plainGet_of hg).1 (PySem.W.plainGet_of hg).2 hf (beq_iff_eq.mp ht) (by show (PySem.W.lookIn name od).map (·.isSome) = some false; rw [hl, hv]; rfl) h
theorem set_map {ns : List Str} {Q : Unit → Shared → Prop} (X : K.In s.heap) (I : ObjM s.heap x dx C mA)
    (hs : PySem.W.findIn K (.ref C) "__setattr__" = some (some (.builtin "object.__setattr__"))) (hp : PySem.W.plainOver K C = true) (ht : PySem.W.takerIn K C name = some none) (hh : PySem.W.hasDictIn K C = true)
    (hw : PySem.Within mA ns) (hsz : ns.length ≤ sizeLine)
    (h : ∀ h', ObjM h' x dx C (fun y => if y = name then some v else mA y) → Heap.SameBut dx s.heap h' → Q () { s with heap := h', toks := s.toks + 2 }) :
    wpAny (model prog w) A (setAttr (.ref x) name v) Q E s := by
  obtain ⟨od, J, hl⟩ := I.look
  refine PySem.W.set_plain X J hs (PySem.W.osa_open (s := { s with toks := s.toks + 1 }) (r := none) X J hp ht fun b => ?_)
  obtain ⟨cd, hc, hd'⟩ := PySem.W.any_some hh
  have hx : s.heap.get? x = some ⟨.ref C, some dx, .plain, #[]⟩ := I.obj
  refine wpAny_bind (wpAny_pure (wpAny_bind (wpAny_bind (wpAny_loadPart hx (wpAny_bind (PySem.W.Looks.here (s := { s with toks := s.toks + 1 }) (PySem.W.looks_clsIn X hc) ?_))))))
  rw [hd']
  refine wpAny_pure (a := some dx) (wpAny_bind (wpAny_pure (wpAny_bind ?_)))
  refine wpAny_nsSet1 (s := { s with toks := s.toks + 1 }) I.ns fun h' hn2 hs2 => ?_
  obtain ⟨oD, esD, epD, hoD, hdD, hcD⟩ := hn2.count (PySem.Within.cons name v hw)
  refine wpAny_bind (wpAny_lookBehind hoD (by rw [hdD]; exact pastItsLine_dict (Nat.le_trans hcD (by rw [List.length_cons]; omega))) ?_)
  exact wpAny_pure (h _ ⟨(hs2.2 _ (Ne.symm I.ne)).trans I.obj, hn2, I.ne⟩ hs2)
/-- C(..): the dict at the heap's end, the instance behind it; then its __init__ -/
theorem make_map {R : Result → Shared → Prop} {vs : List Value} {kw : List (Str × Value)} (X : K.In s.heap) (hm : PySem.W.makesIn K C = true)
    (hi : PySem.W.findIn K (.ref C) "__init__" = some (some (.ref f))) (hf : PySem.W.typeIn K (.ref f) = some (.type "function"))
    (h : codeAny (model prog w) (A.under (.builtin "type.__call__" ⟨.ref C :: vs, kw⟩)) (.call (.ref f) ⟨.ref (s.heap.objs.size + 1) :: vs, kw⟩) (PySem.W.InitBack (s.heap.objs.size + 1) R)
      { s with heap := (s.heap.push PySem.W.emptyDict).push (PySem.W.instObj C s.heap.objs.size) }) :
    codeAny (model prog w) A (.call (.ref C) ⟨vs, kw⟩) R s := by
  obtain ⟨hh, g, d, t, os⟩ := s
  exact PySem.W.make_core (PySem.W.makes_of X hm) (PySem.W.looks_findIn X hi) (fun self => PySem.W.bind_fn X self hf) (.inl rfl) h
end
/-! ### the attributes as a list of pairs -/
def putF (f : Str) (v : V) : List (Str × V) → List (Str × V)
  | [] => [(f, v)]
  | (g, x) :: r => if g = f then (g, v) :: r else (g, x) :: putF f v r
theorem lookup_putF (f g : Str) (v : V) : ∀ fs : List (Str × V), (putF f v fs).lookup g = if g = f then some v else fs.lookup g
  | [] => by
    show List.lookup g [(f, v)] = _
    by_cases h : g = f
    · have hb : (g == f) = true := beq_iff_eq.mpr h
      simp only [List.lookup, hb, if_pos h]
    · have hb : (g == f) = false := beq_eq_false_iff_ne.mpr h
      simp only [List.lookup, hb, if_neg h]
  | (k, x) :: r => by
    have ih := lookup_putF f g v r
    rw [show putF f v ((k, x) :: r) = (if k = f then (k, v) :: r else (k, x) :: putF f v r) from rfl]
    by_cases hk : k = f
    · rw [if_pos hk]
      by_cases h : g = k
      · have hb : (g == k) = true := beq_iff_eq.mpr h
        simp only [List.lookup, hb, if_pos (h.trans hk)]
      · have hb : (g == k) = false := beq_eq_false_iff_ne.mpr h
        simp only [List.lookup, hb, if_neg (fun e : g = f => h (e.trans hk.symm))]
    · rw [if_neg hk]
      by_cases h : g = k
      · have hb : (g == k) = true := beq_iff_eq.mpr h
        simp only [List.lookup, hb, if_neg (fun e : g = f => hk (h.symm.trans e))]
      · have hb : (g == k) = false := beq_eq_false_iff_ne.mpr h
        simp only [List.lookup, hb]
        exact ih
theorem keys_putF (f : Str) (v : V) : ∀ fs : List (Str × V), f ∈ (putF f v fs).map (·.1) ∧ ∀ g, g ∈ fs.map (·.1) → g ∈ (putF f v fs).map (·.1)
  | [] => ⟨by simp [putF], fun g h => by simp at h⟩
  | (k, x) :: r => by
    obtain ⟨i1, i2⟩ := keys_putF f v r
    rw [show putF f v ((k, x) :: r) = (if k = f then (k, v) :: r else (k, x) :: putF f v r) from rfl]
    by_cases hk : k = f
    · rw [if_pos hk]
      subst hk
      exact ⟨by simp, fun g h => by simpa using h⟩
    · rw [if_neg hk]
      refine ⟨?_, fun g h => ?_⟩
      · rw [List.map_cons]
        exact List.mem_cons_of_mem _ i1
      · rw [List.map_cons] at h ⊢
        rcases List.mem_cons.mp h with e | e
        · exact List.mem_cons.mpr (.inl e)
        · exact List.mem_cons_of_mem _ (i2 g e)
theorem length_putF (f : Str) (v : V) : ∀ fs : List (Str × V), (putF f v fs).length ≤ fs.length + 1
  | [] => by simp [putF]
  | (k, x) :: r => by
    have ih := length_putF f v r
    rw [show putF f v ((k, x) :: r) = (if k = f then (k, v) :: r else (k, x) :: putF f v r) from rfl]
    by_cases hk : k = f
    · rw [if_pos hk, List.length_cons, List.length_cons]; omega
    · rw [if_neg hk, List.length_cons, List.length_cons]; omega
theorem RelO.some_of {v : V} {o : Option Value} (r : RelO (some v) o) : ∃ u, o = some u ∧ RelV v u := by
  cases o with
  | none => exact (show False from r).elim
  | some u => exact ⟨u, rfl, r⟩
theorem RelO.none_of {o : Option Value} (r : RelO none o) : o = none := by
  cases o with
  | none => rfl
  | some u => exact (show False from r).elim
theorem handed_of {v : V} {u : Value} (r : RelV v u) : PySem.W.handedIn u = true := by
  cases v with
  | non => cases (show u = Value.none from r); rfl
  | bl b => cases (show u = Value.bool b from r); rfl
  | int i => obtain ⟨t, e⟩ := (show ∃ t, u = Value.int i t from r); cases e; rfl
  | str x => obtain ⟨t, e⟩ := (show ∃ t, u = Value.str x t from r); cases e; rfl
  | byt b => obtain ⟨t, e⟩ := (show ∃ t, u = Value.bytes b t from r); cases e; rfl
  | flt b => obtain ⟨t, e⟩ := (show ∃ t, u = Value.float b t from r); cases e; rfl
  | ref a => cases (show u = Value.ref a from r); rfl
  | ty n => cases (show u = Value.type n from r); rfl
section
variable {P : Program} {w : World} {H H' : Hp} {h h' : Heap} {a C dx : Addr} {fs fs' : List (Str × V)}
theorem ins_get (hok : HOk P w H h) (e : H a = some (.ins C dx fs)) : ∃ mA, ObjM h a dx C mA ∧ (∀ f, RelO (fs.lookup f) (mA f)) ∧ PySem.Within mA (fs.map (·.1)) ∧ fs.length ≤ 1000 ∧ H dx = some (.own a) := by
  obtain ⟨d, z, ne, ob, mA, n, r, q⟩ := (show ObjOk P w H h a (.ins C dx fs) from hok a _ e)
  exact ⟨mA, ⟨ob, n, ne⟩, r, q, z, d⟩
end
/-! ### what of the text a class must have -/
structure Cls (K : PySem.W.Frag) (C : Addr) : Prop where
  pg : PySem.W.plainGet K C Str.empty = true
  hd : PySem.W.hasDictIn K C = true
  po : PySem.W.plainOver K C = true
  sa : PySem.W.findIn K (.ref C) "__setattr__" = some (some (.builtin "object.__setattr__"))
theorem Cls.get {K : PySem.W.Frag} {C : Addr} (c : Cls K C) (f : Str) : PySem.W.plainGet K C f = true := c.pg
/-- no class of it has the name -/
def NoAttr (K : PySem.W.Frag) (C : Addr) (f : Str) : Prop := PySem.W.findIn K (.ref C) f = some none
theorem NoAttr.taker {K : PySem.W.Frag} {C : Addr} {f : Str} (n : NoAttr K C f) : PySem.W.takerIn K C f = some none := by
  unfold PySem.W.takerIn
  rw [show PySem.W.findIn K (.ref C) f = some none from n]
  rfl
/-- a method: a plain def of the class or of one above it -/
structure Meth (K : PySem.W.Frag) (C : Addr) (m : Str) (f : Addr) : Prop where
  at_ : PySem.W.findIn K (.ref C) m = some (some (.ref f))
  fn : PySem.W.isFn K (.ref f) = true
  kp : PySem.W.keepIn K (.ref f) = true
section
variable {X : Cx} {pins : List (Addr × Obj)} {σ : St} {H : Hp} {s : Shared} {a C dx : Addr} {fs : List (Str × V)} {f : Str} {v : V} {A : Around} {E : Value → Shared → Prop}
theorem getattr_ok {b : Bool} {Q : Value → Shared → Prop} (I : Inv X pins σ H s) (e : H a = some (.ins C dx fs)) (c : Cls X.K C) (n : NoAttr X.K C f) (l : fs.lookup f = some v)
    (h : ∀ u s', Inv X pins σ H s' → RelV v u → Q u s') : wpAny (model X.prog X.w) A (getAttr (.ref a) f b) Q E s := by
  obtain ⟨mA, O, r, _, _, _⟩ := ins_get I.hok e
  obtain ⟨u, hu, ru⟩ := RelO.some_of (v := v) (o := mA f) (by rw [← l]; exact r f)
  exact get_map I.kIn O (c.get f) c.hd n hu (handed_of ru) (h u _ (I.tok _) ru)
theorem getmeth_ok {m : Str} {g : Addr} {pl : Sem Bool} {Q : Value × List Value → Shared → Prop} (I : Inv X pins σ H s) (e : H a = some (.ins C dx fs)) (c : Cls X.K C) (k : Meth X.K C m g) (l : fs.lookup m = none)
    (h : Q (.ref g, [.ref a]) s) : wpAny (model X.prog X.w) A (getMethod (.ref a) m pl) Q E s := by
  obtain ⟨mA, O, r, _, _, _⟩ := ins_get I.hok e
  have hn : mA m = none := RelO.none_of (by rw [← l]; exact r m)
  exact get_meth I.kIn O (c.get m) k.at_ k.fn hn h
theorem setattr_ok {y : V} {u : Value} {Q : Unit → Shared → Prop} (I : Inv X pins σ H s) (e : H a = some (.ins C dx fs)) (c : Cls X.K C) (n : NoAttr X.K C f) (hl : fs.length < 1000) (ry : RelV y u)
    (h : ∀ s', Inv X pins σ (upd H a (.ins C dx (putF f y fs))) s' → Q () s') : wpAny (model X.prog X.w) A (setAttr (.ref a) f u) Q E s := by
  obtain ⟨mA, O, r, wi, _, ho⟩ := ins_get I.hok e
  have hz : (fs.map (·.1)).length ≤ sizeLine := by rw [List.length_map, sizeLine_eq]; omega
  refine set_map I.kIn O c.sa c.po n.taker c.hd wi hz fun h' O' sb => h _ ?_
  have hd : ∃ o, h'.get? dx = some o := let ⟨o, _, _, e', _⟩ := O'.ns; ⟨o, e'⟩
  refine I.write (x := a) (e := dx) (by rw [e]; exact True.intro) (.inr ho) (fun b q hb z => (sb.2 b hb).trans z) hd ?_
  refine ⟨by rw [upd_ne O.ne]; exact ho, ?_, O.ne, O'.obj, _, O'.ns, fun g => ?_, fun g hg => ?_⟩
  · have := length_putF f y fs; omega
  · show RelO ((putF f y fs).lookup g) (if g = f then some u else mA g)
    rw [lookup_putF]
    by_cases q : g = f
    · rw [if_pos q, if_pos q]; exact ry
    · rw [if_neg q, if_neg q]; exact r g
  · by_cases q : g = f
    · rw [q]; exact (keys_putF f y fs).1
    · refine (keys_putF f y fs).2 g (wi g fun z => hg ?_)
      show (if g = f then some u else mA g) = none
      rw [if_neg q]; exact z
/-- a new instance, tracked, without attributes -/
theorem Inv.made (I : Inv X pins σ H s) : Inv X pins σ (upd (upd H s.heap.objs.size (.own (s.heap.objs.size + 1))) (s.heap.objs.size + 1) (.ins C s.heap.objs.size []))
    { s with heap := (s.heap.push PySem.W.emptyDict).push (PySem.W.instObj C s.heap.objs.size) } := by
  have e1 : (s.heap.push PySem.W.emptyDict).get? s.heap.objs.size = some PySem.W.emptyDict := Heap.get?_push_size s.heap rfl
  have e2 : ((s.heap.push PySem.W.emptyDict).push (PySem.W.instObj C s.heap.objs.size)).get? (s.heap.objs.size + 1) = some (PySem.W.instObj C s.heap.objs.size) := by
    have := Heap.get?_push_size (s.heap.push PySem.W.emptyDict) (o := PySem.W.instObj C s.heap.objs.size) rfl
    rwa [Heap.size_push] at this
  have e3 : (s.heap.push PySem.W.emptyDict).Ns s.heap.objs.size (fun _ => none) := ⟨PySem.W.emptyDict, #[], _, e1, rfl, (fun e he => absurd he (by simp)), fun _ => rfl⟩
  have I1 := I.laid (a := s.heap.objs.size) (o := .own (s.heap.objs.size + 1)) (h' := s.heap.push PySem.W.emptyDict) (t' := s.toks) (fun b u q => Heap.get?_push_of_some _ q) (Nat.le_refl _) ⟨_, e1⟩
  refine I1.laid (a := s.heap.objs.size + 1) (o := .ins C s.heap.objs.size []) (t' := s.toks) (fun b u q => Heap.get?_push_of_some _ q) (Nat.le_of_eq (Heap.size_push _ _)) ?_
  have ne : s.heap.objs.size ≠ s.heap.objs.size + 1 := Nat.ne_of_lt (Nat.lt_succ_self _)
  refine ⟨by rw [upd_ne ne, upd_same], Nat.zero_le _, ne, e2, fun _ => none, (Heap.Ns1.of_empty e3).at fun o q => Heap.get?_push_of_some _ q, fun _ => True.intro, fun y hy => absurd rfl hy⟩
/-- e.f where nothing but the object is asked: through attributeBase (super) and the last hold -/
theorem attr_of {prog : Program} {w : World} {env : Env} {e : Expr} {f : Str} {pos : Pos} {s : Shared} {Q : Value → Shared → Prop} (hb : attributeBase e f env (eval e env) = eval e env)
    (h : wpAny (model prog w) A (eval e env) (fun o s₁ => wpAny (model prog w) A (getAttr o f true) Q E s₁) E s) : wpAny (model prog w) A (eval (.Attribute e f pos) env) Q E s :=
  Attribute_any_ h (by rw [arm_eval_Attribute, hb])
end
/-! ### readings and rules -/
/-- e.f, an attribute of the instance -/
def tFld (K : PySem.W.Frag) (ta : TE) (f : Str) : TE := fun σ H Q => ta σ H fun x H1 => ∃ a C dx fs v, x = .ref a ∧ H1 a = some (.ins C dx fs) ∧ Cls K C ∧ NoAttr K C f ∧ fs.lookup f = some v ∧ Q v H1
/-- e.f = value -/
def sFld (K : PySem.W.Frag) (ta tv : TE) (f : Str) : TS := fun D σ H => tv σ H fun y H1 => ta σ H1 fun x H2 => ∃ a C dx fs, x = .ref a ∧ H2 a = some (.ins C dx fs) ∧ Cls K C ∧ NoAttr K C f ∧ fs.length < 1000 ∧
  D.nx σ (upd H2 a (.ins C dx (putF f y fs)))
section
variable {X : Cx} {o e value : Expr} {f : Str} {pos pos' tpos : Pos} {ta tv : TE}
theorem pe_fld (he : PE X e ta) (hb : attributeBase e f X.env (eval e X.env) = eval e X.env) : PE X (.Attribute e f pos) (tFld X.K ta f) := by
  intro pins s σ H Q I h
  refine attr_of hb (thn (he pins s σ H _ I h) fun u s1 ⟨x, H1, I1, rx, a, C, dx, fs, v, ex, ea, c, n, l, q⟩ => ?_)
  subst ex
  obtain rfl : u = Value.ref a := rx
  exact getattr_ok I1 ea c n l fun u' s2 I2 ru => ⟨v, H1, I2, ru, q⟩
theorem ps_fld (ha : PE X o ta) (hv : PE X value tv) (hs : swapsWith value (some (.Attribute o f pos')) pos.line X.env = pure false) : PS X (.Assign [.Attribute o f pos'] value pos) (sFld X.K ta tv f) := by
  intro pins s σ H D I h
  refine plainObj_wpAny_Assign_Attribute (thn (hv pins s σ H _ I h) fun u s1 ⟨y, H1, I1, ry, q⟩ => thn (ha pins s1 σ H1 _ I1 q) fun ov s2 ⟨x, H2, I2, rx, a, C, dx, fs, ex, ea, c, n, l, q2⟩ => ?_) hs
  subst ex
  obtain rfl : ov = Value.ref a := rx
  exact setattr_ok I2 ea c n l ry fun s3 I3 => ⟨σ, _, I3, q2⟩
/-- what is between an instance and its method: the tree of a method call -/
theorem methcall_of {pl : Sem Bool} {m : Str} {apos : Pos} {args : List Expr} {pins : List (Addr × Obj)} {s : Shared} {σ : St} {H : Hp} {Q : Value → Shared → Prop} {te : TE} (he : PE X e te) (I : Inv X pins σ H s)
    (h : te σ H fun x H1 => ∃ a C dx fs g, x = .ref a ∧ H1 a = some (.ins C dx fs) ∧ Cls X.K C ∧ Meth X.K C m g ∧ fs.lookup m = none ∧
      ∀ s1, Inv X pins σ H1 s1 → wpAny (model X.prog X.w) X.A (callWith pos (.ref g) [.ref a] (backTo pos (starEach args X.env)) (backToKw pos (keywordEach [] X.env))) Q X.xe s1)
    (ht : eval (.Call (.Attribute e m apos) args [] pos) X.env = (do
      let ov ← eval e X.env
      standAt apos.atName
      let (f, first) ← holding [ov] (getMethod ov m pl)
      callWith pos f first (backTo pos (starEach args X.env)) (backToKw pos (keywordEach [] X.env)))) :
    wpAny (model X.prog X.w) X.A (eval (.Call (.Attribute e m apos) args [] pos) X.env) Q X.xe s := by
  refine PySem.W.methodCall_KW (pl := pl) (thn (he pins s σ H _ I h) fun u s1 ⟨x, H1, I1, rx, a, C, dx, fs, g, ex, ea, c, k, l, q⟩ => ?_) ht
  subst ex
  obtain rfl : u = Value.ref a := rx
  exact getmeth_ok I1 ea c k l (q s1 I1)
end
/-! ### isinstance -/
section
variable {X : Cx} {pins : List (Addr × Obj)} {σ : St} {H : Hp} {s : Shared} {A : Around} {E : Value → Shared → Prop} {Q : Value → Shared → Prop} {c : Value} {b : Bool}
/-- the type of a value, as the fragment's deciders take it; for an instance its class -/
inductive TyOf (K : PySem.W.Frag) (H : Hp) : V → Value → Prop where
  | non : TyOf K H .non (.type "NoneType")
  | bl (x : Bool) : TyOf K H (.bl x) (.type "bool")
  | int (i : Int) : TyOf K H (.int i) (.type "int")
  | str (x : Str) : TyOf K H (.str x) (.type "str")
  | flt (x : UInt64) : TyOf K H (.flt x) (.type "float")
  | lst {a : Addr} {xs : List V} (e : H a = some (.lst xs)) : TyOf K H (.ref a) (.type "list")
  | frz {a : Addr} {o : Obj} {xs : List V} (e : H a = some (.frz o (.lst xs))) : TyOf K H (.ref a) (.type "list")
  | tup {a : Addr} {xs : List V} (e : H a = some (.tup xs)) : TyOf K H (.ref a) (.type "tuple")
  | dK {a : Addr} {kvs : List (Key × V)} (e : H a = some (.dK kvs)) : TyOf K H (.ref a) (.type "dict")
  | dT {a : Addr} {kvs : List (List Key × V)} (e : H a = some (.dT kvs)) : TyOf K H (.ref a) (.type "dict")
  | ins {a C dx : Addr} {fs : List (Str × V)} (e : H a = some (.ins C dx fs)) (cl : Cls K C) (ha : PySem.W.findIn K (.ref C) "__class__" = some (some (.builtin "object.__class__")))
      (hn : PySem.W.specialIn K (.builtin "object.__class__") "__get__" = some (some (.builtin "getset_descriptor.__get__"))) (htk : PySem.W.takesIn K (.builtin "object.__class__") = some true)
      (hm : PySem.W.mroIn K C (.type "object") = some true) : TyOf K H (.ref a) (.ref C)
/-- isinstance(x, c) for one class c, a built-in or an own one: kitOne's answer -/
theorem isinst_ok {x : V} {u t : Value} (I : Inv X pins σ H s) (rx : RelV x u) (ty : TyOf X.K H x t) (e : PySem.W.kitOne X.K t c = some b) (h : ∀ tk, Q (.bool b) { s with toks := tk }) :
    wpAny (model X.prog X.w) A (call (.builtin "isinstance") [u, c]) Q E s := by
  cases ty with
  | non => cases (show u = Value.none from rx); exact PySem.W.kia_one PySem.W.kitx_none I.kIn True.intro e (fun z => nomatch z) h
  | bl y => cases (show u = Value.bool y from rx); exact PySem.W.kia_one PySem.W.kitx_bool I.kIn True.intro e (fun z => nomatch z) h
  | int i => obtain ⟨t, q⟩ := (show ∃ t, u = Value.int i t from rx); cases q; exact PySem.W.kia_one PySem.W.kitx_int I.kIn True.intro e (fun z => nomatch z) h
  | str y => obtain ⟨t, q⟩ := (show ∃ t, u = Value.str y t from rx); cases q; exact PySem.W.kia_one PySem.W.kitx_str I.kIn True.intro e (fun z => nomatch z) h
  | flt y => obtain ⟨t, q⟩ := (show ∃ t, u = Value.float y t from rx); cases q; exact PySem.W.kia_one PySem.W.kitx_float I.kIn True.intro e (fun z => nomatch z) h
  | @lst a xs ea =>
    cases (show u = Value.ref a from rx)
    obtain ⟨_, _, n, _, h1⟩ := (show ObjOk X.prog X.w H s.heap a (.lst xs) from I.hok a _ ea)
    exact PySem.W.kia_one PySem.W.kitx_list I.kIn ⟨_, h1, rfl⟩ e (fun z => nomatch z) h
  | @frz a ob xs ea =>
    cases (show u = Value.ref a from rx)
    obtain ⟨_, _, _, n, _, h1⟩ := (show ObjOk X.prog X.w H s.heap a (.frz ob (.lst xs)) from I.hok a _ ea)
    exact PySem.W.kia_one PySem.W.kitx_list I.kIn ⟨_, h1, rfl⟩ e (fun z => nomatch z) h
  | @tup a xs ea =>
    cases (show u = Value.ref a from rx)
    obtain ⟨_, _, _, p⟩ := (show ObjOk X.prog X.w H s.heap a (.tup xs) from I.hok a _ ea)
    obtain ⟨o, h1, h2, _⟩ := p
    exact PySem.W.kia_one PySem.W.kitx_tuple I.kIn ⟨o, h1, h2⟩ e (fun z => nomatch z) h
  | @dK a kvs ea =>
    cases (show u = Value.ref a from rx)
    obtain ⟨_, _, vs, _, p⟩ := (show ObjOk X.prog X.w H s.heap a (.dK kvs) from I.hok a _ ea)
    obtain ⟨o, es, ep, h1, h2, _⟩ := p
    exact PySem.W.kia_one PySem.W.kitx_dict I.kIn ⟨o, h1, h2.1⟩ e (fun z => nomatch z) h
  | @dT a kvs ea =>
    cases (show u = Value.ref a from rx)
    obtain ⟨_, _, xs, _, o, es, ep, h1, h2, _⟩ := (show ObjOk X.prog X.w H s.heap a (.dT kvs) from I.hok a _ ea)
    exact PySem.W.kia_one PySem.W.kitx_dict I.kIn ⟨o, h1, h2.1⟩ e (fun z => nomatch z) h
  | @ins a C dx fs ea cl ha hn htk hm =>
    cases (show u = Value.ref a from rx)
    obtain ⟨mA, O, _⟩ := ins_get I.hok ea
    obtain ⟨od, J, _⟩ := O.look
    exact PySem.W.kia_one (PySem.W.kitx_own (cl.get _) cl.hd ha hn htk hm) I.kIn J e (fun z => nomatch z) h
end
end L2
namespace L2
open PySem PySem.Spec PyProof.Rows
/-! ### room -/
structure Room (k : Nat) (A : Around) : Prop where
  hd : A.handled = none
  dp : A.depth + 3 * k + 5 < recursionLimit
  un : A.units + 16 * k + 200 < cLine
theorem Room.mono {j k : Nat} {A : Around} (r : Room k A) (h : j ≤ k) : Room j A := ⟨r.hd, by have := r.dp; omega, by have := r.un; omega⟩
theorem Room.deeper {k : Nat} {A : Around} (r : Room (k + 1) A) (env : Env) : Room k (A.deeper env) :=
  ⟨r.hd, by have := r.dp; show A.depth + 1 + 3 * k + 5 < _; omega, by have := r.un; show A.units + 3 + 16 * k + 200 < _; omega⟩
theorem make_depth {A : Around} {C : Addr} {us : List Value} {kw : List (Str × Value)} : (A.under (.builtin "type.__call__" ⟨.ref C :: us, kw⟩)).depth = A.depth + 1 := by
  first | rfl | simp [Around.under, Code.weight, Code.isCreation, Code.isGuard, Code.isCaller, Code.frames, Code.isFrame, guardIds]
theorem make_units {A : Around} {C : Addr} {us : List Value} {kw : List (Str × Value)} : (A.under (.builtin "type.__call__" ⟨.ref C :: us, kw⟩)).units = A.units + 1 := by
  first | rfl | simp [Around.under, Code.cUnits, Code.frames, Code.isFrame]
theorem Room.make {k : Nat} {A : Around} (r : Room (k + 1) A) (C : Addr) (us : List Value) (kw : List (Str × Value)) : Room k (A.under (.builtin "type.__call__" ⟨.ref C :: us, kw⟩)) :=
  ⟨r.hd, by have := r.dp; rw [make_depth]; omega, by have := r.un; rw [make_units]; omega⟩
theorem Room.depth {k : Nat} {A : Around} (r : Room k A) : A.depth < recursionLimit := by have := r.dp; omega
theorem Room.units {k : Nat} {A : Around} (r : Room k A) : A.units + 64 < cLine := by have := r.un; omega
/-! ### argument lists and displays -/
def tNil : TA := fun _ H Q => Q [] H
def tCons (ta : TE) (tr : TA) : TA := fun σ H Q => ta σ H fun x H1 => tr σ H1 fun xs H2 => Q (x :: xs) H2
section
variable {X : Cx} {e : Expr} {es : List Expr} {te : TE} {t : TA} {pos : Pos}
theorem pa_nil : PA X [] tNil := fun _ _ _ _ H Q I h => Calls.spliced_nil ⟨[], H, I, .nil, h⟩
theorem pa_cons (ha : PE X e te) (hr : PA X es t) (hs : starEach (e :: es) X.env = (false, eval e X.env) :: starEach es X.env := by rfl) : PA X (e :: es) (tCons te t) := by
  intro pos pins s σ H Q I h
  rw [hs]
  show wpAny _ _ (spliced ((false, eval e X.env) :: backTo pos (starEach es X.env))) _ _ s
  refine Calls.spliced_cons (thn (ha pins s σ H _ I h) fun u s1 ⟨x, H1, I1, r1, q1⟩ => ?_)
  exact thn (hr pos pins s1 σ H1 _ I1 q1) fun us s2 ⟨xs, H2, I2, r2, q2⟩ => ⟨x :: xs, H2, I2, .cons r1 r2, q2⟩
/-- a tuple, a list of written items -/
def tTup (t : TA) : TE := fun σ H Q => t σ H fun xs H1 => xs.length ≤ sizeLine ∧ ∀ p, H1 p = none → Q (.ref p) (upd H1 p (.tup xs))
def tLst (t : TA) : TE := fun σ H Q => t σ H fun xs H1 => xs.length ≤ sizeLine ∧ ∀ p, H1 p = none → Q (.ref p) (upd H1 p (.lst xs))
theorem pe_tup {x1} (h : PA X es t) : PE X (.Tuple es x1 pos) (tTup t) := by
  intro pins s σ H Q I hq
  refine wpAny_Tuple_spliced (thn (h pos pins s σ H _ I hq) fun us s1 ⟨xs, H1, I1, r, z, q⟩ => ⟨by rw [← r.length]; exact z, ?_⟩)
  have hf : H1 s1.heap.objs.size = none := I1.hok.fresh (Nat.le_refl _)
  refine ⟨.ref s1.heap.objs.size, upd H1 s1.heap.objs.size (.tup xs), I1.laid (t' := s1.toks) (fun b u e => Heap.get?_push_of_some _ e) (Nat.le_refl _) ?_, rfl, q _ hf⟩
  exact ⟨z, us, r, ⟨_, Heap.get?_push_size _ rfl, rfl, _, rfl⟩⟩
theorem pe_lst (h : PA X es t) : PE X (.List es pos) (tLst t) := by
  intro pins s σ H Q I hq
  refine wpAny_List_spliced (thn (h pos pins s σ H _ I hq) fun us s1 ⟨xs, H1, I1, r, z, q⟩ => ⟨by rw [← r.length]; exact z, ?_⟩)
  have hf : H1 s1.heap.objs.size = none := I1.hok.fresh (Nat.le_refl _)
  refine ⟨.ref s1.heap.objs.size, upd H1 s1.heap.objs.size (.lst xs), I1.laid (t' := s1.toks) (fun b u e => Heap.get?_push_of_some _ e) (Nat.le_refl _) ?_, rfl, q _ hf⟩
  exact ⟨z, us, 0, r, Heap.get?_push_size _ rfl⟩
end
/-! ### what a def promises -/
/-- a def's promise: the bound arguments in the parameters' order, the heap, the wanted end, the wanted exception -/
abbrev Sp := List V → Hp → VK → XK → Prop
/-- how an exception lies behind a call (file 08 gives it): the callers' frames, abstract heap and state ahead of the call, the wish, the exception, the state -/
abbrev CXT := List Env → Hp → Shared → XK → Value → Shared → Prop
/-- the state at a call -/
structure Env0 (P : Program) (w : World) (K : PySem.W.Frag) (mg : Str → Option Value) (base : Heap) (A : Around) (outer : List Env) (s : Shared) (H : Hp) : Prop where
  frames : A.frames = some outer
  mod : Mod K mg base
  bs : ∀ b o, base.get? b = some o → s.heap.get? b = some o ∧ H b = none
  bsz : base.objs.size ≤ s.heap.objs.size
  funs : s.heap.FunFrames base outer
  frf : ∀ b ∈ frs outer, H b = none
  hok : HOk P w H s.heap
  bare : AllBare s.gens
/-- a call's end -/
def CE (outer : List Env) (P : Program) (w : World) (H : Hp) (s : Shared) (Q : VK) (u : Value) (s' : Shared) : Prop :=
  ∃ v H', s'.os = s.os ∧ AllBare s'.gens ∧ Un (frs outer) [] H H' s.heap s'.heap ∧ HOk P w H' s'.heap ∧ RelV v u ∧ Q v H'
def CR (CX : CXT) (outer : List Env) (P : Program) (w : World) (H : Hp) (s : Shared) (Q : VK) (E : XK) (r : Result) (s' : Shared) : Prop :=
  match r with
  | .ok (.ret u) => CE outer P w H s Q u s'
  | .ok _ => False
  | .error e => CX outer H s E e s'
structure FnOk (P : Program) (w : World) (K : PySem.W.Frag) (mg : Str → Option Value) (base : Heap) (CX : CXT) (k : Nat) (f : Addr) (fd : FuncData) (ps : List Str) (sp : Sp) : Prop where
  len : ∀ vs H Q E, sp vs H Q E → vs.length = ps.length
  run : ∀ (A : Around) (outer : List Env) (s : Shared) (H : Hp) (args : Args) (us : List Value) (vs : List V) (Q : VK) (E : XK), Room k A → Env0 P w K mg base A outer s H → BindsTo s fd args (ps.zip us) → Vals vs us → sp vs H Q E →
    codeAny (model P w) A (.call (.ref f) args) (CR CX outer P w H s Q E) s
theorem FnOk.mono {P : Program} {w : World} {K : PySem.W.Frag} {mg : Str → Option Value} {base : Heap} {CX : CXT} {j k : Nat} {f : Addr} {fd : FuncData} {ps : List Str} {sp : Sp} (F : FnOk P w K mg base CX j f fd ps sp) (h : j ≤ k) :
    FnOk P w K mg base CX k f fd ps sp := ⟨F.len, fun A outer s H args us vs Q E hr => F.run A outer s H args us vs Q E (hr.mono h)⟩
theorem Env0.make {P : Program} {w : World} {K : PySem.W.Frag} {mg : Str → Option Value} {base : Heap} {A : Around} {outer : List Env} {s : Shared} {H : Hp} (e : Env0 P w K mg base A outer s H) (C : Addr) (us : List Value) (kw : List (Str × Value)) :
    Env0 P w K mg base (A.under (.builtin "type.__call__" ⟨.ref C :: us, kw⟩)) outer s H := ⟨by first | exact e.frames | (simpa [Around.under, Code.envs, Code.isFrame, pushEnvs] using e.frames), e.mod, e.bs, e.bsz, e.funs, e.frf, e.hok, e.bare⟩
section
variable {X : Cx} {pins : List (Addr × Obj)} {σ : St} {H : Hp} {s s' : Shared}
/-- from a body: what a callee wants -/
theorem Inv.env0 (I : Inv X pins σ H s) : Env0 X.prog X.w X.K X.mg X.base X.A X.stack s H :=
  ⟨I.ok.frames, I.ok.mod, I.bs, Nat.le_trans I.ok.bsz I.sz, I.stack, I.stkFree, I.hok, I.bare⟩
/-- behind a call -/
theorem Inv.after {Q : VK} {u : Value} (I : Inv X pins σ H s) (h : CE X.stack X.prog X.w H s Q u s') : EP X pins σ Q u s' := by
  obtain ⟨v, H', os, bare, un, hok, r, q⟩ := h
  obtain ⟨hh, g, d, t, os'⟩ := s'
  obtain rfl : os' = s.os := os
  exact ⟨v, H', I.call (h' := hh) (g' := g) (d' := d) (t' := t) (ch := []) un hok bare (fun b z => absurd z (by simp)), r, q⟩
end
/-! ### calls -/
/-- f(..): the written arguments, then the defaults dvs; E: what is wanted of an exception -/
def tCall (sp : Sp) (dvs : List V) (E : XK) (t : TA) : TE := fun σ H Q => t σ H fun vs H1 => sp (vs ++ dvs) H1 Q E
/-- o.m(..) of an instance of the class at C -/
def tMeth (C : Addr) (m : Str) (sp : Sp) (dvs : List V) (E : XK) (ta : TE) (t : TA) : TE := fun σ H Q => ta σ H fun x H1 => ∃ a dx fs, x = .ref a ∧ H1 a = some (.ins C dx fs) ∧ fs.lookup m = none ∧
  t σ H1 fun vs H2 => sp (x :: (vs ++ dvs)) H2 Q E
/-- C(..): a new instance and its dict, then __init__ -/
def tMake (C : Addr) (sp : Sp) (dvs : List V) (E : XK) (t : TA) : TE := fun σ H Q => t σ H fun vs H1 => ∀ x dx, H1 x = none → H1 dx = none → dx ≠ x →
  sp (.ref x :: (vs ++ dvs)) (upd (upd H1 dx (.own x)) x (.ins C dx [])) (fun v H2 => v = .non ∧ Q (.ref x) H2) E
/-- how the parameters are bound: us the positional arguments, kw the keywords' values by name, ds the defaults that fill up -/
def Binds (K : PySem.W.Frag) (fd : FuncData) (ps : List Str) (ds : List Value) : Prop :=
  ∀ (s : Shared) (us : List Value), K.In s.heap → (us ++ ds).length = ps.length → BindsTo s fd ⟨us, []⟩ (ps.zip (us ++ ds))
/-- every parameter is given -/
theorem Binds.all {K : PySem.W.Frag} {fd : FuncData} {ps : List Str} (h : ∀ us : List Value, us.length = ps.length → bindArgs fd ⟨us, []⟩ = pure (ps.zip us)) : Binds K fd ps [] := fun s us _ hl => by
  rw [List.append_nil] at hl ⊢
  exact .of_eq (h us hl)
/-- an exception of a callee reaches what this body wants of exceptions -/
def Passes (CX : CXT) (X : Cx) (E : XK) : Prop := ∀ (pins : List (Addr × Obj)) (σ : St) (H : Hp) (s : Shared) (e : Value) (s' : Shared), Inv X pins σ H s → CX X.stack H s E e s' → X.xe e s'
section
variable {X : Cx} {CX : CXT} {k : Nat} {f C : Addr} {fd : FuncData} {ps : List Str} {sp : Sp} {dvs : List V} {ds : List Value} {E : XK} {x m : Str} {p pos apos : Pos} {e o : Expr} {es : List Expr} {ta : TE} {t : TA}
/-- the callee runs -/
theorem run_fn {pins : List (Addr × Obj)} {σ : St} {H : Hp} {s : Shared} {Q : VK} {us : List Value} {vs : List V} (F : FnOk X.prog X.w X.K X.mg X.base CX k f fd ps sp) (hr : Room k X.A) (hb : Binds X.K fd ps ds) (hd : Vals dvs ds) (hx : Passes CX X E)
    (I : Inv X pins σ H s) (r : Vals vs us) (h : sp (vs ++ dvs) H Q E) : wpAny (model X.prog X.w) X.A (call (.ref f) us) (EP X pins σ Q) X.xe s := by
  have r2 : Vals (vs ++ dvs) (us ++ ds) := r.append hd
  have hl : (us ++ ds).length = ps.length := by rw [← r2.length]; exact F.len _ _ _ _ h
  refine wpAny_call (codeAny_mono (F.run X.A X.stack s H ⟨us, []⟩ (us ++ ds) (vs ++ dvs) Q E hr I.env0 (hb s us I.kIn hl) r2 h) fun r s' hq => ?_)
  cases r with
  | error e => exact hx pins σ H s e s' I hq
  | ok fl =>
    cases fl with
    | ret u => exact I.after hq
    | next => exact False.elim hq
    | brk => exact False.elim hq
    | cont => exact False.elim hq
theorem pe_call (F : FnOk X.prog X.w X.K X.mg X.base CX k f fd ps sp) (hr : Room k X.A) (hg : Gl X x) (hm : X.mg x = some (.ref f)) (hk : PySem.W.keepIn X.K (.ref f) = true) (hb : Binds X.K fd ps ds) (hd : Vals dvs ds) (hx : Passes CX X E)
    (ha : PA X (e :: es) t) (hdb : (x == ("__debug__" : Str)) = false := by decide) (he : starEach (e :: es) X.env = (false, eval e X.env) :: starEach es X.env := by rfl) (hpl : (backTo pos (starEach es X.env)).any (·.1) = false := by rfl) :
    PE X (.Call (.Name x p) (e :: es) [] pos) (tCall sp dvs E t) := by
  intro pins s σ H Q I h
  refine wpAny_Call_Name_kw (ld_glob I hg hm ?_ hdb)
  refine PySem.W.callWith_K (h₀ := X.base) I.ok.mod.kin hk (thn (ha pos pins s σ H _ I h) fun us s1 ⟨vs, H1, I1, r, q⟩ => ⟨I1.kIn, ?_⟩) he hpl
  exact run_fn F hr hb hd hx I1 r q
/-- o.m(e, ..) -/
theorem pe_meth {pl : Sem Bool} (he : PE X o ta) (c : Cls X.K C) (hm : Meth X.K C m f) (F : FnOk X.prog X.w X.K X.mg X.base CX k f fd ps sp) (hr : Room k X.A) (hb : Binds X.K fd ps ds) (hd : Vals dvs ds) (hx : Passes CX X E) (ha : PA X (e :: es) t)
    (hst : starEach (e :: es) X.env = (false, eval e X.env) :: starEach es X.env := by rfl) (hpl : (backTo pos (starEach es X.env)).any (·.1) = false := by rfl)
    (ht : eval (.Call (.Attribute o m apos) (e :: es) [] pos) X.env = (do
      let ov ← eval o X.env
      standAt apos.atName
      let (f, first) ← holding [ov] (getMethod ov m pl)
      callWith pos f first (backTo pos (starEach (e :: es) X.env)) (backToKw pos (keywordEach [] X.env))) := by rfl) :
    PE X (.Call (.Attribute o m apos) (e :: es) [] pos) (tMeth C m sp dvs E ta t) := by
  intro pins s σ H Q I h
  refine PySem.W.methodCall_KW (pl := pl) (thn (he pins s σ H _ I h) fun u s1 ⟨x, H1, I1, rx, a, dx, fs, ex, ea, l, q⟩ => ?_) ht
  subst ex
  obtain rfl : u = Value.ref a := rx
  refine getmeth_ok I1 ea c hm l ?_
  refine PySem.W.callWith_K (first := [.ref a]) (h₀ := X.base) I.ok.mod.kin hm.kp (thn (ha pos pins s1 σ H1 _ I1 q) fun us s2 ⟨vs, H2, I2, r, q2⟩ => ⟨I2.kIn, ?_⟩) hst hpl
  exact run_fn (us := .ref a :: us) (vs := .ref a :: vs) F hr hb hd hx I2 (.cons rfl r) q2
/-- what a class must have to be made -/
structure Mk (K : PySem.W.Frag) (C f : Addr) : Prop where
  makes : PySem.W.makesIn K C = true
  init : PySem.W.findIn K (.ref C) "__init__" = some (some (.ref f))
  fn : PySem.W.isFn K (.ref f) = true
  kp : PySem.W.keepIn K (.ref C) = true
theorem run_make {pins : List (Addr × Obj)} {σ : St} {H : Hp} {s : Shared} {Q : VK} {us : List Value} {vs : List V} (M : Mk X.K C f) (F : FnOk X.prog X.w X.K X.mg X.base CX k f fd ps sp) (hr : Room (k + 1) X.A) (hb : Binds X.K fd ps ds) (hd : Vals dvs ds)
    (hx : Passes CX X E) (I : Inv X pins σ H s) (r : Vals vs us)
    (h : ∀ x dx, H x = none → H dx = none → dx ≠ x → sp (.ref x :: (vs ++ dvs)) (upd (upd H dx (.own x)) x (.ins C dx [])) (fun v H2 => v = .non ∧ Q (.ref x) H2) E) :
    wpAny (model X.prog X.w) X.A (call (.ref C) us) (EP X pins σ Q) X.xe s := by
  have hq := h (s.heap.objs.size + 1) s.heap.objs.size (I.hok.fresh (Nat.le_succ _)) (I.hok.fresh (Nat.le_refl _)) (Nat.ne_of_lt (Nat.lt_succ_self _))
  have I2 := Inv.made (C := C) I
  have r2 : Vals (V.ref (s.heap.objs.size + 1) :: (vs ++ dvs)) (Value.ref (s.heap.objs.size + 1) :: (us ++ ds)) := .cons rfl (r.append hd)
  have hl : (Value.ref (s.heap.objs.size + 1) :: us ++ ds).length = ps.length := by
    have e := r2.length
    rw [F.len _ _ _ _ hq] at e
    exact e.symm
  refine wpAny_call (make_map (f := f) I.kIn M.makes M.init (beq_iff_eq.mp M.fn) (codeAny_mono (F.run _ X.stack _ _ ⟨Value.ref (s.heap.objs.size + 1) :: us, []⟩ (Value.ref (s.heap.objs.size + 1) :: (us ++ ds)) _ _ E (hr.make C us [])
    (I2.env0.make C us []) (hb _ (Value.ref (s.heap.objs.size + 1) :: us) I2.kIn hl) r2 hq) fun r s' hq' => ?_))
  cases r with
  | error e => exact hx pins σ _ _ e s' I2 hq'
  | ok fl =>
    cases fl with
    | ret u =>
      obtain ⟨v, H', I3, rv, ev, q3⟩ := I2.after hq'
      subst ev
      exact ⟨rv, ⟨V.ref (s.heap.objs.size + 1), H', I3, rfl, q3⟩⟩
    | next => exact False.elim hq'
    | brk => exact False.elim hq'
    | cont => exact False.elim hq'
theorem pe_make (M : Mk X.K C f) (F : FnOk X.prog X.w X.K X.mg X.base CX k f fd ps sp) (hr : Room (k + 1) X.A) (hg : Gl X x) (hm : X.mg x = some (.ref C)) (hb : Binds X.K fd ps ds) (hd : Vals dvs ds) (hx : Passes CX X E)
    (ha : PA X (e :: es) t) (hdb : (x == ("__debug__" : Str)) = false := by decide) (he : starEach (e :: es) X.env = (false, eval e X.env) :: starEach es X.env := by rfl) (hpl : (backTo pos (starEach es X.env)).any (·.1) = false := by rfl) :
    PE X (.Call (.Name x p) (e :: es) [] pos) (tMake C sp dvs E t) := by
  intro pins s σ H Q I h
  refine wpAny_Call_Name_kw (ld_glob I hg hm ?_ hdb)
  refine PySem.W.callWith_K (h₀ := X.base) I.ok.mod.kin M.kp (thn (ha pos pins s σ H _ I h) fun us s1 ⟨vs, H1, I1, r, q⟩ => ⟨I1.kIn, ?_⟩) he hpl
  exact run_make M F hr hb hd hx I1 r q
end
/-! ### keywords -/
section
variable {X : Cx} {CX : CXT} {k : Nat} {f C : Addr} {fd : FuncData} {ps ks : List Str} {sp : Sp} {E : XK} {x m : Str} {p pos apos kpos : Pos} {e o : Expr} {es : List Expr} {kws : List Keyword} {te ta : TE} {t tk : TA} {nm : Option Str}
variable {g : List Value → List Value → List Value} {gV : List V → List V → List V}
end
/-! ### a def's body keeps its promise -/
/-- names: the parameters first -/
structure FnScope (N P : List Str) (sc : Scope) : Prop where
  kind : sc.kind = .function
  co : sc.isCoroutine = false
  gen : sc.isGenerator = false
  nd : N.Nodup
  pre : N.take P.length = P
  par : ∀ x ∈ P, sc.names.lookup x = some .local ∨ sc.names.lookup x = some .cell
  nofree : ∀ y ∈ sc.names, y.2 ≠ .free
theorem bindL_out {kindOf : Str → Option NameKind} {x : Str} : ∀ {binds : List (Str × Value)} {m : Str → Option Value}, (∀ v, (x, v) ∉ binds) → bindL kindOf binds m x = m x
  | [], _, _ => rfl
  | (n, v) :: r, m, h => by
    unfold bindL
    rw [bindL_out fun w hw => h w (List.mem_cons_of_mem _ hw)]
    split
    · have : x ≠ n := by rintro rfl; exact h v List.mem_cons_self
      simp [this]
    · rfl
theorem bindC_out {kindOf : Str → Option NameKind} {x : Str} : ∀ {binds : List (Str × Value)} {m : Str → Option Value}, (∀ v, (x, v) ∉ binds) → bindC kindOf binds m x = m x
  | [], _, _ => rfl
  | (n, v) :: r, m, h => by
    unfold bindC
    rw [bindC_out fun w hw => h w (List.mem_cons_of_mem _ hw)]
    split
    · rfl
    · have : x ≠ n := by rintro rfl; exact h v List.mem_cons_self
      simp [this]
theorem bindL_get {kindOf : Str → Option NameKind} {x : Str} {v : Value} : ∀ {P : List Str} {vs : List Value} {i : Nat} {m : Str → Option Value}, P.Nodup → P[i]? = some x → vs[i]? = some v → kindOf x = some .local →
    bindL kindOf (P.zip vs) m x = some v
  | [], _, _, _, _, h, _, _ => by simp at h
  | _ :: _, [], _, _, _, _, h, _ => by simp at h
  | p :: P, w :: vs, 0, m, nd, h1, h2, hk => by
    simp at h1 h2; subst h1; subst h2
    show bindL kindOf ((p, w) :: P.zip vs) m p = _
    unfold bindL
    rw [bindL_out fun v hv => (List.nodup_cons.mp nd).1 (List.of_mem_zip hv).1, if_pos hk]
    simp
  | p :: P, w :: vs, i + 1, m, nd, h1, h2, hk => by
    show bindL kindOf ((p, w) :: P.zip vs) m x = _
    unfold bindL
    exact bindL_get (i := i) (List.nodup_cons.mp nd).2 (by simpa using h1) (by simpa using h2) hk
theorem bindC_get {kindOf : Str → Option NameKind} {x : Str} {v : Value} : ∀ {P : List Str} {vs : List Value} {i : Nat} {m : Str → Option Value}, P.Nodup → P[i]? = some x → vs[i]? = some v → kindOf x ≠ some .local →
    bindC kindOf (P.zip vs) m x = some v
  | [], _, _, _, _, h, _, _ => by simp at h
  | _ :: _, [], _, _, _, _, h, _ => by simp at h
  | p :: P, w :: vs, 0, m, nd, h1, h2, hk => by
    simp at h1 h2; subst h1; subst h2
    show bindC kindOf ((p, w) :: P.zip vs) m p = _
    unfold bindC
    rw [bindC_out fun v hv => (List.nodup_cons.mp nd).1 (List.of_mem_zip hv).1, if_neg hk]
    simp
  | p :: P, w :: vs, i + 1, m, nd, h1, h2, hk => by
    show bindC kindOf ((p, w) :: P.zip vs) m x = _
    unfold bindC
    exact bindC_get (i := i) (List.nodup_cons.mp nd).2 (by simpa using h1) (by simpa using h2) hk
/-- the names' values at the entry -/
def start (N : List Str) (vs : List V) : St := vs.map some ++ List.replicate (N.length - vs.length) none
/-- the context of a def's body, at its entry; an exception leaves the frame, then lies as CX says -/
def cxOf (CX : CXT) (P : Program) (w : World) (K : PySem.W.Frag) (mg : Str → Option Value) (base : Heap) (N : List Str) (qual : Str) (scope : Scope) (f : Addr) (cd : Value) (A : Around) (outer : List Env) (s : Shared) (H : Hp) (E : XK) : Cx where
  prog := P
  w := w
  K := K
  mg := mg
  base := base
  A := A.deeper (envOfC qual scope s.heap.objs.size f cd)
  N := N
  s₀ := s
  H₀ := H
  env := envOfC qual scope s.heap.objs.size f cd
  outer := outer
  stack := envOfC qual scope s.heap.objs.size f cd :: outer
  ex := []
  calm := true
  fn := fun _ => true
  pn := []
  xe := fun e s' => wpAny (model P w) (A.deeper (envOfC qual scope s.heap.objs.size f cd)) (leaving (envOfC qual scope s.heap.objs.size f cd) e) (fun _ s'' => CX outer H s E e s'') (fun e' s'' => CX outer H s E e' s'') s'
theorem cell_has {sc : Scope} {n : Nat} {x : Str} (h : sc.names.lookup x = some .cell) : ∃ c, (cellsFrom n sc.names []).lookup x = some c := by
  have q := PySem.W.cellsFrom_some sc.names n [] (.inl h)
  exact Option.isSome_iff_exists.mp q
theorem inv_start {CX : CXT} {P : Program} {w : World} {K : PySem.W.Frag} {mg : Str → Option Value} {base : Heap} {N ps : List Str} {qual : Str} {scope : Scope} {f : Addr} {cd : Value} {A : Around} {outer : List Env} {s s1 : Shared} {H : Hp} {E : XK} {us : List Value} {vs : List V}
    (S : FnScope N ps scope) (hd : A.handled = none) (e0 : Env0 P w K mg base A outer s H) (hl : vs.length = ps.length) (r : Vals vs us)
    (x : InCallC s s.heap.objs.size (bindL (envOfC qual scope s.heap.objs.size f cd).kindOf (ps.zip us) fun _ => none) (cellsFrom (s.heap.objs.size + 1) scope.names []) (bindC (envOfC qual scope s.heap.objs.size f cd).kindOf (ps.zip us) fun _ => none) s1) :
    Inv (cxOf CX P w K mg base N qual scope f cd A outer s H E) [] (start N vs) H s1 := by
  have hpl : ps.length ≤ N.length := by have := congrArg List.length S.pre; rw [List.length_take] at this; omega
  obtain ⟨h1, tk, rfl, hk⟩ := x.done
  have noA : ∀ b : Addr, b ∉ (cxOf CX P w K mg base N qual scope f cd A outer s H E).ex := fun b z => absurd (show b ∈ ([] : List Addr) from z) (by simp)
  refine ⟨⟨e0.mod, S.kind, rfl, rfl, Nat.le_refl _, fun y z c h1 h2 => ?_, fun y hy => ?_, fun y c _ h => ?_, fun _ => hd, Around.frames_deeper e0.frames, .inr ⟨rfl, rfl⟩, fun b z => absurd z (noA b), e0.bs, e0.bsz, fun b _ _ => noA b, fun b z => absurd z (noA b), e0.funs, e0.frf⟩,
    rfl, e0.bare, Un.kept hk, ⟨_, x.toInCall.ns, fun i y v h1 h2 h3 => ?_⟩, fun y c h => ⟨_, x.cell y c h⟩, e0.hok.fresh (Nat.le_refl _), fun y c h => ?_, fun p hp => absurd (show p ∈ ([] : List (Addr × Obj)) from hp) (by simp), e0.hok.kept hk, ?_⟩
  · exact name_of_addr x.apart (PySem.mem_of_lookup h1) (PySem.mem_of_lookup h2)
  · have hy : scope.names.lookup y = some .cell ∨ scope.names.lookup y = some .free := hy
    rcases hy with hy | hy
    · exact cell_has hy
    · exact absurd rfl (S.nofree _ (PySem.mem_of_lookup hy))
  · exact Nat.le_of_lt (x.above y c (PySem.mem_of_lookup h))
  · have hi : i < vs.length := by
      unfold start at h2
      by_cases hi : i < vs.length
      · exact hi
      · rw [List.getElem?_append_right (by simpa using hi)] at h2
        rw [List.getElem?_replicate] at h2
        split at h2 <;> cases h2
    have ha : vs[i]? = some v := by
      unfold start at h2
      rw [List.getElem?_append_left (by simpa using hi), List.getElem?_map] at h2
      cases e : vs[i]? with
      | none => rw [e] at h2; cases h2
      | some a => rw [e] at h2; cases h2; rfl
    obtain ⟨u, hu, rv⟩ := r.get ha
    have hp : ps[i]? = some y := by
      rw [← S.pre, List.getElem?_take_of_lt (by omega)]; exact h1
    have ndP : ps.Nodup := by rw [← S.pre]; exact S.nd.sublist (List.take_sublist _ _)
    refine ⟨u, rv, ?_⟩
    rcases S.par y (List.mem_of_getElem? hp) with k | k
    · exact .inl ⟨k, bindL_get ndP hp hu k⟩
    · obtain ⟨c, e⟩ := cell_has (n := s.heap.objs.size + 1) k
      refine .inr ⟨.inl k, c, e, ?_⟩
      have q := x.cell y c e
      rw [bindC_get ndP hp hu (by show scope.names.lookup y ≠ _; rw [k]; decide)] at q
      exact q
  · exact e0.hok.fresh (Nat.le_of_lt (x.above y c (PySem.mem_of_lookup h)))
  · unfold start
    show _ = N.length
    rw [List.length_append, List.length_map, List.length_replicate]
    omega
/-- THE RULE: a def (or a method) of the text, by its body. The body's reading t is chosen for each entry; it is run at the parameters' values -/
theorem fn_of {CX : CXT} {P : Program} {w : World} {K : PySem.W.Frag} {mg : Str → Option Value} {base : Heap} {k : Nat} {f : Addr} {name qual : Str} {params : Arguments} {body : List Stmt} {scope : Scope} {dV kV doc pm cdv ct oc : Value} {an od : Option Addr}
    {osl : Array (Option Value)} {N ps : List Str} {sp : Sp} (lk : K.lookup f = some ⟨oc, od, .func (PySem.W.fnOf name qual params body scope dV kV doc pm an cdv ct), osl⟩) (hcd : PySem.W.codeIn K cdv qual = true) (S : FnScope N ps scope)
    (len : ∀ vs H Q E, sp vs H Q E → vs.length = ps.length)
    (hbody : ∀ (A : Around) (outer : List Env) (s : Shared) (H : Hp) (vs : List V) (Q : VK) (E : XK), Room k (A.deeper (envOfC qual scope s.heap.objs.size f cdv)) → sp vs H Q E →
      ∃ t, PSs (cxOf CX P w K mg base N qual scope f cdv A outer s H E) body t ∧ t { nx := fun _ H' => Q .non H', rt := Q } (start N vs) H) :
    FnOk P w K mg base CX (k + 1) f (PySem.W.fnOf name qual params body scope dV kV doc pm an cdv ct) ps sp := by
  refine ⟨len, fun A outer s H args us vs Q E hr e0 hb r hsp => ?_⟩
  have hl := len _ _ _ _ hsp
  have KX : K.In s.heap := e0.mod.kin.keeps fun b o e => (e0.bs b o e).1
  have lim : s.heap.NoLimit := e0.mod.nolimit.keeps fun b o e => (e0.bs b o e).1
  have hkind : ∀ y ∈ ps.zip us, scope.names.lookup y.1 = some .local ∨ (scope.names.lookup y.1 = some .cell ∧ ((cellsFrom (s.heap.objs.size + 1) scope.names []).lookup y.1).isSome = true) := fun ⟨n, v⟩ hy => by
    rcases S.par n (List.of_mem_zip hy).1 with q | q
    · exact .inl q
    · exact .inr ⟨q, PySem.W.cellsFrom_some _ _ _ (.inl q)⟩
  refine codeAny_call_function hr.depth (KX _ _ lk) rfl S.co S.gen rfl (PySem.W.codeRec_of KX hcd) (hb _ _ _ _ ?_)
  refine wpAny_newFunctionEnv_cells S.kind hkind fun env he s1 x => ?_
  subst he
  refine ⟨lim.keeps x.toInCall.keep, codeAny_func ?_⟩
  obtain ⟨t, ht, hq⟩ := hbody A outer s H vs Q E (hr.deeper _) hsp
  have I : Inv (cxOf CX P w K mg base N qual scope f cdv A outer s H E) [] (start N vs) H s1 := inv_start S hr.hd e0 hl r x
  refine wpAny_mono (ht [] s1 (start N vs) H _ I hq) (fun fl s' hs => ?_) fun e s' hs => hs
  have fin : ∀ {σ' : St} {H' : Hp} {v : V} {u : Value}, Inv (cxOf CX P w K mg base N qual scope f cdv A outer s H E) [] σ' H' s' → RelV v u → Q v H' → CE outer P w H s Q u s' :=
    fun {σ' H' v u} J rv q => ⟨v, H', J.os, J.bare, J.base, J.hok, rv, q⟩
  cases fl with
  | ret u =>
    obtain ⟨v, σ', H', J, rv, q⟩ := hs
    exact fin J rv q
  | next =>
    obtain ⟨σ', H', J, q⟩ := hs
    exact fin (v := V.non) (u := Value.none) J rfl q
  | brk =>
    obtain ⟨_, _, _, q⟩ := hs
    exact False.elim q
  | cont =>
    obtain ⟨_, _, _, q⟩ := hs
    exact False.elim q
end L2
namespace L2
open PySem PySem.Spec PyProof.Rows
section
variable {X : Cx} {x : Str} {p pos : Pos} {e : Expr} {es : List Expr} {t : TA} {id T : String} {r : List V → Hp → VK → Prop}
def tCB (r : List V → Hp → VK → Prop) (t : TA) : TE := fun σ H Q => t σ H fun vs H1 => r vs H1 Q
/-- f(e, ..), f a built-in function -/
theorem pe_callB (hc : CallR X (.builtin id) r) (hg : Gl X x) (hm : X.mg x = none) (hv : bootBuiltins x = some (.builtin id)) (ha : PA X (e :: es) t) (hn : x ≠ "__name__" := by decide) (hdb : (x == ("__debug__" : Str)) = false := by decide)
    (he : starEach (e :: es) X.env = (false, eval e X.env) :: starEach es X.env := by rfl) (hpl : (backTo pos (starEach es X.env)).any (·.1) = false := by rfl) : PE X (.Call (.Name x p) (e :: es) [] pos) (tCB r t) := by
  intro pins s σ H Q I h
  refine wpAny_Call_Name_kw (ld_blt I hg hm hv ?_ hn hdb)
  exact PyProof.Rows.callWith_builtin1 (thn (ha pos pins s σ H _ I h) fun us s1 ⟨vs, H1, I1, r1, q1⟩ => hc pins s1 σ H1 vs us Q I1 r1 q1) he hpl
/-- T(e, ..), T a built-in type -/
theorem pe_callTy (hc : CallR X (.type T) r) (hg : Gl X x) (hm : X.mg x = none) (hv : bootBuiltins x = some (.type T)) (ha : PA X (e :: es) t) (hn : x ≠ "__name__" := by decide) (hdb : (x == ("__debug__" : Str)) = false := by decide)
    (he : starEach (e :: es) X.env = (false, eval e X.env) :: starEach es X.env := by rfl) (hpl : (backTo pos (starEach es X.env)).any (·.1) = false := by rfl) : PE X (.Call (.Name x p) (e :: es) [] pos) (tCB r t) := by
  intro pins s σ H Q I h
  refine wpAny_Call_Name_kw (ld_blt I hg hm hv ?_ hn hdb)
  exact PyProof.Rows.callWith_type1 (thn (ha pos pins s σ H _ I h) fun us s1 ⟨vs, H1, I1, r1, q1⟩ => hc pins s1 σ H1 vs us Q I1 r1 q1) he hpl
end
end L2
namespace HT
open PySem PyProof.Rows
section
open PySem.SeqAt
open PySem.AutoSeq1 (wpAny_loadPart')
open PySem.MeetsSeq PySem.MeetsSeq2 PySem.MeetsSeq3
end
section
variable {prog : Program} {w : World} {A : Around} {E : Value → Shared → Prop} {s : Shared}
/-! ### t[a:b], not the whole -/
/-- a slice's bound as a place among n (d where it is left out) -/
def sIx (n d : Nat) : Option Int → Nat
  | none => d
  | some v => if v < 0 then (v + (n : Int)).toNat else min v.toNat n
theorem slicePart_ {v : Value} {o : Option Int} {Q : Option Int → Shared → Prop} (p : IsPart v o) (h : Q o s) : wpAny (model prog w) A (Builtin.Slice.slicePartIndex v) Q E s := by
  cases p with
  | none => exact slicePart_none h
  | int i t => exact slicePart_int h
end
end HT
namespace L2
open PySem PySem.Spec PyProof.Rows
/-! ### the parts of a slice -/
abbrev TO := St → Hp → (Option Int → Hp → Prop) → Prop
/-- a slice's part (left out, or an int) -/
def PO (X : Cx) (e : Option Expr) (t : TO) : Prop :=
  ∀ (pins : List (Addr × Obj)) (s : Shared) (σ : St) (H : Hp) (Q : Option Int → Hp → Prop), Inv X pins σ H s → t σ H Q →
    wpAny (model X.prog X.w) X.A (evalPart e X.env) (fun u s' => ∃ o H', Inv X pins σ H' s' ∧ IsPart u o ∧ Q o H') X.xe s
def tNoPart : TO := fun _ H Q => Q none H
def tPart (t : TE) : TO := fun σ H Q => t σ H fun x H1 => ∃ i, x = .int i ∧ Q (some i) H1
section
variable {X : Cx} {e : Expr} {te : TE} {lo hi : Option Expr} {tl th : TO} {pos p2 : Pos}
theorem po_none : PO X none tNoPart := by
  intro pins s σ H Q I h
  rw [evalPart_none]
  exact wpAny_pure ⟨none, H, I, .none, h⟩
theorem po_some (h : PE X e te) : PO X (some e) (tPart te) := by
  intro pins s σ H Q I hw
  rw [evalPart_some]
  refine thn (h pins s σ H _ I hw) fun u s1 ⟨x, H1, I1, r1, q1⟩ => ?_
  obtain ⟨i, rfl, q⟩ := q1
  obtain ⟨t, rfl⟩ := r1
  exact ⟨some i, H1, I1, .int i t, q⟩
/-- what a slice of a value is, by values: the slice object stands at sl -/
def SlR (X : Cx) (r : V → Option Int → Option Int → Hp → VK → Prop) : Prop :=
  ∀ (pins : List (Addr × Obj)) (s : Shared) (σ : St) (H : Hp) (x : V) (v vl vu : Value) (lo hi : Option Int) (sl : Addr) (Q : VK), Inv X pins σ H s → RelV x v → s.heap.IsSliceOf sl vl vu .none → IsPart vl lo → IsPart vu hi → r x lo hi H Q →
    ∃ T id, typeLookup (.type T) "__getitem__" = pure (some (.builtin id)) ∧ s.TypeIs v T ∧ wpAny (model X.prog X.w) X.A (getItem v (.ref sl)) (EP X pins σ Q) X.xe s
theorem SlR.or {r r' : V → Option Int → Option Int → Hp → VK → Prop} (h : SlR X r) (h' : SlR X r') : SlR X (fun x lo hi H Q => r x lo hi H Q ∨ r' x lo hi H Q) := by
  intro pins s σ H x v vl vu lo hi sl Q I rx hs pl pu q
  rcases q with q | q
  · exact h pins s σ H x v vl vu lo hi sl Q I rx hs pl pu q
  · exact h' pins s σ H x v vl vu lo hi sl Q I rx hs pl pu q
def tSl (r : V → Option Int → Option Int → Hp → VK → Prop) (te : TE) (tl th : TO) : TE := fun σ H Q => te σ H fun x H1 => tl σ H1 fun l H2 => th σ H2 fun u H3 => r x l u H3 Q
/-- a[lo:hi], any a -/
theorem pe_slice {r : V → Option Int → Option Int → Hp → VK → Prop} (hr : SlR X r) (he : PE X e te) (hl : PO X lo tl) (hu : PO X hi th) : PE X (.Subscript e (.Slice lo hi none p2) pos) (tSl r te tl th) := by
  intro pins s σ H Q I h
  refine Subscript_ (thn (he pins s σ H _ I h) fun v s1 ⟨x, H1, I1, r1, q1⟩ => ?_)
  refine wpAny_Slice (thn (hl pins s1 σ H1 _ I1 q1) fun vl s2 ⟨l, H2, I2, pl, q2⟩ => thn (hu pins s2 σ H2 _ I2 q2) fun vu s3 ⟨u, H3, I3, pu, q3⟩ => ?_)
  rw [evalPart_none]
  refine wpAny_pure ?_
  have I4 : Inv X pins σ H3 { s3 with heap := s3.heap.push { cls := .type "slice", data := .fields #[vl, vu, .none] } } := I3.kept (t' := s3.toks) fun b ob q => Heap.get?_push_of_some _ q
  obtain ⟨T, id, hT, ht, hg⟩ := hr pins { s3 with heap := s3.heap.push { cls := .type "slice", data := .fields #[vl, vu, .none] } } σ H3 x v vl vu l u s3.heap.objs.size Q I4 r1 (Heap.IsSliceOf.new ..) pl pu q3
  show wpAny (model X.prog X.w) X.A (subscriptTail e (.Slice lo hi none p2) v (.ref s3.heap.objs.size)) (EP X pins σ Q) X.xe { s3 with heap := s3.heap.push { cls := .type "slice", data := .fields #[vl, vu, .none] } }
  exact tail_any (ops := [.ref s3.heap.objs.size, v]) ht hT hg (by with_unfolding_all rfl)
/-- the items of xs[lo:hi] -/
def cutV (xs : List V) (lo hi : Option Int) : List V := (xs.drop (HT.sIx xs.length 0 lo)).take (HT.sIx xs.length xs.length hi - HT.sIx xs.length 0 lo)
theorem cutV_length (xs : List V) (lo hi : Option Int) : (cutV xs lo hi).length ≤ xs.length := by
  unfold cutV
  rw [List.length_take, List.length_drop]
  omega
/-! ### t < u, t + u -/
end
end L2
namespace L2
open PySem PySem.Spec PyProof.Rows
/-! ### places -/
/-- the place that an index of any sign means -/
def ixN (n : Nat) (i : Int) : Option Nat := if 0 ≤ i then (if i < n then some i.toNat else none) else if -(n : Int) ≤ i then some (i + n).toNat else none
def atI {α : Type} (xs : List α) (i : Int) : Option α := (ixN xs.length i).bind fun j => xs[j]?
theorem ixN_seq {n : Nat} {i : Int} {j : Nat} (h : ixN n i = some j) : seqIndex? i n = some j ∧ j < n ∧ -(n : Int) ≤ i ∧ i < n := by
  unfold ixN at h
  by_cases h0 : 0 ≤ i
  · rw [if_pos h0] at h
    by_cases h1 : i < n
    · rw [if_pos h1] at h
      have e : i.toNat = j := Option.some.inj h
      exact ⟨by rw [seqIndex_of h0 h1, e], by omega, by omega, h1⟩
    · rw [if_neg h1] at h; cases h
  · rw [if_neg h0] at h
    by_cases h1 : -(n : Int) ≤ i
    · rw [if_pos h1] at h
      have e : (i + n).toNat = j := Option.some.inj h
      exact ⟨by rw [seqIndex_neg (by omega) h1, e], by omega, h1, by omega⟩
    · rw [if_neg h1] at h; cases h
theorem atI_get {α : Type} {xs : List α} {i : Int} {v : α} (h : atI xs i = some v) : ∃ j, seqIndex? i xs.length = some j ∧ xs[j]? = some v ∧ j < xs.length ∧ -(xs.length : Int) ≤ i ∧ i < xs.length := by
  unfold atI at h
  cases e : ixN xs.length i with
  | none => rw [e] at h; cases h
  | some j =>
    rw [e] at h
    obtain ⟨h1, h2, h3, h4⟩ := ixN_seq e
    exact ⟨j, h1, h, h2, h3, h4⟩
theorem atI_nat {α : Type} {xs : List α} {j : Nat} {v : α} (h : xs[j]? = some v) : atI xs (j : Int) = some v := by
  have hj : j < xs.length := (List.getElem?_eq_some_iff.mp h).1
  have e : ixN xs.length (j : Int) = some j := by
    unfold ixN
    rw [if_pos (by omega), if_pos (by omega)]; simp
  unfold atI; rw [e]; exact h
theorem atI_last {α : Type} (xs : List α) (v : α) : atI (xs ++ [v]) (-1) = some v := by
  have hl : (xs ++ [v]).length = xs.length + 1 := by simp
  have e : ixN (xs ++ [v]).length (-1) = some xs.length := by
    unfold ixN
    rw [hl, if_neg (by decide), if_pos (by omega)]
    congr 1
    omega
  unfold atI
  rw [e]
  show (xs ++ [v])[xs.length]? = some v
  simp
/-! ### what may be subscripted -/
/-- what stands as an index of a plain subscript -/
def PlainIx (b : Expr) : Prop := ∀ o i, subscripted b false o i = operate [o, i] (getItem o i)
/-- a subscript by values -/
def IxR (X : Cx) (r : R2) : Prop :=
  ∀ (value slice : Expr) (pins : List (Addr × Obj)) (s : Shared) (σ : St) (H : Hp) (x y : V) (v u : Value) (Q : VK), Inv X pins σ H s → RelV x v → RelV y u → r x y H Q →
    subscripted slice false v u = operate [v, u] (getItem v u) → wpAny (model X.prog X.w) X.A (subscriptTail value slice v u) (EP X pins σ Q) X.xe s
/-- a call of a builtin's method by values: the receiver, the arguments -/
def MtR (X : Cx) (id : String) (r : V → List V → Hp → VK → Prop) : Prop :=
  ∀ (pins : List (Addr × Obj)) (s : Shared) (σ : St) (H : Hp) (x : V) (xs : List V) (v : Value) (us : List Value) (Q : VK), Inv X pins σ H s → RelV x v → Vals xs us → r x xs H Q →
    wpAny (model X.prog X.w) X.A (call (.builtin id) (v :: us)) (EP X pins σ Q) X.xe s
section
variable {X : Cx} {a b : Expr} {ta tb : TE} {pos : Pos}
theorem IxR.or {r r' : R2} (h : IxR X r) (h' : IxR X r') : IxR X (fun x y H Q => r x y H Q ∨ r' x y H Q) := by
  intro value slice pins s σ H x y v u Q I rx ry q hs
  rcases q with q | q
  · exact h value slice pins s σ H x y v u Q I rx ry q hs
  · exact h' value slice pins s σ H x y v u Q I rx ry q hs
/-- a[b] -/
theorem pe_ix {r : R2} (hr : IxR X r) (ha : PE X a ta) (hb : PE X b tb) (hs : PlainIx b) : PE X (.Subscript a b pos) (tOp r ta tb) := by
  intro pins s σ H Q I h
  exact Subscript_ (binT ha hb I h fun v u s2 x y H2 I2 rx ry q => hr a b pins s2 σ H2 x y v u Q I2 rx ry q (hs _ _))
def rIxL (K : PySem.W.Frag) : R2 := fun x y H Q => ∃ p xs i v, x = .ref p ∧ y = .int i ∧ SqL K H p xs ∧ atI xs i = some v ∧ Q v H
def rIxT (K : PySem.W.Frag) : R2 := fun x y H Q => ∃ p xs i v, x = .ref p ∧ y = .int i ∧ SqT K H p xs ∧ atI xs i = some v ∧ Q v H
def rIxS : R2 := fun x y H Q => ∃ z i c, x = .str z ∧ y = .int i ∧ z.length ≤ sizeLine ∧ atI z.cps.toList i = some c ∧ Q (.str ⟨#[c]⟩) H
theorem ix_list : IxR X (rIxL X.K) := by
  intro value slice pins s σ H x y v u Q I rx ry h hs
  obtain ⟨p, xs, i, z, rfl, rfl, hq, he, q⟩ := h
  cases rx
  obtain ⟨t, rfl⟩ := ry
  obtain ⟨its, r, pl, hz⟩ := I.list hq
  obtain ⟨j, h1, h2, h3, h4, h5⟩ := atI_get he
  obtain ⟨w, ew, rw'⟩ := r.get h2
  have hl := r.length
  have hn := line63
  have fin : EP X pins σ Q w s := ⟨z, H, I, rw', q⟩
  by_cases h0 : 0 ≤ i
  · have hj : i.toNat = j := by
      rw [seqIndex_of h0 h5] at h1
      exact Option.some.inj h1
    exact item_listR pl.isList h0 (by omega) (by rw [hj]; simpa using ew) fin hs
  · have hj : (i + (its.toArray.size : Int)).toNat = j := by
      rw [seqIndex_neg (by omega) h4] at h1
      rw [List.size_toArray, ← hl]
      exact Option.some.inj h1
    exact subscriptTail_builtinR (x := w) pl.isList.typeIs slot_list_getitem.lookup
      (wpAny_getItem_list_neg (Q := fun r s' => r = w ∧ EP X pins σ Q r s') pl.isList (by omega) (by rw [List.size_toArray] <;> omega) (by omega) (by rw [hj]; simpa using ew) ⟨rfl, fin⟩) hs
theorem ix_tup : IxR X (rIxT X.K) := by
  intro value slice pins s σ H x y v u Q I rx ry h hs
  obtain ⟨p, xs, i, z, rfl, rfl, hq, he, q⟩ := h
  cases rx
  obtain ⟨t, rfl⟩ := ry
  obtain ⟨its, r, pl, hz⟩ := I.tuple hq
  obtain ⟨j, h1, h2, h3, h4, h5⟩ := atI_get he
  obtain ⟨w, ew, rw'⟩ := r.get h2
  have hl := r.length
  have hn := line63
  have fin : EP X pins σ Q w s := ⟨z, H, I, rw', q⟩
  exact subscriptTail_builtinR (x := w) pl.typeIs slot_tuple_getitem.lookup
    (getItem_tuple (j := j) (Q := fun r s' => r = w ∧ EP X pins σ Q r s') pl (by omega) (by omega) (by rw [List.size_toArray, ← hl]; exact h1) (by simpa using ew) ⟨rfl, fin⟩) hs
theorem ix_str : IxR X rIxS := by
  intro value slice pins s σ H x y v u Q I rx ry h hs
  obtain ⟨z, i, c, rfl, rfl, hz, he, q⟩ := h
  obtain ⟨t, rfl⟩ := rx
  obtain ⟨t', rfl⟩ := ry
  obtain ⟨j, h1, h2, h3, h4, h5⟩ := atI_get he
  have hl : z.cps.toList.length = z.length := by simp [Str.length]
  rw [hl] at h1 h4 h5
  have hn := line63
  exact tail_any (typeIs_str s z t) slot_str_getitem.lookup (getItem_str (c := c) (by
    have e1 : decide (i < -(2 ^ 63 : Int)) = false := decide_eq_false (by omega)
    have e2 : decide (i ≥ 2 ^ 63) = false := decide_eq_false (by omega)
    rw [e1, e2, Bool.or_false]) (by rw [h1]; simpa using h2) ⟨.str ⟨#[c]⟩, H, I.tok _, ⟨_, rfl⟩, q⟩) hs
/-- list, tuple or str -/
def rIx (K : PySem.W.Frag) : R2 := fun x y H Q => rIxL K x y H Q ∨ rIxT K x y H Q ∨ rIxS x y H Q
theorem ix_seq : IxR X (rIx X.K) := ix_list.or (ix_tup.or ix_str)
/-! ### xs[i] = v, any sign -/
/-! ### slices -/
theorem slice_bounds (lo hi : Option Int) (n : Nat) : (sliceBounds lo hi none n).1 = ((HT.sIx n 0 lo : Nat) : Int) ∧ (sliceBounds lo hi none n).2.1 = ((HT.sIx n n hi : Nat) : Int) ∧ (sliceBounds lo hi none n).2.2 = 1 := by
  refine ⟨?_, ?_, rfl⟩
  · cases lo with
    | none => simp [sliceBounds, HT.sIx]
    | some i =>
      simp only [sliceBounds, HT.sIx, Option.getD_none, show (1 : Int) > 0 by decide, if_true]
      by_cases h : i < 0
      · simp only [h, if_true] <;> omega
      · simp only [h, if_false] <;> omega
  · cases hi with
    | none => simp [sliceBounds, HT.sIx]
    | some i =>
      simp only [sliceBounds, HT.sIx, Option.getD_none, show (1 : Int) > 0 by decide, if_true]
      by_cases h : i < 0
      · simp only [h, if_true] <;> omega
      · simp only [h, if_false] <;> omega
theorem slicePick_cut (its : List Value) (lo hi : Option Int) : slicePick its.toArray lo hi none = ((its.drop (HT.sIx its.length 0 lo)).take (HT.sIx its.length its.length hi - HT.sIx its.length 0 lo)).toArray := by
  obtain ⟨h1, h2, h3⟩ := slice_bounds lo hi its.toArray.size
  unfold slicePick
  rw [h1, h2, h3]
  simp only [sliceRange_one, pick_run, List.size_toArray] <;> rfl
/-- xs[lo:hi] of a list: a new list -/
def rSlL (K : PySem.W.Frag) : V → Option Int → Option Int → Hp → VK → Prop := fun x lo hi H Q => ∃ a xs, x = .ref a ∧ SqL K H a xs ∧ ∀ p, H p = none → Q (.ref p) (upd H p (.lst (cutV xs lo hi)))
theorem sl_list : SlR X (rSlL X.K) := by
  intro pins s σ H x v vl vu lo hi sl Q I rx hs pl pu h
  obtain ⟨a, xs, rfl, hx, q⟩ := h
  cases rx
  obtain ⟨its, r, ht, hz⟩ := I.list hx
  have hlen := r.length
  refine ⟨"list", _, slot_list_getitem.lookup, ht.isList.typeIs, ?_⟩
  refine wpAny_getItem_list_slice ht.isList hs pl pu .none (by simp) ?_ (by rw [List.size_toArray] <;> omega)
  rw [slicePick_cut, ← hlen]
  refine ⟨.ref s.heap.objs.size, _, I.laid (t' := s.toks) (o := .lst (cutV xs lo hi)) (fun b ob q => Heap.get?_push_of_some _ q) (Nat.le_refl _) ?_, rfl, q _ (I.hok.fresh (Nat.le_refl _))⟩
  exact ⟨Nat.le_trans (cutV_length xs lo hi) hz, _, 0, (r.drop (HT.sIx xs.length 0 lo)).take (HT.sIx xs.length xs.length hi - HT.sIx xs.length 0 lo), Heap.get?_push_size _ rfl⟩
/-! ### in, not in: flat items -/
def flatV : V → Bool
  | .non => true
  | .bl _ => true
  | .int _ => true
  | .str _ => true
  | _ => false
/-- == of flat values -/
def eqV : V → V → Bool
  | .non, .non => true
  | .bl a, .bl b => a == b
  | .bl a, .int b => (if a then 1 else 0) == b
  | .int a, .bl b => a == (if b then 1 else 0)
  | .int a, .int b => a == b
  | .str a, .str b => a == b
  | _, _ => false
theorem eqAt_V {A : Around} {s : Shared} {y x : V} {u v : Value} (ry : RelV y u) (rx : RelV x v) (fy : flatV y = true) (fx : flatV x = true) : SeqAt.EqAt A s u v (eqV y x) := by
  cases y with
  | non =>
    cases ry
    cases x with
    | non => cases rx; exact SeqAt.EqAt.same _
    | bl b => cases rx; exact SeqAt.EqAt.none_bool b
    | int b => obtain ⟨t, rfl⟩ := rx; exact SeqAt.EqAt.none_int b t
    | str b => obtain ⟨t, rfl⟩ := rx; exact SeqAt.EqAt.none_str b t
    | _ => exact absurd (show false = true from fx) Bool.false_ne_true
  | bl a =>
    cases ry
    cases x with
    | non => cases rx; exact SeqAt.EqAt.bool_none a
    | bl b => cases rx; exact SeqAt.EqAt.bool_bool a b
    | int b => obtain ⟨t, rfl⟩ := rx; exact SeqAt.EqAt.bool_int a b t
    | str b => obtain ⟨t, rfl⟩ := rx; exact SeqAt.EqAt.bool_str a b t
    | _ => exact absurd (show false = true from fx) Bool.false_ne_true
  | int a =>
    obtain ⟨t', rfl⟩ := ry
    cases x with
    | non => cases rx; exact SeqAt.EqAt.int_none a t'
    | bl b => cases rx; exact SeqAt.EqAt.int_bool a t' b
    | int b => obtain ⟨t, rfl⟩ := rx; exact SeqAt.EqAt.int_int a t' b t
    | str b => obtain ⟨t, rfl⟩ := rx; exact SeqAt.EqAt.int_str a t' b t
    | _ => exact absurd (show false = true from fx) Bool.false_ne_true
  | str a =>
    obtain ⟨t', rfl⟩ := ry
    cases x with
    | non => cases rx; exact SeqAt.EqAt.str_none a t'
    | bl b => cases rx; exact SeqAt.EqAt.str_bool a t' b
    | int b => obtain ⟨t, rfl⟩ := rx; exact SeqAt.EqAt.str_int a t' b t
    | str b => obtain ⟨t, rfl⟩ := rx; exact SeqAt.EqAt.str_str a t' b t
    | _ => exact absurd (show false = true from fx) Bool.false_ne_true
  | _ => exact absurd (show false = true from fy) Bool.false_ne_true
/-- the items' answers, read off the values (a value's own answer does not lean on its token) -/
def eqU (x : V) (u : Value) : Bool := match u with
  | .none => eqV .non x
  | .bool b => eqV (.bl b) x
  | .int i _ => eqV (.int i) x
  | .str z _ => eqV (.str z) x
  | _ => false
theorem eqU_of {x y : V} {u : Value} (r : RelV y u) (f : flatV y = true) : eqU x u = eqV y x := by
  cases y with
  | non => cases r; rfl
  | bl b => cases r; rfl
  | int i => obtain ⟨t, rfl⟩ := r; rfl
  | str z => obtain ⟨t, rfl⟩ := r; rfl
  | _ => exact absurd (show false = true from f) Bool.false_ne_true
theorem any_eqU {x : V} : ∀ {xs : List V} {us : List Value}, Vals xs us → xs.all flatV = true → us.any (eqU x) = xs.any fun y => eqV y x
  | _, _, .nil, _ => rfl
  | y :: xs, u :: us, .cons r t, f => by
    rw [List.all_cons, Bool.and_eq_true] at f
    rw [List.any_cons, List.any_cons, eqU_of r f.1, any_eqU t f.2]
theorem mem_eqAt {A : Around} {s : Shared} {x : V} {v : Value} (rx : RelV x v) (fx : flatV x = true) : ∀ {xs : List V} {us : List Value}, Vals xs us → xs.all flatV = true → ∀ u ∈ us, SeqAt.EqAt A s u v (eqU x u)
  | _, _, .nil, _ => fun u hu => by cases hu
  | y :: xs, u :: us, .cons r t, f => fun u' hu => by
    rw [List.all_cons, Bool.and_eq_true] at f
    rcases List.mem_cons.mp hu with rfl | hu
    · rw [eqU_of r f.1]; exact eqAt_V r rx f.1 fx
    · exact mem_eqAt rx fx t f.2 u' hu
def inV (x : V) (xs : List V) : Bool := xs.any fun y => eqV y x
/-- x in a list or tuple of flat items -/
def rIn (K : PySem.W.Frag) (neg : Bool) : R2 := fun x y H Q => ∃ p xs, y = .ref p ∧ (SqL K H p xs ∨ SqT K H p xs) ∧ flatV x = true ∧ xs.all flatV = true ∧ Q (.bl (if neg then !inV x xs else inV x xs)) H
theorem op_in_seq : OpR X (compareOp .In) (rIn X.K false) := by
  intro pins s σ H x y v u Q I rx ry h
  obtain ⟨p, xs, rfl, hq, fx, fs, q⟩ := h
  cases ry
  rcases hq with hq | hq
  · obtain ⟨its, r, pl, hz⟩ := I.list hq
    refine SeqAt.in_listAt (eqU x) pl.isList (fun w hw => mem_eqAt rx fx r fs w (by simpa using hw)) ⟨.bl _, H, I, rfl, ?_⟩
    rw [show its.toArray.any (eqU x) = its.any (eqU x) by simp, any_eqU r fs]
    exact q
  · obtain ⟨its, r, pl, hz⟩ := I.tuple hq
    refine SeqAt.in_tupleAt (eqU x) pl (fun w hw => mem_eqAt rx fx r fs w (by simpa using hw)) ⟨.bl _, H, I, rfl, ?_⟩
    rw [show its.toArray.any (eqU x) = its.any (eqU x) by simp, any_eqU r fs]
    exact q
/-! ### len, list(x), tuple(x) of any list or tuple that is read -/
theorem call_list_of : CallR X (.type "list") (fun xs H Q => ∃ p ys, xs = [.ref p] ∧ (SqL X.K H p ys ∨ SqT X.K H p ys) ∧ ∀ l, H l = none → Q (.ref l) (upd H l (.lst ys))) := by
  intro pins s σ H xs us Q I r h
  obtain ⟨p, ys, rfl, hq, q⟩ := h
  obtain ⟨u, rfl, rx⟩ := vals1 r
  cases rx
  have fin : ∀ (its : List Value), Vals ys its → ys.length ≤ sizeLine → ∀ (h' : Heap) (c' : Nat), (∀ b o', s.heap.get? b = some o' → h'.get? b = some o') →
      h'.get? s.heap.objs.size = some { cls := .type "list", dict := none, data := .seq its.toArray c', slots := #[] } → EP X pins σ Q (.ref s.heap.objs.size) { s with heap := h' } := fun its r' hz h' c' kp e =>
    ⟨.ref s.heap.objs.size, _, I.laid (t' := s.toks) kp (Nat.le_refl _) (show ObjOk X.prog X.w _ h' _ (.lst ys) from ⟨hz, its, c', r', e⟩), rfl, q _ (I.hok.fresh (Nat.le_refl _))⟩
  rcases hq with hq | hq
  · obtain ⟨its, r', pl, hz⟩ := I.list hq
    have hlen := r'.length
    obtain ⟨o, ho, hc, n, hd⟩ := pl.isList
    exact call_list_seq p (.inl rfl) ho hc hd (fun h' c' kp e => fin its r' hz h' c' kp e) (by simp only [List.size_toArray] <;> omega)
  · obtain ⟨its, r', pl, hz⟩ := I.tuple hq
    have hlen := r'.length
    obtain ⟨o, ho, hc, n, hd⟩ := pl
    exact call_list_seq p (.inr rfl) ho hc hd (fun h' c' kp e => fin its r' hz h' c' kp e) (by simp only [List.size_toArray] <;> omega)
/-! ### the call of a builtin's method: o.m(..) -/
/-- the value is of that builtin type -/
def tyV (K : PySem.W.Frag) (T : String) (x : V) (H : Hp) : Prop := match x with
  | .str _ => T = "str"
  | .int _ => T = "int"
  | .ref p => (T = "list" ∧ ∃ xs, SqL K H p xs) ∨ (T = "tuple" ∧ ∃ o, K.lookup p = some o ∧ o.cls = .type "tuple" ∧ o.dict = none) ∨
      (T = "dict" ∧ ((∃ kvs, H p = some (.dK kvs)) ∨ ∃ kvs, H p = some (.dT kvs))) ∨ (T = "set" ∧ ∃ S n, H p = some (.set S n))
  | _ => False
theorem tyV_is {pins : List (Addr × Obj)} {σ : St} {H : Hp} {s : Shared} {T : String} {x : V} {v : Value} (I : Inv X pins σ H s) (r : RelV x v) (ty : tyV X.K T x H) :
    s.TypeIs v T ∧ ∀ a, v = .ref a → ∃ ob, s.heap.get? a = some ob ∧ ob.dict = none := by
  cases x with
  | str z =>
    obtain ⟨t, rfl⟩ := r
    cases (show T = "str" from ty)
    exact ⟨typeIs_str s z t, fun _ e => nomatch e⟩
  | int i =>
    obtain ⟨t, rfl⟩ := r
    cases (show T = "int" from ty)
    exact ⟨typeIs_int s i t, fun _ e => nomatch e⟩
  | ref p =>
    cases r
    rcases ty with ⟨rfl, xs, hq⟩ | ⟨rfl, o, hk, hc, hd⟩ | ⟨rfl, hk⟩ | ⟨rfl, S, n, hk⟩
    · obtain ⟨its, _, pl, _⟩ := I.list hq
      refine ⟨pl.isList.typeIs, fun a e => ?_⟩
      cases e
      obtain ⟨o, n, e, c, hd, _⟩ := pl
      exact ⟨o, e, hd⟩
    · refine ⟨⟨o, I.kIn p o hk, hc⟩, fun a e => ?_⟩
      cases e
      exact ⟨o, I.kIn _ o hk, hd⟩
    · have z : ∃ o, s.heap.get? p = some o ∧ o.ExactDict := by
        rcases hk with ⟨kvs, hk⟩ | ⟨kvs, hk⟩
        · obtain ⟨_, _, _, _, o, _, _, e, ex, _⟩ := I.hok p _ hk
          exact ⟨o, e, ex⟩
        · obtain ⟨_, _, _, _, o, _, _, e, ex, _⟩ := I.hok p _ hk
          exact ⟨o, e, ex⟩
      obtain ⟨o, e, ex⟩ := z
      refine ⟨⟨o, e, ex.1⟩, fun a e2 => ?_⟩
      cases e2
      exact ⟨o, e, ex.2.1⟩
    · obtain ⟨o, _, _, _, e, ex, _⟩ := I.hok p _ hk
      refine ⟨⟨o, e, ex.1⟩, fun a e2 => ?_⟩
      cases e2
      exact ⟨o, e, ex.2.1⟩
  | _ => exact False.elim ty
def tBM0 (K : PySem.W.Frag) (T : String) (r : V → List V → Hp → VK → Prop) (to : TE) : TE := fun σ H Q => to σ H fun x H1 => tyV K T x H1 ∧ r x [] H1 Q
def tBM (K : PySem.W.Frag) (T : String) (r : V → List V → Hp → VK → Prop) (to : TE) (t : TA) : TE := fun σ H Q => to σ H fun x H1 => tyV K T x H1 ∧ t σ H1 fun xs H2 => r x xs H2 Q
variable {o e : Expr} {es : List Expr} {to : TE} {t : TA} {name : Str} {apos cpos : Pos} {T id : String} {r : V → List V → Hp → VK → Prop}
theorem pe_bm0 (pa : PlainAttrs T) (slot : Slot T name id) (hty : typeOf (.builtin id) = pure (.type "method_descriptor")) (hm : MtR X id r) (ho : PE X o to)
    (hbase : attributeBase o name X.env (eval o X.env) = eval o X.env := by rfl) (hline : (apos.endLine == cpos.line) = true := by rfl) : PE X (.Call (.Attribute o name apos) [] [] cpos) (tBM0 X.K T r to) := by
  intro pins s σ H Q I h
  refine wpAny_Call_method0_late hbase hline (thn (ho pins s σ H _ I h) fun v s1 ⟨x, H1, I1, r1, ty, q1⟩ => ?_)
  obtain ⟨h1, h2⟩ := tyV_is I1 r1 ty
  exact ⟨T, id, pa, slot, hty, h1, h2, Calls.callWith_builtin rfl (PySem.evalArgs_none (hm pins s1 σ H1 x [] v [] Q I1 r1 .nil q1))⟩
theorem pe_bm (pa : PlainAttrs T) (slot : Slot T name id) (hty : typeOf (.builtin id) = pure (.type "method_descriptor")) (hm : MtR X id r) (ho : PE X o to) (ha : PA X (e :: es) t)
    (hbase : attributeBase o name X.env (eval o X.env) = eval o X.env := by rfl)
    (hfew : ((backTo cpos (starEach (e :: es) X.env)).all (fun x => !x.1) && (backToKw cpos (keywordEach [] X.env)).all (fun x => x.1.isSome)
      && decide ((e :: es).length + ([] : List Keyword).length + (if ([] : List Keyword).isEmpty then 0 else 1) < 30)) = true := by rfl)
    (hline : (apos.endLine == cpos.line) = true := by rfl) (hs : starEach (e :: es) X.env = (false, eval e X.env) :: starEach es X.env := by rfl) (hplain : (backTo cpos (starEach es X.env)).any (·.1) = false := by rfl) :
    PE X (.Call (.Attribute o name apos) (e :: es) [] cpos) (tBM X.K T r to t) := by
  intro pins s σ H Q I h
  refine wpAny_Call_method_late hbase hfew hline rfl (thn (ho pins s σ H _ I h) fun v s1 ⟨x, H1, I1, r1, ty, q1⟩ => ?_)
  obtain ⟨h1, h2⟩ := tyV_is I1 r1 ty
  refine ⟨T, id, pa, slot, hty, h1, h2, ?_⟩
  have hA := ha cpos pins s1 σ H1 _ I1 q1
  rw [hs] at hA ⊢
  refine Calls.callWith_builtin (by show (false || (backTo cpos (starEach es X.env)).any (·.1)) = false; rw [hplain] <;> rfl) (Calls.evalArgs_plain ?_)
  exact thn hA fun us s2 ⟨vs, H2, I2, r2, q2⟩ => hm pins s2 σ H2 x vs v us Q I2 r1 r2 q2
/- xs.append(e), list.index on a module's tuple .. are MtR facts of 06m -/
end
end L2
namespace L2
open PySem PySem.Spec PyProof.Rows
def MtM (X : Cx) (id : String) (r : V → List V → Hp → VK → Prop) : Prop :=
  ∀ (pins : List (Addr × Obj)) (s : Shared) (σ : St) (H : Hp) (x : V) (xs : List V) (v : Value) (us : List Value) (Q : VK), Inv X pins σ H s → RelV x v → Vals xs us → r x xs H Q →
    wpAny (model X.prog X.w) X.A (call (.builtin id) (v :: us)) (EP X pins σ Q) X.xe s
/-! ### lists of values -/
theorem Vals.one : ∀ {x : V} {us : List Value}, Vals [x] us → ∃ u, us = [u] ∧ RelV x u
  | _, _, .cons r .nil => ⟨_, rfl, r⟩
theorem Vals.two : ∀ {x y : V} {us : List Value}, Vals [x, y] us → ∃ u v, us = [u, v] ∧ RelV x u ∧ RelV y v
  | _, _, _, .cons r (.cons q .nil) => ⟨_, _, rfl, r, q⟩
theorem Vals.zero : ∀ {us : List Value}, Vals [] us → us = []
  | _, .nil => rfl
theorem Vals.dropLast {xs : List V} {us : List Value} (h : Vals xs us) : Vals xs.dropLast us.dropLast := by
  induction h with
  | nil => exact .nil
  | cons r t ih =>
    cases t with
    | nil => exact .nil
    | cons q t' => exact .cons r ih
theorem erase_last {α : Type} (l : List α) : l.eraseIdx (l.length - 1) = l.dropLast := by
  induction l with
  | nil => rfl
  | cons a r ih =>
    cases r with
    | nil => rfl
    | cons b r =>
      have e : (a :: b :: r).length - 1 = ((b :: r).length - 1) + 1 := by
        have h1 : (a :: b :: r).length = r.length + 2 := rfl
        have h2 : (b :: r).length = r.length + 1 := rfl
        omega
      rw [e, List.eraseIdx_cons_succ, ih]
      all_goals rfl
section
variable {X : Cx} {pins : List (Addr × Obj)} {σ : St} {H : Hp} {s : Shared} {l b : Addr} {xs ys zs : List V}
/-! ### the two steps: a tracked list is rewritten, a new list is laid -/
theorem Inv.lset {its its' : List Value} {n : Nat} {f : Array Value → Array Value} {t' : Nat} (I : Inv X pins σ H s) (hH : H l = some (.lst xs))
    (e : s.heap.get? l = some { cls := .type "list", data := .seq its.toArray n }) (hf : f its.toArray = its'.toArray) (hv : Vals ys its') (hz : ys.length ≤ sizeLine) :
    Inv X pins σ (upd H l (.lst ys)) { s with heap := s.heap.update l (Obj.mapSeq f), toks := t' } := by
  have q := PySem.IsL.update e f
  rw [hf] at q
  refine I.write (x := l) (e := l) (by rw [hH]; exact trivial) (.inl rfl) (fun b' u hb hu => (Heap.get?_update_other s.heap (Obj.mapSeq f) (Ne.symm hb)).trans hu) ⟨_, q⟩ ?_
  exact ⟨hz, its', _, hv, q⟩
theorem Inv.lnew {its : List Value} {t' : Nat} (I : Inv X pins σ H s) (hv : Vals ys its) (hz : ys.length ≤ sizeLine) :
    Inv X pins σ (upd H s.heap.objs.size (.lst ys)) { s with heap := s.heap.push { cls := .type "list", data := .seq its.toArray }, toks := t' } :=
  I.laid (fun _ _ q => Heap.get?_push_of_some _ q) (Nat.le_refl _) ⟨hz, its, 0, hv, Heap.get?_push_size _ rfl⟩
theorem Inv.fresh (I : Inv X pins σ H s) : H s.heap.objs.size = none := I.hok.fresh (Nat.le_refl _)
theorem Inv.lstM (I : Inv X pins σ H s) (hH : H l = some (.lst xs)) : xs.length ≤ sizeLine ∧ ∃ (its : List Value) (n : Nat), Vals xs its ∧ xs.length = its.length ∧ s.heap.get? l = some { cls := .type "list", data := .seq its.toArray n } := by
  obtain ⟨z, its, n, r, e⟩ := I.hok l _ hH
  exact ⟨z, its, n, r, r.length, e⟩
theorem notLongL {n : Nat} (h : n ≤ sizeLine) : Builtin.List.listTooLong n = false := by
  unfold Builtin.List.listTooLong
  exact decide_eq_false (by omega)
end
section
variable {X : Cx}
/-! ### methods -/
def rAppend : V → List V → Hp → VK → Prop := fun x vs H Q => ∃ l xs y, x = .ref l ∧ vs = [y] ∧ H l = some (.lst xs) ∧ xs.length < sizeLine ∧ Q .non (upd H l (.lst (xs ++ [y])))
theorem mt_append : MtM X "list.append" rAppend := by
  intro pins s σ H x vs v us Q I rx rv h
  obtain ⟨l, xs, y, rfl, rfl, hH, hz, q⟩ := h
  cases rx
  obtain ⟨u, rfl, ru⟩ := rv.one
  obtain ⟨z, its, n, r, hl, e⟩ := I.lstM hH
  refine call_meets F.slot_list_append ⟨_, e, rfl⟩ F.entry_list_append (F.args_list_append_2 _ _) (PySem.list_append l its.toArray n u (by rw [List.size_toArray]; omega)) ⟨e, ?_⟩
  refine ⟨.non, _, I.lset (its' := its ++ [u]) hH e (by simp) (r.append (.cons ru .nil)) ?_, rfl, q⟩
  rw [List.length_append, List.length_singleton]
  omega
def rExtend : V → List V → Hp → VK → Prop := fun x vs H Q => ∃ l b xs zs, x = .ref l ∧ vs = [.ref b] ∧ H l = some (.lst xs) ∧ H b = some (.lst zs) ∧ xs.length + zs.length ≤ sizeLine ∧ Q .non (upd H l (.lst (xs ++ zs)))
theorem mt_extend : MtM X "list.extend" rExtend := by
  intro pins s σ H x vs v us Q I rx rv h
  obtain ⟨l, b, xs, zs, rfl, rfl, hH, hB, hz, q⟩ := h
  cases rx
  obtain ⟨u, rfl, ru⟩ := rv.one
  cases ru
  obtain ⟨z, its, n, r, hl, e⟩ := I.lstM hH
  obtain ⟨z2, its2, n2, r2, hl2, e2⟩ := I.lstM hB
  have hsz : its.toArray.size + its2.toArray.size ≤ sizeLine := by rw [List.size_toArray, List.size_toArray]; omega
  have hlong : ¬ (!its.toArray.isEmpty && Builtin.List.listTooLong (its.toArray.size + its2.toArray.size)) = true := by
    rw [notLongL hsz, Bool.and_false]
    exact Bool.false_ne_true
  refine call_meets F.slot_list_extend ⟨_, e, rfl⟩ F.entry_list_extend (F.args_list_extend_2 _ _)
    (AutoSeq1.list_extend_list_list_0 l its.toArray n b its2.toArray n2 hlong (by rw [List.size_toArray]; omega) (by omega)) ⟨e, e2, ?_⟩
  refine ⟨.non, _, I.lset (its' := its ++ its2) hH e (by simp) (r.append r2) ?_, rfl, q⟩
  rw [List.length_append]
  omega
def rPop : V → List V → Hp → VK → Prop := fun x vs H Q => ∃ l xs y, x = .ref l ∧ vs = [] ∧ H l = some (.lst xs) ∧ xs[xs.length - 1]? = some y ∧ Q y (upd H l (.lst xs.dropLast))
theorem mt_pop : MtM X "list.pop" rPop := by
  intro pins s σ H x vs v us Q I rx rv h
  obtain ⟨l, xs, y, rfl, rfl, hH, hy, q⟩ := h
  cases rx
  have hus := rv.zero
  subst hus
  obtain ⟨z, its, n, r, hl, e⟩ := I.lstM hH
  obtain ⟨u, hu, ru⟩ := r.get hy
  have hy' : its.toArray[its.toArray.size - 1]? = some u := by
    show its.toArray[its.length - 1]? = some u
    rw [← Array.getElem?_toList, ← hl]
    exact hu
  refine call_meets F.slot_list_pop ⟨_, e, rfl⟩ F.entry_list_pop (F.args_list_pop_1 _) (MeetsSeq.list_pop_last l its.toArray n u hy' (by rw [List.size_toArray]; omega)) ⟨e, ?_⟩
  refine ⟨y, _, I.lset (its' := its.dropLast) hH e ?_ r.dropLast ?_, ru, q⟩
  · show its.toArray.eraseIdxIfInBounds (its.toArray.size - 1) = its.dropLast.toArray
    rw [List.size_toArray, List.eraseIdxIfInBounds_toArray, erase_last]
  · rw [List.length_dropLast]
    omega
/-! ### list + list, list += list, list * int -/
def rCat : R2 := fun x y H Q => ∃ l b xs zs, x = .ref l ∧ y = .ref b ∧ H l = some (.lst xs) ∧ H b = some (.lst zs) ∧ xs.length + zs.length ≤ sizeLine ∧ ∀ p, H p = none → Q (.ref p) (upd H p (.lst (xs ++ zs)))
theorem op_cat : OpR X (binaryOp .Add) rCat := by
  intro pins s σ H x y v u Q I rx ry h
  obtain ⟨l, b, xs, zs, rfl, rfl, hH, hB, hz, q⟩ := h
  cases rx
  cases ry
  obtain ⟨z, its, n, r, hl, e⟩ := I.lstM hH
  obtain ⟨z2, its2, n2, r2, hl2, e2⟩ := I.lstM hB
  refine PySem.P.add_list e e2 ?_ (by rw [List.size_toArray, List.size_toArray]; omega)
  have ea : its.toArray ++ its2.toArray = (its ++ its2).toArray := by simp
  rw [ea]
  exact ⟨.ref _, _, I.lnew (t' := s.toks) (r.append r2) (by rw [List.length_append]; omega), rfl, q _ I.fresh⟩
/-! ### del xs[i] -/
end
/-! ### xs[a:b] = ys -/
section
variable {prog : Program} {w : World} {A : Around} {E : Value → Shared → Prop} {s : Shared}
set_option maxRecDepth 100000 in
end
section
variable {X : Cx}
end
end L2
namespace L2
open PySem PySem.Spec PyProof.Rows
/-! ### lists of pairs as tables -/
section
variable {κ : Type} [DecidableEq κ]
end
/-! ### a tracked dict, its keys ints and texts or tuples of these -/
section
variable {P : Program} {w : World} {H : Hp} {h : Heap} {a : Addr}
end
section
variable {X : Cx} {pins : List (Addr × Obj)} {σ : St} {H : Hp} {s : Shared} {a : Addr} {y v : V} {u r : Value} {o : Option V} {A : Around} {E : Value → Shared → Prop}
end
section
variable {X : Cx} {pins : List (Addr × Obj)} {σ : St} {H : Hp} {s : Shared} {a : Addr} {kvs : List (Key × V)} {k : Key} {u : Value} {A : Around} {E : Value → Shared → Prop}
end
/-! ### readings and rules -/
section
variable {X : Cx} {o i e value : Expr} {pos pos' tpos : Pos} {td ty tv : TE}
end
/-! ### displays -/
section
variable {X : Cx} {pos : Pos}
end
/-! ### methods -/
section
variable {X : Cx} {pins : List (Addr × Obj)} {σ : St} {H : Hp} {s : Shared} {a : Addr} {y d : V} {u r : Value} {o : Option V} {A : Around} {E : Value → Shared → Prop}
end
section
variable {X : Cx} {o e f : Expr} {apos cpos : Pos} {td ty tx : TE}
end
/-! ### dict(d): a copy -/
section
variable {X : Cx} {pins : List (Addr × Obj)} {σ : St} {H : Hp} {s : Shared} {a : Addr} {kvs : List (Key × V)} {A : Around} {E : Value → Shared → Prop}
end
section
variable {X : Cx} {pins : List (Addr × Obj)} {σ : St} {H : Hp} {s : Shared} {a : Addr} {y : V} {u : Value} {A : Around} {E : Value → Shared → Prop}
end
end L2
namespace Att
open PySem PySem.W PySem.Calls PyProof.Rows
/-! ### the script -/
theorem ints_of_wellAll {P : Params} {h : Heap} : ∀ (ns : List Int) (vs : List Value), WellAll P h vs (ns.map WData.int) → IntsAre vs ns := by
  intro ns
  induction ns with
  | nil =>
    intro vs w
    rw [List.map_nil] at w
    cases w
    exact .nil
  | cons n ns ih =>
    intro vs w
    rw [List.map_cons] at w
    cases w with
    | cons a b =>
      cases a
      exact .cons _ _ (ih _ b)
theorem script_of {l : OpenLaw} {n : Nat} (hn : l.most = some n) {P : Params} {h : Heap} {args : List WData} {vals : List Value}
    (hpre : l.row.toRowW.claim.pre args = true) (hwl : WellAll P h vals args) :
    ∃ a vs ns, vals = [Value.ref a] ∧ args = [WData.list (ns.map WData.int)] ∧ h.get? a = some { cls := .type "list", data := .seq vs.toArray } ∧ IntsAre vs ns ∧ ns.length ≤ n := by
  have hsh : WShape.hasAll [] args [.list .int] = true := (pre_splitW hpre).1
  have hc : l.pre.holds [] { args := args } = true := (pre_splitW hpre).2
  obtain ⟨d, r, rfl, h1, h2⟩ := hasAllW_cons hsh
  obtain rfl := hasAllW_nil h2
  obtain ⟨xs, rfl, h3⟩ := hasW_list h1
  obtain ⟨ns, rfl⟩ := items_int h3
  have hlen : ns.length ≤ n := by
    unfold OpenLaw.pre at hc
    have h4 : (WTm.not (.lt (.lit (.int (n : Int))) (.len (.arg 0)))).holds [] { args := [.list (ns.map .int)] } = true := by
      have h4 := (holds_andW hc).1
      rw [hn] at h4
      exact h4
    have h5 := condW_of h4 (w_not (w_lt w_lit (w_len_list (w_arg rfl))))
    rw [List.length_map] at h5
    refine Nat.le_of_not_lt fun q => ?_
    have q' : (n : Int) < ((ns.length : Nat) : Int) := by omega
    first
      | (rw [decide_eq_true q'] at h5; exact absurd h5 (by decide))
      | (simp at h5; omega)
  cases hwl with
  | cons w1 w2 =>
    cases w2
    cases w1 with
    | list ho hall => exact ⟨_, _, ns, rfl, rfl, ho, ints_of_wellAll ns _ hall, hlen⟩
theorem post_true (l : OpenLaw) (args : List WData) : l.row.toRowW.claim.post args (.bool true) args = true :=
  postW_of (r := l.row.toRowW) (X := (true == true))
    (show WShape.has [] (.bool true) .bool = true by first | rfl | decide | simp [WShape.has, WShape.arms, WShape.armsAll])
    (show (WTm.eq .res (.lit (.bool true))).value [] { args := args, res := some (.bool true), after := args } = some (.bool (true == true)) from w_eq_bool (w_res rfl) w_lit) rfl
/-! ### the attachment: holds_open's last premise (the goal 'hc' behind k_head) from a wpAny of the law's body -/
/-- the same from a codeAny of the CALL (for a layer whose function contracts speak of calls) -/
theorem attach_call {l : OpenLaw} {n : Nat} {q : Program} {loose : List Str} {XP : (Str → Option Value) → Heap → Prop} {YP : World → Heap → Prop} {d : DefRec}
    (hn : l.most = some n) (hdf : d.params.defaults = [])
    (call : ∀ (w : World) (s₀ s₁ : Shared) (mg mb : Str → Option Value) (fa : Addr) (o : Obj) (pm cd doc : Value) (a : Addr) (vs : List Value) (ns : List Int),
      Ground q loose [] XP w s₀ mg mb s₁.heap → YP w s₁.heap →
      s₁.heap.get? fa = some o → o.data = .func (docDef d.name d.params d.body d.scope pm cd doc) → s₁.heap.CodeRec cd d.name → mg d.name = some (.ref fa) →
      s₁.heap.get? a = some { cls := .type "list", data := .seq vs.toArray } → IntsAre vs ns → ns.length ≤ n → s₁.gens = #[] →
      codeAny (model l.prog w) callerA (.call (.ref fa) ⟨[.ref a], []⟩) (fun r s' => r = .ok (.ret (.bool true)) ∧ OldK s₁.heap s'.heap ∧ s'.os = s₁.os ∧ AllBare s'.gens) s₁) :
    WalkO q loose XP YP l.row.toRowW d [] (fun f vs => PySem.call f vs) := by
  intro w s₀ s₁ mg mb G Y fa o pm cd doc dV kV ho hd hcd hD hmg hg args vals as hpre hlay hrd hwl hlo
  obtain rfl : dV = .none := Dflts.none hD hdf
  obtain rfl : kV = .none := Dflts.noKw hD
  obtain ⟨a, vs, ns, rfl, rfl, hobj, hints, hlen⟩ := script_of hn hpre hwl
  refine enter_call (codeAny_mono (call w s₀ s₁ mg mb fa o pm cd doc a vs ns G Y ho (fd_plain hd) hcd hmg hobj hints hlen hg) fun r s' hq => ?_)
  obtain ⟨rfl, h2, h3, h4⟩ := hq
  exact ⟨.inl ⟨.bool true, .bool true, [], rfl, fun _ => rfl, .bool true, post_true l _, fun _ => ⟨List.Pairwise.nil, fun _ hm => (nomatch hm)⟩⟩, h2, h3, h4⟩
/-! ### rules over ANY heap (no ledger) from facts about the written part K: the library's own take a ledger (News) for what they write -/
section
variable {prog : Program} {w : World} {A : Around} {E : Value → Shared → Prop} {s : Shared} {K : Frag}
/-! the whole heap as the ledger: makes every rule that writes through a ledger a rule over any heap -/
end
end Att
namespace L2
open PySem PySem.Spec PyProof.Rows
theorem vals_ints : ∀ {vs : List Value} {ns : List Int}, IntsAre vs ns → Vals (ns.map V.int) vs
  | _, _, .nil => .nil
  | _, _, .cons n t h => .cons ⟨t, rfl⟩ (vals_ints h)
/-- nothing is tracked but the script, known to the object (or it is an object of the module) -/
def Only (H : Hp) : Prop := ∀ b, H b = none ∨ ∃ o xs, H b = some (.frz o (.lst xs))
/-- THE HEAD: the law's promise, at the heap behind the top. F, the promise of the law's def, may use that base is part of the heap (so K.In base, base.Ns mainGlobals mg stand in Mod) -/
theorem law_call {P : Program} {w : World} {K : PySem.W.Frag} {mg mb : Str → Option Value} {CX : CXT} {k : Nat} {fa a : Addr} {fd : FuncData} {x : Str} {sp : Sp} {s₁ : Shared} {vs : List Value} {ns : List Int}
    (KX : K.In s₁.heap) (hns : s₁.heap.Ns mainGlobals mg) (hb : s₁.heap.Ns builtinsNs mb) (hbb : ∀ x : Str, x ≠ "__name__" → mb x = bootBuiltins x) (hlim : s₁.heap.NoLimit) (hg : s₁.gens = #[])
    (ha : s₁.heap.get? a = some { cls := .type "list", data := .seq vs.toArray }) (hi : IntsAre vs ns) (hl : ns.length ≤ sizeLine) (hr : Room k callerA)
    (F : ∀ base : Heap, K.In base → base.Ns mainGlobals mg → FnOk P w K mg base CX k fa fd [x] sp) (hbind : ∀ (s : Shared) (u : Value), BindsTo s fd ⟨[u], []⟩ [(x, u)])
    (hsp : ∀ H : Hp, Only H → SqL K H a (ns.map V.int) → sp [.ref a] H (fun v _ => v = .bl true) fun _ _ _ => False)
    (hCX : ∀ H e s', CX [] H s₁ (fun _ _ _ => False) e s' → False) :
    codeAny (model P w) callerA (.call (.ref fa) ⟨[.ref a], []⟩) (fun r s' => r = .ok (.ret (.bool true)) ∧ OldK s₁.heap s'.heap ∧ s'.os = s₁.os ∧ AllBare s'.gens) s₁ := by
  have rv := vals_ints hi
  have lenV := hi.length
  -- from an abstract heap in which nothing but the script may be tracked
  have core : ∀ H : Hp, Only H → SqL K H a (ns.map V.int) → HOk P w H s₁.heap → (∀ b, H b ≠ none → b = a) → (H a ≠ none → K.lookup a = none) →
      codeAny (model P w) callerA (.call (.ref fa) ⟨[.ref a], []⟩) (fun r s' => r = .ok (.ret (.bool true)) ∧ OldK s₁.heap s'.heap ∧ s'.os = s₁.os ∧ AllBare s'.gens) s₁ := by
    intro H hO hS hok hA hK
    have base_of : ∀ {b : Addr} {o : Obj}, s₁.heap.get? b = some o → H b = none → (hidT s₁.heap H).get? b = some o := fun e n => hidT_get e n
    have noA : ∀ {b : Addr} {o : Obj} {es : Array DictEntry} {ep : Nat}, s₁.heap.get? b = some o → o.data = .dict es ep → H b = none := fun {b o es ep} e d => by
      cases q : H b with
      | none => rfl
      | some u =>
        have e' : b = a := hA b (by rw [q]; simp)
        subst e'
        rw [ha] at e; cases e
        have d' : Data.seq vs.toArray _ = Data.dict es ep := d
        cases d'
    have nsK : ∀ {b : Addr} {m : Str → Option Value}, s₁.heap.Ns b m → (hidT s₁.heap H).Ns b m := fun {b m} ⟨o, es, ep, e, d, r⟩ => ⟨o, es, ep, base_of e (noA e d), d, r⟩
    have hKb : K.In (hidT s₁.heap H) := fun b o e => base_of (KX b o e) (by
      cases q : H b with
      | none => rfl
      | some u =>
        have e' : b = a := hA b (by rw [q]; simp)
        subst e'
        rw [hK (by rw [q]; simp)] at e; cases e)
    have hM : Mod K mg (hidT s₁.heap H) := ⟨hKb, nsK hns, ⟨mb, nsK hb, hbb⟩, let ⟨mc, h1, h2⟩ := hlim; ⟨mc, nsK h1, h2⟩⟩
    have e0 : Env0 P w K mg (hidT s₁.heap H) callerA [] s₁ H := ⟨rfl, hM, fun b o e => of_hidT e, Nat.le_of_eq (hidT_size _ _), trivial, fun b hb => absurd (show b ∈ ([] : List Addr) from hb) (by simp), hok, .of_eq hg⟩
    refine codeAny_mono ((F _ hKb (nsK hns)).run callerA [] s₁ H ⟨[.ref a], []⟩ [.ref a] [.ref a] _ _ hr e0 (hbind s₁ (.ref a)) (.cons rfl .nil) (hsp H hO hS)) fun r s' h => ?_
    cases r with
    | error e => exact (hCX H e s' h).elim
    | ok fl =>
      cases fl with
      | next => exact False.elim h
      | brk => exact False.elim h
      | cont => exact False.elim h
      | ret u =>
        obtain ⟨v, H', os, bare, un, hok', r', q⟩ := h
        have q' : v = .bl true := q
        subst q'
        obtain rfl : u = Value.bool true := r'
        refine ⟨rfl, OldK.of_keep fun b o e => ?_, os, bare⟩
        cases q : H b with
        | none => exact un.keep b o e q (by intro z; exact absurd (show b ∈ ([] : List Addr) from z) (by simp)) (by simp)
        | some u =>
          rcases hO b with z | ⟨ob, xs, z⟩
          · rw [q] at z; cases z
          · have z2 := un.frzs b ob _ z
            obtain ⟨e1, _⟩ := hok b _ z
            obtain ⟨e2, _⟩ := hok' b _ z2
            rw [e] at e1; cases e1
            exact e2
  cases hk : K.lookup a with
  | some o =>
    -- the script is one of the module's own objects
    have e := KX a o hk
    rw [ha] at e
    cases e
    refine core (fun _ => none) (fun _ => .inl rfl) (.inr ⟨_, vs.toArray, _, hk, rfl, rfl, rfl, by rw [List.size_toArray, lenV]; exact hl, by simpa using rv⟩) (fun b u z => by have z' : (none : Option HO) = some u := z; cases z') (fun b z => absurd rfl z) fun z => absurd rfl z
  | none =>
    refine core (fun b => if b = a then some (.frz { cls := .type "list", data := .seq vs.toArray } (.lst (ns.map V.int))) else none) (fun b => ?_) (.inl (.inr ⟨{ cls := .type "list", data := .seq vs.toArray }, if_pos rfl⟩)) (fun b u z => ?_) (fun b z => ?_) fun _ => hk
    · by_cases hb : b = a
      · exact .inr ⟨_, _, if_pos hb⟩
      · exact .inl (if_neg hb)
    · by_cases hb : b = a
      · have z' := (if_pos hb).symm.trans z
        cases z'
        subst hb
        exact ⟨ha, by rw [List.length_map]; exact hl, vs, _, rv, ha⟩
      · have z' := (if_neg hb).symm.trans z
        cases z'
    · by_cases hb : b = a
      · exact hb
      · exact absurd (if_neg hb) z
end L2
namespace L2
open PySem PySem.Spec PyProof.Rows
/-- the goal that k_head leaves (case hc), from the law's promise. F gives the function object fd (K's own) once, then the promise over every base -/
theorem walk_of {l : PySem.W.OpenLaw} {n k : Nat} {q : Program} {loose : List Str} {XP : (Str → Option Value) → Heap → Prop} {YP : World → Heap → Prop} {d : DefRec} {K : Params → PySem.W.Frag} {CX : World → CXT} {sp : World → Sp} {x : Str}
    (hn : l.most = some n) (hn2 : n ≤ sizeLine) (hdf : d.params.defaults = []) (hr : Room k callerA)
    (hY : ∀ (w : World) (h : Heap), YP w h → (K w.params).In h)
    (F : ∀ (w : World) (mg : Str → Option Value) (fa : Addr) (h : Heap), (K w.params).In h → h.Ns mainGlobals mg → mg d.name = some (.ref fa) →
      ∃ fd : FuncData, (∀ (s : Shared) (u : Value), BindsTo s fd ⟨[u], []⟩ [(x, u)]) ∧
        ∀ base : Heap, (K w.params).In base → base.Ns mainGlobals mg → FnOk l.prog w (K w.params) mg base (CX w) k fa fd [x] (sp w))
    (hsp : ∀ (w : World) (H : Hp) (a : Addr) (ns : List Int), ns.length ≤ n → Only H → SqL (K w.params) H a (ns.map V.int) → sp w [.ref a] H (fun v _ => v = .bl true) fun _ _ _ => False)
    (hCX : ∀ (w : World) (H : Hp) (s : Shared) (e : Value) (s' : Shared), CX w [] H s (fun _ _ _ => False) e s' → False) :
    PySem.W.WalkO q loose XP YP l.row.toRowW d [] (fun f vs => PySem.call f vs) := by
  refine Att.attach_call hn hdf fun w s₀ s₁ mg mb fa o pm cd doc a vs ns G Y ho hd hcd hmg hobj hints hlen hg => ?_
  have KX := hY w _ Y
  obtain ⟨fd, hb, hF⟩ := F w mg fa _ KX G.T.g hmg
  exact law_call KX G.T.g G.T.b G.T.builtins G.T.nolimit hg hobj hints (Nat.le_trans hlen hn2) hr hF hb (fun H hO hS => hsp w H a ns hlen hO hS) fun H e s' => hCX w H s₁ e s'
end L2
/- THE LAST THEOREM (shape; LID, My.* are yours):
   My.Adr: a structure of the addresses that your layer names (classes, functions); My.Txt K t: a structure (Prop) of the equations over K;
   My.txt_mk : {K} {implicit addresses ..} (e1 : nsIn K mainGlobals "law" = some (some (.ref f))) (e2 : K.lookup f = some ⟨oc, od, .func (fnOf "law" "law" params body scope dV kV doc pm an cdv ct), sl⟩) (e3 : codeIn K cdv "law" = true) .. : ∃ t, My.Txt K t
set_option maxRecDepth 100000 in
set_option maxHeartbeats 0 in
theorem PySem.Challenge.cw_LID_holds : PySem.Challenge.rw_LID.Holds := by
  w_on; o_law; k_head; (case hw => w_witness2)
  k_fill
  refine L2.walk_of (l := PySem.Challenge.rw_LID) (n := 63) (k := 40) (x := "script") (CX := fun w => ..) (sp := fun _ => My.sp_law) rfl (by decide) rfl ⟨rfl, by decide, by decide⟩ (fun w h Y => PySem.W.kIn_of Y) ?F ?S ?C
  case F =>
    intro w mg fa h KX G hmg
    have T : ∃ t, My.Txt (L2.KOf KX) t := by
      dsimp only [L2.KOf]                          -- K must stand as «<heap const> w.params» for k_is
      refine' My.txt_mk ?e1 ?e2 ?e3 ..
      (case e1 => PySem.W.k_is)                    -- in the order: a name -> its address -> its object -> its parts
      (case e2 => PySem.W.k_is)
      ..
    obtain ⟨t, T⟩ := T
    have e0 := hmg.symm.trans (PySem.W.mg_of KX G T.law)
    cases e0                                       -- fa is the law's own address
    exact ⟨_, fun s u => .of_eq rfl, fun base kb nb => My.law_fn T kb nb⟩     -- if «.of_eq rfl» comes too early: refine' ⟨_, ?b, fun base kb nb => My.law_fn T kb nb⟩; exact fun s u => .of_eq rfl
  case S => exact fun w H a ns hl hO hS => ..
  case C => exact ..
(the tactic k_is has no namespace: write k_is) -/
/-! SHORT WORDS over the layer: a def of the text, its body, what a loop and a test want. -/
namespace L2
open PySem PySem.Spec PyProof.Rows
/-! ### the text by places -/
def defArgs (s : Stmt) : Arguments := match s with
  | .FunctionDef _ a _ _ _ _ _ _ _ _ => a
  | _ => { posonlyargs := [], args := [], vararg := none, kwonlyargs := [], kw_defaults := [], kwarg := none, defaults := [] }
def defBody (s : Stmt) : List Stmt := match s with
  | .FunctionDef _ _ b _ _ _ _ _ _ _ => b
  | _ => []
def defScope (s : Stmt) : Scope := match s with
  | .FunctionDef _ _ _ _ _ _ sc _ _ _ => sc
  | _ => { kind := .function, names := [], isGenerator := false, isCoroutine := false }
/-! ### no exception leaves a def -/
abbrev CX0 : CXT := fun _ _ _ _ _ _ => False
abbrev E0 : XK := fun _ _ _ => False
/-! ### a def (or method) of the text as it stands behind the top -/
structure Fun (K : PySem.W.Frag) (x qual : Str) (st : Stmt) (f : Addr) (fd : FuncData) : Prop where
  ex : ∃ (oc : Value) (od : Option Addr) (kV doc pm : Value) (an : Option Addr) (cdv ct : Value) (osl : Array (Option Value)),
    fd = PySem.W.fnOf x qual (defArgs st) (defBody st) (defScope st) .none kV doc pm an cdv ct ∧ K.lookup f = some ⟨oc, od, .func fd, osl⟩ ∧ PySem.W.codeIn K cdv qual = true
  kp : PySem.W.keepIn K (.ref f) = true
section
variable {P : Program} {w : World} {K : PySem.W.Frag} {mg : Str → Option Value} {base : Heap}
/-- THE RULE for a def: its body as a term of rules, and the reading of that term -/
theorem Fun.ok {x qual : Str} {st : Stmt} {f : Addr} {fd : FuncData} {N ps : List Str} {k : Nat} {sp : Sp} (F : Fun K x qual st f fd) (S : FnScope N ps (defScope st)) (len : ∀ vs H Q E, sp vs H Q E → vs.length = ps.length)
    (hbody : ∀ (cdv : Value) (A : Around) (outer : List Env) (s : Shared) (H : Hp) (vs : List V) (Q : VK) (E : XK), Room k (A.deeper (envOfC qual (defScope st) s.heap.objs.size f cdv)) → sp vs H Q E →
      ∃ t, PSs (cxOf CX0 P w K mg base N qual (defScope st) f cdv A outer s H E).nox (defBody st) t ∧ t { nx := fun _ H' => Q .non H', rt := Q } (start N vs) H) : FnOk P w K mg base CX0 (k + 1) f fd ps sp := by
  obtain ⟨oc, od, kV, doc, pm, an, cdv, ct, osl, rfl, lk, hcd⟩ := F.ex
  refine fn_of lk hcd S len fun A outer s H vs Q E hr hsp => ?_
  obtain ⟨t, h, q⟩ := hbody cdv A outer s H vs Q E hr hsp
  exact ⟨t, h.nox, q⟩
/-- how its arguments bind (no defaults): h is «fun _ _ _ _ _ _ us hl => match us, hl with | [_, _], _ => rfl», one _ a parameter -/
theorem Fun.binds {x qual : Str} {st : Stmt} {f : Addr} {fd : FuncData} {ps : List Str} (F : Fun K x qual st f fd)
    (h : ∀ (kV doc pm : Value) (an : Option Addr) (cdv ct : Value) (us : List Value), us.length = ps.length → bindArgs (PySem.W.fnOf x qual (defArgs st) (defBody st) (defScope st) .none kV doc pm an cdv ct) ⟨us, []⟩ = pure (ps.zip us)) : Binds K fd ps [] := by
  obtain ⟨oc, od, kV, doc, pm, an, cdv, ct, osl, rfl, lk, hcd⟩ := F.ex
  exact .all (h kV doc pm an cdv ct)
theorem fun_mk {x qual : Str} {st : Stmt} {f : Addr} {oc : Value} {od an : Option Addr} {osl : Array (Option Value)} {kV doc pm cdv ct : Value} (l : K.lookup f = some ⟨oc, od, .func (PySem.W.fnOf x qual (defArgs st) (defBody st) (defScope st) .none kV doc pm an cdv ct), osl⟩)
    (c : PySem.W.codeIn K cdv qual = true) (k : PySem.W.keepIn K (.ref f) = true) : Fun K x qual st f (PySem.W.fnOf x qual (defArgs st) (defBody st) (defScope st) .none kV doc pm an cdv ct) := ⟨⟨oc, od, kV, doc, pm, an, cdv, ct, osl, rfl, l, c⟩, k⟩
end
/-! ### expressions in short: the name that stands in the i-th slot -/
section
variable {X : Cx}
theorem pv (i : Nat) {x : Str} {pos : Pos} (hN : X.N[i]? = some x := by rfl) (hv : Vis X.env.scope x := by first | exact Or.inl rfl | exact Or.inr (Or.inl rfl) | exact Or.inr (Or.inr rfl)) (hd : (x == ("__debug__" : Str)) = false := by decide)
    (hcd : (x == ("__classdict__" : Str)) = false := by decide) : PE X (.Name x pos) (tVar i) := pe_var hN hv hd hcd
end
/-! ### tests -/
theorem iteF {A B : Prop} (h : B) : if false = true then A else B := by
  rw [if_neg Bool.false_ne_true]
  exact h
theorem iteT {A B : Prop} (h : A) : if true = true then A else B := by
  rw [if_pos rfl]
  exact h
theorem ite2 {c A B : Prop} [Decidable c] (h1 : c → A) (h2 : ¬ c → B) : if c then A else B := by
  by_cases h : c
  · rw [if_pos h]
    exact h1 h
  · rw [if_neg h]
    exact h2 h
/-! ### heaps -/
/-- all that was tracked is as it was -/
def Same (H H' : Hp) : Prop := ∀ b o, H b = some o → H' b = some o
theorem Same.refl (H : Hp) : Same H H := fun _ _ h => h
theorem Same.trans {H H1 H2 : Hp} (a : Same H H1) (b : Same H1 H2) : Same H H2 := fun c o h => b c o (a c o h)
theorem Same.seq {K : PySem.W.Frag} {H H' : Hp} {a : Addr} {xs : List V} (e : Same H H') (h : SqL K H a xs) : SqL K H' a xs := by
  rcases h with (h | ⟨o, h⟩) | h
  · exact .inl (.inl (e _ _ h))
  · exact .inl (.inr ⟨o, e _ _ h⟩)
  · exact .inr h
/-! ### a dict's pairs: keys that differ -/
section
variable {κ : Type} [DecidableEq κ]
end
end L2

/-! fractions, letters, walks: plain mathematics -/
namespace TW
abbrev Fr := Int × Int
/-- what one letter leads a fraction to -/
def mv (c : Nat) (f : Fr) : Fr :=
  if c = 116 then (f.1 + f.2, f.2) else if c = 117 then (f.1 - f.2, f.2)
  else if 0 < f.1 then (-f.2, f.1) else if f.1 < 0 then (f.2, -f.1) else (1, 0)
def walk (w : List Nat) (f : Fr) : Fr := w.foldl (fun f c => mv c f) f
def exch (c : Nat) : Nat := if c = 116 then 117 else if c = 117 then 116 else 114
def bk (w : List Nat) : List Nat := w.reverse.map exch
def IsL (c : Nat) : Prop := c = 116 ∨ c = 117 ∨ c = 114
def IsW (w : List Nat) : Prop := ∀ c ∈ w, IsL c
def IsF (f : Fr) : Prop := (f.1 = 1 ∧ f.2 = 0) ∨ (0 < f.2 ∧ Int.gcd f.1 f.2 = 1)

theorem walk_cons (c : Nat) (w : List Nat) (f : Fr) : walk (c :: w) f = walk w (mv c f) := rfl
theorem walk_append (a b : List Nat) (f : Fr) : walk (a ++ b) f = walk b (walk a f) := by
  unfold walk; rw [List.foldl_append]
theorem walk_snoc (a : List Nat) (c : Nat) (f : Fr) : walk (a ++ [c]) f = mv c (walk a f) := by
  rw [walk_append]; rfl
theorem IsW.nil : IsW [] := fun _ h => nomatch h
theorem IsW.cons {c : Nat} {w : List Nat} (h : IsL c) (hw : IsW w) : IsW (c :: w) := fun d hd => by
  rcases List.mem_cons.mp hd with rfl | hd
  · exact h
  · exact hw d hd
theorem IsW.append {a b : List Nat} (ha : IsW a) (hb : IsW b) : IsW (a ++ b) := fun d hd => by
  rcases List.mem_append.mp hd with hd | hd
  · exact ha d hd
  · exact hb d hd
theorem IsW.tail {c : Nat} {w : List Nat} (h : IsW (c :: w)) : IsW w := fun d hd => h d (List.mem_cons_of_mem _ hd)
theorem IsW.head {c : Nat} {w : List Nat} (h : IsW (c :: w)) : IsL c := h c List.mem_cons_self
theorem bk_cons (c : Nat) (w : List Nat) : bk (c :: w) = bk w ++ [exch c] := by
  unfold bk; rw [List.reverse_cons, List.map_append]; rfl
theorem gcd_add (a b : Int) : Int.gcd (a + b) b = Int.gcd a b := by simp
theorem gcd_sub (a b : Int) : Int.gcd (a - b) b = Int.gcd a b := by simp
theorem mv_F {c : Nat} {f : Fr} (h : IsF f) : IsF (mv c f) := by
  obtain ⟨a, b⟩ := f
  unfold mv IsF at *
  dsimp only at h ⊢
  rcases h with ⟨rfl, rfl⟩ | ⟨hb, hg⟩
  · repeat' split <;> simp
  · by_cases h1 : c = 116
    · rw [if_pos h1]; right; exact ⟨hb, by rw [gcd_add]; exact hg⟩
    · rw [if_neg h1]
      by_cases h2 : c = 117
      · rw [if_pos h2]; right; exact ⟨hb, by rw [gcd_sub]; exact hg⟩
      · rw [if_neg h2]
        by_cases h3 : 0 < a
        · rw [if_pos h3]; right; refine ⟨h3, ?_⟩
          show Int.gcd (-b) a = 1
          rw [Int.neg_gcd, Int.gcd_comm]; exact hg
        · rw [if_neg h3]
          by_cases h4 : a < 0
          · rw [if_pos h4]; right
            refine ⟨by show 0 < -a; omega, ?_⟩
            show Int.gcd b (-a) = 1
            rw [Int.gcd_neg, Int.gcd_comm]; exact hg
          · rw [if_neg h4]; left; exact ⟨rfl, rfl⟩
theorem walk_F : ∀ {w : List Nat} {f : Fr}, IsF f → IsF (walk w f)
  | [], _, h => h
  | _ :: w, _, h => by rw [walk_cons]; exact walk_F (w := w) (mv_F h)
theorem mv_exch {c : Nat} {f : Fr} (hc : IsL c) (h : IsF f) : mv (exch c) (mv c f) = f := by
  obtain ⟨a, b⟩ := f
  rcases hc with rfl | rfl | rfl
  · show ((a + b) - b, b) = (a, b); congr 1; omega
  · show ((a - b) + b, b) = (a, b); congr 1; omega
  · show mv 114 (mv 114 (a, b)) = (a, b)
    unfold mv IsF at *
    dsimp only at h ⊢
    rcases h with ⟨rfl, rfl⟩ | ⟨hb, hg⟩
    · decide
    · by_cases h3 : 0 < a
      · have hb' : ¬ (0 < -b) := by omega
        have hb2 : -b < 0 := by omega
        simp [h3, hb]; omega
      · by_cases h4 : a < 0
        · simp [h3, h4, hb]
        · have e : a = 0 := by omega
          subst e
          have : b = 1 := by simp at hg; omega
          subst this; decide
theorem walk_bk : ∀ {w : List Nat} {f : Fr}, IsW w → IsF f → walk (bk w) (walk w f) = f
  | [], _, _, _ => rfl
  | c :: w, f, hw, hf => by
    rw [bk_cons, walk_snoc, walk_cons, walk_bk hw.tail (mv_F hf), mv_exch hw.head hf]
theorem F_nought : IsF (0, 1) := Or.inr ⟨by decide, by decide⟩
theorem F_end : IsF (1, 0) := Or.inl ⟨rfl, rfl⟩
/-- one turn of the divisor's loop -/
theorem gcd_turn {a b : Int} (ha : 0 ≤ a) (hb : 0 < b) : Int.gcd b (a % b) = Int.gcd a b := by
  rw [Int.gcd_comm b, Int.emod_def]; simp
end TW

set_option Elab.async false
/-! the quiet pieces, and steps -/
namespace TW
theorem mv_t (a b : Int) : mv 116 (a, b) = (a + b, b) := rfl
theorem mvr_pos {a : Int} (b : Int) (h : 0 < a) : mv 114 (a, b) = (-b, a) := by
  show (if 0 < a then _ else _) = _
  rw [if_pos h]
theorem mvr_neg {a : Int} (b : Int) (h : a < 0) : mv 114 (a, b) = (b, -a) := by
  show (if 0 < a then _ else if a < 0 then _ else _) = _
  rw [if_neg (by omega), if_pos h]
def pcs : List (List Nat) := [[116, 117], [117, 116], [114, 114], [116, 114, 116, 114, 116, 114]]
theorem quiet_tr {a b : Int} (hb : 0 < b) (hg : Int.gcd a b = 1) : walk [116, 114, 116, 114, 116, 114] (a, b) = (a, b) := by
  show mv 114 (mv 116 (mv 114 (mv 116 (mv 114 (mv 116 (a, b)))))) = (a, b)
  rw [mv_t a b]
  rcases Int.lt_trichotomy (a + b) 0 with h | h | h
  · rw [mvr_neg _ h, mv_t b (-(a + b)), show b + -(a + b) = -a by omega, mvr_pos _ (show 0 < -a by omega), mv_t (- -(a + b)) (-a), show - -(a + b) + -a = b by omega, mvr_pos _ hb, Int.neg_neg]
  · have hb1 : b = 1 := by
      have e : a = -b := by omega
      rw [e, Int.neg_gcd, Int.gcd_self] at hg
      omega
    subst hb1
    have ha : a = -1 := by omega
    subst ha
    rfl
  · rw [mvr_pos _ h, mv_t (-b) (a + b), show -b + (a + b) = a by omega]
    rcases Int.lt_trichotomy a 0 with k | k | k
    · rw [mvr_neg _ k, mv_t (a + b) (-a), show a + b + -a = b by omega, mvr_pos _ hb, Int.neg_neg]
    · subst k
      have hb1 : b = 1 := by
        rw [Int.gcd_comm, Int.gcd_zero_right] at hg
        omega
      subst hb1
      rfl
    · rw [mvr_pos _ k, mv_t (-(a + b)) a, show -(a + b) + a = -b by omega, mvr_neg _ (show -b < 0 by omega), Int.neg_neg]
theorem quiet_pc {p : List Nat} {f : Fr} (hp : p ∈ pcs) (hf : IsF f) : walk p f = f := by
  obtain ⟨a, b⟩ := f
  have e : p = [116, 117] ∨ p = [117, 116] ∨ p = [114, 114] ∨ p = [116, 114, 116, 114, 116, 114] := by simpa [pcs] using hp
  rcases e with rfl | rfl | rfl | rfl
  · exact mv_exch (c := 116) (.inl rfl) hf
  · exact mv_exch (c := 117) (.inr (.inl rfl)) hf
  · exact mv_exch (c := 114) (.inr (.inr rfl)) hf
  · rcases hf with ⟨h1, h2⟩ | ⟨h1, h2⟩
    · cases (show a = 1 from h1)
      cases (show b = 0 from h2)
      rfl
    · exact quiet_tr h1 h2
end TW

set_option Elab.async false
/-! words as matrices; three fractions tell all; what comes back does so within three -/
namespace TW
def lv (c : Nat) (f : Fr) : Fr := if c = 116 then (f.1 + f.2, f.2) else if c = 117 then (f.1 - f.2, f.2) else (-f.2, f.1)
def wv (w : List Nat) (f : Fr) : Fr := w.foldl (fun f c => lv c f) f
def ng (f : Fr) : Fr := (-f.1, -f.2)
def nrm (f : Fr) : Fr := if 0 < f.2 ∨ (f.2 = 0 ∧ 0 < f.1) then f else ng f
theorem wv_cons (c : Nat) (w : List Nat) (f : Fr) : wv (c :: w) f = wv w (lv c f) := rfl
theorem lv_ng (c : Nat) (f : Fr) : lv c (ng f) = ng (lv c f) := by
  obtain ⟨a, b⟩ := f
  unfold lv ng
  by_cases h1 : c = 116
  · simp only [h1, if_true]; congr 1; omega
  · by_cases h2 : c = 117
    · simp only [h2, if_true]; simp; omega
    · simp only [h1, h2, if_false]
def nz (f : Fr) : Prop := f.1 ≠ 0 ∨ f.2 ≠ 0
theorem nrm_ng {f : Fr} (h : nz f) : nrm (ng f) = nrm f := by
  obtain ⟨a, b⟩ := f
  unfold nz at h
  unfold nrm ng
  dsimp only at h ⊢
  by_cases h1 : 0 < b ∨ (b = 0 ∧ 0 < a)
  · rw [if_neg (by omega), if_pos h1]; simp
  · rw [if_pos (by omega), if_neg h1]
theorem nrm_or (f : Fr) : nrm f = f ∨ nrm f = ng f := by
  unfold nrm
  split
  · exact .inl rfl
  · exact .inr rfl
theorem lv_nz {c : Nat} {f : Fr} (h : nz f) : nz (lv c f) := by
  obtain ⟨a, b⟩ := f
  unfold nz lv at *
  by_cases h1 : c = 116
  · simp only [h1, if_true]; dsimp only at h; omega
  · by_cases h2 : c = 117
    · simp only [h2, if_true]; simp; omega
    · simp only [h1, h2, if_false]; dsimp only at h; omega
theorem F_nz {f : Fr} (h : IsF f) : nz f := by
  unfold nz
  rcases h with ⟨h1, h2⟩ | ⟨h1, h2⟩ <;> omega
theorem mv_nrm {c : Nat} {f : Fr} (h : IsF f) : mv c f = nrm (lv c f) := by
  obtain ⟨a, b⟩ := f
  unfold mv nrm lv ng IsF at *
  dsimp only at h ⊢
  by_cases h1 : c = 116
  · simp only [h1, if_true]
    rcases h with ⟨rfl, rfl⟩ | ⟨hb, hg⟩
    · decide
    · rw [if_pos (.inl hb)]
  · by_cases h2 : c = 117
    · simp only [h2, if_true]
      rcases h with ⟨rfl, rfl⟩ | ⟨hb, hg⟩
      · decide
      · simp [hb]
    · simp only [h1, h2, if_false]
      rcases h with ⟨rfl, rfl⟩ | ⟨hb, hg⟩
      · decide
      · by_cases h3 : 0 < a
        · rw [if_pos h3, if_pos (.inl h3)]
        · rw [if_neg h3]
          by_cases h4 : a < 0
          · rw [if_pos h4, if_neg (by omega)]; simp
          · have e : a = 0 := by omega
            subst e
            have hb1 : b = 1 := by
              rw [Int.gcd_comm, Int.gcd_zero_right] at hg
              omega
            subst hb1
            decide
theorem nrm_F {f : Fr} (h : IsF f) : nrm f = f := by
  unfold nrm
  rw [if_pos]
  rcases h with ⟨h1, h2⟩ | ⟨h1, h2⟩ <;> omega
theorem walk_nrm : ∀ {w : List Nat} {f g : Fr}, IsF f → nz g → nrm g = f → walk w f = nrm (wv w g)
  | [], _, _, _, _, e => e.symm
  | c :: w, f, g, hf, hg, e => by
    rw [walk_cons, wv_cons]
    refine walk_nrm (mv_F hf) (lv_nz hg) ?_
    rw [mv_nrm hf]
    rcases nrm_or g with h | h
    · rw [← e, h]
    · rw [← e, h, lv_ng, nrm_ng (lv_nz hg)]
theorem walk_wv {w : List Nat} {f : Fr} (h : IsF f) : walk w f = nrm (wv w f) := walk_nrm h (F_nz h) (nrm_F h)
/-- a word is linear -/
theorem lv_lin (c : Nat) (x y : Int) (p q : Fr) : lv c (x * p.1 + y * q.1, x * p.2 + y * q.2) = (x * (lv c p).1 + y * (lv c q).1, x * (lv c p).2 + y * (lv c q).2) := by
  obtain ⟨a, b⟩ := p
  obtain ⟨d, e⟩ := q
  unfold lv
  by_cases h1 : c = 116
  · simp only [h1, if_true]; congr 1; grind
  · by_cases h2 : c = 117
    · simp only [h2, if_true]; simp; grind
    · simp only [h1, h2, if_false]; congr 1; grind
theorem wv_lin : ∀ (w : List Nat) (x y : Int) (p q : Fr), wv w (x * p.1 + y * q.1, x * p.2 + y * q.2) = (x * (wv w p).1 + y * (wv w q).1, x * (wv w p).2 + y * (wv w q).2)
  | [], _, _, _, _ => rfl
  | c :: w, x, y, p, q => by rw [wv_cons, lv_lin, wv_lin w, wv_cons, wv_cons]
theorem wv_mat (w : List Nat) (f : Fr) : wv w f = (f.1 * (wv w (1, 0)).1 + f.2 * (wv w (0, 1)).1, f.1 * (wv w (1, 0)).2 + f.2 * (wv w (0, 1)).2) := by
  have h := wv_lin w f.1 f.2 (1, 0) (0, 1)
  obtain ⟨x, y⟩ := f
  simpa using h
theorem lv_det (c : Nat) (p q : Fr) : (lv c p).1 * (lv c q).2 - (lv c q).1 * (lv c p).2 = p.1 * q.2 - q.1 * p.2 := by
  obtain ⟨a, b⟩ := p
  obtain ⟨d, e⟩ := q
  unfold lv
  by_cases h1 : c = 116
  · simp only [h1, if_true]; grind
  · by_cases h2 : c = 117
    · simp only [h2, if_true]; simp; grind
    · simp only [h1, h2, if_false]; grind
theorem wv_det : ∀ (w : List Nat) (p q : Fr), (wv w p).1 * (wv w q).2 - (wv w q).1 * (wv w p).2 = p.1 * q.2 - q.1 * p.2
  | [], _, _ => rfl
  | c :: w, p, q => by rw [wv_cons, wv_cons, wv_det w, lv_det]
end TW

/-! runs: words as whole numbers with a turn between each two -/
namespace TW
def lts (k : Int) : List Nat := if k < 0 then List.replicate (-k).toNat 117 else List.replicate k.toNat 116
def sh (k : Int) (f : Fr) : Fr := (f.1 + k * f.2, f.2)
def pre (ks : List Int) (f : Fr) : Fr := ks.foldl (fun g k => mv 114 (sh k g)) f
def post (ks : List Int) (f : Fr) : Fr := ks.foldl (fun g k => sh k (mv 114 g)) f
def act : List Int → Fr → Fr
  | [], f => f
  | k :: ks, f => post ks (sh k f)
def spell : List Int → List Nat
  | [] => []
  | [k] => lts k
  | k :: l :: r => lts k ++ 114 :: spell (l :: r)
def bw (ks : List Int) : List Int := ks.reverse.map fun k => -k
def sab (ks : List Int) : Nat := (ks.map Int.natAbs).sum
theorem walk_t (n : Nat) (f : Fr) : walk (List.replicate n 116) f = (f.1 + n * f.2, f.2) := by
  induction n generalizing f with
  | zero => simp [walk]
  | succ n ih =>
    rw [List.replicate_succ, walk_cons, ih]
    show (f.1 + f.2 + n * f.2, f.2) = _
    refine Prod.ext ?_ rfl
    show f.1 + f.2 + n * f.2 = f.1 + ((n + 1 : Nat) : Int) * f.2
    grind
theorem walk_u (n : Nat) (f : Fr) : walk (List.replicate n 117) f = (f.1 - n * f.2, f.2) := by
  induction n generalizing f with
  | zero => simp [walk]
  | succ n ih =>
    rw [List.replicate_succ, walk_cons, ih]
    show (f.1 - f.2 - n * f.2, f.2) = _
    refine Prod.ext ?_ rfl
    show f.1 - f.2 - n * f.2 = f.1 - ((n + 1 : Nat) : Int) * f.2
    grind
theorem walk_lts (k : Int) (f : Fr) : walk (lts k) f = sh k f := by
  unfold lts sh
  split
  · rename_i h
    rw [walk_u]
    refine Prod.ext ?_ rfl
    show f.1 - ((-k).toNat : Int) * f.2 = _
    rw [Int.toNat_of_nonneg (by omega)]
    grind
  · rename_i h
    rw [walk_t]
    refine Prod.ext ?_ rfl
    show f.1 + (k.toNat : Int) * f.2 = _
    rw [Int.toNat_of_nonneg (by omega)]
theorem walk_spell : ∀ (ks : List Int) (f : Fr), walk (spell ks) f = act ks f
  | [], f => rfl
  | [k], f => by rw [spell, walk_lts]; rfl
  | k :: l :: r, f => by
    rw [spell, walk_append, walk_lts, walk_cons, walk_spell (l :: r)]
    rfl
theorem lts_W (k : Int) : IsW (lts k) := fun c hc => by
  unfold lts at hc
  split at hc
  · exact .inr (.inl (List.eq_of_mem_replicate hc))
  · exact .inl (List.eq_of_mem_replicate hc)
theorem spell_W : ∀ ks : List Int, IsW (spell ks)
  | [] => IsW.nil
  | [k] => lts_W k
  | k :: l :: r => by rw [spell]; exact (lts_W k).append (IsW.cons (.inr (.inr rfl)) (spell_W (l :: r)))
theorem lts_len (k : Int) : (lts k).length = k.natAbs := by
  unfold lts
  split <;> rw [List.length_replicate] <;> omega
theorem sab_cons (k : Int) (ks : List Int) : sab (k :: ks) = k.natAbs + sab ks := by unfold sab; simp
theorem sab_append (a b : List Int) : sab (a ++ b) = sab a + sab b := by unfold sab; simp
theorem spell_len : ∀ ks : List Int, (spell ks).length ≤ sab ks + ks.length
  | [] => Nat.zero_le _
  | [k] => by rw [spell, lts_len, sab_cons]; omega
  | k :: l :: r => by
    have := spell_len (l :: r)
    rw [spell, List.length_append, List.length_cons, lts_len, sab_cons, List.length_cons]
    omega
theorem bw_len (ks : List Int) : (bw ks).length = ks.length := by unfold bw; simp
theorem bw_snoc (ks : List Int) (k : Int) : bw (ks ++ [k]) = -k :: bw ks := by unfold bw; simp
theorem sab_bw (ks : List Int) : sab (bw ks) = sab ks := by
  unfold sab bw
  rw [List.map_map, ← List.sum_reverse, ← List.map_reverse, List.reverse_reverse]
  congr 1
  apply List.map_congr_left
  intro k _
  simp
theorem sh_F {k : Int} {f : Fr} (h : IsF f) : IsF (sh k f) := by rw [← walk_lts]; exact walk_F h
theorem pre_F {ks : List Int} {f : Fr} (h : IsF f) : IsF (pre ks f) := by
  induction ks generalizing f with
  | nil => exact h
  | cons k r ih => exact ih (mv_F (sh_F h))
theorem post_F {ks : List Int} {f : Fr} (h : IsF f) : IsF (post ks f) := by
  induction ks generalizing f with
  | nil => exact h
  | cons k r ih => exact ih (sh_F (mv_F h))
theorem pre_snoc (ks : List Int) (k : Int) (f : Fr) : pre (ks ++ [k]) f = mv 114 (sh k (pre ks f)) := by
  unfold pre; rw [List.foldl_append]; rfl
theorem post_cons (ks : List Int) (k : Int) (f : Fr) : post (k :: ks) f = post ks (sh k (mv 114 f)) := rfl
theorem sh_sh (k l : Int) (f : Fr) : sh k (sh l f) = sh (l + k) f := by
  unfold sh
  refine Prod.ext ?_ rfl
  show f.1 + l * f.2 + k * f.2 = f.1 + (l + k) * f.2
  grind
theorem sh_zero (f : Fr) : sh 0 f = f := by unfold sh; simp
theorem turn_turn {f : Fr} (h : IsF f) : mv 114 (mv 114 f) = f := by
  have := quiet_pc (p := [114, 114]) (f := f) (by unfold pcs; simp) h
  exact this
/-- all the runs, a run in their midst -/
theorem act_mid : ∀ (a b : List Int) (k : Int) (f : Fr), act (a ++ k :: b) f = post b (sh k (pre a f)) := by
  intro a b k f
  cases a with
  | nil => rfl
  | cons l r =>
    show post (r ++ k :: b) (sh l f) = _
    have h : ∀ (r : List Int) (l : Int) (g : Fr), post (r ++ k :: b) (sh l g) = post b (sh k (pre (l :: r) g)) := by
      intro r
      induction r with
      | nil => intro l g; rfl
      | cons m r ih =>
        intro l g
        show post (r ++ k :: b) (sh m (mv 114 (sh l g))) = _
        rw [ih m (mv 114 (sh l g))]
        rfl
    exact h r l f
theorem post_back (a : List Int) : ∀ {f : Fr}, IsF f → post (bw a) (pre a f) = f := by
  induction h : a.length generalizing a with
  | zero =>
    intro f _
    have e : a = [] := List.eq_nil_of_length_eq_zero h
    subst e; rfl
  | succ n ih =>
    intro f hf
    obtain ⟨b, k, rfl⟩ : ∃ b k, a = b ++ [k] := by
      refine ⟨a.dropLast, a.getLast (fun e => by subst e; cases h), ?_⟩
      rw [List.dropLast_concat_getLast]
    rw [bw_snoc, pre_snoc, post_cons, turn_turn (sh_F (pre_F hf)), sh_sh, show k + -k = 0 by omega, sh_zero]
    exact ih b (by simp at h; exact h) hf
theorem act_back {a : List Int} {k : Int} {f : Fr} (hf : IsF f) : act (bw (a ++ [k])) (act (a ++ [k]) f) = f := by
  rw [bw_snoc]
  show post (bw a) (sh (-k) (act (a ++ [k]) f)) = f
  rw [act_mid]
  show post (bw a) (sh (-k) (sh k (pre a f))) = f
  rw [sh_sh, show k + -k = 0 by omega, sh_zero]
  exact post_back a hf
theorem act_F {a : List Int} {f : Fr} (hf : IsF f) : IsF (act a f) := by
  cases a with
  | nil => exact hf
  | cons k r => exact post_F (sh_F hf)
/-! ### how many letters it takes -/
/-- the quotients' sum of Euclid's way -/
def qs (m n : Nat) : Nat := if h : n = 0 then 0 else m / n + qs n (m % n)
termination_by n
decreasing_by exact Nat.mod_lt _ (by omega)
theorem qs_zero (m : Nat) : qs m 0 = 0 := by rw [qs]; simp
theorem qs_step {m n : Nat} (h : 0 < n) : qs m n = m / n + qs n (m % n) := by rw [qs]; rw [dif_neg (by omega)]
theorem qs_zero' (n : Nat) : qs 0 n = 0 := by
  by_cases h : n = 0
  · rw [h, qs_zero]
  · rw [qs_step (by omega)]; simp [qs_zero]
theorem qs_lt {m n : Nat} (h : m < n) : qs m n = qs n m := by
  rw [qs_step (by omega), Nat.div_eq_of_lt h, Nat.mod_eq_of_lt h, Nat.zero_add]
theorem qs_comm (m n : Nat) : qs m n = qs n m := by
  rcases Nat.lt_trichotomy m n with h | h | h
  · exact qs_lt h
  · rw [h]
  · exact (qs_lt h).symm
theorem qs_add {m n : Nat} (h : 0 < n) : qs (m + n) n = qs m n + 1 := by
  rw [qs_step h, qs_step (m := m) h, Nat.add_div_right _ h, Nat.add_mod_right]
  omega
def qf (f : Fr) : Nat := qs f.1.natAbs f.2.natAbs
theorem qs_sub {m b : Nat} (h0 : 0 < m) (h : m < b) : qs (b - m) b = qs m b := by
  rw [qs_comm (b - m) b, qs_comm m b]
  have e1 : qs b (b - m) = qs m (b - m) + 1 := by
    have := qs_add (m := m) (n := b - m) (by omega)
    rwa [show m + (b - m) = b by omega] at this
  have e2 : qs b m = qs (b - m) m + 1 := by
    have := qs_add (m := b - m) (n := m) h0
    rwa [show b - m + m = b by omega] at this
  rw [e1, e2, qs_comm m (b - m)]
theorem qf_up {a b : Int} (hb : 0 ≤ b) : qf (a + b, b) ≤ qf (a, b) + 1 := by
  unfold qf
  show qs (a + b).natAbs b.natAbs ≤ qs a.natAbs b.natAbs + 1
  by_cases h0 : b = 0
  · subst h0; simp
  by_cases h : 0 ≤ a
  · rw [show (a + b).natAbs = a.natAbs + b.natAbs by omega, qs_add (by omega)]
    exact Nat.le_refl _
  · by_cases h2 : a + b ≤ 0
    · have := qs_add (m := (a + b).natAbs) (n := b.natAbs) (by omega)
      rw [show (a + b).natAbs + b.natAbs = a.natAbs by omega] at this
      omega
    · have := qs_sub (m := a.natAbs) (b := b.natAbs) (by omega) (by omega)
      rw [show b.natAbs - a.natAbs = (a + b).natAbs by omega] at this
      omega
theorem qf_neg (a b : Int) : qf (-a, b) = qf (a, b) := by unfold qf; simp
theorem qf_mv {c : Nat} {f : Fr} (hf : IsF f) : qf (mv c f) ≤ qf f + 1 := by
  obtain ⟨a, b⟩ := f
  have hb : 0 ≤ b := by
    rcases hf with ⟨_, h⟩ | ⟨h, _⟩
    · have h' : b = 0 := h; omega
    · have h' : 0 < b := h; omega
  unfold mv
  split
  · exact qf_up hb
  split
  · have := qf_up (a := -a) hb
    rw [qf_neg] at this
    have e : qf (a - b, b) = qf (-a + b, b) := by rw [← qf_neg, show -(a - b) = -a + b by omega]
    show qf (a - b, b) ≤ _
    omega
  split
  · show qs (-b).natAbs a.natAbs ≤ qs a.natAbs b.natAbs + 1
    rw [Int.natAbs_neg, qs_comm]; omega
  split
  · show qs b.natAbs (-a).natAbs ≤ qs a.natAbs b.natAbs + 1
    rw [Int.natAbs_neg, qs_comm]; omega
  · show qs 1 0 ≤ _
    rw [qs_zero]; omega
theorem qf_walk (w : List Nat) {f : Fr} (hf : IsF f) : qf (walk w f) ≤ qf f + w.length := by
  induction w generalizing f with
  | nil => exact Nat.le_refl _
  | cons c r ih =>
    rw [walk_cons, List.length_cons]
    have := ih (mv_F (c := c) hf)
    have := qf_mv (c := c) hf
    omega
theorem qf_end : qf (1, 0) = 0 := qs_zero _
theorem qf_nought : qf (0, 1) = 0 := qs_zero' _
/-- the floor of a fraction is no more than its letters -/
theorem qf_floor {f : Fr} (h : 0 < f.2) : (f.1 / f.2).natAbs ≤ qf f + 1 := by
  obtain ⟨a, b⟩ := f
  have hb : 0 < b := h
  unfold qf
  show (a / b).natAbs ≤ qs a.natAbs b.natAbs + 1
  rw [qs_step (by omega)]
  have e : a.natAbs / b.natAbs ≤ a.natAbs / b.natAbs + qs b.natAbs (a.natAbs % b.natAbs) := Nat.le_add_right _ _
  suffices (a / b).natAbs ≤ a.natAbs / b.natAbs + 1 by omega
  have eb : ((b.natAbs : Nat) : Int) = b := by omega
  by_cases ha : 0 ≤ a
  · have ea : ((a.natAbs : Nat) : Int) = a := by omega
    have e1 : ((a.natAbs / b.natAbs : Nat) : Int) = a / b := by rw [Int.natCast_ediv, ea, eb]
    generalize a.natAbs / b.natAbs = Q at e1 ⊢
    generalize a / b = R at e1 ⊢
    omega
  · have ea : ((a.natAbs : Nat) : Int) = -a := by omega
    have e1 : ((a.natAbs / b.natAbs : Nat) : Int) = -a / b := by rw [Int.natCast_ediv, ea, eb]
    have h1 := Int.mul_ediv_add_emod a b
    have h2 := Int.mul_ediv_add_emod (-a) b
    have h3 := Int.emod_nonneg a (show b ≠ 0 by omega)
    have h4 := Int.emod_lt_of_pos a hb
    have h5 := Int.emod_nonneg (-a) (show b ≠ 0 by omega)
    have h6 := Int.emod_lt_of_pos (-a) hb
    have h7 : b * (a / b + (-a) / b + 1) > -b := by
      have : b * (a / b + (-a) / b + 1) = b * (a / b) + b * (-a / b) + b := by grind
      omega
    have h8 : a / b + (-a) / b + 1 ≥ 0 := by
      rcases Int.lt_or_le (a / b + (-a) / b + 1) 0 with q | q
      · exfalso
        have : b * (a / b + (-a) / b + 1) ≤ b * (-1) := Int.mul_le_mul_of_nonneg_left (by omega) (by omega)
        omega
      · exact q
    have h9 : a / b ≤ 0 := by
      have : a / b < 0 := Int.ediv_neg_of_neg_of_pos (by omega) hb
      omega
    generalize a.natAbs / b.natAbs = Q at e1 ⊢
    generalize a / b = R at e1 h8 h9 ⊢
    generalize -a / b = R2 at e1 h8
    omega
/-- sizes -/
theorem mv_size (c : Nat) (f : Fr) : (mv c f).1.natAbs + (mv c f).2.natAbs ≤ 2 * (f.1.natAbs + f.2.natAbs) + 1 := by
  unfold mv
  split
  · show (f.1 + f.2).natAbs + f.2.natAbs ≤ _; omega
  split
  · show (f.1 - f.2).natAbs + f.2.natAbs ≤ _; omega
  split
  · show (-f.2).natAbs + f.1.natAbs ≤ _; omega
  split
  · show f.2.natAbs + (-f.1).natAbs ≤ _; omega
  · show 1 + 0 ≤ _; omega
theorem walk_size (w : List Nat) (f : Fr) : (walk w f).1.natAbs + (walk w f).2.natAbs + 1 ≤ 2 ^ w.length * (f.1.natAbs + f.2.natAbs + 1) := by
  induction w generalizing f with
  | nil => simp [walk]
  | cons c r ih =>
    rw [walk_cons, List.length_cons]
    have h1 := ih (mv c f)
    have h2 := mv_size c f
    have h3 : 2 ^ r.length * ((mv c f).1.natAbs + (mv c f).2.natAbs + 1) ≤ 2 ^ r.length * (2 * (f.1.natAbs + f.2.natAbs + 1)) := Nat.mul_le_mul_left _ (by omega)
    have h4 : 2 ^ r.length * (2 * (f.1.natAbs + f.2.natAbs + 1)) = 2 ^ (r.length + 1) * (f.1.natAbs + f.2.natAbs + 1) := by rw [Nat.pow_succ, Nat.mul_assoc]
    omega
end TW

/-! one run towards the end -/
namespace TW
def runOf (g : Fr) : Int := if g.1 < 0 then (if g.1 < 0 then -g.1 else g.1) / g.2 else -((if g.1 < 0 then -g.1 else g.1) / g.2)
theorem run_rest {g : Fr} (hb : 0 < g.2) : (runOf g).natAbs = g.1.natAbs / g.2.natAbs ∧ (sh (runOf g) g).1.natAbs = g.1.natAbs % g.2.natAbs := by
  obtain ⟨a, b⟩ := g
  have hb' : 0 < b := hb
  unfold runOf sh
  dsimp only
  have eb : ((b.natAbs : Nat) : Int) = b := by omega
  by_cases h : a < 0
  · simp only [h, if_true]
    have ea : ((a.natAbs : Nat) : Int) = -a := by omega
    have e1 : ((a.natAbs / b.natAbs : Nat) : Int) = -a / b := by rw [Int.natCast_ediv, ea, eb]
    have e2 : ((a.natAbs % b.natAbs : Nat) : Int) = -a % b := by rw [Int.natCast_emod, ea, eb]
    have h1 := Int.mul_ediv_add_emod (-a) b
    have h3 : a + -a / b * b = -(-a % b) := by
      have : -a / b * b = b * (-a / b) := Int.mul_comm _ _
      omega
    rw [h3]
    generalize a.natAbs / b.natAbs = Q at e1 ⊢
    generalize a.natAbs % b.natAbs = R at e2 ⊢
    omega
  · simp only [h, if_false]
    have ea : ((a.natAbs : Nat) : Int) = a := by omega
    have e1 : ((a.natAbs / b.natAbs : Nat) : Int) = a / b := by rw [Int.natCast_ediv, ea, eb]
    have e2 : ((a.natAbs % b.natAbs : Nat) : Int) = a % b := by rw [Int.natCast_emod, ea, eb]
    have h1 := Int.mul_ediv_add_emod a b
    have h3 : a + -(a / b) * b = a % b := by
      have : -(a / b) * b = -(b * (a / b)) := by rw [Int.neg_mul, Int.mul_comm]
      omega
    rw [h3]
    generalize a.natAbs / b.natAbs = Q at e1 ⊢
    generalize a.natAbs % b.natAbs = R at e2 ⊢
    omega
theorem turn_abs (f : Fr) : (mv 114 f).2.natAbs = f.1.natAbs ∧ (f.1 ≠ 0 → (mv 114 f).1.natAbs = f.2.natAbs) ∧ (f.1 = 0 → mv 114 f = (1, 0)) := by
  unfold mv
  rw [if_neg (by decide), if_neg (by decide)]
  split
  · refine ⟨rfl, fun _ => ?_, fun h => by omega⟩
    show (-f.2).natAbs = f.2.natAbs
    omega
  split
  · refine ⟨?_, fun _ => rfl, fun h => by omega⟩
    show (-f.1).natAbs = f.1.natAbs
    omega
  · refine ⟨?_, fun h => by omega, fun _ => rfl⟩
    show (0 : Int).natAbs = f.1.natAbs
    omega
theorem run_step {g : Fr} (hb : 0 < g.2) : (runOf g).natAbs + qf (mv 114 (sh (runOf g) g)) = qf g ∧ (mv 114 (sh (runOf g) g)).2.natAbs < g.2.natAbs ∧ (mv 114 (sh (runOf g) g)).2.natAbs ≤ (mv 114 (sh (runOf g) g)).1.natAbs ∧ (g.2.natAbs ≤ g.1.natAbs → 1 ≤ (runOf g).natAbs) := by
  obtain ⟨e1, e2⟩ := run_rest hb
  obtain ⟨t1, t2, t3⟩ := turn_abs (sh (runOf g) g)
  have hsh : (sh (runOf g) g).2 = g.2 := rfl
  have hb2 : 0 < g.2.natAbs := by omega
  have hlt := Nat.mod_lt g.1.natAbs hb2
  rw [e2] at t1
  refine ⟨?_, by rw [t1]; exact hlt, ?_, fun h => by rw [e1]; exact Nat.div_pos h hb2⟩
  · have e : qf (mv 114 (sh (runOf g) g)) = qs g.2.natAbs (g.1.natAbs % g.2.natAbs) := by
      unfold qf
      rw [t1]
      by_cases h : (sh (runOf g) g).1 = 0
      · have e3 : g.1.natAbs % g.2.natAbs = 0 := by rw [← e2, h]; rfl
        rw [e3, qs_zero, qs_zero]
      · rw [t2 h, hsh]
    rw [e, e1]
    unfold qf
    rw [qs_step hb2 (m := g.1.natAbs)]
  · rw [t1]
    by_cases h : (sh (runOf g) g).1 = 0
    · have e3 : g.1.natAbs % g.2.natAbs = 0 := by rw [← e2, h]; rfl
      rw [e3]; exact Nat.zero_le _
    · rw [t2 h, hsh]; omega
theorem F_pos {g : Fr} (h : IsF g) (h0 : g.2 ≠ 0) : 0 < g.2 := by
  rcases h with ⟨_, h⟩ | ⟨h, _⟩
  · exact absurd h h0
  · exact h
theorem F_fin {g : Fr} (h : IsF g) (h0 : g.2 = 0) : g = (1, 0) := by
  rcases h with ⟨h, _⟩ | ⟨h, _⟩
  · exact Prod.ext h h0
  · omega
end TW

/-! what leaves the end at its place moves all the others by one whole number -/
namespace TW
theorem sh_nrm {m : Int} {f : Fr} (h : IsF f) : nrm (sh m f) = sh m f := nrm_F (sh_F h)
theorem fix_end {w : List Nat} (h : walk w (1, 0) = (1, 0)) : ∃ m : Int, ∀ f, IsF f → walk w f = sh m f := by
  have e := walk_wv (w := w) (f := (1, 0)) F_end
  rw [h] at e
  have d := wv_det w (1, 0) (0, 1)
  generalize hp : wv w (1, 0) = p at *
  generalize hr : wv w (0, 1) = r at *
  obtain ⟨p1, p2⟩ := p
  obtain ⟨r1, r2⟩ := r
  have hp' : (p1 = 1 ∧ p2 = 0) ∨ (p1 = -1 ∧ p2 = 0) := by
    rcases nrm_or (p1, p2) with z | z
    · rw [z] at e
      left
      exact ⟨(congrArg Prod.fst e).symm, (congrArg Prod.snd e).symm⟩
    · rw [z] at e
      right
      have a := congrArg Prod.fst e
      have b := congrArg Prod.snd e
      unfold ng at a b
      dsimp only at a b
      omega
  dsimp only at d
  rcases hp' with ⟨rfl, rfl⟩ | ⟨rfl, rfl⟩
  · have hr2 : r2 = 1 := by omega
    subst hr2
    refine ⟨r1, fun f hf => ?_⟩
    rw [walk_wv hf, wv_mat, hp, hr]
    have : (f.1 * 1 + f.2 * r1, f.1 * 0 + f.2 * 1) = sh r1 f := by
      unfold sh
      refine Prod.ext ?_ ?_
      · show f.1 * 1 + f.2 * r1 = f.1 + r1 * f.2
        rw [Int.mul_comm r1]; omega
      · show f.1 * 0 + f.2 * 1 = f.2
        omega
    rw [this]
    exact sh_nrm hf
  · have hr2 : r2 = -1 := by omega
    subst hr2
    refine ⟨-r1, fun f hf => ?_⟩
    rw [walk_wv hf, wv_mat, hp, hr]
    have : (f.1 * -1 + f.2 * r1, f.1 * 0 + f.2 * -1) = ng (sh (-r1) f) := by
      unfold sh ng
      refine Prod.ext ?_ ?_
      · show f.1 * -1 + f.2 * r1 = -(f.1 + -r1 * f.2)
        rw [Int.neg_mul, Int.mul_comm r1]; omega
      · show f.1 * 0 + f.2 * -1 = -f.2
        omega
    rw [this, nrm_ng (F_nz (sh_F hf))]
    exact sh_nrm hf
theorem walk_inj {u : List Nat} {f g : Fr} (hu : IsW u) (hf : IsF f) (hg : IsF g) (h : walk u f = walk u g) : f = g := by
  have := congrArg (walk (bk u)) h
  rwa [walk_bk hu hf, walk_bk hu hg] at this
/-- there is but one way to the end and a fraction from 0 on below 1 -/
theorem one_way {u v : List Nat} {g h : Fr} (hu : IsW u) (hv : IsW v) (hg : IsF g) (hh : IsF h) (eu : walk u g = (1, 0)) (ev : walk v g = (1, 0))
    (bu : 0 ≤ (walk u h).1 ∧ (walk u h).1 < (walk u h).2) (bv : 0 ≤ (walk v h).1 ∧ (walk v h).1 < (walk v h).2) : walk u h = walk v h := by
  have e1 : walk (bk u ++ v) (1, 0) = (1, 0) := by rw [walk_append, ← eu, walk_bk hu hg, ev, eu]
  obtain ⟨m, hm⟩ := fix_end e1
  have e2 := hm (walk u h) (walk_F hh)
  rw [walk_append, walk_bk hu hh] at e2
  rw [e2] at bv
  generalize walk u h = x at *
  unfold sh at bv
  dsimp only at bv
  have m0 : m = 0 := by
    rcases Int.lt_trichotomy m 0 with q | q | q
    · exfalso
      have : m * x.2 ≤ (-1) * x.2 := Int.mul_le_mul_of_nonneg_right (by omega) (by omega)
      omega
    · exact q
    · exfalso
      have : 1 * x.2 ≤ m * x.2 := Int.mul_le_mul_of_nonneg_right (by omega) (by omega)
      omega
  rw [e2, m0, sh_zero]
end TW

set_option Elab.async false
set_option linter.all false
set_option maxRecDepth 100000
set_option maxHeartbeats 4000000
/-! more rules over the layer: sgV of a text, comprehensions, all, any, isinstance, tuples compared, join -/
namespace L2
open PySem PySem.Spec PyProof.Rows

/-! ### an iterator that walks a list of values, as long as the heap keeps Ok -/
structure ItOn (J : It) (xs : List V) (Ok : Hp → Prop) : Prop where
  go : ∀ i H, Ok H → i < xs.length → J.go i H
  yld : ∀ i H x H', Ok H → i < xs.length → J.yld i H x H' → H' = H ∧ xs[i]? = some x
  stop : ∀ i H, Ok H → xs.length ≤ i → J.stop i H
theorem ItOn.list {K : PySem.W.Frag} {a : Addr} {xs : List V} : ItOn (Itl K a) xs (fun H => SqL K H a xs) :=
  ⟨fun i H h hi => ⟨xs, xs[i], h, by simp [hi]⟩, fun i H x H' h _ y => ⟨y.1, y.2 xs h⟩, fun i H h hi => ⟨xs, h, hi⟩⟩
/-- a for loop over such an iterator: Pv what holds ahead of turn i -/
theorem for_on {J : It} {xs : List V} {Ok : Hp → Prop} (hJ : ItOn J xs Ok) {g : TG} {tb : TS} {D : Ends} {σ : St} {H : Hp} (Pv : Nat → St → Hp → Prop) (h0 : Pv 0 σ H) (hl : ∀ i σ H, i ≤ xs.length → Pv i σ H → Ok H)
    (hs : ∀ i x σ H, xs[i]? = some x → Pv i σ H → g x σ H fun σ2 H2 => tb { D with nx := Pv (i + 1), ct := Pv (i + 1), bk := D.nx } σ2 H2) (hd : ∀ σ H, Pv xs.length σ H → D.nx σ H) :
    ∃ W : Nat → Nat → St → Hp → Prop, (∃ m, W 0 m σ H) ∧ ∀ i m σ H, W i m σ H →
      (J.stop i H ∧ D.nx σ H) ∨ (J.go i H ∧ ∃ N : St → Hp → Prop, (∀ σ' H', N σ' H' → ∃ m', m' < m ∧ W (i + 1) m' σ' H') ∧ ∀ x H', J.yld i H x H' → g x σ H' fun σ2 H2 => tb { D with nx := N, ct := N, bk := D.nx } σ2 H2) := by
  refine ⟨fun i m σ H => m = xs.length - i ∧ i ≤ xs.length ∧ Pv i σ H, ⟨xs.length, by simp, Nat.zero_le _, h0⟩, ?_⟩
  rintro i m σ H ⟨rfl, hi, p⟩
  have q := hl i σ H hi p
  by_cases hlt : i < xs.length
  · refine .inr ⟨hJ.go i H q hlt, Pv (i + 1), fun σ' H' p' => ⟨xs.length - (i + 1), by omega, rfl, hlt, p'⟩, fun x H' y => ?_⟩
    obtain ⟨e, hy⟩ := hJ.yld i H x H' q hlt y
    subst e
    exact hs i x σ _ hy p
  · have e : i = xs.length := by omega
    subst e
    exact .inl ⟨hJ.stop _ H q (Nat.le_refl _), hd σ H p⟩

/-! ### the sgV of a text -/
def Its (x : Str) : It := ⟨fun i _ => i < x.cps.size, fun i H v H' => H' = H ∧ ∃ c, x.cps[i]? = some c ∧ v = .str ⟨#[c]⟩, fun i _ => x.cps.size ≤ i⟩
def sgV (x : Str) : List V := x.cps.toList.map fun c => V.str ⟨#[c]⟩
theorem sgV_length (x : Str) : (sgV x).length = x.cps.size := by unfold sgV; simp
theorem ItOn.str {x : Str} : ItOn (Its x) (sgV x) (fun _ => True) :=
  ⟨fun i H _ hi => by rw [sgV_length] at hi; exact hi, fun i H v H' _ _ y => by
    obtain ⟨e, c, hc, rfl⟩ := y
    refine ⟨e, ?_⟩
    unfold sgV
    rw [List.getElem?_map, Array.getElem?_toList, hc]
    rfl, fun i H _ hi => by rw [sgV_length] at hi; exact hi⟩
theorem turn_str {P : Program} {w : World} {K : PySem.W.Frag} {tg : Expr} {ty : String} (hty : ty = "str_ascii_iterator" ∨ ty = "str_iterator") (it : Addr) (x : Str) (t : Tok) :
    Turn P w K tg (Its x) [it] it (fun i h => h.IsStrIter it ty x t i) where
  mem := by simp
  obj := fun i h st b hb => by
    have e : b = it := by simpa using hb
    subst e
    obtain ⟨o, e, c, d⟩ := st
    exact ⟨o, e, fun v z => by rw [d] at z; cases z⟩
  keep := fun i h h' st k => let ⟨o, e, c, d⟩ := st; ⟨o, k it (by simp) o e, c, d⟩
  item := by
    intro X hP hw hK hc i pins s σ H E I hf st hg
    subst hP hw hK
    obtain ⟨f0, f1, f2, f3, f4, f5⟩ := hf it (by simp)
    have hlt : i < x.cps.size := hg
    rcases hty with rfl | rfl
    · refine wpAny_pyNext_ascii_item st (c := x.cps[i]) (by simp [hlt]) fun h' st' sb => ?_
      have I1 : Inv X pins σ H { s with heap := h', toks := s.toks + 1 } := I.turned (fun b o hb e => (sb.2 b hb).trans e) f0 f1 f3 f4 f5
      obtain ⟨o, e, c, d⟩ := id st'
      exact ⟨_, rfl, go_of (s := { s with heap := h', toks := s.toks + 1 }) e c d (by decide) ⟨.str ⟨#[x.cps[i]]⟩, H, I1, ⟨_, rfl⟩, ⟨rfl, _, by simp [hlt], rfl⟩, st', fun b hb => (hf b hb).1⟩⟩
    · refine wpAny_pyNext_wide_item st (c := x.cps[i]) (by simp [hlt]) fun h' st' sb => ?_
      have I1 : Inv X pins σ H { s with heap := h', toks := s.toks + 1 } := I.turned (fun b o hb e => (sb.2 b hb).trans e) f0 f1 f3 f4 f5
      obtain ⟨o, e, c, d⟩ := id st'
      exact ⟨_, rfl, go_of (s := { s with heap := h', toks := s.toks + 1 }) e c d (by decide) ⟨.str ⟨#[x.cps[i]]⟩, H, I1, ⟨_, rfl⟩, ⟨rfl, _, by simp [hlt], rfl⟩, st', fun b hb => (hf b hb).1⟩⟩
  done := by
    intro X hP hw hK hc i pins s σ H E I hf st hg
    subst hP hw hK
    obtain ⟨f0, f1, f2, f3, f4, f5⟩ := hf it (by simp)
    have hle : x.cps.size ≤ i := hg
    rcases hty with rfl | rfl
    · exact wpAny_pyNext_ascii_end (I.ok.hd hc) st (by simp; omega) fun h' eb => ⟨rfl, I.turned (t' := s.toks) (fun b o hb e => eb b o hb e) f0 f1 f3 f4 f5⟩
    · exact wpAny_pyNext_wide_end (I.ok.hd hc) st (by simp; omega) fun h' eb => ⟨rfl, I.turned (t' := s.toks) (fun b o hb e => eb b o hb e) f0 f1 f3 f4 f5⟩
  self := fun _ _ _ _ _ st h => by
    rcases hty with rfl | rfl
    · exact wpAny_pyIter_striter_ascii st h
    · exact wpAny_pyIter_striter_wide st h
section
variable {X : Cx} {tg : Expr}
def iStr (tl : TE) : TI := fun σ H R => tl σ H fun v H1 => ∃ x, v = .str x ∧ R (Its x) H1
theorem pi_str {l : Expr} {tl : TE} (hl : PE X l tl) : PI X tg l (iStr tl) := by
  intro pins s σ H R I h
  refine thn (hl pins s σ H _ I h) fun v s1 ⟨y, H1, I1, r1, q1⟩ => ?_
  obtain ⟨x, e, q⟩ := q1
  subst e
  obtain ⟨t, rfl⟩ := r1
  have fin : ∀ b ∈ [s1.heap.objs.size], FpOk X pins H1 b := fun b hb => by
    have e : b = s1.heap.objs.size := by simpa using hb
    subst e
    exact I1.fpOk (Nat.le_refl _) (I1.hok.fresh (Nat.le_refl _))
  cases ha : x.cps.all (· < 128)
  · refine wpAny_pyIter_wide ha ?_
    exact ⟨s1.heap.objs.size, [s1.heap.objs.size], _, _, H1, rfl, I1.kept (t' := s1.toks) fun b o e => Heap.get?_push_of_some _ e, turn_str (.inr rfl) _ x t, ⟨_, Heap.get?_push_size _ rfl, rfl, rfl⟩, fin, q⟩
  · refine wpAny_pyIter_ascii ha ?_
    exact ⟨s1.heap.objs.size, [s1.heap.objs.size], _, _, H1, rfl, I1.kept (t' := s1.toks) fun b o e => Heap.get?_push_of_some _ e, turn_str (.inl rfl) _ x t, ⟨_, Heap.get?_push_size _ rfl, rfl, rfl⟩, fin, q⟩
end
end L2

set_option Elab.async false
set_option linter.all false
set_option maxRecDepth 100000
set_option maxHeartbeats 4000000
/-! a list comprehension: one clause, at most one test -/
namespace L2
open PySem PySem.Spec PyProof.Rows

/-! ### the cells that a block sees -/
def clOf (env : Env) : List (Str × NameKind) → List (Str × Addr) → List (Str × Addr)
  | [], cs => cs
  | (n, k) :: r, cs => clOf env r (if k == .free then (match env.cells.lookup n with | some a => (n, a) :: cs | none => cs) else cs)
theorem forIn_fold {α β : Type} (f : α → β → Sem (ForInStep β)) (g : α → β → β) : ∀ (l : List α) (b : β), (∀ x ∈ l, ∀ r, f x r = pure (ForInStep.yield (g x r))) → forIn l b f = pure (l.foldl (fun r x => g x r) b)
  | [], b, _ => rfl
  | x :: l, b, h => by
    rw [List.forIn_cons, h x List.mem_cons_self, pure_bind]
    exact forIn_fold f g l _ fun y hy => h y (List.mem_cons_of_mem _ hy)
theorem clOf_fold {env : Env} : ∀ (names : List (Str × NameKind)) (cs : List (Str × Addr)), names.foldl (fun r x => if x.2 == .free then (match env.cells.lookup x.1 with | some a => (x.1, a) :: r | none => r) else r) cs = clOf env names cs
  | [], _ => rfl
  | (n, k) :: r, cs => by
    rw [List.foldl_cons]
    exact clOf_fold r _
theorem closure_of {env : Env} {scope : Scope} (h : ∀ x ∈ scope.names, x.2 = .free → ∃ a, env.cells.lookup x.1 = some a) : closureFor scope env = pure (clOf env scope.names []) := by
  simp only [closureFor]
  rw [forIn_fold _ (fun x r => if x.2 == .free then (match env.cells.lookup x.1 with | some a => (x.1, a) :: r | none => r) else r) scope.names [] (fun x hx r => by
    obtain ⟨n, k⟩ := x
    by_cases hk : k = .free
    · subst hk
      obtain ⟨a, ha⟩ := h (n, .free) hx rfl
      have ha' : env.cells.lookup n = some a := ha
      have e : cellOf env n = pure a := by unfold cellOf; rw [ha']
      simp only [beq_self_eq_true, if_true, e, pure_bind, ha']
    · have hb : (k == NameKind.free) = false := by simpa using hk
      simp only [hb, Bool.false_eq_true, if_false])]
  rw [clOf_fold]
  rfl
theorem clOf_mem {env : Env} : ∀ (names : List (Str × NameKind)) (cs : List (Str × Addr)) (x : Str) (c : Addr), (x, c) ∈ clOf env names cs → (x, c) ∈ cs ∨ ((x, NameKind.free) ∈ names ∧ env.cells.lookup x = some c)
  | [], cs, x, c, h => .inl h
  | (n, k) :: r, cs, x, c, h => by
    unfold clOf at h
    rcases clOf_mem r _ x c h with h1 | ⟨h1, h2⟩
    · by_cases hk : (k == NameKind.free) = true
      · rw [if_pos hk] at h1
        have hk' : k = .free := by simpa using hk
        subst hk'
        cases q : env.cells.lookup n with
        | none => rw [q] at h1; exact .inl h1
        | some a =>
          rw [q] at h1
          rcases List.mem_cons.mp h1 with e | h1
          · injection e with e1 e2
            subst e1 e2
            exact .inr ⟨List.mem_cons_self, q⟩
          · exact .inl h1
      · rw [if_neg hk] at h1; exact .inl h1
    · exact .inr ⟨List.mem_cons_of_mem _ h1, h2⟩
theorem clOf_keep {env : Env} : ∀ (names : List (Str × NameKind)) (cs : List (Str × Addr)) (x : Str), (∃ c, (x, c) ∈ cs) ∨ (x, NameKind.free) ∈ names → (∀ y ∈ names, y.2 = .free → ∃ a, env.cells.lookup y.1 = some a) → ∃ c, (x, c) ∈ clOf env names cs
  | [], cs, x, h, _ => by
    rcases h with h | h
    · exact h
    · exact nomatch h
  | (n, k) :: r, cs, x, h, hf => by
    unfold clOf
    refine clOf_keep r _ x ?_ fun y hy => hf y (List.mem_cons_of_mem _ hy)
    rcases h with ⟨c, h⟩ | h
    · refine .inl ⟨c, ?_⟩
      split
      · cases env.cells.lookup n with
        | none => exact h
        | some a => exact List.mem_cons_of_mem _ h
      · exact h
    · rcases List.mem_cons.mp h with e | h
      · injection e with e1 e2
        subst e1 e2
        obtain ⟨a, ha⟩ := hf (x, .free) List.mem_cons_self rfl
        refine .inl ⟨a, ?_⟩
        simp only [beq_self_eq_true, if_true, show env.cells.lookup x = some a from ha]
        exact List.mem_cons_self
      · exact .inr h
theorem lookup_of_mem {α β : Type} [BEq α] [LawfulBEq α] {x : α} : ∀ {l : List (α × β)} {c : β}, (x, c) ∈ l → ∃ d, l.lookup x = some d
  | (y, d) :: r, c, h => by
    by_cases e : x = y
    · subst e; exact ⟨d, by simp [List.lookup_cons]⟩
    · have hb : (x == y) = false := by simpa using e
      rcases List.mem_cons.mp h with h | h
      · injection h with h1 _; exact absurd h1 e
      · obtain ⟨d', q⟩ := lookup_of_mem h
        exact ⟨d', by simp [List.lookup_cons, hb, q]⟩

/-! ### the names of a block as they are relabelled -/
theorem relabel_seen {env : Env} {x : Str} : ∀ {names : List (Str × NameKind)}, (∀ y ∈ names, y.2 ≠ .cell) →
    ((names.map fun (n, k) => if (k == NameKind.free && env.scope.kind == .function && env.kindOf n == some .cell) then (n, NameKind.cell) else (n, k)).lookup x = some .cell ∨
     (names.map fun (n, k) => if (k == NameKind.free && env.scope.kind == .function && env.kindOf n == some .cell) then (n, NameKind.cell) else (n, k)).lookup x = some .free) → (x, NameKind.free) ∈ names
  | [], _, h => by simp at h
  | (n, k) :: r, hc, h => by
    have ih := relabel_seen (env := env) (x := x) (names := r) fun y hy => hc y (List.mem_cons_of_mem _ hy)
    have hk : k ≠ .cell := hc (n, k) List.mem_cons_self
    rw [List.map_cons] at h
    by_cases e : x = n
    · subst e
      by_cases hf : k = .free
      · subst hf; exact List.mem_cons_self
      · have hb : (k == NameKind.free) = false := by simpa using hf
        simp [List.lookup_cons, hb] at h
        rcases h with h | h
        · exact absurd h hk
        · exact absurd h hf
    · have hb : (x == n) = false := by simpa using e
      refine List.mem_cons_of_mem _ (ih ?_)
      by_cases c : (k == NameKind.free && env.scope.kind == .function && env.kindOf n == some .cell) = true
      · simpa [List.lookup_cons, hb, c] using h
      · simpa [List.lookup_cons, hb, c] using h
theorem relabel_free {env : Env} {x : Str} (he : env.kindOf x = some .cell ∨ env.kindOf x = some .free) (hk : env.scope.kind = .function) : ∀ {names : List (Str × NameKind)}, names.lookup x = some .free →
    ((names.map fun (n, k) => if (k == NameKind.free && env.scope.kind == .function && env.kindOf n == some .cell) then (n, NameKind.cell) else (n, k)).lookup x = some .cell ∨
     (names.map fun (n, k) => if (k == NameKind.free && env.scope.kind == .function && env.kindOf n == some .cell) then (n, NameKind.cell) else (n, k)).lookup x = some .free)
  | [], h => by simp at h
  | (n, k) :: r, h => by
    rw [List.map_cons]
    dsimp only
    by_cases e : x = n
    · subst e
      simp only [List.lookup_cons, beq_self_eq_true] at h
      have h' : k = .free := Option.some.inj h
      subst h'
      by_cases c : (NameKind.free == NameKind.free && env.scope.kind == .function && env.kindOf x == some .cell) = true
      · rw [if_pos c]; left; simp [List.lookup_cons]
      · rw [if_neg c]; right; simp [List.lookup_cons]
    · have hb : (x == n) = false := by simpa using e
      simp only [List.lookup_cons, hb] at h
      have ih := relabel_free he hk h
      by_cases c : (k == NameKind.free && env.scope.kind == .function && env.kindOf n == some .cell) = true
      · rw [if_pos c]; simp only [List.lookup_cons, hb]; exact ih
      · rw [if_neg c]; simp only [List.lookup_cons, hb]; exact ih

/-- the context of a block: s₀, H₀ the state at its entry (the iterator stands), C its own names, cl the cells that it sees, fp the iterator's records -/
def cxLc (X : Cx) (N : List Str) (scope : Scope) (C : Addr) (s₀ : Shared) (H₀ : Hp) (fp : List Addr) : Cx where
  prog := X.prog
  w := X.w
  K := X.K
  mg := X.mg
  base := X.base
  A := X.A
  N := N
  s₀ := s₀
  H₀ := H₀
  env := compEnvC scope (clOf X.env scope.names []) C X.env
  outer := X.stack
  stack := X.stack
  ex := fp
  fn := fun _ => false
  calm := X.calm
  pn := []
  xe := fun _ _ => False
/-- what a block's scope must be: its own name x, then the seen names ys, which stand at the places js of the def -/
structure LcScope (X : Cx) (scope : Scope) (x : Str) (ys : List Str) (js : List Nat) : Prop where
  kind : scope.kind = .function
  nocell : ∀ y ∈ scope.names, y.2 ≠ .cell
  locs : ∀ y ∈ scope.names, y.2 = .local → scope.names.lookup y.1 = some .local
  own : scope.names.lookup x = some .local
  seen : ∀ y ∈ ys, scope.names.lookup y = some .free
  out : ∀ y ∈ scope.names, y.2 = .free → X.env.kindOf y.1 = some .cell ∨ X.env.kindOf y.1 = some .free
  places : js.map (fun j => X.N[j]?) = ys.map some
  nd : (x :: ys).Nodup
/-- the values of the seen names -/
def seenV (σ : St) (js : List Nat) : St := js.map fun j => (σ[j]?).join

section
variable {X : Cx} {pins : List (Addr × Obj)} {σ : St} {H : Hp} {s : Shared} {scope : Scope} {x : Str} {ys : List Str} {js : List Nat} {fp : List Addr} {C D : Addr} {h1 : Heap}

theorem LcScope.cells (L : LcScope X scope x ys js) (I : Inv X pins σ H s) : ∀ y ∈ scope.names, y.2 = .free → ∃ a, X.env.cells.lookup y.1 = some a := fun y hy hf => I.ok.has y.1 (L.out y hy hf)
theorem LcScope.sub (L : LcScope X scope x ys js) {y : Str} {c : Addr} (h : (clOf X.env scope.names []).lookup y = some c) : X.env.cells.lookup y = some c ∧ (y, NameKind.free) ∈ scope.names := by
  rcases clOf_mem scope.names [] y c (PySem.mem_of_lookup h) with z | ⟨z1, z2⟩
  · exact nomatch z
  · exact ⟨z2, z1⟩
theorem LcScope.has (L : LcScope X scope x ys js) (I : Inv X pins σ H s) {y : Str} (h : (y, NameKind.free) ∈ scope.names) : ∃ c, (clOf X.env scope.names []).lookup y = some c := by
  obtain ⟨c, q⟩ := clOf_keep scope.names [] y (.inr h) (L.cells I)
  exact lookup_of_mem q

/-- the block's entry -/
theorem Inv.block (L : LcScope X scope x ys js) (I : Inv X pins σ H s) (hf : ∀ b ∈ fp, FpOk X pins H b) (ho : ∀ b ∈ fp, ∃ o, s.heap.get? b = some o) (hC : s.heap.objs.size ≤ C) (old : ∀ b o, s.heap.get? b = some o → h1.get? b = some o) {m : Str → Option Value} (hn : h1.Ns C m) {t' : Nat} :
    Inv (cxLc X (x :: ys) scope C s H fp) [] (none :: seenV σ js) H { s with heap := h1, toks := t' } := by
  have fpC : ∀ b ∈ fp, b ≠ C := fun b hb z => by
    obtain ⟨o, e⟩ := ho b hb
    exact absurd (Nat.lt_of_lt_of_le (Heap.lt_size e) (by rw [z]; exact hC)) (Nat.lt_irrefl _)
  refine ⟨⟨I.ok.mod, L.kind, I.ok.glob, I.ok.blt, hC, fun y z c h1 h2 => ?_, fun y hy => ?_, fun y c h => (nomatch h), I.ok.hd, I.ok.frames, .inl rfl, fun b hb => ⟨fpC b hb, fun y c e => ?_⟩, I.bs, Nat.le_trans I.ok.bsz I.sz, fun b o e hb => ?_, fun b hb z => ?_, I.stack, I.stkFree⟩,
    rfl, I.bare, Un.kept old, ⟨m, hn, fun i y v e1 e2 e3 => ?_⟩, fun y c e => ?_, I.hok.fresh hC, fun y c e => ?_, fun p hp => (nomatch hp), I.hok.kept old, ?_⟩
  · exact I.ok.inj y z c (L.sub h1).1 (L.sub h2).1
  · have hy' : (y, NameKind.free) ∈ scope.names := relabel_seen (env := X.env) L.nocell hy
    exact L.has I hy'
  · exact (hf b hb).2.2.2.2.1 y c (L.sub e).1
  · rcases (hf b hb).2.2.2.1 with z | z
    · exact I.ok.noex b o e z
    · exact absurd (Nat.lt_of_lt_of_le (Heap.lt_size e) (Nat.le_trans I.ok.bsz z)) (Nat.lt_irrefl _)
  · rcases List.mem_cons.mp (I.stkSub b z) with z | z
    · exact (hf b hb).2.1 z
    · exact (hf b hb).2.2.1 z
  · cases i with
    | zero => exact absurd e2 (by simp)
    | succ i =>
      have e1' : ys[i]? = some y := by simpa [cxLc] using e1
      have e2' : (seenV σ js)[i]? = some (some v) := by simpa using e2
      have hj : ∃ j, js[i]? = some j := by
        unfold seenV at e2'
        rw [List.getElem?_map] at e2'
        cases q : js[i]? with
        | none => rw [q] at e2'; cases e2'
        | some j => exact ⟨j, rfl⟩
      obtain ⟨j, hj⟩ := hj
      have pj : X.N[j]? = some y := by
        have q := congrArg (fun l => l[i]?) L.places
        simp only [List.getElem?_map, hj, e1', Option.map_some] at q
        exact Option.some.inj q
      have vj : σ[j]? = some (some v) := by
        unfold seenV at e2'
        rw [List.getElem?_map, hj, Option.map_some] at e2'
        have e3' := Option.some.inj e2'
        cases q : σ[j]? with
        | none => rw [q] at e3'; cases e3'
        | some o => rw [q] at e3'; exact congrArg some e3'
      have ym : y ∈ ys := List.mem_of_getElem? e1'
      have yl := L.seen y ym
      have yf : (y, NameKind.free) ∈ scope.names := PySem.mem_of_lookup yl
      have yo := L.out _ yf rfl
      obtain ⟨m0, hn0, hl0⟩ := I.loc
      have vis : Vis X.env.scope y := .inr yo
      obtain ⟨u, r, l⟩ := hl0 j y v pj vj vis
      refine ⟨u, r, ?_⟩
      rcases l with ⟨k, _⟩ | ⟨k, c, ec, z⟩
      · rcases yo with q | q <;> (rw [k] at q; cases q)
      · obtain ⟨c', ec'⟩ := L.has I yf
        have ecc := (L.sub ec').1
        rw [ec] at ecc
        cases ecc
        obtain ⟨oc, hoc, hd⟩ := z
        exact .inr ⟨relabel_free yo I.ok.kind yl, c, ec', ⟨oc, old _ _ hoc, hd⟩⟩
  · obtain ⟨v, oc, hoc, hd⟩ := I.cell y c (L.sub e).1
    exact ⟨v, oc, old _ _ hoc, hd⟩
  · exact I.freeC y c (L.sub e).1
  · show (none :: seenV σ js).length = (x :: ys).length
    have q := congrArg List.length L.places
    rw [List.length_map, List.length_map] at q
    unfold seenV
    rw [List.length_cons, List.length_cons, List.length_map, q]

/-- behind the block: D, which was laid in it, holds the list -/
theorem Inv.unblock {pc : List (Addr × Obj)} {σc : St} {H' : Hp} {s' : Shared} {N : List Str} {acc : List V} {its : List Value} {n : Nat} {h' : Heap} (I : Inv X pins σ H s) (hf : ∀ b ∈ fp, FpOk X pins H b) (hD : s.heap.objs.size ≤ D) (hC : s.heap.objs.size ≤ C) (hDC : D ≠ C)
    (J : Inv (cxLc X N scope C s H fp) pc σc H' s') (hHD : H' D = none) (rv : Vals acc its) (hz : acc.length ≤ sizeLine) (hd : s'.heap.get? D = some { cls := .type "list", data := .seq its.toArray n }) (sb : Heap.SameBut C s'.heap h') :
    Inv X pins σ (upd H' D (.lst acc)) { s' with heap := h' } := by
  have lt : ∀ b o, s.heap.get? b = some o → b ≠ C ∧ b ≠ D := fun b o e => ⟨Nat.ne_of_lt (Nat.lt_of_lt_of_le (Heap.lt_size e) hC), Nat.ne_of_lt (Nat.lt_of_lt_of_le (Heap.lt_size e) hD)⟩
  have B : Un (frs X.stack) fp H H' s.heap s'.heap := J.base
  refine I.call' (ch := fp) (s' := { s' with heap := h' }) J.os ⟨fun b o e n hb hx => ?_, fun b o e n hb hx => ?_, fun b o e n hx => ?_, fun b o e hx => ?_, fun b xs e => ?_, fun b o u e => ?_, fun b ps e => ?_⟩ ?_ J.bare ?_
  · exact (sb.2 b (lt b o e).1).trans (B.keep b o e n hb hx)
  · obtain ⟨sl, q⟩ := B.slot b o e n hb hx
    exact ⟨sl, (sb.2 b (lt b o e).1).trans q⟩
  · rw [upd_ne (lt b o e).2]; exact B.free b o e n hx
  · obtain ⟨o', q⟩ := B.there b o e hx
    exact ⟨o', (sb.2 b (lt b o e).1).trans q⟩
  · have q := B.tups b xs e
    rw [upd_ne (ne_of_none q hHD)]; exact q
  · have q := B.frzs b o u e
    rw [upd_ne (ne_of_none q hHD)]; exact q
  · obtain ⟨more, q⟩ := B.tbls b ps e
    exact ⟨more, by rw [upd_ne (ne_of_none q hHD)]; exact q⟩
  · intro b u e
    by_cases hb : b = D
    · subst hb
      rw [upd_same] at e
      cases e
      exact ⟨hz, its, n, rv, (sb.2 _ hDC).trans hd⟩
    · rw [upd_ne hb] at e
      have hCn : H' C = none := J.free
      refine (J.hok b u e).stay (fun c v hc q => (sb.2 c ?_).trans q) (fun c q => by rw [upd_ne (ne_of_none q hHD)]; exact q) fun c xs q => by rw [upd_ne (ne_of_none q hHD)]; exact q
      rcases hc with z | z
      · rw [z]; exact ne_of_none e hCn
      · exact ne_of_none z hCn
  · intro b hb
    obtain ⟨_, f1, _, f3, f4, f5⟩ := hf b hb
    exact ⟨f3, f1, f4, f5⟩
end

/-- a turn of the block, the step ahead of the store kept -/
theorem compLoop_tests {prog : Program} {w : World} {A : Around} {R : Result → Shared → Prop} {s : Shared} {elt target iter : Expr} {ifs : List Expr} {scope : Scope} {pos : Pos} {it acc : Value} {env : Env} (I : Nat → Shared → Prop)
    (turn : ∀ n s, I n s → wpAny (model prog w) A (pyNext it) (fun r s₁ => match r with
      | none => R (.ok .next) s₁
      | some v => wpAny (model prog w) A (letOwnedTupleGo target it v) (fun _ s₁' => wpAny (model prog w) A (assign target env v) (fun _ s₂ =>
          wpAny (model prog w) A (forIn ifs true fun c r => if r = true then do let ok ← isTrue c env (eval c env); pure (ForInStep.yield ok) else pure (ForInStep.yield r)) (fun ok s₃ =>
            if ok = true then wpAny (model prog w) A (eval elt env) (fun x s₄ =>
              wpAny (model prog w) A (call (.builtin "list.append") [acc, x]) (fun _ s₅ => ∃ m, m < n ∧ I m s₅) (notedBy (model prog w) A env fun e s' => R (.error e) s') s₄) (notedBy (model prog w) A env fun e s' => R (.error e) s') s₃
            else ∃ m, m < n ∧ I m s₃) (notedBy (model prog w) A env fun e s' => R (.error e) s') s₂) (notedBy (model prog w) A env fun e s' => R (.error e) s') s₁') (notedBy (model prog w) A env fun e s' => R (.error e) s') s₁) (notedBy (model prog w) A env fun e s' => R (.error e) s') s)
    (n : Nat) (h : I n s) :
    codeAny (model prog w) A (.compLoop (.ListComp elt [⟨target, iter, ifs, 0⟩] scope pos) 0 it acc env) R s := by
  refine codeAny_loop rfl I (fun n s hI => ?_) n h
  show wpAny _ A ((compTurn (.ListComp elt [⟨target, iter, ifs, 0⟩] scope pos) 0 it acc env).onRaise (fun x => do noteFrame x env; theTreesLotGoes x)) _ _ s
  refine wpAny_noted ?_
  rw [compTurn_list]
  refine wpAny_bind (wpAny_standAt (wpAny_bind (wpAny_mono (turn n s hI) (fun r s₁ h₁ => ?_) fun _ _ h' => h')))
  cases r with
  | none => exact wpAny_pure h₁
  | some v =>
    refine wpAny_bind (wpAny_mono h₁ (fun _ s₁' h₁' => ?_) fun _ _ h' => h')
    refine wpAny_bind (wpAny_mono h₁' (fun _ s₂ h₂ => wpAny_bind (wpAny_mono h₂ (fun ok s₃ h₃ => ?_) fun _ _ h' => h')) fun _ _ h' => h')
    cases ok with
    | false => exact wpAny_pure ⟨rfl, h₃⟩
    | true =>
      exact wpAny_bind (wpAny_bind (wpAny_mono h₃ (fun x s₄ h₄ => wpAny_bind (wpAny_mono h₄ (fun _ s₅ h₅ => wpAny_pure (wpAny_pure ⟨rfl, h₅⟩)) fun _ _ h' => h')) fun _ _ h' => h'))

/-- the reading: W by the turn, a measure, the list so far -/
def LcW (J : It) (tc : TT) (te : TE) (js : List Nat) (σ : St) (Q : VK) (H1 : Hp) : Prop := ∃ W : Nat → Nat → List V → Hp → Prop, (∃ m, W 0 m [] H1) ∧ ∀ i m acc H, W i m acc H → acc.length ≤ sizeLine ∧
  ((J.stop i H ∧ ∀ p, H p = none → Q (.ref p) (upd H p (.lst acc))) ∨
   (J.go i H ∧ acc.length < sizeLine ∧ ∀ x H', J.yld i H x H' → tc (some x :: seenV σ js) H' fun b H3 => if b = true then te (some x :: seenV σ js) H3 fun v H4 => ∃ m', m' < m ∧ W (i + 1) m' (acc ++ [v]) H4 else ∃ m', m' < m ∧ W (i + 1) m' acc H3))
def tLc (wi : TI) (tc : TT) (te : TE) (js : List Nat) : TE := fun σ H Q => wi σ H fun J H1 => LcW J tc te js σ Q H1
/-- no test -/
def tYes : TT := fun _ H Q => Q true H
/-- a list of tests, at most one -/
def PTs (X : Cx) (ifs : List Expr) (tc : TT) : Prop := (ifs = [] ∧ tc = tYes) ∨ ∃ c, ifs = [c] ∧ PT X c tc
theorem pts_none {X : Cx} : PTs X [] tYes := .inl ⟨rfl, rfl⟩
theorem PTs.run {X : Cx} {ifs : List Expr} {tc : TT} (h : PTs X ifs tc) {pins : List (Addr × Obj)} {s : Shared} {σ : St} {H : Hp} {Q : Bool → Hp → Prop} (I : Inv X pins σ H s) (q : tc σ H Q) :
    wpAny (model X.prog X.w) X.A (forIn ifs true fun c r => if r = true then do let ok ← isTrue c X.env (eval c X.env); pure (ForInStep.yield ok) else pure (ForInStep.yield r)) (TP X pins σ Q) X.xe s := by
  rcases h with ⟨rfl, rfl⟩ | ⟨c, rfl, h⟩
  · exact wpAny_tests_nil ⟨H, I, q⟩
  · exact wpAny_tests_one (h pins s σ H Q I q)

theorem pe_lc {X : Cx} {elt iter : Expr} {ifs : List Expr} {scope : Scope} {pos px : Pos} {x : Str} {ys : List Str} {js : List Nat} {wi : TI} {tc : TT} {te : TE} (hc : X.calm = true) (L : LcScope X scope x ys js) (hi : PI X (.Name x px) iter wi)
    (ht : ∀ C s₀ H₀ fp, PTs (cxLc X (x :: ys) scope C s₀ H₀ fp) ifs tc) (he : ∀ C s₀ H₀ fp, PE (cxLc X (x :: ys) scope C s₀ H₀ fp) elt te)
    (hs : ∀ z, foldedSetIterable iter X.env z = pure z := by intro _; rfl) :
    PE X (.ListComp elt [⟨.Name x px, iter, ifs, 0⟩] scope pos) (tLc wi tc te js) := by
  intro pins s σ H Q I h
  rw [eval_ListComp]
  refine wpAny_comprehension_free (use := none) rfl hs (closure_of (L.cells I)) L.kind L.locs (thn (hi pins s σ H _ I h) fun v s1 h1 => thn h1 fun itv s2 h2 => ?_)
  obtain ⟨it, fp, tn, J, H2, e, I2, T, st2, f2, W, ⟨m0, w0⟩, turn⟩ := h2
  subst e
  have ho2 : ∀ b ∈ fp, ∃ o, s2.heap.get? b = some o := fun b hb => let ⟨o, e, _⟩ := T.obj _ _ st2 b hb; ⟨o, e⟩
  refine wpAny_newObj_type (wpAny_newFunctionEnv L.nocell (by intro y hy; simp at hy) (fun h1 hns1 hsb1 => ?_) L.kind)
  dsimp only at hns1 hsb1 ⊢
  generalize hH2 : s2.heap.push { cls := .type "list", dict := none, data := .seq ([] : List Value).toArray } = G2 at hns1 hsb1 ⊢
  have hC : G2.objs.size = s2.heap.objs.size + 1 := by rw [← hH2, Heap.size_push]
  have hCle : s2.heap.objs.size ≤ G2.objs.size := by rw [hC]; exact Nat.le_succ _
  have hDC : s2.heap.objs.size ≠ G2.objs.size := by rw [hC]; exact Nat.ne_of_lt (Nat.lt_succ_self _)
  have old : ∀ b o, s2.heap.get? b = some o → h1.get? b = some o := fun b o e => hsb1.extBut b o (by rw [hC]; exact Nat.ne_of_lt (Nat.lt_succ_of_lt (Heap.lt_size e))) (Heap.get?_push_of_some _ (hH2 ▸ Heap.get?_push_of_some _ e))
  have hacc : h1.PlainList s2.heap.objs.size #[] := ⟨_, hsb1.extBut _ _ hDC (Heap.get?_push_of_some _ (hH2 ▸ Heap.get?_push_size _ rfl))⟩
  generalize hCe : G2.objs.size = C at *
  generalize hDe : s2.heap.objs.size = D at *
  have hDle : s2.heap.objs.size ≤ D := by rw [hDe]; exact Nat.le_refl _
  have hCle' : s2.heap.objs.size ≤ C := by rw [hDe]; exact hCle
  have fpD : ∀ b ∈ fp, b ≠ D := fun b hb z => by
    obtain ⟨o, e⟩ := ho2 b hb
    have := Heap.lt_size e
    rw [z, ← hDe] at this
    exact Nat.lt_irrefl _ this
  have fpC : ∀ b ∈ fp, b ≠ C := fun b hb z => by
    obtain ⟨o, e⟩ := ho2 b hb
    have := Nat.lt_of_lt_of_le (Heap.lt_size e) hCle'
    rw [z] at this
    exact Nat.lt_irrefl _ this
  have I3 : Inv (cxLc X (x :: ys) scope C s2 H2 fp) [] (none :: seenV σ js) H2 { s2 with heap := h1, toks := s2.toks + ([] : List (Str × Value)).length } := I2.block L f2 ho2 hCle' old hns1
  have cellD : ∀ y c, (cxLc X (x :: ys) scope C s2 H2 fp).env.cells.lookup y = some c → c ≠ D := fun y c e z => by
    obtain ⟨v, q⟩ := I2.cell y c (L.sub e).1
    have := q.lt
    rw [z, ← hDe] at this
    exact Nat.lt_irrefl _ this
  -- what stays true of the iterator's records through the block
  have stat : ∀ {H' : Hp} {pc : List (Addr × Obj)}, (∀ b ∈ fp, H' b = none) → (∀ p ∈ pc, p.1 = D) → ∀ b ∈ fp, FpOk (cxLc X (x :: ys) scope C s2 H2 fp) pc H' b := fun {H' pc} hn hp b hb =>
    ⟨hn b hb, fpC b hb, fun z => by
      rcases List.mem_cons.mp (I2.stkSub b z) with z | z
      · exact (f2 b hb).2.1 z
      · exact (f2 b hb).2.2.1 z, .inl hb, fun y c e => (f2 b hb).2.2.2.2.1 y c (L.sub e).1, fun p hq => by
      have hq' : p ∈ pc := hq
      rw [hp p hq']; exact Ne.symm (fpD b hb)⟩
  have loop : ∀ s3 : Shared, s3 = { s2 with heap := h1, toks := s2.toks + ([] : List (Str × Value)).length } →
      codeAny (model X.prog X.w) X.A (.compLoop (.ListComp elt [⟨.Name x px, iter, ifs, 0⟩] scope pos) 0 (.ref it) (.ref D) (compEnvC scope (clOf X.env scope.names []) C X.env))
        (compPost (model X.prog X.w) X.A X.xe none (EP X pins σ Q) (.ref D) C) s3 := by
    rintro s3 rfl
    refine compLoop_tests (fun n s' => ∃ i acc its H' k, Inv (cxLc X (x :: ys) scope C s2 H2 fp) [] (none :: seenV σ js) H' s' ∧ tn i s'.heap ∧ (∀ b ∈ fp, H' b = none) ∧ H' D = none ∧ s'.heap.get? D = some { cls := .type "list", data := .seq its k } ∧ Vals acc its.toList ∧ W i n acc H') ?_ m0 ?_
    · rintro n s4 ⟨i, acc, its, H4, k, I4, st4, fr4, hD4, ob4, rv4, w4⟩
      obtain ⟨hz, w4⟩ := turn i n acc H4 w4
      have I4' : Inv (cxLc X (x :: ys) scope C s2 H2 fp) [(D, { cls := .type "list", data := .seq its k })] (none :: seenV σ js) H4 s4 := I4.pins_of fun p hp => by
        have e : p = (D, { cls := .type "list", data := .seq its k }) := by simpa using hp
        subst e
        refine ⟨ob4, hD4, hDC, fun z => ?_, fun v z => (nomatch z)⟩
        obtain ⟨_, o, ho, _⟩ := I2.stack.mem (show D ∈ frs X.stack from z)
        have := Heap.lt_size ho
        rw [← hDe] at this
        exact Nat.lt_irrefl _ this
      have one : ∀ p ∈ ([(D, { cls := .type "list", data := .seq its k })] : List (Addr × Obj)), p.1 = D := fun p hp => by
        have e : p = (D, { cls := .type "list", data := .seq its k }) := by simpa using hp
        rw [e]
      rcases w4 with ⟨stop, qn⟩ | ⟨go, hlt, step⟩
      · refine thn (T.done (cxLc X (x :: ys) scope C s2 H2 fp) rfl rfl rfl hc i _ s4 _ H4 _ I4' (stat fr4 one) st4 stop) fun r s5 ⟨hr, I5⟩ => ?_
        subst hr
        obtain ⟨m, hn, _⟩ := I5.loc
        refine ⟨m, hn, fun h' sb => ⟨.ref D, _, ?_, rfl, qn D hD4⟩⟩
        exact I2.unblock (its := its.toList) f2 hDle hCle' hDC I5 hD4 rv4 hz (by
          have q := (I5.pin (D, { cls := .type "list", data := .seq its k }) (by simp)).1
          simpa using q) sb
      · refine thn (T.item (cxLc X (x :: ys) scope C s2 H2 fp) rfl rfl rfl hc i _ s4 _ H4 _ I4' (stat fr4 one) st4 go) fun r s5 ⟨u, hr, h5⟩ => ?_
        subst hr
        refine thn h5 fun _ s6 ⟨xv, H6, I6, r6, y6, st6, fr6⟩ => ?_
        have I6' := I6.pinned (stat fr6 one) (T.obj _ _ st6)
        have ownL : (cxLc X (x :: ys) scope C s2 H2 fp).env.scope.names.lookup x = some .local := lookup_relabel_local L.own
        have hg : PG (cxLc X (x :: ys) scope C s2 H2 fp) (.Name x px) (gName 0) := pg_name (i := 0) L.nd rfl (.inl ownL) (.inr ownL)
        refine wpAny_mono (hg _ s6 _ H6 xv u (fun σ2 H2' => σ2 = some xv :: seenV σ js ∧ H2' = H6) I6' r6 ⟨rfl, rfl⟩) (fun _ s7 ⟨σ7, H7, I7, e7, e7'⟩ => ?_) fun _ _ z => z.elim
        subst e7 e7'
        have q7 := step xv _ y6
        refine wpAny_mono ((ht C s2 H2 fp).run I7 q7) (fun ok s8 ⟨H8, I8, q8⟩ => ?_) fun _ _ z => z.elim
        -- the block's own names are forgotten behind a turn
        have hσ : ∀ {pc : List (Addr × Obj)} {Hc : Hp} {sc : Shared}, Inv (cxLc X (x :: ys) scope C s2 H2 fp) pc (some xv :: seenV σ js) Hc sc → Inv (cxLc X (x :: ys) scope C s2 H2 fp) pc (none :: seenV σ js) Hc sc := fun Ic => Ic.weak rfl fun i v e => by
          cases i with
          | zero => exact absurd e (by simp)
          | succ i => simpa using e
        have keepT : ∀ {Hc : Hp} {sc : Shared}, Inv (cxLc X (x :: ys) scope C s2 H2 fp) ([(D, { cls := .type "list", data := .seq its k })] ++ pinsAt fp s6.heap) (some xv :: seenV σ js) Hc sc → tn (i + 1) sc.heap ∧ (∀ b ∈ fp, Hc b = none) ∧ Hc D = none ∧ sc.heap.get? D = some { cls := .type "list", data := .seq its k } := fun {Hc sc} Ic => by
          refine ⟨T.keep _ _ _ st6 fun b hb o e => (Ic.pin (b, o) (List.mem_append_right _ (List.mem_append_right _ (mem_pinsAt hb e)))).1, fun b hb => ?_, (Ic.pin (D, { cls := .type "list", data := .seq its k }) (List.mem_append_right _ (List.mem_append_left _ List.mem_cons_self))).2.1, (Ic.pin (D, { cls := .type "list", data := .seq its k }) (List.mem_append_right _ (List.mem_append_left _ List.mem_cons_self))).1⟩
          obtain ⟨o, e, d⟩ := T.obj _ _ st6 b hb
          exact (Ic.pin (b, o) (List.mem_append_right _ (List.mem_append_right _ (mem_pinsAt hb e)))).2.1
        cases ok with
        | false =>
          obtain ⟨m', hm, w8⟩ := q8
          obtain ⟨a1, a2, a3, a4⟩ := keepT I8
          exact ⟨m', hm, i + 1, acc, its, H8, k, (hσ I8).pins_of (fun p hp => (nomatch hp)), a1, a2, a3, a4, rv4, w8⟩
        | true =>
          refine wpAny_mono (he C s2 H2 fp _ s8 _ H8 _ I8 q8) (fun ev s9 ⟨v9, H9, I9, r9, m', hm, w9⟩ => ?_) fun _ _ z => z.elim
          obtain ⟨a1, a2, a3, a4⟩ := keepT I9
          have hlen : its.size ≤ sizeLine := by
            have e1 := rv4.length
            have e2 : its.toList.length = its.size := by simp
            omega
          refine wpAny_list_append_plain (hsz := hlen) ⟨k, a4⟩ fun h10 pl sb => ?_
          obtain ⟨k', e10⟩ := pl
          have I10 : Inv (cxLc X (x :: ys) scope C s2 H2 fp) (pinsAt fp s6.heap) (none :: seenV σ js) H9 s9 := (hσ I9).pins_of fun p hp => I9.pin p (List.mem_append_right _ (List.mem_append_right _ hp))
          have I11 : Inv (cxLc X (x :: ys) scope C s2 H2 fp) (pinsAt fp s6.heap) (none :: seenV σ js) H9 { s9 with heap := h10 } :=
            I10.turned (t' := s9.toks) (it := D) (fun b o hb e => (sb.2 b hb).trans e) a3 hDC (.inr hDle) cellD fun p hp z => by
              have hp' : p ∈ pinsAt fp s6.heap := hp
              exact fpD p.1 (of_pinsAt hp').1 z
          refine ⟨m', hm, i + 1, acc ++ [v9], its.push ev, H9, k', I11.pins_of (fun p hp => (nomatch hp)), T.keep _ _ _ a1 (fun b hb o e => (sb.2 b (fpD b hb)).trans e), a2, a3, e10, ?_, w9⟩
          rw [Array.toList_push]
          exact rv4.append (.cons r9 .nil)
    · exact ⟨0, [], #[], H2, _, I3, T.keep _ _ _ st2 fun b hb o e => old b o e, fun b hb => (f2 b hb).1, I2.hok.fresh hDle, hacc.choose_spec, .nil, w0⟩
  exact codeAny_compStart_list (loop _ rfl) (T.self _ 0 _ _ _ (T.keep _ _ _ st2 fun b hb o e => old b o e) (loop _ rfl))
end L2

set_option Elab.async false
set_option linter.all false
set_option maxRecDepth 100000
set_option maxHeartbeats 4000000
/-! all, any, isinstance, == of data, join, a module's dict -/
namespace L2
open PySem PySem.Spec PyProof.Rows

/-! ### data: what a value reads as -/
mutual
def RdD (K : PySem.W.Frag) (H : Hp) : V → PyData → Prop
  | v, .none => v = .non
  | v, .bool b => v = .bl b
  | v, .int i => v = .int i
  | v, .str x => v = .str x ∧ PyData.strOk x = true
  | v, .list ds => ∃ a xs, v = .ref a ∧ SqL K H a xs ∧ RdDs K H xs ds
  | v, .tuple ds => ∃ a xs, v = .ref a ∧ SqT K H a xs ∧ RdDs K H xs ds
  | _, .dict _ => False
def RdDs (K : PySem.W.Frag) (H : Hp) : List V → List PyData → Prop
  | xs, [] => xs = []
  | xs, d :: ds => ∃ x r, xs = x :: r ∧ RdD K H x d ∧ RdDs K H r ds
end
section
variable {X : Cx} {pins : List (Addr × Obj)} {σ : St} {H : Hp} {s : Shared}
mutual
theorem RdD.reads (I : Inv X pins σ H s) : ∀ {v : V} {d : PyData} {u : Value}, RdD X.K H v d → RelV v u → ∃ as, Reads s.heap u d as
  | _, .none, _, h, r => by cases (show _ = _ from h); cases r; exact ⟨_, .none⟩
  | _, .bool b, _, h, r => by cases (show _ = _ from h); cases r; exact ⟨_, .bool b⟩
  | _, .int i, _, h, r => by cases (show _ = _ from h); obtain ⟨t, rfl⟩ := r; exact ⟨_, .int i t⟩
  | _, .str x, _, h, r => by cases h.1; obtain ⟨t, rfl⟩ := r; exact ⟨_, .str x t⟩
  | _, .list ds, _, h, r => by
    obtain ⟨a, xs, rfl, hq, hd⟩ := h
    cases r
    obtain ⟨its, rv, pl, _⟩ := I.list hq
    obtain ⟨as, ra⟩ := RdDs.reads I hd rv
    obtain ⟨o, n, e, c, _, dd⟩ := pl
    exact ⟨_, .list e c dd (by simpa using ra)⟩
  | _, .tuple ds, _, h, r => by
    obtain ⟨a, xs, rfl, hq, hd⟩ := h
    cases r
    obtain ⟨its, rv, pl, _⟩ := I.tuple hq
    obtain ⟨as, ra⟩ := RdDs.reads I hd rv
    obtain ⟨o, e, c, n, dd⟩ := pl
    exact ⟨_, .tuple e c dd (by simpa using ra)⟩
  | _, .dict _, _, h, _ => h.elim
theorem RdDs.reads (I : Inv X pins σ H s) : ∀ {xs : List V} {ds : List PyData} {us : List Value}, RdDs X.K H xs ds → Vals xs us → ∃ as, ReadsAll s.heap us ds as
  | _, [], _, h, r => by cases (show _ = _ from h); cases r; exact ⟨_, .nil⟩
  | _, d :: ds, _, h, r => by
    obtain ⟨x, rr, rfl, h1, h2⟩ := h
    cases r with
    | cons r1 r2 =>
      obtain ⟨as, a1⟩ := RdD.reads I h1 r1
      obtain ⟨bs, a2⟩ := RdDs.reads I h2 r2
      exact ⟨_, .cons a1 a2⟩
end
mutual
theorem RdD.lay : ∀ {v : V} {d : PyData}, RdD X.K H v d → d.canLay0 = true
  | _, .none, _ => rfl
  | _, .bool b, _ => rfl
  | _, .int i, _ => rfl
  | _, .str x, h => h.2
  | _, .list ds, h => by obtain ⟨a, xs, _, _, hd⟩ := h; exact RdDs.lay hd
  | _, .tuple ds, h => by obtain ⟨a, xs, _, _, hd⟩ := h; exact RdDs.lay hd
  | _, .dict _, h => h.elim
theorem RdDs.lay : ∀ {xs : List V} {ds : List PyData}, RdDs X.K H xs ds → PyData.canLayAll0 ds = true
  | _, [], _ => rfl
  | _, d :: ds, h => by
    obtain ⟨x, r, _, h1, h2⟩ := h
    show (d.canLay0 && PyData.canLayAll0 ds) = true
    rw [RdD.lay h1, RdDs.lay h2]
    rfl
end
/-- == and != of two data -/
def rEqD (K : PySem.W.Frag) (neg : Bool) : R2 := fun x y H Q => ∃ dx dy, RdD K H x dx ∧ RdD K H y dy ∧ dx.depth ≤ 60 ∧ Q (.bl (if neg then !PyData.eqv dx dy else PyData.eqv dx dy)) H
theorem op_eqD (hu : X.A.units + 64 < cLine) : OpR X (compareOp .Eq) (rEqD X.K false) := by
  intro pins s σ H x y v u Q I rx ry h
  obtain ⟨dx, dy, h1, h2, hd, q⟩ := h
  obtain ⟨as, r1⟩ := h1.reads I rx
  obtain ⟨bs, r2⟩ := h2.reads I ry
  exact SeqAt.compareEq_reads r1 r2 h1.lay h2.lay (by omega) ⟨.bl (PyData.eqv dx dy), H, I, rfl, q⟩
theorem op_neD (hu : X.A.units + 64 < cLine) : OpR X (compareOp .NotEq) (rEqD X.K true) := by
  intro pins s σ H x y v u Q I rx ry h
  obtain ⟨dx, dy, h1, h2, hd, q⟩ := h
  obtain ⟨as, r1⟩ := h1.reads I rx
  obtain ⟨bs, r2⟩ := h2.reads I ry
  exact SeqAt.compareNe_reads r1 r2 h1.lay h2.lay (by omega) ⟨.bl (!PyData.eqv dx dy), H, I, rfl, q⟩

/-! ### all, any over a list of truths -/
theorem range_all (bs : List Bool) : (List.range bs.length).all (fun i => (bs[i]?).getD false) = bs.all id := by
  rw [Bool.eq_iff_iff, List.all_eq_true, List.all_eq_true]
  constructor
  · intro h b hb
    obtain ⟨i, hi, rfl⟩ := List.mem_iff_getElem.mp hb
    have := h i (by simp [hi])
    simpa [hi] using this
  · intro h i hi
    have hi' : i < bs.length := by simpa using hi
    simpa [hi'] using h bs[i] (List.getElem_mem hi')
def rTruths (K : PySem.W.Frag) (f : List Bool → Bool) : List V → Hp → VK → Prop := fun xs H Q => ∃ p bs, xs = [V.ref p] ∧ SqL K H p (bs.map V.bl) ∧ Q (.bl (f bs)) H
theorem truths_of {bs : List Bool} : ∀ {its : List Value}, Vals (bs.map V.bl) its → its = bs.map Value.bool := by
  induction bs with
  | nil => intro its r; cases r; rfl
  | cons b r ih =>
    intro its h
    cases h with
    | cons h1 h2 => cases h1; rw [ih h2]; rfl
theorem truth_bools {prog : Program} {w : World} {A : Around} (bs : List Bool) : TruthOf prog w A (fun i v => (bs.map Value.bool).toArray[i]? = some v) (fun i => (bs[i]?).getD false) := by
  intro i v s Q E hP hQ
  have e : (bs[i]?).map Value.bool = some v := by simpa using hP
  cases q : bs[i]? with
  | none => rw [q] at e; cases e
  | some b =>
    rw [q] at e
    cases e
    have hQ' : Q ((bs[i]?).getD false) s := hQ
    rw [q] at hQ'
    exact wpAny_truthy_bool hQ'
theorem call_all (hc : X.calm = true) : CallR X (.builtin "all") (rTruths X.K fun bs => bs.all id) := by
  intro pins s σ H xs us Q I r h
  obtain ⟨p, bs, rfl, hq, q⟩ := h
  obtain ⟨u, rfl, ru⟩ := vals1 r
  cases ru
  obtain ⟨its, rv, pl, hz⟩ := I.list hq
  have ei := truths_of rv
  subst ei
  have hl := pl.isList
  have hp : p < s.heap.objs.size := let ⟨o, n, e, _⟩ := pl; Heap.lt_size e
  refine call_all_walk (wpAny_pyIter_list hl ?_)
  refine ⟨s.heap.objs.size, _, _, _, _, _, _, rfl, Walks.list (show X.A.in1.handled = none from I.ok.hd hc) s.heap.objs.size p (Nat.ne_of_lt hp) (bs.map Value.bool).toArray, ⟨⟨_, Heap.get?_push_size _ rfl, rfl, rfl⟩, hl.push _⟩, truth_bools bs, fun h' tk hk => ⟨.bl _, H, I.kept (fun b o e => hk b o (fun z => ?_) (Heap.get?_push_of_some _ e)), rfl, ?_⟩⟩
  · have z' : b = s.heap.objs.size := by simpa using z
    exact absurd (Heap.lt_size e) (by rw [z']; exact Nat.lt_irrefl _)
  · have e : (bs.map Value.bool).toArray.size = bs.length := by simp
    rw [e, range_all]
    exact q
/-! ### isinstance against a built-in class -/
def rIsi (K : PySem.W.Frag) : List V → Hp → VK → Prop := fun xs H Q => ∃ x n t b, xs = [x, V.ty n] ∧ TyOf K H x t ∧ PySem.W.kitOne K t (.type n) = some b ∧ Q (.bl b) H
theorem call_isi : CallR X (.builtin "isinstance") (rIsi X.K) := by
  intro pins s σ H xs us Q I r h
  obtain ⟨x, n, t, b, rfl, ty, e, q⟩ := h
  obtain ⟨u, w', rfl, ru, rw'⟩ := vals2 r
  cases (show w' = Value.type n from rw')
  exact isinst_ok I ru ty e fun tk => ⟨.bl b, H, I.tok tk, rfl, q⟩
theorem kit_same {K : PySem.W.Frag} (n : String) : PySem.W.kitOne K (.type n) (.type n) = some true := by
  unfold PySem.W.kitOne
  rw [if_pos (by simp)]

/-! ### join -/
theorem texts_are {ys : List Str} : ∀ {us : List Value}, Vals (ys.map V.str) us → StrsAre us ys := by
  induction ys with
  | nil => intro us r; cases r; exact .nil
  | cons y r ih =>
    intro us h
    cases h with
    | cons h1 h2 => obtain ⟨t, rfl⟩ := h1; exact .cons y t (ih h2)
def rJoin (K : PySem.W.Frag) : V → List V → Hp → VK → Prop := fun x vs H Q => ∃ sep p ys, x = .str sep ∧ vs = [.ref p] ∧ SqL K H p (ys.map V.str) ∧ (ys.map (·.length)).sum + ys.length * sep.length ≤ 16777216 ∧ Q (.str (Str.join sep ys)) H
theorem mt_join : MtR X "str.join" (rJoin X.K) := by
  intro pins s σ H x xs v us Q I rx r h
  obtain ⟨sep, p, ys, rfl, rfl, hq, hz, q⟩ := h
  obtain ⟨u, rfl, ru⟩ := vals1 r
  cases ru
  obtain ⟨t, rfl⟩ := rx
  obtain ⟨its, rv, pl, _⟩ := I.list hq
  refine join_list pl.isList (by simpa using texts_are rv) hz fun t' k => ⟨.str (Txt.join sep ys), H, I.tok k, ⟨t', rfl⟩, ?_⟩
  have e : Txt.join sep ys = Str.join sep ys := by
    have := join_closes (sep := sep) (sep' := sep) (ys := ys) rfl
    exact eq_of_beq this
  rw [e]
  exact q

/-! ### an item of a module's dict whose keys are texts -/
def rIxM (K : PySem.W.Frag) (P : Params) : R2 := fun x y H Q => ∃ a es n k v u, x = .ref a ∧ y = .str k ∧ K.lookup a = some ⟨.type "dict", none, .dict es n, #[]⟩ ∧ PySem.W.KeysLit P es.toList ∧ PySem.W.nsIn K a k = some (some u) ∧ RelV v u ∧ Q v H
theorem ix_mod : IxR X (rIxM X.K X.w.params) := by
  intro value slice pins s σ H x y v u Q I rx ry h hs
  obtain ⟨a, es, n, k, z, uz, rfl, rfl, lk, kl, ns, rz, q⟩ := h
  cases rx
  obtain ⟨t, rfl⟩ := ry
  obtain ⟨m, F⟩ := I.fr
  exact PySem.W.topItem_K F I.ok.mod.kin lk kl ns ⟨_, H, I.tok _, rz, q⟩ hs
end
end L2

set_option Elab.async false
set_option linter.all false
set_option maxRecDepth 100000
set_option maxHeartbeats 4000000
/-! reversed(text); rules by alternatives; callees in short -/
namespace L2
open PySem PySem.Spec PyProof.Rows

/-! ### reversed(text) -/
/-! ### a block's scope, over written scopes alone -/
structure LcS (os scope : Scope) (x : Str) (ys : List Str) : Prop where
  kind : scope.kind = .function
  nocell : ∀ y ∈ scope.names, y.2 ≠ .cell
  locs : ∀ y ∈ scope.names, y.2 = .local → scope.names.lookup y.1 = some .local
  own : scope.names.lookup x = some .local
  seen : ∀ y ∈ ys, scope.names.lookup y = some .free
  out : ∀ y ∈ scope.names, y.2 = .free → os.names.lookup y.1 = some .cell ∨ os.names.lookup y.1 = some .free
  nd : (x :: ys).Nodup
theorem LcS.to {X : Cx} {os scope : Scope} {x : Str} {ys : List Str} {js : List Nat} (h : LcS os scope x ys) (e : X.env.scope = os) (p : js.map (fun j => X.N[j]?) = ys.map some) : LcScope X scope x ys js :=
  ⟨h.kind, h.nocell, h.locs, h.own, h.seen, fun y hy hf => by
    have q := h.out y hy hf
    rw [← e] at q
    exact q, p, h.nd⟩

/-! ### a list made by a comprehension whose element leaves the heap as it is -/
theorem lc_on {J : It} {xs : List V} {Ok : Hp → Prop} (hJ : ItOn J xs Ok) {tc : TT} {te : TE} {js : List Nat} {σ : St} {H : Hp} {Q : VK} (f : V → V) (hok : Ok H) (hz : xs.length ≤ sizeLine)
    (he : ∀ (i : Nat) x Q', xs[i]? = some x → Q' (f x) H → tc (some x :: seenV σ js) H fun b H3 => if b = true then te (some x :: seenV σ js) H3 Q' else False)
    (mono : ∀ σ' H' (R R' : Bool → Hp → Prop), (∀ b h, R b h → R' b h) → tc σ' H' R → tc σ' H' R')
    (q : ∀ p, H p = none → Q (.ref p) (upd H p (.lst (xs.map f)))) : LcW J tc te js σ Q H := by
  refine ⟨fun i m acc H' => H' = H ∧ i ≤ xs.length ∧ m = xs.length - i ∧ acc = (xs.take i).map f, ⟨xs.length, rfl, Nat.zero_le _, by simp, by simp⟩, ?_⟩
  rintro i m acc H' ⟨rfl, hi, rfl, rfl⟩
  have hlen : ((xs.take i).map f).length = i := by simp; omega
  refine ⟨by omega, ?_⟩
  by_cases hlt : i < xs.length
  · refine .inr ⟨hJ.go i _ hok hlt, by omega, fun x H'' y => ?_⟩
    obtain ⟨e, hx⟩ := hJ.yld i _ x H'' hok hlt y
    subst e
    refine mono _ _ _ _ (fun b h z => ?_) (he i x (fun v H4 => ∃ m', m' < xs.length - i ∧ (H4 = H'' ∧ i + 1 ≤ xs.length ∧ m' = xs.length - (i + 1) ∧ (xs.take i).map f ++ [v] = (xs.take (i + 1)).map f)) hx ⟨xs.length - (i + 1), by omega, rfl, hlt, rfl, ?_⟩)
    · cases b with
      | true => exact z
      | false => exact z.elim
    · have e : xs.take (i + 1) = xs.take i ++ [x] := by
        rw [List.take_add_one, hx]
        rfl
      rw [e, List.map_append]
      rfl
  · have e : i = xs.length := by omega
    subst e
    refine .inl ⟨hJ.stop _ _ hok (Nat.le_refl _), fun p hp => ?_⟩
    rw [List.take_length]
    exact q p hp

/-- the same without a test -/
theorem lc_y {J : It} {xs : List V} {Ok : Hp → Prop} (hJ : ItOn J xs Ok) {te : TE} {js : List Nat} {σ : St} {H : Hp} {Q : VK} (f : V → V) (hok : Ok H) (hz : xs.length ≤ sizeLine)
    (he : ∀ (i : Nat) x Q', xs[i]? = some x → Q' (f x) H → te (some x :: seenV σ js) H Q') (q : ∀ p, H p = none → Q (.ref p) (upd H p (.lst (xs.map f)))) : LcW J tYes te js σ Q H :=
  lc_on hJ f hok hz (fun i x Q' hx hq => by
    show if true = true then te (some x :: seenV σ js) H Q' else False
    rw [if_pos rfl]
    exact he i x Q' hx hq) (fun _ _ _ _ hR z => hR _ _ z) q

/-! ### the names of built-ins -/
theorem bt_int : bootBuiltins "int" = some (.type "int") := by decide +kernel
theorem bt_str : bootBuiltins "str" = some (.type "str") := by decide +kernel
theorem bt_bool : bootBuiltins "bool" = some (.type "bool") := by decide +kernel
theorem bt_tuple : bootBuiltins "tuple" = some (.type "tuple") := by decide +kernel
theorem bt_list : bootBuiltins "list" = some (.type "list") := by decide +kernel
theorem bt_len : bootBuiltins "len" = some (.builtin "len") := by decide +kernel
theorem bt_all : bootBuiltins "all" = some (.builtin "all") := by decide +kernel
theorem bt_isinstance : bootBuiltins "isinstance" = some (.builtin "isinstance") := by decide +kernel
theorem bt_abs : bootBuiltins "abs" = some (.builtin "abs") := by decide +kernel

/-! ### operators by alternatives -/
section
variable {X : Cx}
def rAddS : R2 := fun x y H Q => ∃ i j, x = .str i ∧ y = .str j ∧ i.length + j.length ≤ sizeLine ∧ Q (.str (i ++ j)) H
def rPlus : R2 := fun x y H Q => rI0 (fun i j => .int (i + j)) x y H Q ∨ rAddS x y H Q
theorem op_plus : OpR X (binaryOp .Add) rPlus := OpR.or op_add op_add_str
def rEqq (K : PySem.W.Frag) : R2 := fun x y H Q => rEq x y H Q ∨ rEqD K false x y H Q
theorem op_eqq (hu : X.A.units + 64 < cLine) : OpR X (compareOp .Eq) (rEqq X.K) := OpR.or op_eq (op_eqD hu)
def rNee (K : PySem.W.Frag) : R2 := fun x y H Q => rNe x y H Q ∨ rEqD K true x y H Q
theorem op_nee (hu : X.A.units + 64 < cLine) : OpR X (compareOp .NotEq) (rNee X.K) := OpR.or op_ne (op_neD hu)
def rInS : R2 := fun x y H Q => ∃ i j, x = .str i ∧ y = .str j ∧ Q (.bl (!(Builtin.Str.occurrences j i 0 j.length 1).isEmpty)) H
def rInn (K : PySem.W.Frag) : R2 := fun x y H Q => rIn K false x y H Q ∨ rInS x y H Q
theorem op_inn : OpR X (compareOp .In) (rInn X.K) := OpR.or op_in_seq op_in_str
def rIxA (K : PySem.W.Frag) (P : Params) : R2 := fun x y H Q => rIx K x y H Q ∨ rIxM K P x y H Q
theorem ix_any : IxR X (rIxA X.K X.w.params) := IxR.or ix_seq ix_mod
end

/-! ### the same with the written part named: within a block's element the reading may not hang on the block -/
section
variable {X : Cx} {K : PySem.W.Frag} {Pm : Params}
theorem op_eqqK (hu : X.A.units + 64 < cLine) (e : X.K = K) : OpR X (compareOp .Eq) (rEqq K) := e ▸ op_eqq hu
theorem op_neeK (hu : X.A.units + 64 < cLine) (e : X.K = K) : OpR X (compareOp .NotEq) (rNee K) := e ▸ op_nee hu
theorem op_innK (e : X.K = K) : OpR X (compareOp .In) (rInn K) := e ▸ op_inn
theorem ix_anyK (e : X.K = K) (e2 : X.w.params = Pm) : IxR X (rIxA K Pm) := e ▸ e2 ▸ ix_any
theorem call_isiK (e : X.K = K) : CallR X (.builtin "isinstance") (rIsi K) := e ▸ call_isi
def rLen (K : PySem.W.Frag) : List V → Hp → VK → Prop := fun xs H Q => ∃ x n, xs = [x] ∧ LenV K x H n ∧ Q (.int n) H
theorem call_lenK (e : X.K = K) : CallR X (.builtin "len") (rLen K) := e ▸ call_len
theorem call_allK (hc : X.calm = true) (e : X.K = K) : CallR X (.builtin "all") (rTruths K fun bs => bs.all id) := e ▸ call_all hc
end

/-! ### a callee in short -/
structure Callee (P : Program) (w : World) (K : PySem.W.Frag) (mg : Str → Option Value) (base : Heap) (k : Nat) (x : Str) (ps : List Str) (sp : Sp) : Prop where
  ex : ∃ f fd, FnOk P w K mg base CX0 k f fd ps sp ∧ mg x = some (.ref f) ∧ PySem.W.keepIn K (.ref f) = true ∧ Binds K fd ps []
theorem Callee.mono {P : Program} {w : World} {K : PySem.W.Frag} {mg : Str → Option Value} {base : Heap} {j k : Nat} {x : Str} {ps : List Str} {sp : Sp} (c : Callee P w K mg base j x ps sp) (h : j ≤ k) : Callee P w K mg base k x ps sp := by
  obtain ⟨f, fd, F, m, kp, b⟩ := c.ex
  exact ⟨f, fd, F.mono h, m, kp, b⟩
theorem pe_calls {X : Cx} {k : Nat} {x : Str} {ps : List Str} {sp : Sp} {e : Expr} {es : List Expr} {t : TA} {p pos : Pos} (c : Callee X.prog X.w X.K X.mg X.base k x ps sp) (hr : Room k X.A) (hg : Gl X x) (ha : PA X (e :: es) t)
    (hdb : (x == ("__debug__" : Str)) = false := by decide) (he : starEach (e :: es) X.env = (false, eval e X.env) :: starEach es X.env := by rfl) (hpl : (backTo pos (starEach es X.env)).any (·.1) = false := by rfl) :
    PE X (.Call (.Name x p) (e :: es) [] pos) (tCall sp [] E0 t) := by
  obtain ⟨f, fd, F, m, kp, b⟩ := c.ex
  exact pe_call F hr hg m kp b .nil (fun _ _ _ _ _ _ _ h => h.elim) ha hdb he hpl
theorem callee_of {P : Program} {w : World} {K : PySem.W.Frag} {mg : Str → Option Value} {base : Heap} {k : Nat} {x qual : Str} {st : Stmt} {f : Addr} {fd : FuncData} {ps : List Str} {sp : Sp} (F : Fun K x qual st f fd) (G : FnOk P w K mg base CX0 k f fd ps sp) (m : mg x = some (.ref f))
    (h : ∀ (kV doc pm : Value) (an : Option Addr) (cdv ct : Value) (us : List Value), us.length = ps.length → bindArgs (PySem.W.fnOf x qual (defArgs st) (defBody st) (defScope st) .none kV doc pm an cdv ct) ⟨us, []⟩ = pure (ps.zip us)) : Callee P w K mg base k x ps sp :=
  ⟨f, fd, G, m, F.kp, F.binds h⟩
end L2

set_option Elab.async false
set_option linter.all false
set_option maxRecDepth 100000
set_option maxHeartbeats 4000000
/-! slices of texts, index; callees that may raise -/
namespace L2
open PySem PySem.Spec PyProof.Rows
def rSlS : V → Option Int → Option Int → Hp → VK → Prop := fun x lo hi H Q => ∃ y, x = .str y ∧ y.length ≤ sizeLine ∧ Q (.str (Txt.slice y lo hi)) H
theorem part_of {v : Value} {o : Option Int} (h : IsPart v o) : ∃ l : Option (Int × Tok), v = partValue l ∧ l.map (·.1) = o := by
  cases h with
  | none => exact ⟨none, rfl, rfl⟩
  | int i t => exact ⟨some (i, t), rfl, rfl⟩
theorem sl_str {X : Cx} : SlR X rSlS := by
  intro pins s σ H x v vl vu lo hi sl Q I rx hs pl pu h
  obtain ⟨y, rfl, hz, q⟩ := h
  obtain ⟨t, rfl⟩ := rx
  obtain ⟨l, rfl, rfl⟩ := part_of pl
  obtain ⟨u, rfl, rfl⟩ := part_of pu
  obtain ⟨o, ho, hc, hd⟩ := hs
  refine ⟨"str", _, F.slot_str_getitem.lookup, typeIs_str _ _ _, wpAny_getItem_str_slice (l := l) (u := u) (st := none) ⟨o, ho, hc, hd⟩ rfl ?_⟩
  exact post_val_or_str ⟨Nat.le_trans (Txt.slice_le y _ _) hz, fun t' k => ⟨.str (Txt.slice y (l.map (·.1)) (u.map (·.1))), H, I.tok k, ⟨t', rfl⟩, q⟩⟩
def rSl (K : PySem.W.Frag) : V → Option Int → Option Int → Hp → VK → Prop := fun x lo hi H Q => rSlS x lo hi H Q ∨ rSlL K x lo hi H Q
theorem sl_any {X : Cx} {K : PySem.W.Frag} (e : X.K = K) : SlR X (rSl K) := e ▸ SlR.or sl_str sl_list

/-! ### the letters of a slice -/
open Builtin Builtin.Str in
/-! ### index of a text -/
/-! ### a callee that may raise -/
end L2
namespace L2
open PySem PySem.Spec PyProof.Rows
end L2
namespace L2
open PySem PySem.Spec PyProof.Rows
end L2

set_option Elab.async false
set_option linter.all false
set_option maxRecDepth 100000
set_option maxHeartbeats 4000000
/-! is True, is not True; a text some times -/
namespace L2
open PySem PySem.Spec PyProof.Rows
section
variable {X : Cx}
def rIsB (neg : Bool) : R2 := fun x y H Q => ∃ c d, x = .bl c ∧ y = .bl d ∧ Q (.bl (if neg = true then c != d else c == d)) H
theorem op_isntB : OpR X (compareOp .IsNot) (rIsB true) := by
  intro pins s σ H x y v u Q I rx ry h
  obtain ⟨c, d, rfl, rfl, q⟩ := h
  cases rx
  cases ry
  exact isnot_bool ⟨.bl (c != d), H, I, rfl, q⟩
def rIsN (neg : Bool) : R2 := fun x y H Q => y = .non ∧ Q (.bl (if neg = true then !decide (x = .non) else decide (x = .non))) H
theorem op_isntA : OpR X (compareOp .IsNot) (fun x y H Q => rIsN true x y H Q ∨ rIsB true x y H Q) := OpR.or op_notN op_isntB
/-- a text some times -/
def timesL (u : List Nat) (n : Int) : List Nat := (List.replicate n.toNat u).flatten
theorem fold_times (a : Array Nat) : ∀ (k : Nat) (b : Array Nat), (List.replicate k a).foldl (· ++ ·) b = b ++ ((List.replicate k a.toList).flatten).toArray
  | 0, b => by simp
  | k + 1, b => by
    rw [List.replicate_succ, List.foldl_cons, fold_times a k]
    rw [List.replicate_succ, List.flatten_cons]
    apply Array.toList_inj.mp
    simp
end
end L2

set_option Elab.async false
set_option linter.all false
set_option maxRecDepth 100000
set_option maxHeartbeats 4000000
/-! reversed(list), division of large numbers, lists joined, own classes -/
namespace L2
open PySem PySem.Spec PyProof.Rows
/-! ### reversed(list), the list left as it is -/
def Itvl (K : PySem.W.Frag) (a : Addr) (n : Nat) : It :=
  ⟨fun i H => i < n ∧ ∃ xs, SqL K H a xs ∧ xs.length = n, fun i H v H' => H' = H ∧ ∀ xs, SqL K H a xs → xs.length = n → xs[n - 1 - i]? = some v, fun i _ => n ≤ i⟩
theorem ItOn.revl {K : PySem.W.Frag} {a : Addr} {xs : List V} : ItOn (Itvl K a xs.length) xs.reverse (fun H => SqL K H a xs) :=
  ⟨fun i H h hi => ⟨by simpa using hi, xs, h, rfl⟩, fun i H v H' h hi y => ⟨y.1, by
    rw [List.length_reverse] at hi
    rw [List.getElem?_reverse hi]
    exact y.2 xs h rfl⟩, fun i H h hi => by rw [List.length_reverse] at hi; exact hi⟩
theorem turn_revl {P : Program} {w : World} {K : PySem.W.Frag} {tg : Expr} (a it : Addr) (n : Nat) :
    Turn P w K tg (Itvl K a n) [it] it (fun i h => i ≤ n ∧ h.IsRevIter it a ((n : Int) - 1 - (i : Int))) where
  mem := by simp
  obj := fun i h st b hb => by
    have e : b = it := by simpa using hb
    subst e
    obtain ⟨_, o, e, c, d⟩ := st
    exact ⟨o, e, fun v z => by rw [d] at z; cases z⟩
  keep := fun i h h' st k => ⟨st.1, st.2.at fun o e => k it (by simp) o e⟩
  item := by
    intro X hP hw hK hc i pins s σ H E I hf st hg
    subst hP hw hK
    obtain ⟨hlt, xs, hq, hn⟩ := hg
    obtain ⟨its, rv, p, hz⟩ := I.list hq
    have hl := rv.length
    have hx : xs[n - 1 - i]? = some (xs[n - 1 - i]'(by omega)) := List.getElem?_eq_getElem (by omega)
    obtain ⟨u, hu, ru⟩ := rv.get hx
    obtain ⟨f0, f1, f2, f3, f4, f5⟩ := hf it (by simp)
    obtain ⟨_, st⟩ := st
    have e : (n : Int) - 1 - (i : Int) = ((n - 1 - i : Nat) : Int) := by omega
    rw [e] at st
    refine wpAny_pyNext_rev_item st p.isList (x := u) (by simpa using hu) fun h' st' sb => ?_
    have e2 : ((n - 1 - i : Nat) : Int) - 1 = (n : Int) - 1 - ((i + 1 : Nat) : Int) := by omega
    rw [e2] at st'
    have I1 : Inv X pins σ H { s with heap := h' } := I.turned (t' := s.toks) (fun b o hb e => (sb.2 b hb).trans e) f0 f1 f3 f4 f5
    obtain ⟨o, eo, c, d⟩ := id st'
    exact ⟨u, rfl, go_of (s := { s with heap := h' }) eo c d (by decide) ⟨_, H, I1, ru, ⟨rfl, fun ys hy hyn => by rw [I.list_inj hy hq]; exact hx⟩, ⟨hlt, st'⟩, fun b hb => (hf b hb).1⟩⟩
  done := by
    intro X hP hw hK hc i pins s σ H E I hf st hg
    subst hP hw hK
    obtain ⟨f0, f1, f2, f3, f4, f5⟩ := hf it (by simp)
    have hle : n ≤ i := hg
    obtain ⟨hi, st⟩ := st
    have e : (n : Int) - 1 - (i : Int) = -1 := by omega
    rw [e] at st
    exact wpAny_pyNext_rev_end (I.ok.hd hc) st fun h' eb => ⟨rfl, I.turned (t' := s.toks) (fun b o hb e => eb b o hb e) f0 f1 f3 f4 f5⟩
  self := fun _ _ _ _ _ st h => wpAny_pyIter_revIter st.2 h
def iRevL (K : PySem.W.Frag) (ta : TA) : TI := fun σ H R => ta σ H fun vs H1 => ∃ a xs, vs = [.ref a] ∧ SqL K H1 a xs ∧ R (Itvl K a xs.length) H1
theorem pi_revl {X : Cx} {tg a : Expr} {ta : TA} {p pos : Pos} (hg : Gl X "reversed") (hm : X.mg "reversed" = none) (ha : PA X [a] ta) (hs : starEach [a] X.env = [(false, eval a X.env)] := by rfl) : PI X tg (.Call (.Name "reversed" p) [a] [] pos) (iRevL X.K ta) := by
  intro pins s σ H R I h
  refine Call_ (ld_blt I hg hm boot_reversed (PyProof.Rows.callWith_type1 (thn (ha pos pins s σ H _ I h) fun us s1 ⟨vs, H1, I1, r1, q1⟩ => ?_) hs rfl))
  obtain ⟨l, xs, e, hx, q⟩ := q1
  subst e
  obtain ⟨u, rfl, ru⟩ := vals1 r1
  cases ru
  obtain ⟨its, rv, pl, hz⟩ := I1.list hx
  have hl := rv.length
  refine call_reversed_list pl.isList ?_
  have hsz : its.toArray.size = xs.length := by rw [List.size_toArray]; exact hl.symm
  rw [hsz]
  have st : ({ s1 with heap := s1.heap.push (revObj l ((xs.length : Int) - 1)) } : Shared).heap.IsRevIter s1.heap.objs.size l ((xs.length : Int) - 1) := ⟨_, Heap.get?_push_size _ rfl, rfl, rfl⟩
  refine wpAny_pyIter_revIter st ?_
  refine ⟨s1.heap.objs.size, [s1.heap.objs.size], _, _, H1, rfl, I1.kept (t' := s1.toks) fun b o e => Heap.get?_push_of_some _ e, turn_revl l _ xs.length, ⟨Nat.zero_le _, ?_⟩, fun b hb => ?_, q⟩
  · have e : (xs.length : Int) - 1 - ((0 : Nat) : Int) = (xs.length : Int) - 1 := by omega
    rw [e]; exact st
  · have e : b = s1.heap.objs.size := by simpa using hb
    subst e
    exact I1.fpOk (Nat.le_refl _) (I1.hok.fresh (Nat.le_refl _))
section
variable {X : Cx}
/-! ### // of numbers of any size that occurs -/
def CDivL (_ j : Int) : Prop := 0 < j ∧ j.natAbs.log2 < 9000
theorem op_fdivL : OpR X (binaryOp .FloorDiv) (rI CDivL fun i j => .int (i / j)) := opI fun i j _ _ _ _ _ hc q => by
  refine floordiv_int (by have := hc.1; omega) ?_ (.inl (PyProof.noPylong_of_log2 hc.2))
  rw [Int.fdiv_eq_ediv_of_nonneg _ (by have := hc.1; omega)]
  exact q
theorem log2_lt {n k : Nat} (h : n < 2 ^ k) (hk : 0 < k) : n.log2 < k := by
  by_cases h0 : n = 0
  · subst h0; simpa using hk
  · exact (Nat.log2_lt h0).mpr h
/-! ### + also of lists -/
def rPlusL : R2 := fun x y H Q => rPlus x y H Q ∨ rCat x y H Q
theorem op_plusL : OpR X (binaryOp .Add) rPlusL := OpR.or op_plus op_cat
/-! ### isinstance, also of own classes -/
def rIsiA (K : PySem.W.Frag) : List V → Hp → VK → Prop := fun xs H Q => rIsi K xs H Q ∨ ∃ x C t b, xs = [x, V.ref C] ∧ TyOf K H x t ∧ PySem.W.kitOne K t (.ref C) = some b ∧ Q (.bl b) H
theorem call_isiA : CallR X (.builtin "isinstance") (rIsiA X.K) := by
  intro pins s σ H xs us Q I r h
  rcases h with h | ⟨x, C, t, b, rfl, ty, e, q⟩
  · exact call_isi pins s σ H xs us Q I r h
  obtain ⟨u, w', rfl, ru, rw'⟩ := vals2 r
  cases (show w' = Value.ref C from rw')
  exact isinst_ok I ru ty e fun tk => ⟨.bl b, H, I.tok tk, rfl, q⟩
theorem call_isiAK {K : PySem.W.Frag} (e : X.K = K) : CallR X (.builtin "isinstance") (rIsiA K) := e ▸ call_isiA
theorem PE.or {e : Expr} {t t' : TE} (h : PE X e t) (h' : PE X e t') : PE X e (fun σ H Q => t σ H Q ∨ t' σ H Q) := fun pins s σ H Q I q => by
  rcases q with q | q
  · exact h pins s σ H Q I q
  · exact h' pins s σ H Q I q
/-- an own class as an object is asked by -/
structure KCls (K : PySem.W.Frag) (C : Addr) : Prop where
  cl : Cls K C
  ha : PySem.W.findIn K (.ref C) "__class__" = some (some (.builtin "object.__class__"))
  hn : PySem.W.specialIn K (.builtin "object.__class__") "__get__" = some (some (.builtin "getset_descriptor.__get__"))
  htk : PySem.W.takesIn K (.builtin "object.__class__") = some true
  hm : PySem.W.mroIn K C (.type "object") = some true
theorem KCls.ty {K : PySem.W.Frag} {C : Addr} (c : KCls K C) {H : Hp} {a dx : Addr} {fs : List (Str × V)} (e : H a = some (.ins C dx fs)) : TyOf K H (.ref a) (.ref C) := .ins e c.cl c.ha c.hn c.htk c.hm
end
/-- C(..) in short -/
structure Maker (P : Program) (w : World) (K : PySem.W.Frag) (mg : Str → Option Value) (base : Heap) (k : Nat) (x : Str) (C : Addr) (ps : List Str) (sp : Sp) : Prop where
  ex : ∃ f fd, Mk K C f ∧ FnOk P w K mg base CX0 k f fd ps sp ∧ mg x = some (.ref C) ∧ Binds K fd ps []
theorem Maker.mono {P : Program} {w : World} {K : PySem.W.Frag} {mg : Str → Option Value} {base : Heap} {j k : Nat} {x : Str} {C : Addr} {ps : List Str} {sp : Sp} (c : Maker P w K mg base j x C ps sp) (h : j ≤ k) : Maker P w K mg base k x C ps sp := by
  obtain ⟨f, fd, M, F, m, b⟩ := c.ex
  exact ⟨f, fd, M, F.mono h, m, b⟩
theorem pe_makes {X : Cx} {k : Nat} {x : Str} {C : Addr} {ps : List Str} {sp : Sp} {e : Expr} {es : List Expr} {t : TA} {p pos : Pos} (c : Maker X.prog X.w X.K X.mg X.base k x C ps sp) (hr : Room (k + 1) X.A) (hg : Gl X x) (ha : PA X (e :: es) t)
    (hdb : (x == ("__debug__" : Str)) = false := by decide) (he : starEach (e :: es) X.env = (false, eval e X.env) :: starEach es X.env := by rfl) (hpl : (backTo pos (starEach es X.env)).any (·.1) = false := by rfl) :
    PE X (.Call (.Name x p) (e :: es) [] pos) (tMake C sp [] E0 t) := by
  obtain ⟨f, fd, M, F, m, b⟩ := c.ex
  exact pe_make M F hr hg m b .nil (fun _ _ _ _ _ _ _ h => h.elim) ha hdb he hpl
/-- o.m(..) in short -/
structure Method (P : Program) (w : World) (K : PySem.W.Frag) (mg : Str → Option Value) (base : Heap) (k : Nat) (C : Addr) (m : Str) (ps : List Str) (sp : Sp) : Prop where
  ex : ∃ f fd, Meth K C m f ∧ FnOk P w K mg base CX0 k f fd ps sp ∧ Binds K fd ps []
theorem Method.mono {P : Program} {w : World} {K : PySem.W.Frag} {mg : Str → Option Value} {base : Heap} {j k : Nat} {C : Addr} {m : Str} {ps : List Str} {sp : Sp} (c : Method P w K mg base j C m ps sp) (h : j ≤ k) : Method P w K mg base k C m ps sp := by
  obtain ⟨f, fd, M, F, b⟩ := c.ex
  exact ⟨f, fd, M, F.mono h, b⟩
theorem pe_meths {X : Cx} {pl : Sem Bool} {k : Nat} {C : Addr} {m : Str} {ps : List Str} {sp : Sp} {o e : Expr} {es : List Expr} {ta : TE} {t : TA} {pos apos : Pos} (he : PE X o ta) (c : Cls X.K C) (hm : Method X.prog X.w X.K X.mg X.base k C m ps sp) (hr : Room k X.A) (ha : PA X (e :: es) t)
    (hst : starEach (e :: es) X.env = (false, eval e X.env) :: starEach es X.env := by rfl) (hpl : (backTo pos (starEach es X.env)).any (·.1) = false := by rfl)
    (ht : eval (.Call (.Attribute o m apos) (e :: es) [] pos) X.env = (do
      let ov ← eval o X.env
      standAt apos.atName
      let (f, first) ← holding [ov] (getMethod ov m pl)
      callWith pos f first (backTo pos (starEach (e :: es) X.env)) (backToKw pos (keywordEach [] X.env))) := by rfl) :
    PE X (.Call (.Attribute o m apos) (e :: es) [] pos) (tMeth C m sp [] E0 ta t) := by
  obtain ⟨f, fd, M, F, b⟩ := hm.ex
  exact pe_meth (pl := pl) he c M F hr b .nil (fun _ _ _ _ _ _ _ h => h.elim) ha hst hpl ht
theorem maker_of {P : Program} {w : World} {K : PySem.W.Frag} {mg : Str → Option Value} {base : Heap} {k : Nat} {x nm qual : Str} {C : Addr} {st : Stmt} {f : Addr} {fd : FuncData} {ps : List Str} {sp : Sp} (M : Mk K C f) (F : Fun K nm qual st f fd) (G : FnOk P w K mg base CX0 k f fd ps sp) (m : mg x = some (.ref C))
    (h : ∀ (kV doc pm : Value) (an : Option Addr) (cdv ct : Value) (us : List Value), us.length = ps.length → bindArgs (PySem.W.fnOf nm qual (defArgs st) (defBody st) (defScope st) .none kV doc pm an cdv ct) ⟨us, []⟩ = pure (ps.zip us)) : Maker P w K mg base k x C ps sp :=
  ⟨f, fd, M, G, m, F.binds h⟩
theorem method_of {P : Program} {w : World} {K : PySem.W.Frag} {mg : Str → Option Value} {base : Heap} {k : Nat} {nm qual : Str} {C : Addr} {st : Stmt} {f : Addr} {fd : FuncData} {ps : List Str} {sp : Sp} (M : Meth K C nm f) (F : Fun K nm qual st f fd) (G : FnOk P w K mg base CX0 k f fd ps sp)
    (h : ∀ (kV doc pm : Value) (an : Option Addr) (cdv ct : Value) (us : List Value), us.length = ps.length → bindArgs (PySem.W.fnOf nm qual (defArgs st) (defBody st) (defScope st) .none kV doc pm an cdv ct) ⟨us, []⟩ = pure (ps.zip us)) : Method P w K mg base k C nm ps sp :=
  ⟨f, fd, M, G, F.binds h⟩
end L2
namespace L2
open PySem PySem.Spec PyProof.Rows
/-! ### readings that keep what they are asked for -/
def MoE (t : TE) : Prop := ∀ σ H (Q Q' : VK), (∀ v h, Q v h → Q' v h) → t σ H Q → t σ H Q'
def MoT (t : TT) : Prop := ∀ σ H (Q Q' : Bool → Hp → Prop), (∀ v h, Q v h → Q' v h) → t σ H Q → t σ H Q'
def MoR (r : R2) : Prop := ∀ x y H (Q Q' : VK), (∀ v h, Q v h → Q' v h) → r x y H Q → r x y H Q'
def MoA (t : TA) : Prop := ∀ σ H (Q Q' : List V → Hp → Prop), (∀ v h, Q v h → Q' v h) → t σ H Q → t σ H Q'
theorem mo_var {i : Nat} : MoE (tVar i) := fun _ _ _ _ h ⟨v, e, z⟩ => ⟨v, e, h _ _ z⟩
theorem mo_c {v : V} : MoE (tC v) := fun _ _ _ _ h z => h _ _ z
theorem mo_nil : MoA tNil := fun _ _ _ _ h z => h _ _ z
theorem mo_cons {ta : TE} {tr : TA} (ha : MoE ta) (hr : MoA tr) : MoA (tCons ta tr) := fun _ _ _ _ h z => ha _ _ _ _ (fun _ _ z1 => hr _ _ _ _ (fun _ _ z2 => h _ _ z2) z1) z
theorem mo_op {r : R2} {ta tb : TE} (hr : MoR r) (ha : MoE ta) (hb : MoE tb) : MoE (tOp r ta tb) := fun _ _ _ _ h z => ha _ _ _ _ (fun _ _ z1 => hb _ _ _ _ (fun _ _ z2 => hr _ _ _ _ _ h z2) z1) z
theorem mo_test {t : TE} (ht : MoE t) : MoT (tTest t) := fun _ _ _ _ h z => ht _ _ _ _ (fun _ _ ⟨k, e, z⟩ => ⟨k, e, h _ _ z⟩) z
theorem mo_and {t u : TT} (ht : MoT t) (hu : MoT u) : MoT (tAnd t u) := fun _ _ _ _ h z => ht _ _ _ _ (fun c _ z1 => by
  by_cases e : c = true
  · rw [if_pos e] at z1 ⊢; exact hu _ _ _ _ h z1
  · rw [if_neg e] at z1 ⊢; exact h _ _ z1) z
theorem mo_truth {K : PySem.W.Frag} {ta : TE} (ha : MoE ta) : MoT (fun σ H Q => ta σ H fun x H' => ∃ k, TruV K x H' k ∧ Q k H') := fun _ _ _ _ h z => ha _ _ _ _ (fun _ _ ⟨k, e, z⟩ => ⟨k, e, h _ _ z⟩) z
theorem mo_eqq {K : PySem.W.Frag} : MoR (rEqq K) := fun _ _ _ _ _ h z => by
  rcases z with ⟨a, z⟩ | ⟨dx, dy, a, b, c, z⟩
  · exact .inl ⟨a, h _ _ z⟩
  · exact .inr ⟨dx, dy, a, b, c, h _ _ z⟩
theorem mo_nee {K : PySem.W.Frag} : MoR (rNee K) := fun _ _ _ _ _ h z => by
  rcases z with ⟨a, z⟩ | ⟨dx, dy, a, b, c, z⟩
  · exact .inl ⟨a, h _ _ z⟩
  · exact .inr ⟨dx, dy, a, b, c, h _ _ z⟩
theorem mo_rI {C : Int → Int → Prop} {g : Int → Int → V} : MoR (rI C g) := fun _ _ _ _ _ h ⟨i, j, a, b, c, z⟩ => ⟨i, j, a, b, c, h _ _ z⟩
theorem mo_rI0 {g : Int → Int → V} : MoR (rI0 g) := fun _ _ _ _ _ h ⟨i, j, a, b, z⟩ => ⟨i, j, a, b, h _ _ z⟩
theorem mo_ix {K : PySem.W.Frag} {Pm : Params} : MoR (rIxA K Pm) := fun _ _ _ _ _ h z => by
  rcases z with (⟨p, xs, i, v, a, b, c, d, z⟩ | ⟨p, xs, i, v, a, b, c, d, z⟩ | ⟨p, i, v, a, b, c, d, z⟩) | ⟨a, es, n, k, v, u, a1, a2, a3, a4, a5, a6, z⟩
  · exact .inl (.inl ⟨p, xs, i, v, a, b, c, d, h _ _ z⟩)
  · exact .inl (.inr (.inl ⟨p, xs, i, v, a, b, c, d, h _ _ z⟩))
  · exact .inl (.inr (.inr ⟨p, i, v, a, b, c, d, h _ _ z⟩))
  · exact .inr ⟨a, es, n, k, v, u, a1, a2, a3, a4, a5, a6, h _ _ z⟩
theorem mo_len {K : PySem.W.Frag} {t : TA} (ht : MoA t) : MoE (tCB (rLen K) t) := fun _ _ _ _ h z => ht _ _ _ _ (fun _ _ ⟨x, n, a, b, z⟩ => ⟨x, n, a, b, h _ _ z⟩) z
/-- a test that answers b, the heap as it was -/
def EvT (t : TT) (σ : St) (H : Hp) (b : Bool) : Prop := ∀ R : Bool → Hp → Prop, R b H → t σ H R
theorem ev_and {t u : TT} {σ : St} {H : Hp} {b c : Bool} (ht : EvT t σ H b) (hu : b = true → EvT u σ H c) : EvT (tAnd t u) σ H (b && c) := fun R r => ht _ (by
  by_cases e : b = true
  · subst e; rw [if_pos rfl]; exact hu rfl _ r
  · rw [if_neg e]
    have : b = false := Bool.eq_false_iff.mpr e
    subst this; exact r)
end L2

set_option Elab.async false
set_option linter.all false
set_option maxRecDepth 100000
set_option maxHeartbeats 4000000
/-! a pair turned round by [::-1]; a short text many times -/
namespace HT
open PySem PySem.Spec PyProof.Rows
section
variable {prog : Program} {w : World} {A : Around} {E : Value → Shared → Prop} {s : Shared}
theorem sliceApplied_rev2 {sl : Addr} {t : Tok} {Q : Int × Int × Nat → Shared → Prop} (hs : s.heap.IsSliceOf sl .none .none (.int (-1) t))
    (h : Q ((1 : Int), -1, 2) s) : wpAny (model prog w) A (Builtin.Slice.sliceApplied (.ref sl) (pure ((2 : Nat) : Int))) Q E s := by
  obtain ⟨os, hos, hcs, hds⟩ := id hs
  unfold Builtin.Slice.sliceApplied Builtin.Slice.sliceFields
  refine wpAny_bind (wpAny_bind (wpAny_field hos hds (x := .none) rfl (wpAny_bind (wpAny_field hos hds (x := .none) rfl (wpAny_bind (wpAny_field hos hds (x := .int (-1) t) rfl (wpAny_pure ?_)))))))
  refine wpAny_bind (slicePart_ (.int (-1) t) ?_)
  show wpAny _ _ (if ((-1 : Int) == 0) = true then _ else _) _ _ s
  rw [if_neg (by decide)]
  refine wpAny_bind (slicePart_ .none (wpAny_bind (slicePart_ .none (wpAny_bind (wpAny_pure ?_)))))
  exact wpAny_pure h
theorem getItem_tuple_rev2 {t sl : Addr} {a b : Value} {tk : Tok} {Q : Value → Shared → Prop} (ht : IsTup s.heap t #[a, b]) (hs : s.heap.IsSliceOf sl .none .none (.int (-1) tk))
    (h : Q (.ref s.heap.objs.size) { s with heap := s.heap.push { cls := .type "tuple", data := .seq #[b, a] } }) : wpAny (model prog w) A (getItem (.ref t) (.ref sl)) Q E s := by
  have htake : sizeOk (.seq #[b, a]) := by
    show (#[b, a] : Array Value).size ≤ sizeLine
    rw [sizeLine_eq]; show 2 ≤ 16777216; decide
  obtain ⟨os, hos, hcs, hds⟩ := id hs
  have hTs : s.TypeIs (.ref sl) "slice" := ⟨os, hos, hcs⟩
  unfold getItem
  try with_reducible refine wpAny_holding ?_
  first | refine wpAny_bind (wpAny_pure ?_) | skip
  refine wpAny_bind (wpAny_sequenceKey ht.typeIs (by decide) ?_)
  refine wpAny_bind (wpAny_callSpecial?_slot (name := Str.ofString "__getitem__") ht.typeIs PyProof.Rows.slot_tuple_getitem
    (wpAny_call_entry PyProof.Rows.slot_tuple_getitem ht.typeIs entry_tuple_getitem ?_ (args_tuple_getitem _ _)))
  show wpAny _ _ (Builtin.Tuple.tupleItemsOf (.ref t) >>= _) _ _ s
  refine wpAny_bind (tupleItemsOf_ ht ?_)
  refine wpAny_bind (wpAny_typeOf hTs ?_)
  rw [if_pos (by decide)]
  refine wpAny_bind (sliceApplied_rev2 hs ?_)
  show wpAny _ _ (if ((1 : Int) == 0 && (-1 : Int) == 1 && 2 == 2) = true then _ else _) _ _ s
  rw [if_neg (by decide)]
  have hp : ((List.range 2).filterMap fun (m : Nat) => (#[a, b] : Array Value)[((1 : Int) + (m : Int) * -1).toNat]?).toArray = #[b, a] := rfl
  rw [hp]
  first
    | exact wpAny_bind (m := Builtin.Tuple.tupleExact _) (wpAny_newObj_type (wpAny_pure ⟨_, rfl, wpAny_pure h⟩) htake)
    | exact wpAny_bind (m := Builtin.Tuple.tupleExact _) (wpAny_newObj_type (wpAny_bind (wpAny_pure (wpAny_pure ⟨_, rfl, wpAny_pure h⟩))) htake)
    | exact wpAny_bind (wpAny_bind (m := Builtin.Tuple.tupleExact _) (wpAny_newObj_type (wpAny_pure (wpAny_pure ⟨_, rfl, wpAny_pure h⟩)) htake))
    | exact wpAny_bind (wpAny_bind (m := Builtin.Tuple.tupleExact _) (wpAny_newObj_type (wpAny_pure ⟨_, rfl, wpAny_pure h⟩) htake))
end
end HT
namespace L2
open PySem PySem.Spec PyProof.Rows
section
variable {X : Cx} {e st : Expr} {te ts : TE} {pos p2 : Pos}
/-- p[::-1] of a tuple of two -/
def tRev2 (K : PySem.W.Frag) (te ts : TE) : TE := fun σ H Q => te σ H fun x H1 => ts σ H1 fun y H2 => ∃ a v u, x = .ref a ∧ y = .int (-1) ∧ SqT K H2 a [v, u] ∧ ∀ p, H2 p = none → Q (.ref p) (upd H2 p (.tup [u, v]))
theorem pe_rev2 (he : PE X e te) (hs : PE X st ts) : PE X (.Subscript e (.Slice none none (some st) p2) pos) (tRev2 X.K te ts) := by
  intro pins s σ H Q I h
  refine Subscript_ (thn (he pins s σ H _ I h) fun v s1 ⟨x, H1, I1, r1, q1⟩ => ?_)
  refine wpAny_Slice ?_
  rw [evalPart_none]
  refine wpAny_pure (wpAny_pure ?_)
  rw [evalPart_some]
  refine thn (hs pins s1 σ H1 _ I1 q1) fun vs s3 ⟨y, H3, I3, r3, q3⟩ => ?_
  obtain ⟨a, v1, v2, rfl, rfl, ha, q⟩ := q3
  cases r1
  obtain ⟨tk, rfl⟩ := r3
  have I4 : Inv X pins σ H3 { s3 with heap := s3.heap.push { cls := .type "slice", data := .fields #[.none, .none, .int (-1) tk] } } := I3.kept (t' := s3.toks) fun b ob q => Heap.get?_push_of_some _ q
  obtain ⟨its, r, ht, hz⟩ := I4.tuple ha
  obtain ⟨u1, u2, rfl, ru1, ru2⟩ := Vals.two r
  show wpAny (model X.prog X.w) X.A (subscriptTail e (.Slice none none (some st) p2) (.ref a) (.ref s3.heap.objs.size)) (EP X pins σ Q) X.xe { s3 with heap := s3.heap.push { cls := .type "slice", data := .fields #[.none, .none, .int (-1) tk] } }
  refine tail_any (ops := [.ref a, .ref s3.heap.objs.size]) (T := "tuple") ht.typeIs PyProof.Rows.slot_tuple_getitem.lookup ?_ (by with_unfolding_all rfl)
  refine HT.getItem_tuple_rev2 ht (Heap.IsSliceOf.new ..) ?_
  refine ⟨.ref _, _, I4.laid (t' := s3.toks) (o := .tup [v2, v1]) (fun b ob q => Heap.get?_push_of_some _ q) (Nat.le_refl _) ?_, rfl, q _ (I4.hok.fresh (Nat.le_refl _))⟩
  exact ⟨by rw [sizeLine_eq]; show 2 ≤ _; decide, _, .cons ru2 (.cons ru1 .nil), IsTup.new _ _⟩
/-- a short text many times -/
def rMulS1 : R2 := fun x y H Q => ∃ z n, x = .str z ∧ y = .int n ∧ -100000 ≤ n ∧ n ≤ 100000 ∧ z.length ≤ 100 ∧ Q (.str ⟨(timesL z.cps.toList n).toArray⟩) H
theorem op_mulS1 : OpR X (binaryOp .Mult) rMulS1 := by
  intro pins s σ H x y v u Q I rx ry h
  obtain ⟨z, n, rfl, rfl, h1, h2, h3, q⟩ := h
  obtain ⟨t, rfl⟩ := rx
  obtain ⟨t', rfl⟩ := ry
  have sl := sizeLine_eq
  have hlen : z.length * n.toNat ≤ 100 * 100000 := Nat.mul_le_mul h3 (by omega)
  refine P.mul_str ?_ (fun _ _ => ?_) (fun _ _ => ?_) ?_
  · rw [decide_eq_false (by omega), decide_eq_false (by omega)]; rfl
  · rename_i a b
    have p : (z.length : Int) * n ≤ 100 * 100000 := Int.mul_le_mul (by omega) h2 (by omega) (by omega)
    have e : (z.length : Int) ≤ (2 ^ 63 - 1) / n := (Int.le_ediv_iff_mul_le (by omega)).mpr (by omega)
    omega
  · refine decide_eq_false ?_
    omega
  · by_cases hn : n < 1
    · rw [if_pos hn]
      have e : timesL z.cps.toList n = [] := by
        unfold timesL
        rw [show n.toNat = 0 by omega]
        rfl
      rw [e] at q
      exact ⟨Nat.zero_le _, .str ⟨#[]⟩, H, I.tok _, ⟨_, rfl⟩, q⟩
    · rw [if_neg hn]
      by_cases h0 : (n == 1 || z.length == 0) = true
      · rw [if_pos h0]
        have e : (⟨(timesL z.cps.toList n).toArray⟩ : Str) = z := by
          rcases Bool.or_eq_true_iff.mp h0 with h | h
          · have e1 : n = 1 := eq_of_beq h
            subst e1
            unfold timesL
            cases z
            simp
          · have e1 : z.length = 0 := eq_of_beq h
            have e2 : z.cps = #[] := Array.eq_empty_of_size_eq_zero e1
            unfold timesL
            cases z
            simp only at e2
            subst e2
            simp
        rw [e] at q
        exact ⟨.str z, H, I, ⟨_, rfl⟩, q⟩
      · rw [if_neg h0]
        have e : (List.replicate n.toNat z.cps).foldl (· ++ ·) #[] = (timesL z.cps.toList n).toArray := by
          rw [fold_times]
          unfold timesL
          simp
        rw [e]
        refine ⟨?_, .str _, H, I.tok _, ⟨_, rfl⟩, q⟩
        show (timesL z.cps.toList n).toArray.size ≤ sizeLine
        rw [List.size_toArray]
        have l : (timesL z.cps.toList n).length = n.toNat * z.length := by
          unfold timesL
          simp
          rfl
        rw [l, Nat.mul_comm]
        omega
end
end L2
namespace L2
open PySem PySem.Spec PyProof.Rows
/-! ### a cut between two statements -/
def MoS (t : TS) : Prop := ∀ (D : Ends) (N N' : St → Hp → Prop) (σ : St) (H : Hp), (∀ σ' H', N σ' H' → N' σ' H') → t { D with nx := N } σ H → t { D with nx := N' } σ H
theorem mo_next : MoS tNext := fun _ _ _ _ _ h z => h _ _ z
theorem mo_if {c : TT} {t u : TS} (hc : MoT c) (ht : MoS t) (hu : MoS u) : MoS (tIfS c t u) := fun D N N' σ H h z => hc _ _ _ _ (fun b H1 z1 => by
  by_cases e : b = true
  · rw [if_pos e] at z1 ⊢; exact ht D N N' σ H1 h z1
  · rw [if_neg e] at z1 ⊢; exact hu D N N' σ H1 h z1) z
theorem mo_set {i : Nat} {te : TE} (he : MoE te) : MoS (tAsg te (gName i)) := fun _ _ _ _ _ h z => he _ _ _ _ (fun _ _ z1 => h _ _ z1) z
theorem seq_by {t u : TS} {D : Ends} {σ : St} {H : Hp} (N : St → Hp → Prop) (mo : MoS t) (h1 : t { D with nx := N } σ H) (h2 : ∀ σ' H', N σ' H' → u D σ' H') : tSeq t u D σ H := mo D N (u D) σ H h2 h1
theorem mo_tup {t : TA} (h : MoA t) : MoE (tTup t) := fun _ _ _ _ hq z => h _ _ _ _ (fun _ _ ⟨a, b⟩ => ⟨a, fun p hp => hq _ _ (b p hp)⟩) z
theorem mo_lst {t : TA} (h : MoA t) : MoE (tLst t) := fun _ _ _ _ hq z => h _ _ _ _ (fun _ _ ⟨a, b⟩ => ⟨a, fun p hp => hq _ _ (b p hp)⟩) z
def MoSp (sp : Sp) : Prop := ∀ vs H (Q Q' : VK) E, (∀ v h, Q v h → Q' v h) → sp vs H Q E → sp vs H Q' E
theorem mo_call {sp : Sp} {E : XK} {t : TA} (hs : MoSp sp) (h : MoA t) : MoE (tCall sp [] E t) := fun _ _ _ _ hq z => h _ _ _ _ (fun _ _ z1 => hs _ _ _ _ _ hq z1) z
theorem mo_un {r : V → Hp → VK → Prop} {ta : TE} (hr : ∀ x H (Q Q' : VK), (∀ v h, Q v h → Q' v h) → r x H Q → r x H Q') (ha : MoE ta) : MoE (tUn r ta) := fun _ _ _ _ h z => ha _ _ _ _ (fun _ _ z1 => hr _ _ _ _ h z1) z
theorem mo_rU {g : Int → V} : ∀ x H (Q Q' : VK), (∀ v h, Q v h → Q' v h) → rU g x H Q → rU g x H Q' := fun _ _ _ _ h ⟨i, e, z⟩ => ⟨i, e, h _ _ z⟩
end L2
namespace L2
open PySem PySem.Spec PyProof.Rows
section
variable {X : Cx} {K : PySem.W.Frag}
theorem ix_tupK (e : X.K = K) : IxR X (rIxT K) := e ▸ ix_tup
theorem op_eqDK (hu : X.A.units + 64 < cLine) (e : X.K = K) : OpR X (compareOp .Eq) (rEqD K false) := e ▸ op_eqD hu
theorem op_neDK (hu : X.A.units + 64 < cLine) (e : X.K = K) : OpR X (compareOp .NotEq) (rEqD K true) := e ▸ op_neD hu
end
theorem cmul_of {i j : Int} (h : i.natAbs ≤ 1000000) : CMul i j := .inl ⟨by omega, by omega⟩
theorem mo_ixT {K : PySem.W.Frag} : MoR (rIxT K) := fun _ _ _ _ _ h ⟨p, xs, i, v, a, b, c, d, z⟩ => ⟨p, xs, i, v, a, b, c, d, h _ _ z⟩
theorem mo_ne : MoR rNe := fun _ _ _ _ _ h ⟨a, z⟩ => ⟨a, h _ _ z⟩
theorem mo_eq : MoR rEq := fun _ _ _ _ _ h ⟨a, z⟩ => ⟨a, h _ _ z⟩
end L2

set_option Elab.async false
set_option linter.all false
set_option maxRecDepth 100000
set_option maxHeartbeats 4000000
/-! texts as lists of codes, fractions as pairs: what the laws' proofs share -/
namespace TX
open PySem L2 TW
/-! ### texts as lists of codes -/
def S (w : List Nat) : Str := ⟨w.toArray⟩
theorem S_app (a b : List Nat) : S a ++ S b = S (a ++ b) := by
  show (⟨a.toArray ++ b.toArray⟩ : Str) = ⟨(a ++ b).toArray⟩
  simp
theorem S_len (w : List Nat) : (S w).length = w.length := by show w.toArray.size = w.length; simp
theorem S_inj {a b : List Nat} (h : S a = S b) : a = b := by
  have q := congrArg (fun x : Str => x.cps.toList) h
  simpa [S] using q
theorem S_eq (a b : List Nat) : (S a = S b) ↔ a = b := ⟨S_inj, fun h => by rw [h]⟩
theorem sg_S (w : List Nat) : sgV (S w) = w.map fun c => V.str (S [c]) := by unfold sgV S; simp
/-! ### fractions -/
def fT (f : Fr) : HO := .tup [.int f.1, .int f.2]
def fD (f : Fr) : PyData := .tuple [.int f.1, .int f.2]
theorem fD_rd {K : PySem.W.Frag} {H : Hp} {p : Addr} {f : Fr} (h : H p = some (fT f)) : RdD K H (.ref p) (fD f) := by
  unfold fD RdD
  refine ⟨p, _, rfl, SqT.of h, ?_⟩
  unfold RdDs
  refine ⟨_, _, rfl, by unfold RdD; rfl, ?_⟩
  unfold RdDs
  refine ⟨_, _, rfl, by unfold RdD; rfl, ?_⟩
  unfold RdDs
  rfl
theorem fD_depth (f : Fr) : (fD f).depth ≤ 60 := by
  unfold fD
  simp [PyData.depth, PyData.depthAll]
theorem fD_eqv (f g : Fr) : PyData.eqv (fD f) (fD g) = decide (f = g) := by
  obtain ⟨a, b⟩ := f
  obtain ⟨c, d⟩ := g
  unfold fD
  simp only [PyData.eqv, PyData.eqvAll, Bool.and_true]
  rw [Bool.eq_iff_iff]
  simp
theorem same_new {H : Hp} {p : Addr} (h : H p = none) (o : HO) : Same H (upd H p o) := fun b u q => by rw [upd_ne (ne_of_none q h)]; exact q
theorem mv_r (f : Fr) : mv 114 f = if 0 < f.1 then (-f.2, f.1) else if f.1 < 0 then (f.2, -f.1) else (1, 0) := rfl

theorem kit_int_bool {K : PySem.W.Frag} : PySem.W.kitOne K (.type "int") (.type "bool") = some false := by
  unfold PySem.W.kitOne PySem.W.kitCls
  rfl
theorem all_true (n : Nat) : (List.replicate n true).all id = true := by simp
theorem two_ok : 2 ≤ sizeLine := by decide
theorem eq_sign (c d : Nat) (x : Str) (hx : x = S [d]) : (decide (V.str (S [c]) = V.str x)) = decide (c = d) := by
  subst hx
  rw [Bool.eq_iff_iff]
  simp only [decide_eq_true_eq, V.str.injEq, S_eq, List.cons.injEq, and_true]
theorem lit_t : ("t" : Str) = S [116] := by decide +kernel
theorem lit_u : ("u" : Str) = S [117] := by decide +kernel
theorem lit_r : ("r" : Str) = S [114] := by decide +kernel
theorem sg_at {u : List Nat} {i : Nat} {x : V} (h : (sgV (S u))[i]? = some x) : ∃ c, u[i]? = some c ∧ x = .str (S [c]) := by
  rw [sg_S, List.getElem?_map] at h
  cases e : u[i]? with
  | none => rw [e] at h; cases h
  | some c => rw [e] at h; cases h; exact ⟨c, rfl, rfl⟩
theorem take_snoc {u : List Nat} {i c : Nat} (h : u[i]? = some c) : u.take (i + 1) = u.take i ++ [c] := by
  rw [List.take_add_one, h]
  rfl
def letr (i : Int) : Nat := if i = 0 then 116 else if i = 1 then 117 else 114
theorem letr_L (i : Int) : IsL (letr i) := by
  unfold letr TW.IsL
  by_cases h1 : i = 0
  · rw [if_pos h1]; exact .inl rfl
  · rw [if_neg h1]
    by_cases h2 : i = 1
    · rw [if_pos h2]; exact .inr (.inl rfl)
    · rw [if_neg h2]; exact .inr (.inr rfl)
/-! slices of a text that is written as a list -/
end TX

set_option Elab.async false
set_option linter.all false
set_option maxRecDepth 100000
set_option maxHeartbeats 4000000
/-! what the laws of stage 2 share: names of built-ins, constants, promises -/
namespace TX
open PySem L2 TW
structure Glo (mg : Str → Option Value) : Prop where
  n_len : mg "len" = none
  n_all : mg "all" = none
  n_any : mg "any" = none
  n_isinstance : mg "isinstance" = none
  n_abs : mg "abs" = none
  n_int : mg "int" = none
  n_bool : mg "bool" = none
  n_str : mg "str" = none
  n_tuple : mg "tuple" = none
  n_list : mg "list" = none
  n_reversed : mg "reversed" = none
  n_range : mg "range" = none
  n_max : mg "max" = none
theorem big {n : Nat} (h : n ≤ 1000000) : n ≤ sizeLine := by have := sizeLine_eq; omega
theorem len1 {α : Type} {us : List α} (h : us.length = 1) : ∃ a, us = [a] := List.length_eq_one_iff.mp h
theorem lenS {α : Type} {us : List α} {n : Nat} (h : us.length = n + 1) : ∃ a r, us = a :: r ∧ r.length = n := by
  cases us with
  | nil => cases h
  | cons a r => exact ⟨a, r, rfl, Nat.succ.inj h⟩
theorem len2 {α : Type} {us : List α} (h : us.length = 2) : ∃ a b, us = [a, b] := by
  obtain ⟨a, r, rfl, h'⟩ := lenS h
  obtain ⟨b, rfl⟩ := len1 h'
  exact ⟨a, b, rfl⟩
theorem len3 {α : Type} {us : List α} (h : us.length = 3) : ∃ a b c, us = [a, b, c] := by
  obtain ⟨a, r, rfl, h'⟩ := lenS h
  obtain ⟨b, c, rfl⟩ := len2 h'
  exact ⟨a, b, c, rfl⟩
theorem gcd_abs (a b : Int) : Int.gcd (if a < 0 then -a else a) b = Int.gcd a b := by
  split
  · rw [Int.neg_gcd]
  · rfl
theorem abs_nonneg (a : Int) : 0 ≤ (if a < 0 then -a else a) := by split <;> omega
def letters (b : Int) (ns : List Int) : List Nat := ns.map fun n => letr (n / b % 3)
theorem letters_W (b : Int) (ns : List Int) : IsW (letters b ns) := fun c hc => by
  unfold letters at hc
  obtain ⟨n, _, rfl⟩ := List.mem_map.mp hc
  exact letr_L _
theorem letters_len (b : Int) (ns : List Int) : (letters b ns).length = ns.length := by unfold letters; simp
theorem tur_at (n b : Int) : atI (("tur" : Str).cps.toList) (n / b % 3) = some (letr (n / b % 3)) := by
  have h0 := Int.emod_nonneg (n / b) (show (3 : Int) ≠ 0 by decide)
  have h1 := Int.emod_lt_of_pos (n / b) (show (0 : Int) < 3 by decide)
  generalize n / b % 3 = i at h0 h1
  have h : i = 0 ∨ i = 1 ∨ i = 2 := by omega
  rcases h with rfl | rfl | rfl <;> decide +kernel
theorem neD_same {g g' : Fr} {A B : Prop} (e : g = g') (h : B) : if (if true = true then !PyData.eqv (fD g) (fD g') else PyData.eqv (fD g) (fD g')) = true then A else B := by
  subst e
  have z : PyData.eqv (fD g) (fD g) = true := by rw [fD_eqv]; simp
  simpa [z] using h
theorem back_signs {u : List Nat} (h : IsW u) : (sgV (S u)).reverse.map (fun x => match x with | .str y => V.str (S [TW.exch (y.cps.getD 0 0)]) | z => z) = ((bk u).map fun c => S [c]).map V.str := by
  rw [sg_S, ← List.map_reverse, List.map_map, bk, List.map_map, List.map_map]
  rfl
def inTur (x : V) : Bool := match x with | .str i => !(Builtin.Str.occurrences ("tur" : Str) i 0 ("tur" : Str).length 1).isEmpty | _ => false
theorem in_tur2 {c : Nat} (h : IsL c) : inTur (.str (S [c])) = true := by
  rcases h with rfl | rfl | rfl <;> decide +kernel
theorem word_signs2 {u : List Nat} (h : IsW u) : (sgV (S u)).map (fun x => V.bl (inTur x)) = (List.replicate u.length true).map V.bl := by
  rw [sg_S, List.map_map]
  induction u with
  | nil => rfl
  | cons c r ih =>
    rw [List.map_cons, List.length_cons, List.replicate_succ, List.map_cons, ih h.tail]
    show V.bl (inTur (.str (S [c]))) :: _ = _
    rw [in_tur2 h.head]
/-! ### promises -/
def spWhole : Sp := fun vs H Q _ => ∃ i, vs = [.int i] ∧ Q (.bl true) H
def spWord : Sp := fun vs H Q _ => ∃ u, vs = [.str (S u)] ∧ IsW u ∧ u.length ≤ 100000 ∧ ∀ H', Same H H' → Q (.bl true) H'
def spGcd : Sp := fun vs H Q _ => ∃ a b : Int, vs = [.int a, .int b] ∧ 0 ≤ a ∧ 0 ≤ b ∧ Q (.int (Int.gcd a b)) H
def spFrac : Sp := fun vs H Q _ => ∃ p g, vs = [.ref p] ∧ H p = some (fT g) ∧ IsF g ∧ ∀ H', Same H H' → Q (.bl true) H'
def spTurned : Sp := fun vs H Q _ => ∃ g : Fr, vs = [.int g.1, .int g.2] ∧ ∀ p H', Same H H' → H' p = some (fT (mv 114 g)) → Q (.ref p) H'
def spMoved : Sp := fun vs H Q _ => ∃ (c : Nat) (g : Fr), vs = [.str (S [c]), .int g.1, .int g.2] ∧ ∀ p H', Same H H' → H' p = some (fT (mv c g)) → Q (.ref p) H'
def spFollow : Sp := fun vs H Q _ => ∃ u p g, vs = [.str (S u), .ref p] ∧ H p = some (fT g) ∧ ∀ q H', Same H H' → H' q = some (fT (walk u g)) → Q (.ref q) H'
def spLetters (K : PySem.W.Frag) : Sp := fun vs H Q _ => ∃ (a : Addr) (ns : List Int) (b : Int), vs = [.ref a, .int b] ∧ SqL K H a (ns.map V.int) ∧ ns.length ≤ 63 ∧ 0 < b ∧ b < 1000 ∧ Q (.str (S (letters b ns))) H
def spLMoved : Sp := fun vs H Q _ => ∃ (c : Nat) (p : Addr) (g : Fr), vs = [.str (S [c]), .ref p] ∧ H p = some (fT g) ∧ ∀ q H', Same H H' → H' q = some (fT (mv c g)) → Q (.ref q) H'
def spLaw (K : PySem.W.Frag) : Sp := fun vs H Q _ => ∃ (a : Addr) (ns : List Int), vs = [.ref a] ∧ SqL K H a (ns.map V.int) ∧ ns.length ≤ 63 ∧ ∀ H', Q (.bl true) H'
end TX

set_option Elab.async false
set_option linter.all false
set_option maxRecDepth 100000
set_option maxHeartbeats 4000000
/-! runs: promises -/
namespace TX
open PySem L2 TW
theorem _root_.L2.Same.up {H H' : Hp} {p : Addr} {o : HO} (h : Same H H') (n : H p = none) : Same H (upd H' p o) := fun b u q => by rw [upd_ne (ne_of_none q n)]; exact h b u q
theorem join_spell : ∀ ks : List Int, Str.join ("r" : Str) (ks.map fun k => S (lts k)) = S (spell ks)
  | [] => rfl
  | [k] => rfl
  | k :: l :: r => by
    have ih := join_spell (l :: r)
    show S (lts k) ++ ("r" : Str) ++ Str.join ("r" : Str) ((l :: r).map fun k => S (lts k)) = _
    rw [ih, lit_r, S_app, S_app, spell]
    simp
theorem times_lts_u {k : Int} (h : k < 0) : (⟨(timesL ("u" : Str).cps.toList (-k)).toArray⟩ : Str) = S (lts k) := by
  rw [show ("u" : Str).cps.toList = [117] by decide +kernel]
  unfold timesL lts S
  rw [if_pos h]
  congr 2
  simp [List.flatten_replicate_singleton]
theorem times_lts_t {k : Int} (h : ¬ k < 0) : (⟨(timesL ("t" : Str).cps.toList k).toArray⟩ : Str) = S (lts k) := by
  rw [show ("t" : Str).cps.toList = [116] by decide +kernel]
  unfold timesL lts S
  rw [if_neg h]
  congr 2
  simp [List.flatten_replicate_singleton]
/-- the second number of a pair -/
def fb (o : Option HO) : Nat := match o with | some (.tup [_, .int b]) => b.natAbs | _ => 0
theorem pick2 {b : Bool} {ta tb : TE} {σ : St} {H : Hp} {Q : VK} {v : V} (h1 : b = true → ∀ Q : VK, Q v H → ta σ H Q) (h2 : b = false → ∀ Q : VK, Q v H → tb σ H Q) (q : Q v H) : if b = true then ta σ H Q else tb σ H Q := by
  cases b with
  | true => exact iteT (h1 rfl _ q)
  | false => exact iteF (h2 rfl _ q)
def iV (ks : List Int) : List V := ks.map V.int
theorem iV_len (ks : List Int) : (iV ks).length = ks.length := by unfold iV; simp
theorem iV_append (a b : List Int) : iV (a ++ b) = iV a ++ iV b := by unfold iV; simp
theorem sum_lts (ks : List Int) : ((ks.map fun k => S (lts k)).map (·.length)).sum = sab ks := by
  induction ks with
  | nil => rfl
  | cons k r ih =>
    rw [List.map_cons, List.map_cons, List.sum_cons, ih, sab_cons, S_len, lts_len]
theorem sab_mem {ks : List Int} {k : Int} (h : k ∈ ks) : k.natAbs ≤ sab ks := by
  induction ks with
  | nil => cases h
  | cons l r ih =>
    rw [sab_cons]
    rcases List.mem_cons.mp h with rfl | h
    · omega
    · have := ih h; omega
def spLettersOf : Sp := fun vs H Q _ => ∃ k : Int, vs = [.int k] ∧ k.natAbs ≤ 5000 ∧ Q (.str (S (lts k))) H
def spSpelled : Sp := fun vs H Q _ => ∃ (a : Addr) (ks : List Int), vs = [.ref a] ∧ H a = some (.lst (iV ks)) ∧ sab ks ≤ 5000 ∧ ks.length ≤ 5000 ∧ ∀ H', Same H H' → Q (.str (S (spell ks))) H'
def spBackwards : Sp := fun vs H Q _ => ∃ (a : Addr) (ks : List Int), vs = [.ref a] ∧ H a = some (.lst (iV ks)) ∧ ks.length ≤ 5000 ∧ ∀ p H', Same H H' → H' p = some (.lst (iV (bw ks))) → Q (.ref p) H'
def spJoined : Sp := fun vs H Q _ => ∃ (a b : Addr) (A : List Int) (x y : Int) (B : List Int), vs = [.ref a, .ref b] ∧ H a = some (.lst (iV (A ++ [x]))) ∧ H b = some (.lst (iV (y :: B))) ∧ A.length ≤ 5000 ∧ B.length ≤ 5000 ∧
  ∀ p H' C z D, Same H H' → H' p = some (.lst (iV (C ++ z :: D))) → (∀ f, IsF f → act (C ++ z :: D) f = act (y :: B) (act (A ++ [x]) f)) → sab (C ++ z :: D) ≤ sab (A ++ [x]) + sab (y :: B) → (C ++ z :: D).length ≤ (A ++ [x]).length + (y :: B).length → (B = [] → D = []) → Q (.ref p) H'
def spRuns : Sp := fun vs H Q _ => ∃ (p : Addr) (g : Fr), vs = [.ref p] ∧ H p = some (fT g) ∧ IsF g ∧ g.2.natAbs < 2 ^ 8000 ∧ qf g ≤ 500 ∧
  ∀ q H' ks, Same H H' → H' q = some (.lst (iV (ks ++ [0]))) → pre ks g = (1, 0) → sab ks ≤ qf g → ks.length ≤ qf g + 1 → Q (.ref q) H'
theorem atI_zero {xs : List V} {v : V} (h : xs[0]? = some v) : atI xs 0 = some v := atI_nat (j := 0) h
theorem cut_list_from (xs : List V) {n : Nat} (h : n ≤ xs.length) : cutV xs (some (n : Int)) none = xs.drop n := by
  unfold cutV HT.sIx
  have h1 : ¬ ((n : Int) < 0) := by omega
  simp only [h1, if_false]
  first
    | rw [List.take_of_length_le] <;> simp <;> omega
    | (simp; omega)
end TX

set_option Elab.async false
set_option linter.all false
set_option maxRecDepth 100000
set_option maxHeartbeats 4000000
/-! alike, quiet; answers that are objects: promises -/
namespace TX
open PySem L2 TW
def spFollowK (K : PySem.W.Frag) : Sp := fun vs H Q _ => ∃ u p g, vs = [.str (S u), .ref p] ∧ SqT K H p [.int g.1, .int g.2] ∧ ∀ q H', Same H H' → H' q = some (fT (walk u g)) → Q (.ref q) H'
/-- __init__ with one field -/
def spInit1 (C : Addr) (fld : Str) : Sp := fun vs H Q _ => ∃ o dx v, vs = [.ref o, v] ∧ H o = some (.ins C dx []) ∧ Q .non (upd H o (.ins C dx [(fld, v)]))
theorem made_same {H : Hp} {x dx : Addr} {o o' : HO} (hx : H x = none) (hd : H dx = none) : Same H (upd (upd H dx o) x o') := fun b u q => by
  rw [upd_ne (ne_of_none q hx), upd_ne (ne_of_none q hd)]
  exact q
theorem rd_ints {K : PySem.W.Frag} {H : Hp} (ks : List Int) : RdDs K H (iV ks) (ks.map PyData.int) := by
  induction ks with
  | nil => unfold RdDs iV; rfl
  | cons k r ih => unfold RdDs; exact ⟨_, _, rfl, by unfold RdD; rfl, ih⟩
theorem depth_ints (ks : List Int) : PyData.depthAll (ks.map PyData.int) ≤ 10 := by
  induction ks with
  | nil => simp [PyData.depthAll]
  | cons k r ih => simp [PyData.depthAll, PyData.depth] at ih ⊢ <;> omega
theorem depth_list (ks : List Int) : (PyData.list (ks.map PyData.int)).depth ≤ 60 := by
  have := depth_ints ks
  simp [PyData.depth]
  omega
theorem list_ne_nil (k : Int) (ks : List Int) : PyData.eqv (.list ((k :: ks).map PyData.int)) (.list []) = false := by
  simp [PyData.eqv, PyData.eqvAll]
theorem eqD_eq {g g' : Fr} {A B : Prop} (h1 : g = g' → A) (h2 : g ≠ g' → B) : if PyData.eqv (fD g) (fD g') = true then A else B := by
  rw [fD_eqv]
  exact ite2 (fun c => h1 (of_decide_eq_true c)) (fun c => h2 (of_decide_eq_false (Bool.eq_false_iff.mpr c)))
end TX

set_option Elab.async false
set_option linter.all false
set_option maxRecDepth 100000
set_option maxHeartbeats 4000000
/-! pairs of fractions: promises -/
namespace TX
open PySem L2 TW
def PairAt (H : Hp) (p : Addr) (g h : Fr) : Prop := ∃ a b, H p = some (.tup [.ref a, .ref b]) ∧ H a = some (fT g) ∧ H b = some (fT h)
theorem PairAt.same {H H' : Hp} {p : Addr} {g h : Fr} (x : PairAt H p g h) (s : Same H H') : PairAt H' p g h := let ⟨a, b, e1, e2, e3⟩ := x; ⟨a, b, s _ _ e1, s _ _ e2, s _ _ e3⟩
structure Nice2 (g : Fr) : Prop where
  F : IsF g
  sz : g.1.natAbs + g.2.natAbs + 1 ≤ 2 ^ 1000
  q : qf g ≤ 200
theorem pow_le {a b : Nat} (h : a ≤ b) : 2 ^ a ≤ 2 ^ b := Nat.pow_le_pow_right (by decide) h
theorem size_walk {u : List Nat} {g : Fr} {n m : Nat} (hl : u.length ≤ n) (hs : g.1.natAbs + g.2.natAbs + 1 ≤ 2 ^ m) : (walk u g).1.natAbs + (walk u g).2.natAbs + 1 ≤ 2 ^ (n + m) := by
  refine Nat.le_trans (walk_size u g) ?_
  rw [Nat.pow_add]
  exact Nat.mul_le_mul (pow_le hl) hs
theorem nice2_walk {u : List Nat} {g : Fr} {n m c : Nat} (hg : IsF g) (hl : u.length ≤ n) (hs : g.1.natAbs + g.2.natAbs + 1 ≤ 2 ^ m) (hq : qf g ≤ c) (h1 : n + m ≤ 1000) (h2 : c + n ≤ 200) : Nice2 (walk u g) := by
  refine ⟨walk_F hg, Nat.le_trans (size_walk hl hs) (pow_le h1), ?_⟩
  have := qf_walk u hg
  omega
/-- a fraction that few letters lead to -/
structure Fair (g : Fr) : Prop where
  F : IsF g
  sz : g.1.natAbs + g.2.natAbs + 1 ≤ 2 ^ 66
  q : qf g ≤ 64
theorem turn_size {f : Fr} (h : IsF f) : (mv 114 f).1.natAbs + (mv 114 f).2.natAbs ≤ f.1.natAbs + f.2.natAbs := by
  obtain ⟨t1, t2, t3⟩ := turn_abs f
  by_cases z : f.1 = 0
  · rw [t3 z]
    have : f.2 ≠ 0 := by
      intro e
      have := F_fin h e
      rw [this] at z
      cases z
    show 1 + 0 ≤ _
    omega
  · have := t2 z
    omega
theorem turn_qf (f : Fr) : qf (mv 114 f) ≤ qf f := by
  unfold mv
  rw [if_neg (by decide), if_neg (by decide)]
  split
  · show qs (-f.2).natAbs f.1.natAbs ≤ qs f.1.natAbs f.2.natAbs
    rw [Int.natAbs_neg, qs_comm]; exact Nat.le_refl _
  split
  · show qs f.2.natAbs (-f.1).natAbs ≤ qs f.1.natAbs f.2.natAbs
    rw [Int.natAbs_neg, qs_comm]; exact Nat.le_refl _
  · show qs 1 0 ≤ _
    rw [qs_zero]; exact Nat.zero_le _
theorem fair_end : Fair (1, 0) := ⟨F_end, by decide, by rw [qf_end]; decide⟩
theorem fair_nought : Fair (0, 1) := ⟨F_nought, by decide, by rw [qf_nought]; decide⟩
theorem mo_spLMoved : MoSp spLMoved := fun _ _ _ _ _ h ⟨c, p, g, e, hp, z⟩ => ⟨c, p, g, e, hp, fun q H' s t => h _ _ (z q H' s t)⟩
theorem rd_script {K : PySem.W.Frag} {H : Hp} {a : Addr} {ns : List Int} (h : SqL K H a (ns.map V.int)) : RdD K H (.ref a) (.list (ns.map PyData.int)) := by
  unfold RdD
  exact ⟨a, _, rfl, h, rd_ints ns⟩
theorem rd_nil {K : PySem.W.Frag} {H : Hp} {m : Addr} (h : H m = some (.lst [])) : RdD K H (.ref m) (.list []) := by
  unfold RdD
  exact ⟨m, [], rfl, SqL.of h, by unfold RdDs; rfl⟩
theorem neL {ns : List Int} {A B : Prop} (h1 : ns = [] → B) (h2 : ns ≠ [] → A) : if (if true = true then !PyData.eqv (.list (ns.map PyData.int)) (.list []) else PyData.eqv (.list (ns.map PyData.int)) (.list [])) = true then A else B := by
  rw [if_pos (c := (true = true)) rfl]
  cases ns with
  | nil => exact iteF (h1 rfl)
  | cons k r => rw [list_ne_nil]; exact iteT (h2 (by simp))
theorem last_at {ns : List Int} (h : ns ≠ []) : ∃ n, atI (ns.map V.int) (-1) = some (V.int n) := by
  obtain ⟨r, n, rfl⟩ : ∃ r n, ns = r ++ [n] := ⟨ns.dropLast, ns.getLast h, (List.dropLast_concat_getLast h).symm⟩
  refine ⟨n, ?_⟩
  rw [List.map_append]
  exact atI_last _ _
def spFollowRuns : Sp := fun vs H Q _ => ∃ (a p : Addr) (k : Int) (ks : List Int) (g : Fr), vs = [.ref a, .ref p] ∧ H a = some (.lst (iV (k :: ks))) ∧ H p = some (fT g) ∧ sab (k :: ks) ≤ 1000000 ∧ ks.length ≤ 100000 ∧ ∀ q H', Same H H' → H' q = some (fT (act (k :: ks) g)) → Q (.ref q) H'
def spRunsOfPair : Sp := fun vs H Q _ => ∃ (p : Addr) (g h : Fr), vs = [.ref p] ∧ PairAt H p g h ∧ Nice2 g ∧ Nice2 h ∧ g ≠ h ∧
  ∀ q H' C z, Same H H' → H' q = some (.lst (iV (C ++ [z]))) → act (C ++ [z]) g = (1, 0) → 0 ≤ (act (C ++ [z]) h).1 ∧ (act (C ++ [z]) h).1 < (act (C ++ [z]) h).2 → sab (C ++ [z]) ≤ 1000 → (C ++ [z]).length ≤ 1000 → Q (.ref q) H'
def spIsPair : Sp := fun vs H Q _ => ∃ (p : Addr) (g h : Fr), vs = [.ref p] ∧ PairAt H p g h ∧ IsF g ∧ IsF h ∧ ∀ H', Same H H' → Q (.bl true) H'
/-- what a Led, a Parts must hold -/
def LedOk (u : List Nat) (g h g' h' : Fr) : Prop := IsW u ∧ u.length ≤ 10000 ∧ walk u g = g' ∧ walk u h = h'
def inU (f : Fr) : Prop := 0 ≤ f.1 ∧ f.1 < f.2
def PartsOk (u v : List Nat) (g h g' h' : Fr) : Prop := IsW u ∧ IsW v ∧ u.length ≤ 10000 ∧ v.length ≤ 10000 ∧ walk u g = (1, 0) ∧ walk v g' = (1, 0) ∧ inU (walk u h) ∧ inU (walk v h') ∧ walk u h ≠ walk v h'
def LedAt (C : Addr) (H : Hp) (o : Addr) (u : List Nat) : Prop := ∃ dx, H o = some (.ins C dx [("word", .str (S u))])
def PartsAt (C : Addr) (H : Hp) (o : Addr) (u v : List Nat) : Prop := ∃ dx, H o = some (.ins C dx [("there", .str (S u)), ("back", .str (S v))])
def spLed (CL CP : Addr) : Sp := fun vs H Q _ => ∃ (p r : Addr) (g h g' h' : Fr), vs = [.ref p, .ref r] ∧ PairAt H p g h ∧ PairAt H r g' h' ∧ Nice2 g ∧ Nice2 h ∧ Nice2 g' ∧ Nice2 h' ∧ g ≠ h ∧ g' ≠ h' ∧
  (∀ o H' u, Same H H' → LedAt CL H' o u → LedOk u g h g' h' → Q (.ref o) H') ∧ (∀ o H' u v, Same H H' → PartsAt CP H' o u v → PartsOk u v g h g' h' → Q (.ref o) H')
def ppb (u : List Nat) (g h : Fr) : Bool := decide (walk u g = (1, 0)) && (decide (0 ≤ (walk u h).1) && decide ((walk u h).1 < (walk u h).2))
def spPartsPair : Sp := fun vs H Q _ => ∃ (u : List Nat) (p : Addr) (g h : Fr), vs = [.str (S u), .ref p] ∧ PairAt H p g h ∧ ∀ H', Same H H' → Q (.bl (ppb u g h)) H'
def spLedShows (C : Addr) : Sp := fun vs H Q _ => ∃ (o p r : Addr) (u : List Nat) (g h g' h' : Fr), vs = [.ref o, .ref p, .ref r] ∧ LedAt C H o u ∧ PairAt H p g h ∧ PairAt H r g' h' ∧ ∀ H', Same H H' → Q (.bl (decide (walk u g = g') && decide (walk u h = h'))) H'
def spPartsShows (C : Addr) : Sp := fun vs H Q _ => ∃ (o p r : Addr) (u v : List Nat) (g h g' h' : Fr), vs = [.ref o, .ref p, .ref r] ∧ PartsAt C H o u v ∧ PairAt H p g h ∧ PairAt H r g' h' ∧ ∀ H', Same H H' → Q (.bl (ppb u g h && (ppb v g' h' && !decide (walk u h = walk v h')))) H'
/-- __init__ with two fields -/
def spInit2 (C : Addr) (f1 f2 : Str) : Sp := fun vs H Q _ => ∃ o dx v1 v2, vs = [.ref o, v1, v2] ∧ H o = some (.ins C dx []) ∧ Q .non (upd H o (.ins C dx [(f1, v1), (f2, v2)]))
def spLPairs (K : PySem.W.Frag) : Sp := fun vs H Q _ => ∃ (a : Addr) (ns : List Int), vs = [.ref a] ∧ SqL K H a (ns.map V.int) ∧ ns.length ≤ 63 ∧
  ∀ t p r g h g' h' H', Same H H' → H' t = some (.tup [.ref p, .ref r]) → PairAt H' p g h → PairAt H' r g' h' → Nice2 g → Nice2 h → Nice2 g' → Nice2 h' → g ≠ h → g' ≠ h' → Q (.ref t) H'
def spRight6 (CL CP : Addr) : Sp := fun vs H Q _ => ∃ (p r o : Addr) (g h g' h' : Fr), vs = [.ref p, .ref r, .ref o] ∧ PairAt H p g h ∧ PairAt H r g' h' ∧
  ((∃ u, LedAt CL H o u ∧ LedOk u g h g' h') ∨ ∃ u v, PartsAt CP H o u v ∧ PartsOk u v g h g' h') ∧ ∀ H', Same H H' → Q (.bl true) H'
end TX

set_option Elab.async false
set_option linter.all false
set_option maxRecDepth 100000
set_option maxHeartbeats 4000000
namespace K06
open PySem L2 TW TX
seal L2.PE L2.PT L2.PA L2.PS L2.PSs L2.PI L2.PG L2.PGs L2.PW L2.PTs L2.PO
def top (i : Nat) : Stmt := PySem.Challenge.pw_twistturn_k06_whole_led.main.body.getD i (.Pass ⟨0, 0, 0, 0⟩)
def meth (i j : Nat) : Stmt := match top i with | .ClassDef _ _ _ b _ _ _ _ _ _ _ => b.getD j (.Pass ⟨0, 0, 0, 0⟩) | s => s
section
variable {P : Program} {w : World} {K : PySem.W.Frag} {mg : Str → Option Value} {base : Heap} {f : Addr} {fd : FuncData} {k : Nat}
abbrev s_is_whole : Stmt := top 11
theorem sc_is_whole : FnScope ["value"] ["value"] (defScope s_is_whole) := ⟨rfl, rfl, rfl, by decide +kernel, rfl, by decide +kernel, by decide +kernel⟩
theorem ok_is_whole (G : Glo mg) (F : Fun K "is_whole" "is_whole" s_is_whole f fd) : FnOk P w K mg base CX0 (k + 1) f fd ["value"] spWhole := by
  refine F.ok sc_is_whole (fun vs H Q E h => ?_) (fun cdv A outer s H vs Q E hr h => ?_)
  · obtain ⟨i, rfl, _⟩ := h; rfl
  obtain ⟨i, rfl, q⟩ := h
  refine ⟨_, (pss_one (ps_ret (pe_and (pe_callB (call_isiK (K := K) rfl) rfl G.n_isinstance bt_isinstance (pa_cons (pv 0) (pa_cons (pe_bltn (v := .ty "int") rfl G.n_int bt_int rfl) pa_nil))) (pe_one (pe_not (pe_callB (call_isiK (K := K) rfl) rfl G.n_isinstance bt_isinstance (pa_cons (pv 0) (pa_cons (pe_bltn (v := .ty "bool") rfl G.n_bool bt_bool rfl) pa_nil)))))))), ?_⟩
  refine ⟨_, rfl, _, _, _, _, rfl, .int i, kit_same "int", _, rfl, ?_⟩
  refine iteT ?_
  exact ⟨_, rfl, _, _, _, _, rfl, .int i, kit_int_bool, _, rfl, q⟩

abbrev s_common_divisor : Stmt := top 13
theorem sc_common_divisor : FnScope ["one", "other", "larger", "smaller", "rest"] ["one", "other"] (defScope s_common_divisor) := ⟨rfl, rfl, rfl, by decide +kernel, rfl, by decide +kernel, by decide +kernel⟩
theorem ok_common_divisor (F : Fun K "common_divisor" "common_divisor" s_common_divisor f fd) : FnOk P w K mg base CX0 (k + 1) f fd ["one", "other"] spGcd := by
  refine F.ok sc_common_divisor (fun vs H Q E h => ?_) (fun cdv A outer s H vs Q E hr h => ?_)
  · obtain ⟨a, b, rfl, _⟩ := h; rfl
  obtain ⟨a, b, rfl, ha, hb, q⟩ := h
  have nd := sc_common_divisor.nd
  have hu := hr.units
  refine ⟨_, (pss_cons (ps_set (i := 2) nd rfl (Or.inl rfl) (pv 0))
      (pss_cons (ps_set (i := 3) nd rfl (Or.inl rfl) (pv 1))
      (pss_cons (ps_while PassesOwn.never (pt_cmpR (op_neeK (K := K) hu rfl) (pv 3) pe_int (nomark _)) (pss_cons (ps_set (i := 4) nd rfl (Or.inl rfl) (pe_op op_mod (pv 2) (pv 3)))
      (pss_cons (ps_set (i := 2) nd rfl (Or.inl rfl) (pv 3))
      (pss_one (ps_set (i := 3) nd rfl (Or.inl rfl) (pv 4))))))
      (pss_one (ps_ret (pv 2)))))), ?_⟩
  refine ⟨_, rfl, _, rfl, ?_⟩
  refine while_by (fun σ' H' => H' = H ∧ ∃ (x y : Int) (r : Option V), σ' = [some (.int a), some (.int b), some (.int x), some (.int y), r] ∧ 0 ≤ x ∧ 0 ≤ y ∧ Int.gcd x y = Int.gcd a b) (fun σ' _ => match σ' with | [_, _, _, some (.int y), _] => y.toNat | _ => 0) ⟨rfl, a, b, _, rfl, ha, hb, rfl⟩ ?_ ?_
  · rintro σ' H' ⟨rfl, x, y, r, rfl, hx, hy, hg⟩
    refine ⟨_, rfl, .inl ⟨rfl, _, rfl, ?_⟩⟩
    by_cases hy0 : y = 0
    · subst hy0
      refine iteF ?_
      refine ⟨_, rfl, ?_⟩
      have e : x = ((Int.gcd a b : Nat) : Int) := by
        rw [← hg, Int.gcd_zero_right]
        omega
      rw [e]
      exact q
    · have c : (!decide (V.int y = V.int 0)) = true := by simp [hy0]
      show if (!decide (V.int y = V.int 0)) = true then _ else _
      rw [if_pos c]
      refine ⟨_, rfl, _, rfl, _, _, rfl, rfl, (by omega), _, rfl, _, rfl, ⟨rfl, y, x % y, _, rfl, hy, Int.emod_nonneg _ hy0, ?_⟩, ?_⟩
      · rw [gcd_turn hx (by omega)]; exact hg
      · have := Int.emod_lt_of_pos x (show 0 < y by omega)
        have := Int.emod_nonneg x hy0
        show (x % y).toNat < y.toNat
        omega
  · intro σ' H' R R' hR z
    obtain ⟨v, e, z⟩ := z
    refine ⟨v, e, ?_⟩
    rcases z with ⟨z1, k, z2, z3⟩ | ⟨dx, dy, z1, z2, z3, k, z4, z5⟩
    · exact .inl ⟨z1, k, z2, hR _ _ z3⟩
    · exact .inr ⟨dx, dy, z1, z2, z3, k, z4, hR _ _ z5⟩

abbrev s_is_fraction : Stmt := top 14
theorem sc_is_fraction : FnScope ["value", "a", "b"] ["value"] (defScope s_is_fraction) := ⟨rfl, rfl, rfl, by decide +kernel, rfl, by decide +kernel, by decide +kernel⟩
theorem ok_is_fraction (G : Glo mg) (F : Fun K "is_fraction" "is_fraction" s_is_fraction f fd) (c_is_whole : Callee P w K mg base k "is_whole" ["value"] spWhole) (c_common_divisor : Callee P w K mg base k "common_divisor" ["one", "other"] spGcd) : FnOk P w K mg base CX0 (k + 1) f fd ["value"] spFrac := by
  refine F.ok sc_is_fraction (fun vs H Q E h => ?_) (fun cdv A outer s H vs Q E hr h => ?_)
  · obtain ⟨p, g, rfl, _⟩ := h; rfl
  obtain ⟨p, g, rfl, hp, hg, q⟩ := h
  have nd := sc_is_fraction.nd
  have hu := hr.units
  obtain ⟨a, b⟩ := g
  have hp' : H p = some (.tup [.int a, .int b]) := hp
  refine ⟨_, (pss_cons (ps_if (PW.pt (pw_or (pt_not (pt_val (pe_callB (call_isiK (K := K) rfl) rfl G.n_isinstance bt_isinstance (pa_cons (pv 0) (pa_cons (pe_bltn (v := .ty "tuple") rfl G.n_tuple bt_tuple rfl) pa_nil))))) (pw_or1 (pt_cmpR op_ne (pe_callB (call_lenK (K := K) rfl) rfl G.n_len bt_len (pa_cons (pv 0) pa_nil)) pe_int (nomark _))))) (pss_one (ps_ret pe_bl)) pss_nil)
      (pss_cons (ps_set (i := 1) nd rfl (Or.inl rfl) (pe_ix (ix_tupK (K := K) rfl) (pv 0) pe_int (fun _ _ => rfl)))
      (pss_cons (ps_set (i := 2) nd rfl (Or.inl rfl) (pe_ix (ix_tupK (K := K) rfl) (pv 0) pe_int (fun _ _ => rfl)))
      (pss_cons (ps_if (PW.pt (pw_or (pt_not (pt_val (pe_calls c_is_whole hr rfl (pa_cons (pv 1) pa_nil)))) (pw_or1 (pt_not (pt_val (pe_calls c_is_whole hr rfl (pa_cons (pv 2) pa_nil))))))) (pss_one (ps_ret pe_bl)) pss_nil)
      (pss_cons (ps_if (pt_cmpR op_eq (pv 2) pe_int (nomark _)) (pss_one (ps_ret (pe_cmpR op_eq (pv 1) pe_int (nomark _)))) pss_nil)
      (pss_one (ps_ret (pe_and (pe_cmpR op_gt (pv 2) pe_int (nomark _)) (pe_one (pe_cmpR op_eq (pe_calls c_common_divisor hr rfl (pa_cons (pe_callB call_abs rfl G.n_abs bt_abs (pa_cons (pv 1) pa_nil)) (pa_cons (pv 2) pa_nil))) pe_int (nomark _))))))))))), ?_⟩
  refine ⟨_, rfl, _, _, _, _, rfl, .tup hp', kit_same "tuple", _, rfl, ?_⟩
  refine iteF ?_
  refine ⟨_, rfl, .ref p, 2, rfl, ?len, ⟨rfl, _, rfl, ?_⟩⟩
  case len => exact .inr ⟨_, SqT.of hp', rfl⟩
  refine iteF ?_
  refine ⟨_, rfl, ⟨p, _, 0, .int a, rfl, rfl, SqT.of hp', rfl, ?_⟩⟩
  refine ⟨_, rfl, ⟨p, _, 1, .int b, rfl, rfl, SqT.of hp', rfl, ?_⟩⟩
  refine ⟨_, rfl, _, rfl, _, rfl, ?_⟩
  refine iteF ?_
  refine ⟨_, rfl, _, rfl, _, rfl, ?_⟩
  refine iteF ?_
  refine ⟨_, rfl, ⟨rfl, _, rfl, ?_⟩⟩
  refine ite2 (fun c => ?_) (fun c => ?_)
  · have hb : b = 0 := by simpa using c
    rcases hg with ⟨h1, h2⟩ | ⟨h1, h2⟩
    · refine ⟨_, rfl, ⟨rfl, ?_⟩⟩
      have ha : a = 1 := h1
      subst ha
      exact q _ (Same.refl _)
    · have h1' : 0 < b := h1
      omega
  · have hb : b ≠ 0 := by simpa using c
    rcases hg with ⟨h1, h2⟩ | ⟨h1, h2⟩
    · exact absurd h2 hb
    · have h1' : 0 < b := h1
      refine ⟨_, rfl, _, _, rfl, rfl, _, rfl, ?_⟩
      have c2 : decide ((0 : Int) < b) = true := decide_eq_true h1'
      show if decide ((0 : Int) < b) = true then _ else _
      rw [if_pos c2]
      refine ⟨_, rfl, _, rfl, _, rfl, _, _, rfl, abs_nonneg a, by omega, ⟨rfl, ?_⟩⟩
      rw [gcd_abs]
      have e : Int.gcd a b = 1 := h2
      rw [e]
      exact q _ (Same.refl _)

abbrev s_turned : Stmt := top 16
theorem sc_turned : FnScope ["a", "b"] ["a", "b"] (defScope s_turned) := ⟨rfl, rfl, rfl, by decide +kernel, rfl, by decide +kernel, by decide +kernel⟩
theorem ok_turned (F : Fun K "turned" "turned" s_turned f fd) : FnOk P w K mg base CX0 (k + 1) f fd ["a", "b"] spTurned := by
  refine F.ok sc_turned (fun vs H Q E h => ?_) (fun cdv A outer s H vs Q E hr h => ?_)
  · obtain ⟨g, rfl, _⟩ := h; rfl
  obtain ⟨g, rfl, q⟩ := h
  refine ⟨_, (pss_cons (ps_if (pt_cmpR op_gt (pv 0) pe_int (nomark _)) (pss_one (ps_ret (pe_tup (pa_cons (pe_un un_neg (pv 1)) (pa_cons (pv 0) pa_nil))))) pss_nil)
      (pss_cons (ps_if (pt_cmpR op_lt (pv 0) pe_int (nomark _)) (pss_one (ps_ret (pe_tup (pa_cons (pv 1) (pa_cons (pe_un un_neg (pv 0)) pa_nil))))) pss_nil)
      (pss_one (ps_ret (pe_tup (pa_cons pe_int (pa_cons pe_int pa_nil))))))), ?_⟩
  refine ⟨_, rfl, _, _, rfl, rfl, _, rfl, ?_⟩
  refine ite2 (fun c => ?_) (fun c => ?_)
  · have c' : 0 < g.1 := of_decide_eq_true c
    refine ⟨_, rfl, _, rfl, _, rfl, two_ok, fun p hp => q p _ (same_new hp _) ?_⟩
    rw [upd_same, mv_r, if_pos c']
    rfl
  · have c' : ¬ 0 < g.1 := of_decide_eq_false (Bool.eq_false_iff.mpr c)
    refine ⟨_, rfl, _, _, rfl, rfl, _, rfl, ?_⟩
    refine ite2 (fun d => ?_) (fun d => ?_)
    · have d' : g.1 < 0 := of_decide_eq_true d
      refine ⟨_, rfl, _, rfl, _, rfl, two_ok, fun p hp => q p _ (same_new hp _) ?_⟩
      rw [upd_same, mv_r, if_neg c', if_pos d']
      rfl
    · have d' : ¬ g.1 < 0 := of_decide_eq_false (Bool.eq_false_iff.mpr d)
      refine ⟨two_ok, fun p hp => q p _ (same_new hp _) ?_⟩
      rw [upd_same, mv_r, if_neg c', if_neg d']
      rfl

abbrev s_moved : Stmt := top 17
theorem sc_moved : FnScope ["letter", "a", "b"] ["letter", "a", "b"] (defScope s_moved) := ⟨rfl, rfl, rfl, by decide +kernel, rfl, by decide +kernel, by decide +kernel⟩
theorem ok_moved (F : Fun K "moved" "moved" s_moved f fd) (c_turned : Callee P w K mg base k "turned" ["a", "b"] spTurned) : FnOk P w K mg base CX0 (k + 1) f fd ["letter", "a", "b"] spMoved := by
  refine F.ok sc_moved (fun vs H Q E h => ?_) (fun cdv A outer s H vs Q E hr h => ?_)
  · obtain ⟨c, g, rfl, _⟩ := h; rfl
  obtain ⟨c, g, rfl, q⟩ := h
  have hu := hr.units
  refine ⟨_, (pss_cons (ps_if (pt_cmpR op_eq (pv 0) pe_str (nomark _)) (pss_one (ps_ret (pe_tup (pa_cons (pe_op op_plus (pv 1) (pv 2)) (pa_cons (pv 2) pa_nil))))) pss_nil)
      (pss_cons (ps_if (pt_cmpR op_eq (pv 0) pe_str (nomark _)) (pss_one (ps_ret (pe_tup (pa_cons (pe_op op_sub (pv 1) (pv 2)) (pa_cons (pv 2) pa_nil))))) pss_nil)
      (pss_one (ps_ret (pe_calls c_turned hr rfl (pa_cons (pv 1) (pa_cons (pv 2) pa_nil))))))), ?_⟩
  refine ⟨_, rfl, ⟨rfl, _, rfl, ?_⟩⟩
  rw [eq_sign c 116 _ lit_t]
  refine ite2 (fun e => ?_) (fun e => ?_)
  · have e' : c = 116 := of_decide_eq_true e
    refine ⟨_, rfl, _, rfl, .inl ⟨_, _, rfl, rfl, _, rfl, two_ok, fun p hp => q p _ (same_new hp _) ?_⟩⟩
    rw [upd_same, mv, if_pos e']
    rfl
  · have e' : ¬ c = 116 := of_decide_eq_false (Bool.eq_false_iff.mpr e)
    refine ⟨_, rfl, ⟨rfl, _, rfl, ?_⟩⟩
    rw [eq_sign c 117 _ lit_u]
    refine ite2 (fun d => ?_) (fun d => ?_)
    · have d' : c = 117 := of_decide_eq_true d
      refine ⟨_, rfl, _, rfl, _, _, rfl, rfl, _, rfl, two_ok, fun p hp => q p _ (same_new hp _) ?_⟩
      rw [upd_same, mv, if_neg e', if_pos d']
      rfl
    · have d' : ¬ c = 117 := of_decide_eq_false (Bool.eq_false_iff.mpr d)
      refine ⟨_, rfl, _, rfl, g, rfl, fun p H' hs hp => q p H' hs ?_⟩
      rw [hp, mv_r, mv, if_neg e', if_neg d']

abbrev s_follow : Stmt := top 18
theorem sc_follow : FnScope ["word", "fraction", "here", "letter"] ["word", "fraction"] (defScope s_follow) := ⟨rfl, rfl, rfl, by decide +kernel, rfl, by decide +kernel, by decide +kernel⟩
theorem ok_follow (F : Fun K "follow" "follow" s_follow f fd) (c_moved : Callee P w K mg base k "moved" ["letter", "a", "b"] spMoved) : FnOk P w K mg base CX0 (k + 1) f fd ["word", "fraction"] (spFollowK K) := by
  refine F.ok sc_follow (fun vs H Q E h => ?_) (fun cdv A outer s H vs Q E hr h => ?_)
  · obtain ⟨u, p, g, rfl, _⟩ := h; rfl
  obtain ⟨u, p, g, rfl, hp, q⟩ := h
  have nd := sc_follow.nd
  refine ⟨_, (pss_cons (ps_set (i := 2) nd rfl (Or.inl rfl) (pe_tup (pa_cons (pe_ix (ix_tupK (K := K) rfl) (pv 1) pe_int (fun _ _ => rfl)) (pa_cons (pe_ix (ix_tupK (K := K) rfl) (pv 1) pe_int (fun _ _ => rfl)) pa_nil))))
      (pss_cons (ps_for PassesOwn.never rfl (pi_str (pv 0)) (pg_name (i := 3) nd rfl (Or.inl rfl)) (pss_one (ps_set (i := 2) nd rfl (Or.inl rfl) (pe_calls c_moved hr rfl (pa_cons (pv 3) (pa_cons (pe_ix (ix_tupK (K := K) rfl) (pv 2) pe_int (fun _ _ => rfl)) (pa_cons (pe_ix (ix_tupK (K := K) rfl) (pv 2) pe_int (fun _ _ => rfl)) pa_nil)))))))
      (pss_one (ps_ret (pv 2))))), ?_⟩
  refine ⟨_, rfl, ⟨p, _, 0, .int g.1, rfl, rfl, hp, rfl, ?_⟩⟩
  refine ⟨_, rfl, ⟨p, _, 1, .int g.2, rfl, rfl, hp, rfl, ?_⟩⟩
  refine ⟨two_ok, fun r hr' => ?_⟩
  refine ⟨_, rfl, _, rfl, ?_⟩
  refine for_on (Ok := fun _ => True) ItOn.str (fun i σ' H' => Same H H' ∧ ∃ t l, σ' = [some (.str (S u)), some (.ref p), some (.ref t), l] ∧ H' t = some (fT (walk (u.take i) g))) ⟨same_new hr' _, r, _, rfl, upd_same⟩ (fun _ _ _ _ _ => trivial) ?_ ?_
  · rintro i x σ' H' hx ⟨hs, t, l, rfl, ht⟩
    obtain ⟨c, hc, rfl⟩ := sg_at hx
    have ht' : H' t = some (.tup [.int (walk (u.take i) g).1, .int (walk (u.take i) g).2]) := ht
    refine ⟨_, rfl, _, rfl, ⟨t, _, 0, _, rfl, rfl, SqT.of ht', rfl, ?_⟩⟩
    refine ⟨_, rfl, ⟨t, _, 1, _, rfl, rfl, SqT.of ht', rfl, ?_⟩⟩
    refine ⟨c, walk (u.take i) g, rfl, fun p2 H2 hs2 hp2 => ⟨hs.trans hs2, p2, _, rfl, ?_⟩⟩
    rw [take_snoc hc, walk_snoc]
    exact hp2
  · rintro σ' H' ⟨hs, t, l, rfl, ht⟩
    refine ⟨_, rfl, q t H' hs ?_⟩
    rw [ht, sg_S, List.length_map, List.take_length]

abbrev s_letters_of : Stmt := top 32
theorem sc_letters_of : FnScope ["run"] ["run"] (defScope s_letters_of) := ⟨rfl, rfl, rfl, by decide +kernel, rfl, by decide +kernel, by decide +kernel⟩
theorem ok_letters_of (F : Fun K "letters_of" "letters_of" s_letters_of f fd) : FnOk P w K mg base CX0 (k + 1) f fd ["run"] spLettersOf := by
  refine F.ok sc_letters_of (fun vs H Q E h => ?_) (fun cdv A outer s H vs Q E hr h => ?_)
  · obtain ⟨i, rfl, _⟩ := h; rfl
  obtain ⟨i, rfl, hi, q⟩ := h
  refine ⟨_, (pss_cons (ps_if (pt_cmpR op_lt (pv 0) pe_int (nomark _)) (pss_one (ps_ret (pe_op op_mulS1 pe_str (pe_un un_neg (pv 0))))) pss_nil)
      (pss_one (ps_ret (pe_op op_mulS1 pe_str (pv 0))))), ?_⟩
  refine ⟨_, rfl, _, _, rfl, rfl, _, rfl, ?_⟩
  refine ite2 (fun c => ?_) (fun c => ?_)
  · have c' : i < 0 := of_decide_eq_true c
    refine ⟨_, rfl, _, rfl, _, _, rfl, rfl, by omega, by omega, by decide, ?_⟩
    rw [times_lts_u c']
    exact q
  · have c' : ¬ i < 0 := of_decide_eq_false (Bool.eq_false_iff.mpr c)
    refine ⟨_, rfl, _, _, rfl, rfl, by omega, by omega, by decide, ?_⟩
    rw [times_lts_t c']
    exact q

abbrev s_spelled : Stmt := top 33
theorem sc_spelled : FnScope ["runs"] ["runs"] (defScope s_spelled) := ⟨rfl, rfl, rfl, by decide +kernel, rfl, by decide +kernel, by decide +kernel⟩
theorem ok_spelled (F : Fun K "spelled" "spelled" s_spelled f fd) (c_letters_of : Callee P w K mg base k "letters_of" ["run"] spLettersOf) : FnOk P w K mg base CX0 (k + 1) f fd ["runs"] spSpelled := by
  refine F.ok sc_spelled (fun vs H Q E h => ?_) (fun cdv A outer s H vs Q E hr h => ?_)
  · obtain ⟨a, ks, rfl, _⟩ := h; rfl
  obtain ⟨a, ks, rfl, ha, h1, h2, q⟩ := h
  refine ⟨_, (pss_one (ps_ret (pe_bm PySem.F.plainAttrs_str PySem.F.slot_str_join PySem.F.type_str_join mt_join pe_str (pa_cons (pe_lc (ys := []) (js := []) rfl (LcS.to (os := defScope s_spelled) ⟨rfl, by decide +kernel, by decide +kernel, rfl, by decide +kernel, by decide +kernel, by decide +kernel⟩ rfl rfl) (pi_list (pv 0)) (fun _ _ _ _ => pts_none) (fun _ _ _ _ => (pe_calls c_letters_of hr rfl (pa_cons (pv 0) pa_nil)))) pa_nil)))), ?_⟩
  refine ⟨rfl, _, rfl, a, rfl, ⟨_, SqL.of ha⟩, ?_⟩
  refine lc_y ItOn.list (fun x => match x with | .int k => V.str (S (lts k)) | z => z) (SqL.of ha) (by rw [iV_len]; exact big (by omega)) (fun i x Q' hx hq => ?_) (fun p hp => ?_)
  · unfold iV at hx
    rw [List.getElem?_map] at hx
    cases e : ks[i]? with
    | none => rw [e] at hx; cases hx
    | some k =>
      rw [e] at hx
      cases hx
      have := sab_mem (List.mem_of_getElem? e)
      exact ⟨_, rfl, k, rfl, by omega, hq⟩
  · have e : (iV ks).map (fun x => match x with | .int k => V.str (S (lts k)) | z => z) = (ks.map fun k => S (lts k)).map V.str := by
      unfold iV
      rw [List.map_map, List.map_map]
      rfl
    rw [e]
    refine ⟨_, p, _, rfl, rfl, SqL.of upd_same, ?_, ?_⟩
    · rw [sum_lts, List.length_map]
      show sab ks + ks.length * 1 ≤ _
      omega
    · rw [join_spell]
      exact q _ (same_new hp _)

abbrev s_backwards : Stmt := top 35
theorem sc_backwards : FnScope ["runs"] ["runs"] (defScope s_backwards) := ⟨rfl, rfl, rfl, by decide +kernel, rfl, by decide +kernel, by decide +kernel⟩
theorem ok_backwards (G : Glo mg) (F : Fun K "backwards" "backwards" s_backwards f fd) : FnOk P w K mg base CX0 (k + 1) f fd ["runs"] spBackwards := by
  refine F.ok sc_backwards (fun vs H Q E h => ?_) (fun cdv A outer s H vs Q E hr h => ?_)
  · obtain ⟨a, ks, rfl, _⟩ := h; rfl
  obtain ⟨a, ks, rfl, ha, h2, q⟩ := h
  refine ⟨_, (pss_one (ps_ret (pe_lc (ys := []) (js := []) rfl (LcS.to (os := defScope s_backwards) ⟨rfl, by decide +kernel, by decide +kernel, rfl, by decide +kernel, by decide +kernel, by decide +kernel⟩ rfl rfl) (pi_revl rfl G.n_reversed (pa_cons (pv 0) pa_nil)) (fun _ _ _ _ => pts_none) (fun _ _ _ _ => (pe_un un_neg (pv 0)))))), ?_⟩
  refine ⟨_, rfl, a, _, rfl, SqL.of ha, ?_⟩
  refine lc_y ItOn.revl (fun x => match x with | .int k => V.int (-k) | z => z) (SqL.of ha) (by rw [List.length_reverse, iV_len]; exact big (by omega)) (fun i x Q' hx hq => ?_) (fun p hp => ?_)
  · have hm : x ∈ iV ks := List.mem_reverse.mp (List.mem_of_getElem? hx)
    unfold iV at hm
    obtain ⟨k, hk, rfl⟩ := List.mem_map.mp hm
    exact ⟨_, rfl, _, rfl, hq⟩
  · refine q p _ (same_new hp _) ?_
    rw [upd_same]
    unfold iV bw
    rw [← List.map_reverse, List.map_map, List.map_map]
    rfl

end
end K06

set_option Elab.async false
set_option linter.all false
set_option maxRecDepth 100000
set_option maxHeartbeats 4000000
namespace K06
open PySem L2 TW TX
seal L2.PE L2.PT L2.PA L2.PS L2.PSs L2.PI L2.PG L2.PGs L2.PW L2.PTs L2.PO
section
variable {P : Program} {w : World} {K : PySem.W.Frag} {mg : Str → Option Value} {base : Heap} {f : Addr} {fd : FuncData} {k : Nat}
abbrev s_joined : Stmt := top 36
theorem sc_joined : FnScope ["one", "other", "ahead", "run", "taken"] ["one", "other"] (defScope s_joined) := ⟨rfl, rfl, rfl, by decide +kernel, rfl, by decide +kernel, by decide +kernel⟩
theorem ok_joined (G : Glo mg) (F : Fun K "joined" "joined" s_joined f fd) : FnOk P w K mg base CX0 (k + 1) f fd ["one", "other"] spJoined := by
  refine F.ok sc_joined (fun vs H Q E h => ?_) (fun cdv A outer s H vs Q E hr h => ?_)
  · obtain ⟨a, b, A, x, y, B, rfl, _⟩ := h; rfl
  obtain ⟨a, b, A, x, y, B, rfl, ha, hb, lA, lB, q⟩ := h
  have nd := sc_joined.nd
  have hu := hr.units
  refine ⟨_, (pss_cons (ps_set (i := 2) nd rfl (Or.inl rfl) (pe_callTy call_list_of rfl G.n_list bt_list (pa_cons (pv 0) pa_nil)))
      (pss_cons (ps_set (i := 3) nd rfl (Or.inl rfl) (pe_op op_plus (pe_bm0 PySem.F.plainAttrs_list PySem.F.slot_list_pop PySem.F.type_list_pop mt_pop (pv 2)) (pe_ix (ix_anyK (K := K) (Pm := w.params) rfl rfl) (pv 1) pe_int (fun _ _ => rfl))))
      (pss_cons (ps_set (i := 4) nd rfl (Or.inl rfl) pe_int)
      (pss_cons (ps_while PassesOwn.never (PW.pt (pw_and (pt_cmpR op_eq (pv 3) pe_int (nomark _)) (pw_and (pt_truth (pv 2) (fun _ => rfl)) (pw_and1 (pt_cmpR op_lt (pv 4) (pe_callB (call_lenK (K := K) rfl) rfl G.n_len bt_len (pa_cons (pv 1) pa_nil)) (nomark _)))))) (pss_cons (ps_set (i := 3) nd rfl (Or.inl rfl) (pe_op op_plus (pe_bm0 PySem.F.plainAttrs_list PySem.F.slot_list_pop PySem.F.type_list_pop mt_pop (pv 2)) (pe_ix (ix_anyK (K := K) (Pm := w.params) rfl rfl) (pv 1) (pv 4) (fun _ _ => rfl))))
      (pss_one (ps_aug (i := 4) nd rfl (Or.inl rfl) pe_int ip_add (Or.inl rfl)))))
      (pss_one (ps_ret (pe_op op_plusL (pe_op op_plusL (pv 2) (pe_lst (pa_cons (pv 3) pa_nil))) (pe_slice (sl_any (K := K) rfl) (pv 1) (po_some (pv 4)) po_none)))))))), ?_⟩
  have hbo : ∀ {H'}, Same H H' → H' b = some (.lst (iV (y :: B))) := fun s => s _ _ hb
  refine ⟨_, rfl, a, _, rfl, .inl (SqL.of ha), fun l hl => ?_⟩
  have hla : iV (A ++ [x]) = iV A ++ [.int x] := iV_append _ _
  refine ⟨_, rfl, .inl ⟨rfl, _, SqL.of upd_same⟩, l, _, .int x, rfl, rfl, upd_same, ?_, ?_⟩
  · rw [hla, List.length_append]
    simp
  rw [upd_upd, hla, List.dropLast_concat]
  have s1 : Same H (upd H l (.lst (iV A))) := same_new hl _
  refine ⟨_, rfl, .inl (.inl ⟨b, _, 0, .int y, rfl, rfl, SqL.of (hbo s1), atI_zero rfl, ?_⟩)⟩
  refine .inl ⟨_, _, rfl, rfl, ?_⟩
  refine while_by (fun σ' H' => Same H H' ∧ ∃ (C : List Int) (z : Int) (n : Nat), σ' = [some (.ref a), some (.ref b), some (.ref l), some (.int z), some (.int n)] ∧ H' l = some (.lst (iV C)) ∧ 1 ≤ n ∧ n ≤ (y :: B).length ∧
      (∀ f, IsF f → act (C ++ z :: (y :: B).drop n) f = act (y :: B) (act (A ++ [x]) f)) ∧ sab C + z.natAbs + sab ((y :: B).drop n) ≤ sab (A ++ [x]) + sab (y :: B) ∧ C.length ≤ A.length)
    (fun σ' _ => match σ' with | [_, _, _, _, some (.int n)] => ((y :: B).length - n).toNat | _ => 0) ⟨s1, A, x + y, 1, rfl, upd_same, Nat.le_refl _, by simp, fun f hf => ?_, ?_, Nat.le_refl _⟩ ?_
    (mo_and (mo_test (mo_op mo_eq mo_var mo_c)) (mo_and (mo_truth mo_var) (mo_test (mo_op mo_rI0 mo_var (mo_len (mo_cons mo_var mo_nil))))))
  · rw [act_mid]
    show post B (sh (x + y) (pre A f)) = post B (sh y (act (A ++ [x]) f))
    rw [act_mid]
    show _ = post B (sh y (sh x (pre A f)))
    rw [sh_sh]
  · show sab A + (x + y).natAbs + sab B ≤ _
    rw [sab_append, sab_cons, sab_cons]
    show _ ≤ sab A + (x.natAbs + 0) + _
    omega
  rintro σ' H' ⟨hs, C, z, n, rfl, hC, n1, n2, hact, hsab, hlen⟩
  refine ev_and (b := decide (V.int z = V.int 0)) (c := (!(iV C).isEmpty) && decide ((n : Int) < ((iV (y :: B)).length : Int))) (fun R r => ⟨_, rfl, ⟨rfl, _, rfl, r⟩⟩) (fun _ => ev_and (fun R r => ⟨_, rfl, _, .inl ⟨_, SqL.of hC, rfl⟩, r⟩) (fun _ R r => ⟨_, rfl, _, rfl, _, _, rfl, .inl ⟨_, SqL.of (hbo hs), rfl⟩, _, _, rfl, rfl, _, rfl, r⟩)) _ ?_
  refine ite2 (fun c => ?_) (fun c => ?_)
  · rw [Bool.and_eq_true, Bool.and_eq_true] at c
    obtain ⟨c1, c2, c3⟩ := c
    have z0 : z = 0 := by simpa using c1
    subst z0
    have cn : C ≠ [] := by
      intro e
      subst e
      cases c2
    have cl : n < (y :: B).length := by
      have := of_decide_eq_true c3
      rw [iV_len] at this
      omega
    obtain ⟨C', v, rfl⟩ : ∃ C' v, C = C' ++ [v] := ⟨C.dropLast, C.getLast cn, (List.dropLast_concat_getLast cn).symm⟩
    have hCa : iV (C' ++ [v]) = iV C' ++ [.int v] := iV_append _ _
    refine ⟨_, rfl, .inl ⟨rfl, _, SqL.of hC⟩, l, _, .int v, rfl, rfl, hC, ?_, ?_⟩
    · rw [hCa, List.length_append]
      simp
    rw [hCa, List.dropLast_concat]
    have s2 : Same H (upd H' l (.lst (iV C'))) := hs.up hl
    have hy : (y :: B)[n]? = some ((y :: B)[n]'cl) := List.getElem?_eq_getElem cl
    have hyV : (iV (y :: B))[n]? = some (.int ((y :: B)[n]'cl)) := by
      unfold iV
      rw [List.getElem?_map, hy]
      rfl
    refine ⟨_, rfl, _, rfl, .inl (.inl ⟨b, _, _, _, rfl, rfl, SqL.of (hbo s2), atI_nat hyV, ?_⟩)⟩
    refine .inl ⟨_, _, rfl, rfl, ?_⟩
    refine ⟨_, rfl, _, _, rfl, rfl, ⟨s2, C', _, n + 1, rfl, upd_same, by omega, cl, fun f hf => ?_, ?_, ?_⟩, ?_⟩
    · rw [← hact f hf, act_mid, act_mid, List.drop_eq_getElem_cons cl, post_cons, sh_zero, pre_snoc, turn_turn (sh_F (pre_F hf)), sh_sh]
    · have e1 : sab (C' ++ [v]) = sab C' + v.natAbs := by rw [sab_append, sab_cons]; rfl
      have e2 : sab ((y :: B).drop n) = ((y :: B)[n]'cl).natAbs + sab ((y :: B).drop (n + 1)) := by rw [List.drop_eq_getElem_cons cl, sab_cons]
      rw [e1, e2] at hsab
      have := Int.natAbs_add_le v ((y :: B)[n]'cl)
      omega
    · rw [List.length_append] at hlen
      simp at hlen
      omega
    · show (((y :: B).length : Int) - ((n : Int) + 1)).toNat < (((y :: B).length : Int) - (n : Int)).toNat
      omega
  · have hcut : cutV (iV (y :: B)) (some (n : Int)) none = iV ((y :: B).drop n) := by
      rw [cut_list_from _ (by rw [iV_len]; exact n2)]
      unfold iV
      rw [List.map_drop]
    refine ⟨_, rfl, _, rfl, ?_⟩
    refine ⟨big (show 1 ≤ 1000000 by decide), fun m hm => ?_⟩
    refine .inr ⟨l, m, iV C, [.int z], rfl, rfl, ?_, upd_same, by rw [iV_len]; exact big (by simp; omega), fun m2 hm2 => ?_⟩
    · rw [upd_ne (ne_of_none hC hm)]; exact hC
    refine ⟨_, rfl, _, rfl, _, rfl, ?_⟩
    have s3 : Same H (upd (upd H' m (.lst [.int z])) m2 (.lst (iV C ++ [.int z]))) := (hs.trans (same_new hm _)).trans (same_new hm2 _)
    refine .inr ⟨b, _, rfl, SqL.of (hbo s3), fun m3 hm3 => ?_⟩
    rw [hcut]
    refine .inr ⟨m2, m3, iV C ++ [.int z], iV ((y :: B).drop n), rfl, rfl, ?_, upd_same, ?_, fun m4 hm4 => ?_⟩
    · rw [upd_ne (ne_of_none upd_same hm3)]; exact upd_same
    · rw [List.length_append, iV_len, iV_len, List.length_drop]
      refine big ?_
      have e : (y :: B).length = B.length + 1 := rfl
      simp only [List.length_cons, List.length_nil]
      omega
    have e5 : iV C ++ [.int z] ++ iV ((y :: B).drop n) = iV (C ++ z :: (y :: B).drop n) := by
      unfold iV
      simp
    refine q m4 _ C z ((y :: B).drop n) ((s3.trans (same_new hm3 _)).trans (same_new hm4 _)) ?_ hact ?_ ?_ ?_
    · rw [upd_same, e5]
    · rw [sab_append, sab_cons]; omega
    · rw [List.length_append, List.length_append, List.length_cons, List.length_cons, List.length_drop]
      simp only [List.length_cons, List.length_nil]
      omega
    · intro e
      subst e
      have : n = 1 := by simp at n2; omega
      subst this
      rfl

abbrev s_runs_to_end : Stmt := top 37
theorem sc_runs_to_end : FnScope ["fraction", "runs", "here", "many", "run"] ["fraction"] (defScope s_runs_to_end) := ⟨rfl, rfl, rfl, by decide +kernel, rfl, by decide +kernel, by decide +kernel⟩
theorem ok_runs_to_end (G : Glo mg) (F : Fun K "runs_to_end" "runs_to_end" s_runs_to_end f fd) (c_turned : Callee P w K mg base k "turned" ["a", "b"] spTurned) : FnOk P w K mg base CX0 (k + 1) f fd ["fraction"] spRuns := by
  refine F.ok sc_runs_to_end (fun vs H Q E h => ?_) (fun cdv A outer s H vs Q E hr h => ?_)
  · obtain ⟨p, g, rfl, _⟩ := h; rfl
  obtain ⟨p, g, rfl, hp, hg, hb, hq, q⟩ := h
  have nd := sc_runs_to_end.nd
  have hu := hr.units
  refine ⟨_, (pss_cons (ps_set (i := 1) nd rfl (Or.inl rfl) (pe_lst pa_nil))
      (pss_cons (ps_set (i := 2) nd rfl (Or.inl rfl) (pv 0))
      (pss_cons (ps_while PassesOwn.never (pt_cmpR op_ne (pe_ix (ix_tupK (K := K) rfl) (pv 2) pe_int (fun _ _ => rfl)) pe_int (nomark _)) (pss_cons (ps_set (i := 3) nd rfl (Or.inl rfl) (pe_op op_fdivL (pe_callB call_abs rfl G.n_abs bt_abs (pa_cons (pe_ix (ix_tupK (K := K) rfl) (pv 2) pe_int (fun _ _ => rfl)) pa_nil)) (pe_ix (ix_tupK (K := K) rfl) (pv 2) pe_int (fun _ _ => rfl))))
      (pss_cons (ps_set (i := 4) nd rfl (Or.inl rfl) (pe_ifExp (pt_cmpR op_lt (pe_ix (ix_tupK (K := K) rfl) (pv 2) pe_int (fun _ _ => rfl)) pe_int (nomark _)) (pv 3) (pe_un un_neg (pv 3))))
      (pss_cons (ps_expr (pe_bm PySem.F.plainAttrs_list PySem.F.slot_list_append PySem.F.type_list_append mt_append (pv 1) (pa_cons (pv 4) pa_nil)))
      (pss_one (ps_set (i := 2) nd rfl (Or.inl rfl) (pe_calls c_turned hr rfl (pa_cons (pe_op op_plus (pe_ix (ix_tupK (K := K) rfl) (pv 2) pe_int (fun _ _ => rfl)) (pe_op op_mul (pv 4) (pe_ix (ix_tupK (K := K) rfl) (pv 2) pe_int (fun _ _ => rfl)))) (pa_cons (pe_ix (ix_tupK (K := K) rfl) (pv 2) pe_int (fun _ _ => rfl)) pa_nil)))))))))
      (pss_one (ps_ret (pe_op op_plusL (pv 1) (pe_lst (pa_cons pe_int pa_nil)))))))), ?_⟩
  refine ⟨big (by decide), fun l hl => ?_⟩
  refine ⟨_, rfl, ?_⟩
  refine while_by (fun σ' H' => Same H H' ∧ ∃ (ks : List Int) (t : Addr) (m r : Option V), σ' = [some (.ref p), some (.ref l), some (.ref t), m, r] ∧ H' l = some (.lst (iV ks)) ∧ H' t = some (fT (pre ks g)) ∧ (pre ks g).2.natAbs ≤ g.2.natAbs ∧
      sab ks + qf (pre ks g) = qf g ∧ ks.length ≤ sab ks + 1 ∧ (ks = [] ∨ (pre ks g).2.natAbs ≤ (pre ks g).1.natAbs))
    (fun σ' H' => match σ' with | [_, _, some (.ref t), _, _] => fb (H' t) | _ => 0)
    ⟨same_new hl _, [], p, _, _, rfl, upd_same, same_new hl _ _ _ hp, Nat.le_refl _, Nat.zero_add _, Nat.zero_le _, .inl rfl⟩ ?_ (mo_test (mo_op mo_ne (mo_op mo_ixT mo_var mo_c) mo_c))
  rintro σ' H' ⟨hs, ks, t, m, r, rfl, hL, ht, hsz, hsum, hlen, hnx⟩
  have hF : IsF (pre ks g) := pre_F hg
  have hks : sab ks ≤ 500 := by omega
  obtain ⟨h, hgg⟩ : ∃ h, h = pre ks g := ⟨_, rfl⟩
  rw [← hgg] at hF ht hsz hsum hnx
  have ht' : H' t = some (.tup [.int h.1, .int h.2]) := ht
  refine ⟨_, rfl, ⟨t, _, 1, .int h.2, rfl, rfl, SqT.of ht', rfl, ⟨rfl, _, rfl, ?_⟩⟩⟩
  by_cases h0 : h.2 = 0
  · have c : (!decide (V.int h.2 = V.int 0)) = false := by simp [h0]
    show if (!decide (V.int h.2 = V.int 0)) = true then _ else _
    rw [if_neg (by rw [c]; exact Bool.false_ne_true)]
    refine ⟨_, rfl, big (by decide), fun m1 hm1 => ?_⟩
    refine .inr ⟨l, m1, iV ks, [.int 0], rfl, rfl, ?_, upd_same, by rw [iV_len]; exact big (by simp; omega), fun m2 hm2 => ?_⟩
    · rw [upd_ne (ne_of_none hL hm1)]; exact hL
    refine q m2 _ ks ((hs.trans (same_new hm1 _)).trans (same_new hm2 _)) ?_ ?_ (by omega) (by omega)
    · rw [upd_same, iV_append]; rfl
    · rw [← hgg]; exact F_fin hF h0
  · have hb0 : 0 < h.2 := F_pos hF h0
    have c : (!decide (V.int h.2 = V.int 0)) = true := by simp [h0]
    show if (!decide (V.int h.2 = V.int 0)) = true then _ else _
    rw [if_pos c]
    obtain ⟨r1, r2, r3, r4⟩ := run_step hb0
    have hlog : h.2.natAbs.log2 < 9000 := log2_lt (Nat.lt_of_lt_of_le (Nat.lt_of_le_of_lt hsz hb) (Nat.pow_le_pow_right (by decide) (by decide))) (by decide)
    refine ⟨_, rfl, ⟨t, _, 0, .int h.1, rfl, rfl, SqT.of ht', rfl, _, rfl, _, rfl, ⟨t, _, 1, .int h.2, rfl, rfl, SqT.of ht', rfl, _, _, rfl, rfl, ⟨hb0, hlog⟩, ?_⟩⟩⟩
    refine ⟨_, rfl, ⟨t, _, 0, .int h.1, rfl, rfl, SqT.of ht', rfl, _, _, rfl, rfl, _, rfl, ?_⟩⟩
    refine pick2 (v := .int (runOf h)) (fun c Q' z => ⟨_, rfl, ?_⟩) (fun c Q' z => ⟨_, rfl, _, rfl, ?_⟩) ?_
    · have e : runOf h = (if h.1 < 0 then -h.1 else h.1) / h.2 := by
        have c' : h.1 < 0 := of_decide_eq_true c
        unfold runOf
        rw [if_pos c']
      rw [e] at z
      exact z
    · have e : runOf h = -((if h.1 < 0 then -h.1 else h.1) / h.2) := by
        have c' : ¬ h.1 < 0 := of_decide_eq_false c
        unfold runOf
        rw [if_neg c']
      rw [e] at z
      exact z
    have hlt : t ≠ l := ne_of ht hL (by intro z; cases z)
    refine ⟨_, rfl, .inl ⟨rfl, _, SqL.of hL⟩, _, rfl, l, _, _, rfl, rfl, hL, by rw [iV_len]; exact Nat.lt_of_lt_of_le (show ks.length < 1000000 by omega) (big (Nat.le_refl _)), ?_⟩
    have ht2 : upd H' l (.lst (iV ks ++ [.int (runOf h)])) t = some (.tup [.int h.1, .int h.2]) := by rw [upd_ne hlt]; exact ht'
    refine ⟨_, rfl, ⟨t, _, 0, .int h.1, rfl, rfl, SqT.of ht2, rfl, ?_⟩⟩
    refine ⟨_, rfl, _, rfl, ⟨t, _, 1, .int h.2, rfl, rfl, SqT.of ht2, rfl, _, _, rfl, rfl, cmul_of (by omega), .inl ⟨_, _, rfl, rfl, ?_⟩⟩⟩
    refine ⟨_, rfl, ⟨t, _, 1, .int h.2, rfl, rfl, SqT.of ht2, rfl, ?_⟩⟩
    refine ⟨sh (runOf h) h, rfl, fun p2 H2 s2 hp2 => ?_⟩
    have epre : pre (ks ++ [runOf h]) g = mv 114 (sh (runOf h) h) := by rw [pre_snoc, ← hgg]
    refine ⟨⟨(hs.up hl).trans s2, ks ++ [runOf h], p2, _, _, rfl, ?_, ?_, ?_, ?_, ?_, ?_⟩, ?_⟩
    · rw [s2 _ _ upd_same, iV_append]; rfl
    · rw [epre]; exact hp2
    · rw [epre]; omega
    · rw [epre, sab_append, sab_cons]
      show sab ks + ((runOf h).natAbs + 0) + _ = _
      omega
    · rw [sab_append, sab_cons, List.length_append]
      show ks.length + 1 ≤ sab ks + ((runOf h).natAbs + 0) + 1
      rcases hnx with e | e
      · subst e
        simp
      · have := r4 e
        omega
    · rw [epre]; exact .inr r3
    · show fb (H2 p2) < fb (H' t)
      rw [hp2, ht]
      exact r2

abbrev s_follow_runs : Stmt := top 34
theorem sc_follow_runs : FnScope ["runs", "fraction", "here", "run"] ["runs", "fraction"] (defScope s_follow_runs) := ⟨rfl, rfl, rfl, by decide +kernel, rfl, by decide +kernel, by decide +kernel⟩
theorem ok_follow_runs (F : Fun K "follow_runs" "follow_runs" s_follow_runs f fd) (c_turned : Callee P w K mg base k "turned" ["a", "b"] spTurned) : FnOk P w K mg base CX0 (k + 1) f fd ["runs", "fraction"] spFollowRuns := by
  refine F.ok sc_follow_runs (fun vs H Q E h => ?_) (fun cdv A outer s H vs Q E hr h => ?_)
  · obtain ⟨a, p, k, ks, g, rfl, _⟩ := h; rfl
  obtain ⟨a, p, k0, ks, g, rfl, ha, hp, hsab, hlen, q⟩ := h
  have nd := sc_follow_runs.nd
  have hp' : H p = some (.tup [.int g.1, .int g.2]) := hp
  refine ⟨_, (pss_cons (ps_set (i := 2) nd rfl (Or.inl rfl) (pe_tup (pa_cons (pe_op op_plusL (pe_ix (ix_anyK (K := K) (Pm := w.params) rfl rfl) (pv 1) pe_int (fun _ _ => rfl)) (pe_op op_mul (pe_ix (ix_anyK (K := K) (Pm := w.params) rfl rfl) (pv 0) pe_int (fun _ _ => rfl)) (pe_ix (ix_anyK (K := K) (Pm := w.params) rfl rfl) (pv 1) pe_int (fun _ _ => rfl)))) (pa_cons (pe_ix (ix_anyK (K := K) (Pm := w.params) rfl rfl) (pv 1) pe_int (fun _ _ => rfl)) pa_nil))))
      (pss_cons (ps_for PassesOwn.never rfl (pi_list (pe_slice (sl_any (K := K) rfl) (pv 0) (po_some pe_int) po_none)) (pg_name (i := 3) nd rfl (Or.inl rfl)) (pss_cons (ps_set (i := 2) nd rfl (Or.inl rfl) (pe_calls c_turned hr rfl (pa_cons (pe_ix (ix_anyK (K := K) (Pm := w.params) rfl rfl) (pv 2) pe_int (fun _ _ => rfl)) (pa_cons (pe_ix (ix_anyK (K := K) (Pm := w.params) rfl rfl) (pv 2) pe_int (fun _ _ => rfl)) pa_nil))))
      (pss_one (ps_set (i := 2) nd rfl (Or.inl rfl) (pe_tup (pa_cons (pe_op op_plusL (pe_ix (ix_anyK (K := K) (Pm := w.params) rfl rfl) (pv 2) pe_int (fun _ _ => rfl)) (pe_op op_mul (pv 3) (pe_ix (ix_anyK (K := K) (Pm := w.params) rfl rfl) (pv 2) pe_int (fun _ _ => rfl)))) (pa_cons (pe_ix (ix_anyK (K := K) (Pm := w.params) rfl rfl) (pv 2) pe_int (fun _ _ => rfl)) pa_nil)))))))
      (pss_one (ps_ret (pv 2))))), ?_⟩
  have hk0 : k0.natAbs ≤ 1000000 := by rw [sab_cons] at hsab; omega
  refine ⟨_, rfl, .inl (.inr (.inl ⟨p, _, 0, .int g.1, rfl, rfl, SqT.of hp', rfl, ?_⟩))⟩
  refine ⟨_, rfl, .inl (.inl ⟨a, _, 0, .int k0, rfl, rfl, SqL.of ha, atI_zero rfl, ?_⟩)⟩
  refine ⟨_, rfl, .inl (.inr (.inl ⟨p, _, 1, .int g.2, rfl, rfl, SqT.of hp', rfl, _, _, rfl, rfl, cmul_of (by omega), .inl (.inl ⟨_, _, rfl, rfl, ?_⟩)⟩))⟩
  refine ⟨_, rfl, .inl (.inr (.inl ⟨p, _, 1, .int g.2, rfl, rfl, SqT.of hp', rfl, ?_⟩))⟩
  refine ⟨two_ok, fun r hr' => ?_⟩
  have s0 : Same H (upd H r (.tup [.int (g.1 + k0 * g.2), .int g.2])) := same_new hr' _
  refine ⟨_, rfl, _, rfl, .inr ⟨a, _, rfl, SqL.of (s0 _ _ ha), fun l hl => ?_⟩⟩
  have e1 : cutV (iV (k0 :: ks)) (some 1) none = iV ks := by
    have := cut_list_from (iV (k0 :: ks)) (n := 1) (by rw [iV_len]; simp)
    exact this
  rw [e1]
  refine ⟨l, rfl, ⟨_, SqL.of upd_same⟩, ?_⟩
  have s1 := same_new (o := .lst (iV ks)) hl
  have eL := @upd_same (upd H r (.tup [.int (g.1 + k0 * g.2), .int g.2])) l (.lst (iV ks))
  have eR := s1 r _ upd_same
  have s01 := s0.trans s1
  generalize upd (upd H r (.tup [.int (g.1 + k0 * g.2), .int g.2])) l (.lst (iV ks)) = H1 at *
  refine for_on (ItOn.list (xs := iV ks)) (fun i σ' H' => Same H1 H' ∧ ∃ t l', σ' = [some (.ref a), some (.ref p), some (.ref t), l'] ∧ H' t = some (fT (post (ks.take i) (sh k0 g)))) ⟨Same.refl _, r, _, rfl, eR⟩ (fun i σ' H' _ h => SqL.of (h.1 _ _ eL)) ?_ ?_
  · rintro i x σ' H' hx ⟨hs, t, l', rfl, ht⟩
    unfold iV at hx
    rw [List.getElem?_map] at hx
    cases e : ks[i]? with
    | none => rw [e] at hx; cases hx
    | some m =>
      rw [e] at hx
      cases hx
      have hm : m.natAbs ≤ 1000000 := by
        have := sab_mem (List.mem_of_getElem? e)
        rw [sab_cons] at hsab
        omega
      have et : ks.take (i + 1) = ks.take i ++ [m] := by rw [List.take_add_one, e]; rfl
      have ep : post (ks.take (i + 1)) (sh k0 g) = sh m (mv 114 (post (ks.take i) (sh k0 g))) := by
        rw [et]
        unfold post
        rw [List.foldl_append]
        rfl
      rw [ep]
      generalize post (ks.take i) (sh k0 g) = h at ht ⊢
      have ht' : H' t = some (.tup [.int h.1, .int h.2]) := ht
      refine ⟨_, rfl, .inl (.inr (.inl ⟨t, _, 0, _, rfl, rfl, SqT.of ht', rfl, ?_⟩))⟩
      refine ⟨_, rfl, .inl (.inr (.inl ⟨t, _, 1, _, rfl, rfl, SqT.of ht', rfl, ?_⟩))⟩
      refine ⟨h, rfl, fun p2 H2 s2 hp2 => ?_⟩
      generalize mv 114 h = h2 at hp2 ⊢
      have hp2' : H2 p2 = some (.tup [.int h2.1, .int h2.2]) := hp2
      refine ⟨_, rfl, .inl (.inr (.inl ⟨p2, _, 0, .int h2.1, rfl, rfl, SqT.of hp2', rfl, ?_⟩))⟩
      refine ⟨_, rfl, _, rfl, .inl (.inr (.inl ⟨p2, _, 1, .int h2.2, rfl, rfl, SqT.of hp2', rfl, _, _, rfl, rfl, cmul_of (by omega), .inl (.inl ⟨_, _, rfl, rfl, ?_⟩)⟩))⟩
      refine ⟨_, rfl, .inl (.inr (.inl ⟨p2, _, 1, .int h2.2, rfl, rfl, SqT.of hp2', rfl, ?_⟩))⟩
      refine ⟨two_ok, fun p3 hp3 => ?_⟩
      exact ⟨hs.trans (s2.trans (same_new hp3 _)), p3, _, rfl, upd_same⟩
  · rintro σ' H' ⟨hs, t, l', rfl, ht⟩
    refine ⟨_, rfl, q t H' (s01.trans hs) ?_⟩
    rw [ht, iV_len, List.take_length]
    rfl

abbrev s_runs_of_pair : Stmt := top 38
theorem sc_runs_of_pair : FnScope ["pair", "runs", "second"] ["pair"] (defScope s_runs_of_pair) := ⟨rfl, rfl, rfl, by decide +kernel, rfl, by decide +kernel, by decide +kernel⟩
theorem ok_runs_of_pair (F : Fun K "runs_of_pair" "runs_of_pair" s_runs_of_pair f fd) (c_runs_to_end : Callee P w K mg base k "runs_to_end" ["fraction"] spRuns) (c_follow_runs : Callee P w K mg base k "follow_runs" ["runs", "fraction"] spFollowRuns) (c_joined : Callee P w K mg base k "joined" ["one", "other"] spJoined) : FnOk P w K mg base CX0 (k + 1) f fd ["pair"] spRunsOfPair := by
  refine F.ok sc_runs_of_pair (fun vs H Q E h => ?_) (fun cdv A outer s H vs Q E hr h => ?_)
  · obtain ⟨p, g, h', rfl, _⟩ := h; rfl
  obtain ⟨p, g, h, rfl, ⟨a, b, hp, ha, hb⟩, Ng, Nh, hne, q⟩ := h
  have nd := sc_runs_of_pair.nd
  refine ⟨_, (pss_cons (ps_set (i := 1) nd rfl (Or.inl rfl) (pe_calls c_runs_to_end hr rfl (pa_cons (pe_ix (ix_tupK (K := K) rfl) (pv 0) pe_int (fun _ _ => rfl)) pa_nil)))
      (pss_cons (ps_set (i := 2) nd rfl (Or.inl rfl) (pe_calls c_follow_runs hr rfl (pa_cons (pv 1) (pa_cons (pe_ix (ix_tupK (K := K) rfl) (pv 0) pe_int (fun _ _ => rfl)) pa_nil))))
      (pss_one (ps_ret (pe_calls c_joined hr rfl (pa_cons (pv 1) (pa_cons (pe_lst (pa_cons (pe_un un_neg (pe_op op_fdivL (pe_ix (ix_tupK (K := K) rfl) (pv 2) pe_int (fun _ _ => rfl)) (pe_ix (ix_tupK (K := K) rfl) (pv 2) pe_int (fun _ _ => rfl)))) pa_nil)) pa_nil))))))), ?_⟩
  have qg := Ng.q
  have qh := Nh.q
  have szg : g.2.natAbs < 2 ^ 8000 := Nat.lt_of_lt_of_le (show g.2.natAbs < 2 ^ 1000 by have := Ng.sz; omega) (pow_le (by decide))
  refine ⟨_, rfl, ⟨p, _, 0, .ref a, rfl, rfl, SqT.of hp, rfl, ?_⟩⟩
  refine ⟨a, g, rfl, ha, Ng.F, szg, by omega, fun m H1 ks s1 hm pm sm lm => ?_⟩
  have hb1 := s1 _ _ hb
  refine ⟨_, rfl, _, rfl, ⟨p, _, 1, .ref b, rfl, rfl, SqT.of (s1 _ _ hp), rfl, ?_⟩⟩
  obtain ⟨k0, kr, ek⟩ : ∃ k0 kr, ks ++ [0] = k0 :: kr := by
    cases ks with
    | nil => exact ⟨_, _, rfl⟩
    | cons x r => exact ⟨_, _, rfl⟩
  have hsab : sab (ks ++ [0]) ≤ 200 := by
    have e0 : sab (ks ++ [0]) = sab ks + 0 := by rw [sab_append]; rfl
    omega
  have hlen : (ks ++ [0]).length ≤ 202 := by rw [List.length_append]; simp; omega
  have hlk : kr.length ≤ 201 := by rw [ek] at hlen; simp at hlen; omega
  refine ⟨m, b, k0, kr, h, rfl, by rw [← ek]; exact hm, hb1, by rw [← ek]; omega, by omega, fun t H2 s2 ht => ?_⟩
  rw [← ek] at ht
  have eg : act (ks ++ [0]) g = (1, 0) := by rw [act_mid, pm]; rfl
  obtain ⟨x, hx⟩ : ∃ x, x = act (ks ++ [0]) h := ⟨_, rfl⟩
  rw [← hx] at ht
  have xF : IsF x := by rw [hx]; exact act_F Nh.F
  have wl : (spell (ks ++ [0])).length ≤ 402 := by have := spell_len (ks ++ [0]); omega
  have hxw : x = walk (spell (ks ++ [0])) h := by rw [hx, walk_spell]
  have x0 : x.2 ≠ 0 := by
    intro z
    refine hne (walk_inj (spell_W (ks ++ [0])) Ng.F Nh.F ?_)
    rw [walk_spell, eg, ← hxw]
    exact (F_fin xF z).symm
  have xp : 0 < x.2 := F_pos xF x0
  have xs : x.1.natAbs + x.2.natAbs + 1 ≤ 2 ^ (402 + 1000) := by rw [hxw]; exact size_walk wl Nh.sz
  have xlog : x.2.natAbs.log2 < 9000 := log2_lt (Nat.lt_of_lt_of_le (show x.2.natAbs < 2 ^ (402 + 1000) by omega) (pow_le (by decide))) (by decide)
  have xq : qf x ≤ 602 := by rw [hxw]; have := qf_walk (spell (ks ++ [0])) Nh.F; omega
  have xf := qf_floor xp
  have ht' : H2 t = some (.tup [.int x.1, .int x.2]) := ht
  refine ⟨_, rfl, _, rfl, ⟨t, _, 0, .int x.1, rfl, rfl, SqT.of ht', rfl, ?_⟩⟩
  refine ⟨_, rfl, ⟨t, _, 1, .int x.2, rfl, rfl, SqT.of ht', rfl, _, _, rfl, rfl, ⟨xp, xlog⟩, _, rfl, big (show 1 ≤ 1000000 by decide), fun l hl => ?_⟩⟩
  have s3 := same_new (o := .lst [.int (-(x.1 / x.2))]) hl
  refine ⟨m, l, ks, 0, -(x.1 / x.2), [], rfl, s3 _ _ (s2 _ _ hm), upd_same, by omega, by simp, fun d H4 C z D s4 hd hact hs hl' hD => ?_⟩
  have eD := hD rfl
  subst eD
  have e3 : act (C ++ [z]) h = (x.1 % x.2, x.2) := by
    rw [hact h Nh.F, ← hx]
    show sh (-(x.1 / x.2)) x = _
    unfold sh
    refine Prod.ext ?_ rfl
    show x.1 + -(x.1 / x.2) * x.2 = x.1 % x.2
    have := Int.mul_ediv_add_emod x.1 x.2
    have e : -(x.1 / x.2) * x.2 = -(x.2 * (x.1 / x.2)) := by rw [Int.neg_mul, Int.mul_comm]
    omega
  refine q d H4 C z (s1.trans (s2.trans (s3.trans s4))) hd ?_ ?_ ?_ ?_
  · rw [hact g Ng.F, eg]
    show sh (-(x.1 / x.2)) (1, 0) = (1, 0)
    unfold sh
    simp
  · rw [e3]
    exact ⟨Int.emod_nonneg _ x0, Int.emod_lt_of_pos _ xp⟩
  · have e4 : sab [-(x.1 / x.2)] = (x.1 / x.2).natAbs := by rw [sab_cons]; simp [sab]
    rw [e4] at hs
    omega
  · simp only [List.length_cons, List.length_nil] at hl'
    omega

abbrev s_is_pair : Stmt := top 39
theorem sc_is_pair : FnScope ["value"] ["value"] (defScope s_is_pair) := ⟨rfl, rfl, rfl, by decide +kernel, rfl, by decide +kernel, by decide +kernel⟩
theorem ok_is_pair (G : Glo mg) (F : Fun K "is_pair" "is_pair" s_is_pair f fd) (c_is_fraction : Callee P w K mg base k "is_fraction" ["value"] spFrac) : FnOk P w K mg base CX0 (k + 1) f fd ["value"] spIsPair := by
  refine F.ok sc_is_pair (fun vs H Q E h => ?_) (fun cdv A outer s H vs Q E hr h => ?_)
  · obtain ⟨p, g, h', rfl, _⟩ := h; rfl
  obtain ⟨p, g, h, rfl, ⟨a, b, hp, ha, hb⟩, Fg, Fh, q⟩ := h
  have hu := hr.units
  refine ⟨_, (pss_one (ps_ret (pe_and (pe_callB (call_isiAK (K := K) rfl) rfl G.n_isinstance bt_isinstance (pa_cons (pv 0) (pa_cons (pe_bltn (v := .ty "tuple") rfl G.n_tuple bt_tuple rfl) pa_nil))) (pe_and (pe_cmpR op_eq (pe_callB (call_lenK (K := K) rfl) rfl G.n_len bt_len (pa_cons (pv 0) pa_nil)) pe_int (nomark _)) (pe_and (pe_calls c_is_fraction hr rfl (pa_cons (pe_ix (ix_tupK (K := K) rfl) (pv 0) pe_int (fun _ _ => rfl)) pa_nil)) (pe_one (pe_calls c_is_fraction hr rfl (pa_cons (pe_ix (ix_tupK (K := K) rfl) (pv 0) pe_int (fun _ _ => rfl)) pa_nil)))))))), ?_⟩
  refine ⟨_, rfl, .inl ⟨_, _, _, _, rfl, .tup hp, kit_same "tuple", _, rfl, iteT ?_⟩⟩
  refine ⟨_, rfl, .ref p, 2, rfl, .inr ⟨_, SqT.of hp, rfl⟩, ⟨rfl, _, rfl, iteT ?_⟩⟩
  refine ⟨_, rfl, ⟨p, _, 0, .ref a, rfl, rfl, SqT.of hp, rfl, a, g, rfl, ha, Fg, fun H1 s1 => ⟨_, rfl, iteT ?_⟩⟩⟩
  exact ⟨_, rfl, ⟨p, _, 1, .ref b, rfl, rfl, SqT.of (s1 _ _ hp), rfl, b, h, rfl, s1 _ _ hb, Fh, fun H2 s2 => q _ (s1.trans s2)⟩⟩

end
end K06

set_option Elab.async false
set_option linter.all false
set_option maxRecDepth 100000
set_option maxHeartbeats 4000000
namespace K06
open PySem L2 TW TX
seal L2.PE L2.PT L2.PA L2.PS L2.PSs L2.PI L2.PG L2.PGs L2.PW L2.PTs L2.PO
section
variable {P : Program} {w : World} {K : PySem.W.Frag} {mg : Str → Option Value} {base : Heap} {f : Addr} {fd : FuncData} {k : Nat}
abbrev s_Led_init : Stmt := meth 26 0
theorem sc_Led_init : FnScope ["self", "word"] ["self", "word"] (defScope s_Led_init) := ⟨rfl, rfl, rfl, by decide +kernel, rfl, by decide +kernel, by decide +kernel⟩
theorem ok_Led_init {C : Addr} (kC : KCls K C) (nf : PySem.W.findIn K (.ref C) "word" = some none) (F : Fun K "__init__" "Led.__init__" s_Led_init f fd) : FnOk P w K mg base CX0 (k + 1) f fd ["self", "word"] (spInit1 C "word") := by
  refine F.ok sc_Led_init (fun vs H Q E h => ?_) (fun cdv A outer s H vs Q E hr h => ?_)
  · obtain ⟨o, dx, v, rfl, _⟩ := h; rfl
  obtain ⟨o, dx, v, rfl, ho, q⟩ := h
  refine ⟨_, (pss_one (ps_fld (pv 0) (pv 1) rfl)), ?_⟩
  exact ⟨_, rfl, _, rfl, o, C, dx, [], rfl, ho, kC.cl, nf, by decide, q⟩

abbrev s_Parts_init : Stmt := meth 27 0
theorem sc_Parts_init : FnScope ["self", "there", "back"] ["self", "there", "back"] (defScope s_Parts_init) := ⟨rfl, rfl, rfl, by decide +kernel, rfl, by decide +kernel, by decide +kernel⟩
theorem ok_Parts_init {C : Addr} (kC : KCls K C) (nf : PySem.W.findIn K (.ref C) "there" = some none) (nf2 : PySem.W.findIn K (.ref C) "back" = some none) (F : Fun K "__init__" "Parts.__init__" s_Parts_init f fd) : FnOk P w K mg base CX0 (k + 1) f fd ["self", "there", "back"] (spInit2 C "there" "back") := by
  refine F.ok sc_Parts_init (fun vs H Q E h => ?_) (fun cdv A outer s H vs Q E hr h => ?_)
  · obtain ⟨o, dx, v, v2, rfl, _⟩ := h; rfl
  obtain ⟨o, dx, v, v2, rfl, ho, q⟩ := h
  refine ⟨_, (pss_cons (ps_fld (pv 0) (pv 1) rfl)
      (pss_one (ps_fld (pv 0) (pv 2) rfl))), ?_⟩
  refine ⟨_, rfl, _, rfl, o, C, dx, [], rfl, ho, kC.cl, nf, by decide, ?_⟩
  refine ⟨_, rfl, _, rfl, o, C, dx, _, rfl, upd_same, kC.cl, nf2, by simp [putF], ?_⟩
  rw [upd_upd]
  exact q

abbrev s_parts_pair : Stmt := top 30
theorem sc_parts_pair : FnScope ["word", "pair", "second"] ["word", "pair"] (defScope s_parts_pair) := ⟨rfl, rfl, rfl, by decide +kernel, rfl, by decide +kernel, by decide +kernel⟩
theorem ok_parts_pair (F : Fun K "parts_pair" "parts_pair" s_parts_pair f fd) (c_follow : Callee P w K mg base k "follow" ["word", "fraction"] (spFollowK K)) : FnOk P w K mg base CX0 (k + 1) f fd ["word", "pair"] spPartsPair := by
  refine F.ok sc_parts_pair (fun vs H Q E h => ?_) (fun cdv A outer s H vs Q E hr h => ?_)
  · obtain ⟨u, p, g, h', rfl, _⟩ := h; rfl
  obtain ⟨u, p, g, h, rfl, ⟨a, b, hp, ha, hb⟩, q⟩ := h
  have nd := sc_parts_pair.nd
  have hu := hr.units
  refine ⟨_, (pss_cons (ps_set (i := 2) nd rfl (Or.inl rfl) (pe_calls c_follow hr rfl (pa_cons (pv 0) (pa_cons (pe_ix (ix_tupK (K := K) rfl) (pv 1) pe_int (fun _ _ => rfl)) pa_nil))))
      (pss_one (ps_ret (pe_and (pe_cmpR (op_eqDK (K := K) hu rfl) (pe_calls c_follow hr rfl (pa_cons (pv 0) (pa_cons (pe_ix (ix_tupK (K := K) rfl) (pv 1) pe_int (fun _ _ => rfl)) pa_nil))) (pe_tup (pa_cons pe_int (pa_cons pe_int pa_nil))) (nomark _)) (pe_one (pe_chain op_le op_lt pe_int (pe_ix (ix_tupK (K := K) rfl) (pv 2) pe_int (fun _ _ => rfl)) (pe_ix (ix_tupK (K := K) rfl) (pv 2) pe_int (fun _ _ => rfl)))))))), ?_⟩
  refine ⟨_, rfl, _, rfl, ⟨p, _, 1, .ref b, rfl, rfl, SqT.of hp, rfl, u, b, h, rfl, SqT.of hb, fun x H1 s1 hx => ?_⟩⟩
  refine ⟨_, rfl, _, rfl, ⟨p, _, 0, .ref a, rfl, rfl, SqT.of (s1 _ _ hp), rfl, u, a, g, rfl, SqT.of (s1 _ _ ha), fun y H2 s2 hy => ?_⟩⟩
  refine ⟨two_ok, fun t ht => ?_⟩
  have s3 := same_new (o := .tup [.int 1, .int 0]) ht
  have T := s1.trans (s2.trans s3)
  have qq := q _ T
  refine ⟨fD (walk u g), fD (1, 0), fD_rd (s3 _ _ hy), fD_rd upd_same, fD_depth _, _, rfl, eqD_eq (fun e => ?_) fun e => ?_⟩
  · have hx3 := s3 _ _ (s2 _ _ hx)
    unfold ppb at qq
    rw [decide_eq_true e, Bool.true_and] at qq
    generalize walk u h = z at hx3 qq
    have hx' : upd H2 t (.tup [.int 1, .int 0]) x = some (.tup [.int z.1, .int z.2]) := hx3
    refine ⟨_, rfl, ⟨x, _, 0, .int z.1, rfl, rfl, SqT.of hx', rfl, _, _, rfl, rfl, _, rfl, ?_⟩⟩
    refine ite2 (fun c => ?_) (fun c => ?_)
    · refine ⟨_, rfl, ⟨x, _, 1, .int z.2, rfl, rfl, SqT.of hx', rfl, _, _, rfl, rfl, ?_⟩⟩
      rw [c, Bool.true_and] at qq
      exact qq
    · rw [Bool.eq_false_iff.mpr c, Bool.false_and] at qq
      exact qq
  · unfold ppb at qq
    rw [decide_eq_false e, Bool.false_and] at qq
    exact qq

abbrev s_Led_shows : Stmt := meth 26 1
theorem sc_Led_shows : FnScope ["self", "pair", "other"] ["self", "pair", "other"] (defScope s_Led_shows) := ⟨rfl, rfl, rfl, by decide +kernel, rfl, by decide +kernel, by decide +kernel⟩
theorem ok_Led_shows {C : Addr} (kC : KCls K C) (nf : PySem.W.findIn K (.ref C) "word" = some none) (F : Fun K "shows" "Led.shows" s_Led_shows f fd) (c_follow : Callee P w K mg base k "follow" ["word", "fraction"] (spFollowK K)) : FnOk P w K mg base CX0 (k + 1) f fd ["self", "pair", "other"] (spLedShows C) := by
  refine F.ok sc_Led_shows (fun vs H Q E h => ?_) (fun cdv A outer s H vs Q E hr h => ?_)
  · obtain ⟨o, p, r, u, g, h', g', h'', rfl, _⟩ := h; rfl
  obtain ⟨o, p, r, u, g, h, g', h', rfl, ⟨dx, ho⟩, ⟨a, b, hp, ha, hb⟩, ⟨c, d, hrr, hc, hd⟩, q⟩ := h
  have hu := hr.units
  refine ⟨_, (pss_one (ps_ret (pe_and (pe_cmpR (op_eqDK (K := K) hu rfl) (pe_calls c_follow hr rfl (pa_cons (pe_fld (pv 0) rfl) (pa_cons (pe_ix (ix_tupK (K := K) rfl) (pv 1) pe_int (fun _ _ => rfl)) pa_nil))) (pe_ix (ix_tupK (K := K) rfl) (pv 2) pe_int (fun _ _ => rfl)) (nomark _)) (pe_one (pe_cmpR (op_eqDK (K := K) hu rfl) (pe_calls c_follow hr rfl (pa_cons (pe_fld (pv 0) rfl) (pa_cons (pe_ix (ix_tupK (K := K) rfl) (pv 1) pe_int (fun _ _ => rfl)) pa_nil))) (pe_ix (ix_tupK (K := K) rfl) (pv 2) pe_int (fun _ _ => rfl)) (nomark _)))))), ?_⟩
  refine ⟨_, rfl, o, C, dx, _, _, rfl, ho, kC.cl, nf, rfl, _, rfl, ⟨p, _, 0, .ref a, rfl, rfl, SqT.of hp, rfl, u, a, g, rfl, SqT.of ha, fun x H1 s1 hx => ?_⟩⟩
  refine ⟨_, rfl, ⟨r, _, 0, .ref c, rfl, rfl, SqT.of (s1 _ _ hrr), rfl, ?_⟩⟩
  refine ⟨fD (walk u g), fD g', fD_rd hx, fD_rd (s1 _ _ hc), fD_depth _, _, rfl, eqD_eq (fun e => ?_) fun e => ?_⟩
  · refine ⟨_, rfl, o, C, dx, _, _, rfl, s1 _ _ ho, kC.cl, nf, rfl, _, rfl, ⟨p, _, 1, .ref b, rfl, rfl, SqT.of (s1 _ _ hp), rfl, u, b, h, rfl, SqT.of (s1 _ _ hb), fun y H2 s2 hy => ?_⟩⟩
    refine ⟨_, rfl, ⟨r, _, 1, .ref d, rfl, rfl, SqT.of (s2 _ _ (s1 _ _ hrr)), rfl, ?_⟩⟩
    refine ⟨fD (walk u h), fD h', fD_rd hy, fD_rd (s2 _ _ (s1 _ _ hd)), fD_depth _, ?_⟩
    have qq := q _ (s1.trans s2)
    rw [decide_eq_true e, Bool.true_and] at qq
    rw [if_neg Bool.false_ne_true, fD_eqv]
    exact qq
  · have qq := q _ s1
    rw [decide_eq_false e, Bool.false_and] at qq
    exact qq

abbrev s_Parts_shows : Stmt := meth 27 1
theorem sc_Parts_shows : FnScope ["self", "pair", "other"] ["self", "pair", "other"] (defScope s_Parts_shows) := ⟨rfl, rfl, rfl, by decide +kernel, rfl, by decide +kernel, by decide +kernel⟩
theorem ok_Parts_shows {C : Addr} (kC : KCls K C) (nf : PySem.W.findIn K (.ref C) "there" = some none) (nf2 : PySem.W.findIn K (.ref C) "back" = some none) (F : Fun K "shows" "Parts.shows" s_Parts_shows f fd) (c_parts_pair : Callee P w K mg base k "parts_pair" ["word", "pair"] spPartsPair) (c_follow : Callee P w K mg base k "follow" ["word", "fraction"] (spFollowK K)) : FnOk P w K mg base CX0 (k + 1) f fd ["self", "pair", "other"] (spPartsShows C) := by
  refine F.ok sc_Parts_shows (fun vs H Q E h => ?_) (fun cdv A outer s H vs Q E hr h => ?_)
  · obtain ⟨o, p, r, u, v, g, h', g', h'', rfl, _⟩ := h; rfl
  obtain ⟨o, p, r, u, v, g, h, g', h', rfl, ⟨dx, ho⟩, hp, hrr, q⟩ := h
  have hu := hr.units
  refine ⟨_, (pss_cons (ps_if (PW.pt (pw_or (pt_not (pt_val (pe_calls c_parts_pair hr rfl (pa_cons (pe_fld (pv 0) rfl) (pa_cons (pv 1) pa_nil))))) (pw_or1 (pt_not (pt_val (pe_calls c_parts_pair hr rfl (pa_cons (pe_fld (pv 0) rfl) (pa_cons (pv 2) pa_nil)))))))) (pss_one (ps_ret pe_bl)) pss_nil)
      (pss_one (ps_ret (pe_cmpR (op_neDK (K := K) hu rfl) (pe_calls c_follow hr rfl (pa_cons (pe_fld (pv 0) rfl) (pa_cons (pe_ix (ix_tupK (K := K) rfl) (pv 1) pe_int (fun _ _ => rfl)) pa_nil))) (pe_calls c_follow hr rfl (pa_cons (pe_fld (pv 0) rfl) (pa_cons (pe_ix (ix_tupK (K := K) rfl) (pv 2) pe_int (fun _ _ => rfl)) pa_nil))) (nomark _))))), ?_⟩
  refine ⟨_, rfl, o, C, dx, _, _, rfl, ho, kC.cl, nf, rfl, _, rfl, u, p, g, h, rfl, hp, fun H1 s1 => ⟨_, rfl, ?_⟩⟩
  cases c1 : ppb u g h with
  | false =>
    refine iteT ?_
    have qq := q _ s1
    rw [c1, Bool.false_and] at qq
    exact qq
  | true =>
    refine iteF ?_
    refine ⟨_, rfl, o, C, dx, _, _, rfl, s1 _ _ ho, kC.cl, nf2, rfl, _, rfl, v, r, g', h', rfl, hrr.same s1, fun H2 s2 => ⟨_, rfl, ?_⟩⟩
    have T2 := s1.trans s2
    cases c2 : ppb v g' h' with
    | false =>
      refine iteT ?_
      have qq := q _ T2
      rw [c1, c2, Bool.false_and, Bool.and_false] at qq
      exact qq
    | true =>
      refine iteF ?_
      obtain ⟨a, b, ep, ea, eb⟩ := hp.same T2
      obtain ⟨c, d, er, ec, ed⟩ := hrr.same T2
      refine ⟨_, rfl, o, C, dx, _, _, rfl, T2 _ _ ho, kC.cl, nf, rfl, _, rfl, ⟨p, _, 1, .ref b, rfl, rfl, SqT.of ep, rfl, u, b, h, rfl, SqT.of eb, fun x H3 s3 hx => ?_⟩⟩
      refine ⟨_, rfl, o, C, dx, _, _, rfl, s3 _ _ (T2 _ _ ho), kC.cl, nf2, rfl, _, rfl, ⟨r, _, 1, .ref d, rfl, rfl, SqT.of (s3 _ _ er), rfl, v, d, h', rfl, SqT.of (s3 _ _ ed), fun y H4 s4 hy => ?_⟩⟩
      refine ⟨fD (walk u h), fD (walk v h'), fD_rd (s4 _ _ hx), fD_rd hy, fD_depth _, ?_⟩
      have qq := q _ (T2.trans (s3.trans s4))
      rw [c1, c2, Bool.true_and, Bool.true_and] at qq
      rw [if_pos rfl, fD_eqv]
      exact qq

abbrev s_led : Stmt := top 40
theorem sc_led : FnScope ["pair", "other", "there", "here"] ["pair", "other"] (defScope s_led) := ⟨rfl, rfl, rfl, by decide +kernel, rfl, by decide +kernel, by decide +kernel⟩
theorem ok_led {CL CP : Addr} (F : Fun K "led" "led" s_led f fd) (c_is_pair : Callee P w K mg base (k + 1) "is_pair" ["value"] spIsPair) (c_runs_of_pair : Callee P w K mg base (k + 1) "runs_of_pair" ["pair"] spRunsOfPair) (c_follow_runs : Callee P w K mg base (k + 1) "follow_runs" ["runs", "fraction"] spFollowRuns) (c_backwards : Callee P w K mg base (k + 1) "backwards" ["runs"] spBackwards) (c_joined : Callee P w K mg base (k + 1) "joined" ["one", "other"] spJoined) (c_spelled : Callee P w K mg base (k + 1) "spelled" ["runs"] spSpelled)
    (c_Led : Maker P w K mg base k "Led" CL ["self", "word"] (spInit1 CL "word")) (c_Parts : Maker P w K mg base k "Parts" CP ["self", "there", "back"] (spInit2 CP "there" "back")) : FnOk P w K mg base CX0 (k + 2) f fd ["pair", "other"] (spLed CL CP) := by
  refine F.ok sc_led (fun vs H Q E h => ?_) (fun cdv A outer s H vs Q E hr h => ?_)
  · obtain ⟨p, r, g, h0, g', h', rfl, _⟩ := h; rfl
  obtain ⟨p, r, g, h, g', h', rfl, hp, hrr, Ng, Nh, Ng', Nh', ne, ne', qL, qP⟩ := h
  have nd := sc_led.nd
  have hu := hr.units
  refine ⟨_, (pss_cons (ps_if (PW.pt (pw_or (pt_not (pt_val (pe_calls c_is_pair hr rfl (pa_cons (pv 0) pa_nil)))) (pw_or1 (pt_not (pt_val (pe_calls c_is_pair hr rfl (pa_cons (pv 1) pa_nil))))))) (pss_one ps_never) pss_nil)
      (pss_cons (ps_if (PW.pt (pw_or (pt_cmpR (op_eqDK (K := K) hu rfl) (pe_ix (ix_tupK (K := K) rfl) (pv 0) pe_int (fun _ _ => rfl)) (pe_ix (ix_tupK (K := K) rfl) (pv 0) pe_int (fun _ _ => rfl)) (nomark _)) (pw_or1 (pt_cmpR (op_eqDK (K := K) hu rfl) (pe_ix (ix_tupK (K := K) rfl) (pv 1) pe_int (fun _ _ => rfl)) (pe_ix (ix_tupK (K := K) rfl) (pv 1) pe_int (fun _ _ => rfl)) (nomark _))))) (pss_one ps_never) pss_nil)
      (pss_cons (ps_set (i := 2) nd rfl (Or.inl rfl) (pe_calls c_runs_of_pair hr rfl (pa_cons (pv 0) pa_nil)))
      (pss_cons (ps_set (i := 3) nd rfl (Or.inl rfl) (pe_calls c_runs_of_pair hr rfl (pa_cons (pv 1) pa_nil)))
      (pss_cons (ps_if (pt_cmpR (op_eqDK (K := K) hu rfl) (pe_calls c_follow_runs hr rfl (pa_cons (pv 2) (pa_cons (pe_ix (ix_tupK (K := K) rfl) (pv 0) pe_int (fun _ _ => rfl)) pa_nil))) (pe_calls c_follow_runs hr rfl (pa_cons (pv 3) (pa_cons (pe_ix (ix_tupK (K := K) rfl) (pv 1) pe_int (fun _ _ => rfl)) pa_nil))) (nomark _)) (pss_one (ps_ret (pe_makes c_Led hr rfl (pa_cons (pe_calls c_spelled hr rfl (pa_cons (pe_calls c_joined hr rfl (pa_cons (pv 2) (pa_cons (pe_calls c_backwards hr rfl (pa_cons (pv 3) pa_nil)) pa_nil))) pa_nil)) pa_nil)))) pss_nil)
      (pss_one (ps_ret (pe_makes c_Parts hr rfl (pa_cons (pe_calls c_spelled hr rfl (pa_cons (pv 2) pa_nil)) (pa_cons (pe_calls c_spelled hr rfl (pa_cons (pv 3) pa_nil)) pa_nil)))))))))), ?_⟩
  refine ⟨_, rfl, p, g, h, rfl, hp, Ng.F, Nh.F, fun H1 s1 => ⟨_, rfl, iteF ?_⟩⟩
  refine ⟨_, rfl, r, g', h', rfl, hrr.same s1, Ng'.F, Nh'.F, fun H2 s2 => ⟨_, rfl, iteF ?_⟩⟩
  have t2 := s1.trans s2
  obtain ⟨a, b, ep, ea, eb⟩ := hp.same t2
  obtain ⟨c, d, er, ec, ed⟩ := hrr.same t2
  refine ⟨_, rfl, ⟨p, _, 0, .ref a, rfl, rfl, SqT.of ep, rfl, _, rfl, ⟨p, _, 1, .ref b, rfl, rfl, SqT.of ep, rfl, ⟨fD g, fD h, fD_rd ea, fD_rd eb, fD_depth _, _, rfl, eqD_eq (fun z => absurd z ne) fun _ => ?_⟩⟩⟩⟩
  refine ⟨_, rfl, ⟨r, _, 0, .ref c, rfl, rfl, SqT.of er, rfl, _, rfl, ⟨r, _, 1, .ref d, rfl, rfl, SqT.of er, rfl, ⟨fD g', fD h', fD_rd ec, fD_rd ed, fD_depth _, _, rfl, eqD_eq (fun z => absurd z ne') fun _ => ?_⟩⟩⟩⟩
  refine ⟨_, rfl, p, g, h, rfl, hp.same t2, Ng, Nh, ne, fun m H3 C z s3 hm am bm sm lm => ?_⟩
  have t3 := t2.trans s3
  refine ⟨_, rfl, r, g', h', rfl, hrr.same t3, Ng', Nh', ne', fun n H4 C' z' s4 hn an bn sn ln => ?_⟩
  obtain ⟨k0, kr, ek⟩ : ∃ k0 kr, C ++ [z] = k0 :: kr := by
    cases C with
    | nil => exact ⟨_, _, rfl⟩
    | cons x r => exact ⟨_, _, rfl⟩
  obtain ⟨l0, lr, el⟩ : ∃ l0 lr, C' ++ [z'] = l0 :: lr := by
    cases C' with
    | nil => exact ⟨_, _, rfl⟩
    | cons x r => exact ⟨_, _, rfl⟩
  have hlk : kr.length ≤ 1000 := by rw [ek] at lm; simp at lm; omega
  have hll : lr.length ≤ 1000 := by rw [el] at ln; simp at ln; omega
  have ep4 := s4 _ _ (s3 _ _ ep)
  have eb4 := s4 _ _ (s3 _ _ eb)
  have er4 := s4 _ _ (s3 _ _ er)
  have ed4 := s4 _ _ (s3 _ _ ed)
  have hm4 := s4 _ _ hm
  refine ⟨_, rfl, _, rfl, ⟨p, _, 1, .ref b, rfl, rfl, SqT.of ep4, rfl, m, b, k0, kr, h, rfl, by rw [← ek]; exact hm4, eb4, by rw [← ek]; omega, by omega, fun x H5 s5 hx => ?_⟩⟩
  refine ⟨_, rfl, _, rfl, ⟨r, _, 1, .ref d, rfl, rfl, SqT.of (s5 _ _ er4), rfl, n, d, l0, lr, h', rfl, by rw [← el]; exact s5 _ _ hn, s5 _ _ ed4, by rw [← el]; omega, by omega, fun y H6 s6 hy => ?_⟩⟩
  rw [← ek] at hx
  rw [← el] at hy
  have t6 := t3.trans (s4.trans (s5.trans s6))
  have hm6 := s6 _ _ (s5 _ _ hm4)
  have hn6 := s6 _ _ (s5 _ _ hn)
  refine ⟨fD (act (C ++ [z]) h), fD (act (C' ++ [z']) h'), fD_rd (s6 _ _ hx), fD_rd hy, fD_depth _, _, rfl, eqD_eq (fun e => ?_) fun e => ?_⟩
  · refine ⟨_, rfl, _, rfl, n, C' ++ [z'], rfl, hn6, by omega, fun l H7 s7 hl => ?_⟩
    rw [bw_snoc] at hl
    have lC : C.length ≤ 1000 := by simp at lm; omega
    have lC' : C'.length ≤ 1000 := by simp at ln; omega
    refine ⟨m, l, C, z, -z', bw C', rfl, s7 _ _ hm6, hl, by omega, by rw [bw_len]; omega, fun j H8 A x B s8 hj hact hsab hlen _ => ?_⟩
    have e2 : sab (-z' :: bw C') = sab (C' ++ [z']) := by
      rw [← bw_snoc, sab_bw]
    have e3 : (-z' :: bw C').length = (C' ++ [z']).length := by rw [← bw_snoc, bw_len]
    rw [e2] at hsab
    rw [e3] at hlen
    refine ⟨j, A ++ x :: B, rfl, hj, by omega, by omega, fun H9 s9 => ?_⟩
    intro o dx no ndx _
    refine ⟨o, dx, _, rfl, upd_same, rfl, ?_⟩
    rw [upd_upd]
    refine qL o _ _ (t6.trans (s7.trans (s8.trans (s9.trans (made_same no ndx))))) ⟨dx, upd_same⟩ ⟨spell_W _, ?_, ?_, ?_⟩
    · have := spell_len (A ++ x :: B)
      omega
    · rw [walk_spell, hact g Ng.F, am, ← an, ← bw_snoc]
      exact act_back Ng'.F
    · rw [walk_spell, hact h Nh.F, e, ← bw_snoc]
      exact act_back Nh'.F
  · refine ⟨_, rfl, m, C ++ [z], rfl, hm6, by omega, by omega, fun H7 s7 => ?_⟩
    refine ⟨_, rfl, n, C' ++ [z'], rfl, s7 _ _ hn6, by omega, by omega, fun H8 s8 => ?_⟩
    intro o dx no ndx _
    refine ⟨o, dx, _, _, rfl, upd_same, rfl, ?_⟩
    rw [upd_upd]
    have w1 := spell_len (C ++ [z])
    have w2 := spell_len (C' ++ [z'])
    refine qP o _ _ _ (t6.trans (s7.trans (s8.trans (made_same no ndx)))) ⟨dx, upd_same⟩ ⟨spell_W _, spell_W _, by omega, by omega, ?_, ?_, ?_, ?_, ?_⟩
    · rw [walk_spell]; exact am
    · rw [walk_spell]; exact an
    · rw [walk_spell]; exact bm
    · rw [walk_spell]; exact bn
    · rw [walk_spell, walk_spell]; exact e

end
end K06

set_option Elab.async false
set_option linter.all false
set_option maxRecDepth 100000
set_option maxHeartbeats 4000000
namespace K06
open PySem L2 TW TX
seal L2.PE L2.PT L2.PA L2.PS L2.PSs L2.PI L2.PG L2.PGs L2.PW L2.PTs L2.PO
section
variable {P : Program} {w : World} {K : PySem.W.Frag} {mg : Str → Option Value} {base : Heap} {f : Addr} {fd : FuncData} {k : Nat}
abbrev s_law_letters : Stmt := top 42
theorem sc_law_letters : FnScope ["_law_script", "_law_by", "_law_word", "_law_cell"] ["_law_script", "_law_by"] (defScope s_law_letters) := ⟨rfl, rfl, rfl, by decide +kernel, rfl, by decide +kernel, by decide +kernel⟩
theorem ok_law_letters (F : Fun K "_law_letters" "_law_letters" s_law_letters f fd) : FnOk P w K mg base CX0 (k + 1) f fd ["_law_script", "_law_by"] (spLetters K) := by
  refine F.ok sc_law_letters (fun vs H Q E h => ?_) (fun cdv A outer s H vs Q E hr h => ?_)
  · obtain ⟨a, ns, b, rfl, _⟩ := h; rfl
  obtain ⟨a, ns, b, rfl, hS, hl, hb, hb2, q⟩ := h
  have nd := sc_law_letters.nd
  refine ⟨_, (pss_cons (ps_set (i := 2) nd rfl (Or.inl rfl) pe_str)
      (pss_cons (ps_for PassesOwn.never rfl (pi_list (pv 0)) (pg_name (i := 3) nd rfl (Or.inl rfl)) (pss_one (ps_set (i := 2) nd rfl (Or.inl rfl) (pe_op op_plus (pv 2) (pe_ix (ix_anyK (K := K) (Pm := w.params) rfl rfl) pe_str (pe_op op_mod (pe_op op_fdiv (pv 3) (pv 1)) pe_int) (fun _ _ => rfl))))))
      (pss_one (ps_ret (pv 2))))), ?_⟩
  refine ⟨_, rfl, a, rfl, ⟨_, hS⟩, ?_⟩
  refine for_on (ItOn.list (xs := ns.map V.int)) (fun i σ' H' => H' = H ∧ ∃ l, σ' = [some (.ref a), some (.int b), some (.str (S (letters b (ns.take i)))), l]) ⟨rfl, _, rfl⟩ (fun i σ' H' _ h => by rw [h.1]; exact hS) ?_ ?_
  · rintro i x σ' H' hx ⟨rfl, l, rfl⟩
    rw [List.getElem?_map] at hx
    cases e : ns[i]? with
    | none => rw [e] at hx; cases hx
    | some n =>
      rw [e] at hx
      cases hx
      refine ⟨_, rfl, _, rfl, _, rfl, _, _, rfl, rfl, ⟨hb, by omega⟩, _, _, rfl, rfl, by show (0 : Int) < 3; decide, .inl (.inr (.inr ⟨_, _, _, rfl, rfl, by decide, tur_at n b, .inr ⟨_, _, rfl, rfl, ?_, rfl, some (.int n), ?_⟩⟩))⟩
      · rw [S_len, letters_len, List.length_take]
        show _ + 1 ≤ sizeLine
        have := sizeLine_eq
        omega
      · have e2 : ns.take (i + 1) = ns.take i ++ [n] := by rw [List.take_add_one, e]; rfl
        have e3 : S (letters b (ns.take (i + 1))) = S (letters b (ns.take i)) ++ (⟨#[letr (n / b % 3)]⟩ : Str) := by
          rw [e2]
          unfold letters
          rw [List.map_append]
          exact (S_app _ _).symm
        rw [e3]
        rfl
  · rintro σ' H' ⟨rfl, l, rfl⟩
    refine ⟨_, rfl, ?_⟩
    rw [List.length_map, List.take_length]
    exact q

abbrev s_law_moved : Stmt := top 43
theorem sc_law_moved : FnScope ["_law_letter", "_law_fraction", "_law_above", "_law_below"] ["_law_letter", "_law_fraction"] (defScope s_law_moved) := ⟨rfl, rfl, rfl, by decide +kernel, rfl, by decide +kernel, by decide +kernel⟩
theorem ok_law_moved (F : Fun K "_law_moved" "_law_moved" s_law_moved f fd) : FnOk P w K mg base CX0 (k + 1) f fd ["_law_letter", "_law_fraction"] spLMoved := by
  refine F.ok sc_law_moved (fun vs H Q E h => ?_) (fun cdv A outer s H vs Q E hr h => ?_)
  · obtain ⟨c, p, g, rfl, _⟩ := h; rfl
  obtain ⟨c, p, g, rfl, hp, q⟩ := h
  have nd := sc_law_moved.nd
  have hu := hr.units
  have hp' : H p = some (.tup [.int g.1, .int g.2]) := hp
  refine ⟨_, (pss_cons (ps_asg (pv 1) (pg_tup rfl (pgs_cons (pg_name (i := 2) nd rfl (Or.inl rfl)) (pgs_cons (pg_name (i := 3) nd rfl (Or.inl rfl)) pgs_nil))))
      (pss_cons (ps_if (pt_cmpR op_eq (pv 0) pe_str (nomark _)) (pss_one (ps_ret (pe_tup (pa_cons (pe_op op_plus (pv 2) (pv 3)) (pa_cons (pv 3) pa_nil))))) pss_nil)
      (pss_cons (ps_if (pt_cmpR op_eq (pv 0) pe_str (nomark _)) (pss_one (ps_ret (pe_tup (pa_cons (pe_op op_sub (pv 2) (pv 3)) (pa_cons (pv 3) pa_nil))))) pss_nil)
      (pss_cons (ps_if (pt_cmpR op_eq (pv 2) pe_int (nomark _)) (pss_one (ps_ret (pe_tup (pa_cons pe_int (pa_cons pe_int pa_nil))))) pss_nil)
      (pss_one (ps_ret (pe_ifExp (pt_cmpR op_gt (pv 2) pe_int (nomark _)) (pe_tup (pa_cons (pe_un un_neg (pv 3)) (pa_cons (pv 2) pa_nil))) (pe_tup (pa_cons (pv 3) (pa_cons (pe_un un_neg (pv 2)) pa_nil)))))))))), ?_⟩
  refine ⟨_, rfl, p, _, rfl, SqT.of hp', rfl, _, _, rfl, _, _, rfl, rfl, ?_⟩
  refine ⟨_, rfl, ⟨rfl, _, rfl, ?_⟩⟩
  rw [eq_sign c 116 _ lit_t]
  refine ite2 (fun e => ?_) (fun e => ?_)
  · have e' : c = 116 := of_decide_eq_true e
    refine ⟨_, rfl, _, rfl, .inl ⟨_, _, rfl, rfl, _, rfl, two_ok, fun r hr' => q r _ (same_new hr' _) ?_⟩⟩
    rw [upd_same, mv, if_pos e']
    rfl
  · have e' : ¬ c = 116 := of_decide_eq_false (Bool.eq_false_iff.mpr e)
    refine ⟨_, rfl, ⟨rfl, _, rfl, ?_⟩⟩
    rw [eq_sign c 117 _ lit_u]
    refine ite2 (fun d => ?_) (fun d => ?_)
    · have d' : c = 117 := of_decide_eq_true d
      refine ⟨_, rfl, _, rfl, _, _, rfl, rfl, _, rfl, two_ok, fun r hr' => q r _ (same_new hr' _) ?_⟩
      rw [upd_same, mv, if_neg e', if_pos d']
      rfl
    · have d' : ¬ c = 117 := of_decide_eq_false (Bool.eq_false_iff.mpr d)
      refine ⟨_, rfl, ⟨rfl, _, rfl, ?_⟩⟩
      refine ite2 (fun z => ?_) (fun z => ?_)
      · have z' : g.1 = 0 := by simpa using z
        refine ⟨two_ok, fun r hr' => q r _ (same_new hr' _) ?_⟩
        rw [upd_same, mv, if_neg e', if_neg d', if_neg (by omega), if_neg (by omega)]
        rfl
      · have z' : ¬ g.1 = 0 := by simpa using z
        refine ⟨_, rfl, _, _, rfl, rfl, _, rfl, ?_⟩
        refine ite2 (fun y => ?_) (fun y => ?_)
        · have y' : 0 < g.1 := of_decide_eq_true y
          refine ⟨_, rfl, _, rfl, _, rfl, two_ok, fun r hr' => q r _ (same_new hr' _) ?_⟩
          rw [upd_same, mv, if_neg e', if_neg d', if_pos y']
          rfl
        · have y' : ¬ 0 < g.1 := of_decide_eq_false (Bool.eq_false_iff.mpr y)
          refine ⟨_, rfl, _, rfl, _, rfl, two_ok, fun r hr' => q r _ (same_new hr' _) ?_⟩
          rw [upd_same, mv, if_neg e', if_neg d', if_neg y', if_pos (by omega)]
          rfl

abbrev s_law_walked : Stmt := top 44
theorem sc_law_walked : FnScope ["_law_word", "_law_fraction", "_law_letter"] ["_law_word", "_law_fraction"] (defScope s_law_walked) := ⟨rfl, rfl, rfl, by decide +kernel, rfl, by decide +kernel, by decide +kernel⟩
theorem ok_law_walked (F : Fun K "_law_walked" "_law_walked" s_law_walked f fd) (c_law_moved : Callee P w K mg base k "_law_moved" ["_law_letter", "_law_fraction"] spLMoved) : FnOk P w K mg base CX0 (k + 1) f fd ["_law_word", "_law_fraction"] spFollow := by
  refine F.ok sc_law_walked (fun vs H Q E h => ?_) (fun cdv A outer s H vs Q E hr h => ?_)
  · obtain ⟨u, p, g, rfl, _⟩ := h; rfl
  obtain ⟨u, p, g, rfl, hp, q⟩ := h
  have nd := sc_law_walked.nd
  refine ⟨_, (pss_cons (ps_for PassesOwn.never rfl (pi_str (pv 0)) (pg_name (i := 2) nd rfl (Or.inl rfl)) (pss_one (ps_set (i := 1) nd rfl (Or.inl rfl) (pe_calls c_law_moved hr rfl (pa_cons (pv 2) (pa_cons (pv 1) pa_nil))))))
      (pss_one (ps_ret (pv 1)))), ?_⟩
  refine ⟨_, rfl, _, rfl, ?_⟩
  refine for_on (Ok := fun _ => True) ItOn.str (fun i σ' H' => Same H H' ∧ ∃ t l, σ' = [some (.str (S u)), some (.ref t), l] ∧ H' t = some (fT (walk (u.take i) g))) ⟨Same.refl _, p, _, rfl, hp⟩ (fun _ _ _ _ _ => trivial) ?_ ?_
  · rintro i x σ' H' hx ⟨hs, t, l, rfl, ht⟩
    obtain ⟨c, hc, rfl⟩ := sg_at hx
    refine ⟨_, rfl, _, rfl, c, t, walk (u.take i) g, rfl, ht, fun p2 H2 hs2 hp2 => ⟨hs.trans hs2, p2, _, rfl, ?_⟩⟩
    rw [take_snoc hc, walk_snoc]
    exact hp2
  · rintro σ' H' ⟨hs, t, l, rfl, ht⟩
    refine ⟨_, rfl, q t H' hs ?_⟩
    rw [ht, sg_S, List.length_map, List.take_length]

abbrev s_law_is_word : Stmt := top 46
theorem sc_law_is_word : FnScope ["_law_thing"] ["_law_thing"] (defScope s_law_is_word) := ⟨rfl, rfl, rfl, by decide +kernel, rfl, by decide +kernel, by decide +kernel⟩
theorem ok_law_is_word (G : Glo mg) (F : Fun K "_law_is_word" "_law_is_word" s_law_is_word f fd) : FnOk P w K mg base CX0 (k + 1) f fd ["_law_thing"] spWord := by
  refine F.ok sc_law_is_word (fun vs H Q E h => ?_) (fun cdv A outer s H vs Q E hr h => ?_)
  · obtain ⟨u, rfl, _⟩ := h; rfl
  obtain ⟨u, rfl, hw, hl, q⟩ := h
  refine ⟨_, (pss_one (ps_ret (pe_and (pe_callB (call_isiK (K := K) rfl) rfl G.n_isinstance bt_isinstance (pa_cons (pv 0) (pa_cons (pe_bltn (v := .ty "str") rfl G.n_str bt_str rfl) pa_nil))) (pe_one (pe_callB (call_allK (K := K) rfl rfl) rfl G.n_all bt_all (pa_cons (pe_lc (ys := []) (js := []) rfl (LcS.to (os := defScope s_law_is_word) ⟨rfl, by decide +kernel, by decide +kernel, rfl, by decide +kernel, by decide +kernel, by decide +kernel⟩ rfl rfl) (pi_str (pv 0)) (fun _ _ _ _ => pts_none) (fun _ _ _ _ => (pe_cmpR (op_innK (K := K) rfl) (pv 0) pe_str rfl))) pa_nil)))))), ?_⟩
  refine ⟨_, rfl, _, _, _, _, rfl, .str _, kit_same "str", _, rfl, ?_⟩
  refine iteT ?_
  refine ⟨_, rfl, _, rfl, ?_⟩
  refine lc_y (Ok := fun _ => True) ItOn.str (fun x => V.bl (inTur x)) trivial (by rw [sgV_length]; show (S u).length ≤ _; rw [S_len]; exact big (by omega)) (fun i x Q' hx hq => ?_) (fun p hp => ?_)
  · obtain ⟨c, hc, rfl⟩ := sg_at hx
    exact ⟨_, rfl, .inr ⟨_, _, rfl, rfl, hq⟩⟩
  · rw [word_signs2 hw]
    refine ⟨p, _, rfl, SqL.of upd_same, ?_⟩
    show Q (V.bl ((List.replicate u.length true).all id)) _
    rw [all_true]
    exact q _ (same_new hp _)

abbrev s_law_pairs : Stmt := top 45
theorem sc_law_pairs : FnScope ["_law_script", "_law_part", "_law_base", "_law_other", "_law_there", "_law_away", "_law_first"] ["_law_script"] (defScope s_law_pairs) := ⟨rfl, rfl, rfl, by decide +kernel, rfl, by decide +kernel, by decide +kernel⟩
theorem ok_law_pairs (F : Fun K "_law_pairs" "_law_pairs" s_law_pairs f fd) (c_law_letters : Callee P w K mg base k "_law_letters" ["_law_script", "_law_by"] (spLetters K)) (c_law_walked : Callee P w K mg base k "_law_walked" ["_law_word", "_law_fraction"] spFollow) (c_law_moved : Callee P w K mg base k "_law_moved" ["_law_letter", "_law_fraction"] spLMoved) : FnOk P w K mg base CX0 (k + 1) f fd ["_law_script"] (spLPairs K) := by
  refine F.ok sc_law_pairs (fun vs H Q E h => ?_) (fun cdv A outer s H vs Q E hr h => ?_)
  · obtain ⟨a, ns, rfl, _⟩ := h; rfl
  obtain ⟨a, ns, rfl, hS, h63, q⟩ := h
  have nd := sc_law_pairs.nd
  have hu := hr.units
  refine ⟨_, (pss_cons (ps_set (i := 1) nd rfl (Or.inl rfl) (pe_calls c_law_walked hr rfl (pa_cons (pe_calls c_law_letters hr rfl (pa_cons (pv 0) (pa_cons pe_int pa_nil))) (pa_cons (pe_tup (pa_cons pe_int (pa_cons pe_int pa_nil))) pa_nil))))
      (pss_cons (ps_if (pt_cmpR (op_eqqK (K := K) hu rfl) (pv 1) (pe_tup (pa_cons pe_int (pa_cons pe_int pa_nil))) (nomark _)) (pss_one (ps_set (i := 1) nd rfl (Or.inl rfl) (pe_tup (pa_cons pe_int (pa_cons pe_int pa_nil))))) pss_nil)
      (pss_cons (ps_par (i := 2) (j := 3) rfl nd rfl rfl (by decide) rfl rfl (pa_cons (pe_tup (pa_cons (pe_tup (pa_cons pe_int (pa_cons pe_int pa_nil))) (pa_cons (pv 1) pa_nil))) (pa_cons (pe_tup (pa_cons (pe_tup (pa_cons pe_int (pa_cons pe_int pa_nil))) (pa_cons (pv 1) pa_nil))) pa_nil)) rfl)
      (pss_cons (ps_if (PW.pt (pw_and (pt_cmpR (op_neeK (K := K) hu rfl) (pv 0) (pe_lst pa_nil) (nomark _)) (pw_and (pt_cmpR (op_eqqK (K := K) hu rfl) (pe_op op_mod (pe_op op_fdivL (pe_ix (ix_anyK (K := K) (Pm := w.params) rfl rfl) (pv 0) (pe_un un_neg pe_int) (fun _ _ => rfl)) pe_int) pe_int) pe_int (nomark _)) (pw_and1 (pt_cmpR (op_neeK (K := K) hu rfl) (pv 1) (pe_tup (pa_cons pe_int (pa_cons pe_int pa_nil))) (nomark _)))))) (pss_one (ps_set (i := 3) nd rfl (Or.inl rfl) (pe_tup (pa_cons (pe_tup (pa_cons pe_int (pa_cons pe_int pa_nil))) (pa_cons (pe_calls c_law_moved hr rfl (pa_cons pe_str (pa_cons (pv 1) pa_nil))) pa_nil))))) pss_nil)
      (pss_cons (ps_if (PW.pt (pw_and (pt_cmpR (op_neeK (K := K) hu rfl) (pv 0) (pe_lst pa_nil) (nomark _)) (pw_and1 (pt_cmpR (op_eqqK (K := K) hu rfl) (pe_op op_mod (pe_op op_fdivL (pe_ix (ix_anyK (K := K) (Pm := w.params) rfl rfl) (pv 0) (pe_un un_neg pe_int) (fun _ _ => rfl)) pe_int) pe_int) pe_int (nomark _))))) (pss_one (ps_set (i := 3) nd rfl (Or.inl rfl) (pe_tup (pa_cons (pv 1) (pa_cons (pe_tup (pa_cons pe_int (pa_cons pe_int pa_nil))) pa_nil))))) pss_nil)
      (pss_cons (ps_par (i := 4) (j := 5) rfl nd rfl rfl (by decide) rfl rfl (pa_cons (pe_calls c_law_letters hr rfl (pa_cons (pv 0) (pa_cons pe_int pa_nil))) (pa_cons (pe_calls c_law_letters hr rfl (pa_cons (pv 0) (pa_cons pe_int pa_nil))) pa_nil)) rfl)
      (pss_cons (ps_set (i := 6) nd rfl (Or.inl rfl) (pe_tup (pa_cons (pe_calls c_law_walked hr rfl (pa_cons (pv 4) (pa_cons (pe_ix (ix_anyK (K := K) (Pm := w.params) rfl rfl) (pv 2) pe_int (fun _ _ => rfl)) pa_nil))) (pa_cons (pe_calls c_law_walked hr rfl (pa_cons (pv 4) (pa_cons (pe_ix (ix_anyK (K := K) (Pm := w.params) rfl rfl) (pv 2) pe_int (fun _ _ => rfl)) pa_nil))) pa_nil))))
      (pss_one (ps_ret (pe_tup (pa_cons (pv 6) (pa_cons (pe_tup (pa_cons (pe_calls c_law_walked hr rfl (pa_cons (pv 5) (pa_cons (pe_ix (ix_anyK (K := K) (Pm := w.params) rfl rfl) (pv 3) pe_int (fun _ _ => rfl)) pa_nil))) (pa_cons (pe_calls c_law_walked hr rfl (pa_cons (pv 5) (pa_cons (pe_ix (ix_anyK (K := K) (Pm := w.params) rfl rfl) (pv 3) pe_int (fun _ _ => rfl)) pa_nil))) pa_nil))) pa_nil)))))))))))), ?_⟩
  refine ⟨_, rfl, a, ns, 27, rfl, hS, h63, by decide, by decide, ?_⟩
  refine ⟨two_ok, fun z1 hz1 => ?_⟩
  have s0 := same_new (o := .tup [.int 0, .int 1]) hz1
  refine ⟨letters 27 ns, z1, (0, 1), rfl, upd_same, fun p0 H1 s1 hp0 => ?_⟩
  have l27 : (letters 27 ns).length ≤ 63 := by rw [letters_len]; exact h63
  have l1 : (letters 1 ns).length ≤ 63 := by rw [letters_len]; exact h63
  have l3 : (letters 3 ns).length ≤ 63 := by rw [letters_len]; exact h63
  have F0 : Fair (walk (letters 27 ns) (0, 1)) := ⟨walk_F F_nought, Nat.le_trans (size_walk (m := 1) l27 (by decide)) (pow_le (by decide)), by have := qf_walk (letters 27 ns) F_nought; rw [qf_nought] at this; omega⟩
  generalize walk (letters 27 ns) (0, 1) = g0 at hp0 F0
  try dsimp only [gName]
  refine seq_by (fun σ' H' => ∃ p g, σ' = [some (.ref a), some (.ref p), none, none, none, none, none] ∧ Same H H' ∧ H' p = some (fT g) ∧ Fair g ∧ g ≠ (1, 0)) (mo_if (mo_test (mo_op mo_eqq mo_var (mo_tup (mo_cons mo_c (mo_cons mo_c mo_nil))))) (mo_set (mo_tup (mo_cons mo_c (mo_cons mo_c mo_nil)))) mo_next) ?_ ?_
  · refine ⟨_, rfl, two_ok, fun t1 ht1 => .inr ⟨fD g0, fD (1, 0), fD_rd (same_new ht1 _ _ _ hp0), fD_rd upd_same, fD_depth _, _, rfl, eqD_eq (fun e => ?_) fun e => ?_⟩⟩
    · refine ⟨two_ok, fun t2 ht2 => ⟨t2, (0, 1), rfl, s0.trans (s1.trans ((same_new ht1 _).trans (same_new ht2 _))), upd_same, fair_nought, by decide⟩⟩
    · exact ⟨p0, g0, rfl, s0.trans (s1.trans (same_new ht1 _)), same_new ht1 _ _ _ hp0, F0, e⟩
  rintro σ' H2 ⟨p, g, rfl, s2, hp, Fg, gne⟩
  refine ⟨two_ok, fun e1 k1 => ⟨_, rfl, two_ok, fun b1 k2 => ⟨two_ok, fun e2 k3 => ⟨_, rfl, two_ok, fun b2 k4 => ⟨_, _, rfl, ?_⟩⟩⟩⟩⟩
  have S1 := same_new (o := .tup [.int 1, .int 0]) k1
  have S2 := same_new (o := .tup [.ref e1, .ref p]) k2
  have S3 := same_new (o := .tup [.int 1, .int 0]) k3
  have S4 := same_new (o := .tup [.ref e2, .ref p]) k4
  have T4 := S1.trans (S2.trans (S3.trans S4))
  have BA := (S3.trans S4) b1 _ upd_same
  have EA := (S2.trans (S3.trans S4)) e1 _ upd_same
  have EB := S4 e2 _ upd_same
  have OB := @upd_same (upd (upd (upd H2 e1 (.tup [.int 1, .int 0])) b1 (.tup [.ref e1, .ref p])) e2 (.tup [.int 1, .int 0])) b2 (.tup [.ref e2, .ref p])
  have hp4 := T4 _ _ hp
  have s4 := s2.trans T4
  generalize upd (upd (upd (upd H2 e1 (.tup [.int 1, .int 0])) b1 (.tup [.ref e1, .ref p])) e2 (.tup [.int 1, .int 0])) b2 (.tup [.ref e2, .ref p]) = H4 at *
  have pB : PairAt H4 b1 (1, 0) g := ⟨e1, p, BA, EA, hp4⟩
  have pO : PairAt H4 b2 (1, 0) g := ⟨e2, p, OB, EB, hp4⟩
  have hTest : MoT (tTest (tOp (rNee K) (tVar 0) (tLst tNil))) := mo_test (mo_op mo_nee mo_var (mo_lst mo_nil))
  have hLast : ∀ n : Int, MoT (tTest (tOp (rEqq K) (tOp (rI (fun _ j => 0 < j) fun i j => V.int (i % j)) (tOp (rI CDivL fun i j => V.int (i / j)) (tOp (rIxA K w.params) (tVar 0) (tUn (rU fun i => V.int (-i)) (tC (.int 1)))) (tC (.int 81))) (tC (.int 3))) (tC (.int n)))) := fun n => mo_test (mo_op mo_eqq (mo_op mo_rI (mo_op mo_rI (mo_op mo_ix mo_var (mo_un mo_rU mo_c)) mo_c) mo_c) mo_c)
  try dsimp only [gName]
  refine seq_by (fun σ' H' => ∃ o x y, σ' = [some (.ref a), some (.ref p), some (.ref b1), some (.ref o), none, none, none] ∧ Same H4 H' ∧ PairAt H' o x y ∧ Fair x ∧ Fair y ∧ x ≠ y) (mo_if (mo_and hTest (mo_and (hLast 1) (mo_test (mo_op mo_nee mo_var (mo_tup (mo_cons mo_c (mo_cons mo_c mo_nil))))))) (mo_set (mo_tup (mo_cons (mo_tup (mo_cons mo_c (mo_cons mo_c mo_nil))) (mo_cons (mo_call mo_spLMoved (mo_cons mo_c (mo_cons mo_var mo_nil))) mo_nil)))) mo_next) ?_ ?_
  · refine ⟨_, rfl, big (by decide), fun m hm => ?_⟩
    have sm := same_new (o := .lst []) hm
    refine .inr ⟨_, _, rd_script (s4.trans sm |>.seq hS), rd_nil upd_same, depth_list _, _, rfl, neL (fun e => ?_) fun e => ?_⟩
    · exact ⟨b2, (1, 0), g, rfl, sm, pO.same sm, fair_end, Fg, fun z => gne z.symm⟩
    · obtain ⟨n, hn⟩ := last_at e
      refine ⟨_, rfl, _, rfl, .inl (.inl ⟨a, _, -1, .int n, rfl, rfl, (s4.trans sm).seq hS, hn, _, _, rfl, rfl, ⟨by decide, by decide⟩, _, _, rfl, rfl, (by show (0 : Int) < 3; decide), .inl ⟨rfl, _, rfl, ?_⟩⟩)⟩
      refine ite2 (fun _ => ?_) (fun _ => ⟨b2, (1, 0), g, rfl, sm, pO.same sm, fair_end, Fg, fun z => gne z.symm⟩)
      refine ⟨_, rfl, two_ok, fun t ht => .inr ⟨fD g, fD (0, 1), fD_rd (same_new ht _ _ _ (sm _ _ hp4)), fD_rd upd_same, fD_depth _, _, rfl, ?_⟩⟩
      rw [if_pos (c := (true = true)) rfl, fD_eqv]
      have st := sm.trans (same_new (o := .tup [.int 0, .int 1]) ht)
      by_cases g0 : g = (0, 1)
      · rw [decide_eq_true g0]
        exact iteF ⟨b2, (1, 0), g, rfl, st, pO.same st, fair_end, Fg, fun z => gne z.symm⟩
      · rw [decide_eq_false g0]
        refine iteT ⟨two_ok, fun e3 k5 => ⟨_, rfl, 114, p, g, by rw [lit_r] <;> rfl, same_new k5 _ _ _ (st _ _ hp4), fun r H5 s5 hr5 => ⟨two_ok, fun b3 k6 => ?_⟩⟩⟩
        have T5 := st.trans ((same_new k5 (.tup [.int 1, .int 0])).trans (s5.trans (same_new k6 (.tup [.ref e3, .ref r]))))
        refine ⟨b3, (1, 0), mv 114 g, rfl, T5, ⟨e3, r, upd_same, same_new k6 _ _ _ (s5 _ _ upd_same), same_new k6 _ _ _ hr5⟩, fair_end, ?_, ?_⟩
        · exact ⟨mv_F Fg.F, by have := turn_size Fg.F; have := Fg.sz; omega, Nat.le_trans (turn_qf g) Fg.q⟩
        · intro z
          refine g0 ?_
          have := turn_turn Fg.F
          rw [← z] at this
          rw [← this]
          rfl
  rintro σ' H5 ⟨o, x, y, rfl, s5, pO5, Fx, Fy, xy⟩
  have hp5 := s5 _ _ hp4
  try dsimp only [gName]
  refine seq_by (fun σ' H' => ∃ o x y, σ' = [some (.ref a), some (.ref p), some (.ref b1), some (.ref o), none, none, none] ∧ Same H4 H' ∧ PairAt H' o x y ∧ Fair x ∧ Fair y ∧ x ≠ y) (mo_if (mo_and hTest (hLast 2)) (mo_set (mo_tup (mo_cons mo_var (mo_cons (mo_tup (mo_cons mo_c (mo_cons mo_c mo_nil))) mo_nil)))) mo_next) ?_ ?_
  · refine ⟨_, rfl, big (by decide), fun m hm => ?_⟩
    have sm := same_new (o := .lst []) hm
    have t5 := s5.trans sm
    refine .inr ⟨_, _, rd_script ((s4.trans t5).seq hS), rd_nil upd_same, depth_list _, _, rfl, neL (fun e => ?_) fun e => ?_⟩
    · exact ⟨o, x, y, rfl, t5, pO5.same sm, Fx, Fy, xy⟩
    · obtain ⟨n, hn⟩ := last_at e
      refine ⟨_, rfl, _, rfl, .inl (.inl ⟨a, _, -1, .int n, rfl, rfl, (s4.trans t5).seq hS, hn, _, _, rfl, rfl, ⟨by decide, by decide⟩, _, _, rfl, rfl, (by show (0 : Int) < 3; decide), .inl ⟨rfl, _, rfl, ?_⟩⟩)⟩
      refine ite2 (fun _ => ?_) (fun _ => ⟨o, x, y, rfl, t5, pO5.same sm, Fx, Fy, xy⟩)
      refine ⟨_, rfl, two_ok, fun e3 k5 => ⟨two_ok, fun b3 k6 => ?_⟩⟩
      have T6 := (same_new k5 (.tup [.int 1, .int 0])).trans (same_new k6 (.tup [.ref p, .ref e3]))
      exact ⟨b3, g, (1, 0), rfl, t5.trans T6, ⟨p, e3, upd_same, T6 _ _ (sm _ _ hp5), same_new k6 _ _ _ upd_same⟩, Fg, fair_end, gne⟩
  rintro σ' H6 ⟨o', x', y', rfl, s6, pO6, Fx', Fy', xy'⟩
  have t6 := s4.trans s6
  refine ⟨_, rfl, a, ns, 1, rfl, t6.seq hS, h63, by decide, by decide, ?_⟩
  refine ⟨_, rfl, a, ns, 3, rfl, t6.seq hS, h63, by decide, by decide, _, _, rfl, ?_⟩
  obtain ⟨ba, bb, eb, ea, eb2⟩ := pB.same s6
  refine ⟨_, rfl, _, rfl, .inl (.inr (.inl ⟨b1, _, 0, .ref ba, rfl, rfl, SqT.of eb, rfl, letters 1 ns, ba, (1, 0), rfl, ea, fun r1 H7 s7 h7 => ?_⟩))⟩
  refine ⟨_, rfl, _, rfl, .inl (.inr (.inl ⟨b1, _, 1, .ref bb, rfl, rfl, SqT.of (s7 _ _ eb), rfl, letters 1 ns, bb, g, rfl, s7 _ _ eb2, fun r2 H8 s8 h8 => ?_⟩))⟩
  refine ⟨two_ok, fun m1 k7 => ?_⟩
  have s9 := same_new (o := .tup [.ref r1, .ref r2]) k7
  have T9 := s7.trans (s8.trans s9)
  have P1 : PairAt (upd H8 m1 (.tup [.ref r1, .ref r2])) m1 (walk (letters 1 ns) (1, 0)) (walk (letters 1 ns) g) := ⟨r1, r2, upd_same, s9 _ _ (s8 _ _ h7), s9 _ _ h8⟩
  obtain ⟨oa, ob, eo, eoa, eob⟩ := pO6.same T9
  refine ⟨_, rfl, ?_⟩
  refine ⟨_, rfl, _, rfl, .inl (.inr (.inl ⟨o', _, 0, .ref oa, rfl, rfl, SqT.of eo, rfl, letters 3 ns, oa, x', rfl, eoa, fun r3 H10 s10 h10 => ?_⟩))⟩
  refine ⟨_, rfl, _, rfl, .inl (.inr (.inl ⟨o', _, 1, .ref ob, rfl, rfl, SqT.of (s10 _ _ eo), rfl, letters 3 ns, ob, y', rfl, s10 _ _ eob, fun r4 H11 s11 h11 => ?_⟩))⟩
  refine ⟨two_ok, fun m2 k8 => ⟨two_ok, fun m3 k9 => ?_⟩⟩
  have s12 := same_new (o := .tup [.ref r3, .ref r4]) k8
  have s13 := same_new (o := .tup [.ref m1, .ref m2]) k9
  have P2 : PairAt (upd H11 m2 (.tup [.ref r3, .ref r4])) m2 (walk (letters 3 ns) x') (walk (letters 3 ns) y') := ⟨r3, r4, upd_same, s12 _ _ (s11 _ _ h10), s12 _ _ h11⟩
  refine q m3 m1 m2 _ _ _ _ _ (t6.trans (T9.trans (s10.trans (s11.trans (s12.trans s13))))) upd_same (P1.same (s10.trans (s11.trans (s12.trans s13)))) (P2.same s13) ?_ ?_ ?_ ?_ ?_ ?_
  · exact nice2_walk (m := 66) (c := 70) F_end l1 (by decide) (by rw [qf_end]; decide) (by decide) (by decide)
  · exact nice2_walk Fg.F l1 Fg.sz (Nat.le_trans Fg.q (by decide : 64 ≤ 70)) (by decide) (by decide)
  · exact nice2_walk Fx'.F l3 Fx'.sz (Nat.le_trans Fx'.q (by decide : 64 ≤ 70)) (by decide) (by decide)
  · exact nice2_walk Fy'.F l3 Fy'.sz (Nat.le_trans Fy'.q (by decide : 64 ≤ 70)) (by decide) (by decide)
  · intro z
    exact gne (walk_inj (letters_W 1 ns) F_end Fg.F z).symm
  · intro z
    exact xy' (walk_inj (letters_W 3 ns) Fx'.F Fy'.F z)

end
end K06

set_option Elab.async false
set_option linter.all false
set_option maxRecDepth 100000
set_option maxHeartbeats 4000000
namespace K06
open PySem L2 TW TX
seal L2.PE L2.PT L2.PA L2.PS L2.PSs L2.PI L2.PG L2.PGs L2.PW L2.PTs L2.PO
section
variable {P : Program} {w : World} {K : PySem.W.Frag} {mg : Str → Option Value} {base : Heap} {f : Addr} {fd : FuncData} {k : Nat}
abbrev s_law_right : Stmt := top 47
theorem sc_law_right : FnScope ["_law_pair", "_law_other", "_law_found", "_law_one", "_law_two"] ["_law_pair", "_law_other", "_law_found"] (defScope s_law_right) := ⟨rfl, rfl, rfl, by decide +kernel, rfl, by decide +kernel, by decide +kernel⟩
theorem ok_law_right {CAnswer CLed CParts CElsewhere CRounds : Addr} (G : Glo mg) (mAnswer : mg "Answer" = some (.ref CAnswer)) (mLed : mg "Led" = some (.ref CLed)) (mParts : mg "Parts" = some (.ref CParts)) (mElsewhere : mg "Elsewhere" = some (.ref CElsewhere)) (mRounds : mg "Rounds" = some (.ref CRounds))
    (kL : KCls K CLed) (kP : KCls K CParts) (nL : PySem.W.findIn K (.ref CLed) "word" = some none) (nT : PySem.W.findIn K (.ref CParts) "there" = some none) (nB : PySem.W.findIn K (.ref CParts) "back" = some none)
    (l1 : PySem.W.kitOne K (.ref CLed) (.ref CAnswer) = some true) (l2 : PySem.W.kitOne K (.ref CLed) (.ref CLed) = some true) (l3 : PySem.W.kitOne K (.ref CLed) (.ref CParts) = some false) (l4 : PySem.W.kitOne K (.ref CLed) (.ref CElsewhere) = some false) (l5 : PySem.W.kitOne K (.ref CLed) (.ref CRounds) = some false) (p1 : PySem.W.kitOne K (.ref CParts) (.ref CAnswer) = some true) (p2 : PySem.W.kitOne K (.ref CParts) (.ref CLed) = some false) (p3 : PySem.W.kitOne K (.ref CParts) (.ref CParts) = some true) (p4 : PySem.W.kitOne K (.ref CParts) (.ref CElsewhere) = some false) (p5 : PySem.W.kitOne K (.ref CParts) (.ref CRounds) = some false)
    (F : Fun K "_law_right" "_law_right" s_law_right f fd) (c_A_shows : Method P w K mg base k CLed "shows" ["self", "pair", "other"] (spLedShows CLed)) (c_B_shows : Method P w K mg base k CParts "shows" ["self", "pair", "other"] (spPartsShows CParts)) (c_law_is_word : Callee P w K mg base k "_law_is_word" ["_law_thing"] spWord) (c_law_walked : Callee P w K mg base k "_law_walked" ["_law_word", "_law_fraction"] spFollow) :
    FnOk P w K mg base CX0 (k + 1) f fd ["_law_pair", "_law_other", "_law_found"] (spRight6 CLed CParts) := by
  refine F.ok sc_law_right (fun vs H Q E h => ?_) (fun cdv A outer s H vs Q E hr h => ?_)
  · obtain ⟨p, r, o, g, h', g', h'', rfl, _⟩ := h; rfl
  obtain ⟨p, r, o, g, h, g', h', rfl, hp, hrr, hf, q⟩ := h
  have nd := sc_law_right.nd
  have hu := hr.units
  refine ⟨_, (pss_cons (ps_if (PW.pt (pw_or (pt_not (pt_val (pe_callB (call_isiAK (K := K) rfl) rfl G.n_isinstance bt_isinstance (pa_cons (pv 2) (pa_cons (pe_glob (v := .ref CAnswer) rfl mAnswer rfl) pa_nil))))) (pw_or1 (pt_cmpR op_eq (pe_callB (call_isiAK (K := K) rfl) rfl G.n_isinstance bt_isinstance (pa_cons (pv 2) (pa_cons (pe_glob (v := .ref CLed) rfl mLed rfl) pa_nil))) (pe_callB (call_isiAK (K := K) rfl) rfl G.n_isinstance bt_isinstance (pa_cons (pv 2) (pa_cons (pe_glob (v := .ref CParts) rfl mParts rfl) pa_nil))) (nomark _))))) (pss_one (ps_ret pe_bl)) pss_nil)
      (pss_cons (ps_if (PW.pt (pw_or (pt_val (pe_callB (call_isiAK (K := K) rfl) rfl G.n_isinstance bt_isinstance (pa_cons (pv 2) (pa_cons (pe_glob (v := .ref CElsewhere) rfl mElsewhere rfl) pa_nil)))) (pw_or (pt_val (pe_callB (call_isiAK (K := K) rfl) rfl G.n_isinstance bt_isinstance (pa_cons (pv 2) (pa_cons (pe_glob (v := .ref CRounds) rfl mRounds rfl) pa_nil)))) (pw_or1 (pt_cmpR op_isntA (PE.or (pe_meths (pl := _) (pv 2) kL.cl c_A_shows hr (pa_cons (pv 0) (pa_cons (pv 1) pa_nil))) (pe_meths (pl := _) (pv 2) kP.cl c_B_shows hr (pa_cons (pv 0) (pa_cons (pv 1) pa_nil)))) pe_bl (nomark _)))))) (pss_one (ps_ret pe_bl)) pss_nil)
      (pss_cons (ps_if (pt_val (pe_callB (call_isiAK (K := K) rfl) rfl G.n_isinstance bt_isinstance (pa_cons (pv 2) (pa_cons (pe_glob (v := .ref CLed) rfl mLed rfl) pa_nil)))) (pss_cons (ps_if (PW.pt (pw_or (pt_not (pt_val (pe_calls c_law_is_word hr rfl (pa_cons (pe_fld (pv 2) rfl) pa_nil)))) (pw_or1 (pt_cmpR (op_neDK (K := K) hu rfl) (pe_calls c_law_walked hr rfl (pa_cons (pe_fld (pv 2) rfl) (pa_cons (pe_ix (ix_tupK (K := K) rfl) (pv 0) pe_int (fun _ _ => rfl)) pa_nil))) (pe_ix (ix_tupK (K := K) rfl) (pv 1) pe_int (fun _ _ => rfl)) (nomark _))))) (pss_one (ps_ret pe_bl)) pss_nil)
      (pss_one (ps_ret (pe_cmpR (op_eqDK (K := K) hu rfl) (pe_calls c_law_walked hr rfl (pa_cons (pe_fld (pv 2) rfl) (pa_cons (pe_ix (ix_tupK (K := K) rfl) (pv 0) pe_int (fun _ _ => rfl)) pa_nil))) (pe_ix (ix_tupK (K := K) rfl) (pv 1) pe_int (fun _ _ => rfl)) (nomark _))))) pss_nil)
      (pss_cons (ps_if (PW.pt (pw_or (pt_not (pt_val (pe_calls c_law_is_word hr rfl (pa_cons (pe_fld (pv 2) rfl) pa_nil)))) (pw_or1 (pt_not (pt_val (pe_calls c_law_is_word hr rfl (pa_cons (pe_fld (pv 2) rfl) pa_nil))))))) (pss_one (ps_ret pe_bl)) pss_nil)
      (pss_cons (ps_if (PW.pt (pw_or (pt_cmpR (op_neDK (K := K) hu rfl) (pe_calls c_law_walked hr rfl (pa_cons (pe_fld (pv 2) rfl) (pa_cons (pe_ix (ix_tupK (K := K) rfl) (pv 0) pe_int (fun _ _ => rfl)) pa_nil))) (pe_tup (pa_cons pe_int (pa_cons pe_int pa_nil))) (nomark _)) (pw_or1 (pt_cmpR (op_neDK (K := K) hu rfl) (pe_calls c_law_walked hr rfl (pa_cons (pe_fld (pv 2) rfl) (pa_cons (pe_ix (ix_tupK (K := K) rfl) (pv 1) pe_int (fun _ _ => rfl)) pa_nil))) (pe_tup (pa_cons pe_int (pa_cons pe_int pa_nil))) (nomark _))))) (pss_one (ps_ret pe_bl)) pss_nil)
      (pss_cons (ps_par (i := 3) (j := 4) rfl nd rfl rfl (by decide) rfl rfl (pa_cons (pe_calls c_law_walked hr rfl (pa_cons (pe_fld (pv 2) rfl) (pa_cons (pe_ix (ix_tupK (K := K) rfl) (pv 0) pe_int (fun _ _ => rfl)) pa_nil))) (pa_cons (pe_calls c_law_walked hr rfl (pa_cons (pe_fld (pv 2) rfl) (pa_cons (pe_ix (ix_tupK (K := K) rfl) (pv 1) pe_int (fun _ _ => rfl)) pa_nil))) pa_nil)) rfl)
      (pss_one (ps_ret (pe_and (pe_chain op_le op_lt pe_int (pe_ix (ix_tupK (K := K) rfl) (pv 3) pe_int (fun _ _ => rfl)) (pe_ix (ix_tupK (K := K) rfl) (pv 3) pe_int (fun _ _ => rfl))) (pe_and (pe_chain op_le op_lt pe_int (pe_ix (ix_tupK (K := K) rfl) (pv 4) pe_int (fun _ _ => rfl)) (pe_ix (ix_tupK (K := K) rfl) (pv 4) pe_int (fun _ _ => rfl))) (pe_one (pe_cmpR (op_neDK (K := K) hu rfl) (pv 3) (pv 4) (nomark _))))))))))))), ?_⟩
  rcases hf with ⟨u, ⟨dx, ho⟩, Wu, lu, e1, e2⟩ | ⟨u, v, ⟨dx, ho⟩, Wu, Wv, lu, lv, e1, e2, e3, e4, e5⟩
  · have ty := kL.ty ho
    refine ⟨_, rfl, .inr ⟨_, _, _, _, rfl, ty, l1, _, rfl, iteF ?_⟩⟩
    refine ⟨_, rfl, .inr ⟨_, _, _, _, rfl, ty, l2, _, rfl, .inr ⟨_, _, _, _, rfl, ty, l3, ⟨rfl, _, rfl, iteF ?_⟩⟩⟩⟩
    refine ⟨_, rfl, .inr ⟨_, _, _, _, rfl, ty, l4, _, rfl, iteF ?_⟩⟩
    refine ⟨_, rfl, .inr ⟨_, _, _, _, rfl, ty, l5, _, rfl, iteF ?_⟩⟩
    refine .inl ⟨_, rfl, o, dx, _, rfl, ho, rfl, _, rfl, _, rfl, ?_⟩
    refine ⟨o, p, r, u, g, h, g', h', rfl, ⟨dx, ho⟩, hp, hrr, fun H1 s1 => ?_⟩
    rw [decide_eq_true e1, decide_eq_true e2]
    refine .inr ⟨true, true, rfl, rfl, _, rfl, iteF ?_⟩
    have ho1 := s1 _ _ ho
    refine ⟨_, rfl, .inr ⟨_, _, _, _, rfl, kL.ty ho1, l2, _, rfl, iteT ?_⟩⟩
    refine ⟨_, rfl, o, CLed, dx, _, _, rfl, ho1, kL.cl, nL, rfl, u, rfl, Wu, by omega, fun H2 s2 => ⟨_, rfl, iteF ?_⟩⟩
    have T2 := s1.trans s2
    obtain ⟨a, b, ep, ea, eb⟩ := hp.same T2
    obtain ⟨c, d, er, ec, ed⟩ := hrr.same T2
    have ho2 := T2 _ _ ho
    refine ⟨_, rfl, o, CLed, dx, _, _, rfl, ho2, kL.cl, nL, rfl, _, rfl, ⟨p, _, 0, .ref a, rfl, rfl, SqT.of ep, rfl, u, a, g, rfl, ea, fun x H3 s3 hx => ?_⟩⟩
    refine ⟨_, rfl, ⟨r, _, 0, .ref c, rfl, rfl, SqT.of (s3 _ _ er), rfl, ⟨fD (walk u g), fD g', fD_rd hx, fD_rd (s3 _ _ ec), fD_depth _, _, rfl, neD_same e1 ?_⟩⟩⟩
    refine ⟨_, rfl, o, CLed, dx, _, _, rfl, s3 _ _ ho2, kL.cl, nL, rfl, _, rfl, ⟨p, _, 1, .ref b, rfl, rfl, SqT.of (s3 _ _ ep), rfl, u, b, h, rfl, s3 _ _ eb, fun y H4 s4 hy => ?_⟩⟩
    refine ⟨_, rfl, ⟨r, _, 1, .ref d, rfl, rfl, SqT.of (s4 _ _ (s3 _ _ er)), rfl, ⟨fD (walk u h), fD h', fD_rd hy, fD_rd (s4 _ _ (s3 _ _ ed)), fD_depth _, ?_⟩⟩⟩
    rw [if_neg Bool.false_ne_true, fD_eqv, decide_eq_true e2]
    exact q _ (T2.trans (s3.trans s4))
  · have ty := kP.ty ho
    refine ⟨_, rfl, .inr ⟨_, _, _, _, rfl, ty, p1, _, rfl, iteF ?_⟩⟩
    refine ⟨_, rfl, .inr ⟨_, _, _, _, rfl, ty, p2, _, rfl, .inr ⟨_, _, _, _, rfl, ty, p3, ⟨rfl, _, rfl, iteF ?_⟩⟩⟩⟩
    refine ⟨_, rfl, .inr ⟨_, _, _, _, rfl, ty, p4, _, rfl, iteF ?_⟩⟩
    refine ⟨_, rfl, .inr ⟨_, _, _, _, rfl, ty, p5, _, rfl, iteF ?_⟩⟩
    refine .inr ⟨_, rfl, o, dx, _, rfl, ho, rfl, _, rfl, _, rfl, ?_⟩
    refine ⟨o, p, r, u, v, g, h, g', h', rfl, ⟨dx, ho⟩, hp, hrr, fun H1 s1 => ?_⟩
    have b1 : ppb u g h = true := by unfold ppb; rw [decide_eq_true e1, decide_eq_true e3.1, decide_eq_true e3.2]; rfl
    have b2 : ppb v g' h' = true := by unfold ppb; rw [decide_eq_true e2, decide_eq_true e4.1, decide_eq_true e4.2]; rfl
    rw [b1, b2, decide_eq_false e5]
    refine .inr ⟨true, true, rfl, rfl, _, rfl, iteF ?_⟩
    have ho1 := s1 _ _ ho
    refine ⟨_, rfl, .inr ⟨_, _, _, _, rfl, kP.ty ho1, p2, _, rfl, iteF ?_⟩⟩
    refine ⟨_, rfl, o, CParts, dx, _, _, rfl, ho1, kP.cl, nT, rfl, u, rfl, Wu, by omega, fun H2 s2 => ⟨_, rfl, iteF ?_⟩⟩
    refine ⟨_, rfl, o, CParts, dx, _, _, rfl, s2 _ _ ho1, kP.cl, nB, rfl, v, rfl, Wv, by omega, fun H3 s3 => ⟨_, rfl, iteF ?_⟩⟩
    have T3 := s1.trans (s2.trans s3)
    obtain ⟨a, b, ep, ea, eb⟩ := hp.same T3
    obtain ⟨c, d, er, ec, ed⟩ := hrr.same T3
    have ho3 := T3 _ _ ho
    refine ⟨_, rfl, o, CParts, dx, _, _, rfl, ho3, kP.cl, nT, rfl, _, rfl, ⟨p, _, 0, .ref a, rfl, rfl, SqT.of ep, rfl, u, a, g, rfl, ea, fun x H4 s4 hx => ⟨two_ok, fun t ht => ?_⟩⟩⟩
    have st := same_new (o := .tup [.int 1, .int 0]) ht
    refine ⟨fD (walk u g), fD (1, 0), fD_rd (st _ _ hx), fD_rd upd_same, fD_depth _, _, rfl, neD_same e1 ?_⟩
    have T5 := s4.trans st
    refine ⟨_, rfl, o, CParts, dx, _, _, rfl, T5 _ _ ho3, kP.cl, nB, rfl, _, rfl, ⟨r, _, 0, .ref c, rfl, rfl, SqT.of (T5 _ _ er), rfl, v, c, g', rfl, T5 _ _ ec, fun y H6 s6 hy => ⟨two_ok, fun t2 ht2 => ?_⟩⟩⟩
    have st2 := same_new (o := .tup [.int 1, .int 0]) ht2
    refine ⟨fD (walk v g'), fD (1, 0), fD_rd (st2 _ _ hy), fD_rd upd_same, fD_depth _, _, rfl, neD_same e2 ?_⟩
    have T7 := T5.trans (s6.trans st2)
    refine ⟨_, rfl, o, CParts, dx, _, _, rfl, T7 _ _ ho3, kP.cl, nT, rfl, _, rfl, ⟨p, _, 1, .ref b, rfl, rfl, SqT.of (T7 _ _ ep), rfl, u, b, h, rfl, T7 _ _ eb, fun x2 H8 s8 hx2 => ?_⟩⟩
    have T8 := T7.trans s8
    refine ⟨_, rfl, o, CParts, dx, _, _, rfl, T8 _ _ ho3, kP.cl, nB, rfl, _, rfl, ⟨r, _, 1, .ref d, rfl, rfl, SqT.of (T8 _ _ er), rfl, v, d, h', rfl, T8 _ _ ed, fun y2 H9 s9 hy2 => ⟨_, _, rfl, ?_⟩⟩⟩
    have hx3 := s9 _ _ hx2
    have rest : Same H H9 := T3.trans (T8.trans s9)
    generalize walk u h = m at *
    generalize walk v h' = n at *
    have hx' : H9 x2 = some (.tup [.int m.1, .int m.2]) := hx3
    have hy' : H9 y2 = some (.tup [.int n.1, .int n.2]) := hy2
    refine ⟨_, rfl, ⟨x2, _, 0, .int m.1, rfl, rfl, SqT.of hx', rfl, _, _, rfl, rfl, _, rfl, ?_⟩⟩
    rw [decide_eq_true e3.1]
    refine iteT ⟨_, rfl, ⟨x2, _, 1, .int m.2, rfl, rfl, SqT.of hx', rfl, _, _, rfl, rfl, _, rfl, ?_⟩⟩
    rw [decide_eq_true e3.2]
    refine iteT ⟨_, rfl, ⟨y2, _, 0, .int n.1, rfl, rfl, SqT.of hy', rfl, _, _, rfl, rfl, _, rfl, ?_⟩⟩
    rw [decide_eq_true e4.1]
    refine iteT ⟨_, rfl, ⟨y2, _, 1, .int n.2, rfl, rfl, SqT.of hy', rfl, _, _, rfl, rfl, _, rfl, ?_⟩⟩
    rw [decide_eq_true e4.2]
    refine iteT ⟨_, rfl, _, rfl, ⟨fD m, fD n, fD_rd hx3, fD_rd hy2, fD_depth _, ?_⟩⟩
    rw [if_pos (c := (true = true)) rfl, fD_eqv, decide_eq_false e5]
    exact q _ rest

end
end K06

set_option Elab.async false
set_option linter.all false
set_option maxRecDepth 100000
set_option maxHeartbeats 4000000
namespace K06
open PySem L2 TW TX
seal L2.PE L2.PT L2.PA L2.PS L2.PSs L2.PI L2.PG L2.PGs L2.PW L2.PTs L2.PO
section
variable {P : Program} {w : World} {K : PySem.W.Frag} {mg : Str → Option Value} {base : Heap} {f : Addr} {fd : FuncData} {k : Nat}
abbrev s_law : Stmt := top 48
theorem sc_law : FnScope ["_law_script", "_law_pair", "_law_other", "_law_first", "_law_second"] ["_law_script"] (defScope s_law) := ⟨rfl, rfl, rfl, by decide +kernel, rfl, by decide +kernel, by decide +kernel⟩
theorem ok_law {CLed CParts : Addr} (G : Glo mg) (mLed : mg "Led" = some (.ref CLed)) (kL : KCls K CLed) (l2 : PySem.W.kitOne K (.ref CLed) (.ref CLed) = some true) (F : Fun K "law" "law" s_law f fd) (c_law_pairs : Callee P w K mg base k "_law_pairs" ["_law_script"] (spLPairs K)) (c_led : Callee P w K mg base k "led" ["pair", "other"] (spLed CLed CParts)) (c_law_right : Callee P w K mg base k "_law_right" ["_law_pair", "_law_other", "_law_found"] (spRight6 CLed CParts)) : FnOk P w K mg base CX0 (k + 1) f fd ["_law_script"] (spLaw K) := by
  refine F.ok sc_law (fun vs H Q E h => ?_) (fun cdv A outer s H vs Q E hr h => ?_)
  · obtain ⟨a, ns, rfl, _⟩ := h; rfl
  obtain ⟨a, ns, rfl, hS, h63, q⟩ := h
  have nd := sc_law.nd
  refine ⟨_, (pss_cons (ps_asg (pe_calls c_law_pairs hr rfl (pa_cons (pv 0) pa_nil)) (pg_tup rfl (pgs_cons (pg_name (i := 1) nd rfl (Or.inl rfl)) (pgs_cons (pg_name (i := 2) nd rfl (Or.inl rfl)) pgs_nil))))
      (pss_cons (ps_for PassesOwn.never rfl (pi_list (pe_lst (pa_cons (pe_tup (pa_cons (pv 1) (pa_cons (pv 2) pa_nil))) (pa_cons (pe_tup (pa_cons (pv 2) (pa_cons (pv 1) pa_nil))) (pa_cons (pe_tup (pa_cons (pv 1) (pa_cons (pe_rev2 (pv 1) (pe_un un_neg pe_int)) pa_nil))) (pa_cons (pe_tup (pa_cons (pv 2) (pa_cons (pe_tup (pa_cons (pe_tup (pa_cons pe_int (pa_cons pe_int pa_nil))) (pa_cons (pe_tup (pa_cons pe_int (pa_cons pe_int pa_nil))) pa_nil))) pa_nil))) (pa_cons (pe_tup (pa_cons (pv 1) (pa_cons (pv 2) pa_nil))) pa_nil))))))) (pg_tup rfl (pgs_cons (pg_name (i := 3) nd rfl (Or.inl rfl)) (pgs_cons (pg_name (i := 4) nd rfl (Or.inl rfl)) pgs_nil))) (pss_one (ps_if (pt_not (pt_val (pe_calls c_law_right hr rfl (pa_cons (pv 3) (pa_cons (pv 4) (pa_cons (pe_calls c_led hr rfl (pa_cons (pv 3) (pa_cons (pv 4) pa_nil))) pa_nil)))))) (pss_one (ps_ret pe_bl)) pss_nil)))
      (pss_one (ps_ret (pe_callB (call_isiAK (K := K) rfl) rfl G.n_isinstance bt_isinstance (pa_cons (pe_calls c_led hr rfl (pa_cons (pv 1) (pa_cons (pv 1) pa_nil))) (pa_cons (pe_glob (v := .ref CLed) rfl mLed rfl) pa_nil))))))), ?_⟩
  refine ⟨_, rfl, a, ns, rfl, hS, h63, fun t p r g h g' h' H1 s1 ht hp hrr Ng Nh Ng' Nh' ne ne' => ?_⟩
  refine ⟨t, _, rfl, SqT.of ht, rfl, _, _, rfl, _, _, rfl, rfl, ?_⟩
  obtain ⟨pa, pb, ep, epa, epb⟩ := id hp
  refine ⟨_, rfl, _, rfl, two_ok, fun a1 k1 => ?_⟩
  have S1 := same_new (o := .tup [.ref p, .ref r]) k1
  refine ⟨_, rfl, _, rfl, two_ok, fun a2 k2 => ?_⟩
  have S2 := same_new (o := .tup [.ref r, .ref p]) k2
  refine ⟨_, rfl, _, rfl, _, rfl, p, .ref pa, .ref pb, rfl, rfl, SqT.of (S2 _ _ (S1 _ _ ep)), fun b3 j3 => ?_⟩
  have J3 := same_new (o := .tup [.ref pb, .ref pa]) j3
  refine ⟨two_ok, fun a3 k3 => ?_⟩
  have S3 := same_new (o := .tup [.ref p, .ref b3]) k3
  refine ⟨_, rfl, two_ok, fun e4 j4 => ⟨two_ok, fun z4 i4 => ⟨two_ok, fun b4 h4 => ⟨two_ok, fun a4 k4 => ?_⟩⟩⟩⟩
  have J4 := same_new (o := .tup [.int 1, .int 0]) j4
  have I4 := same_new (o := .tup [.int 0, .int 1]) i4
  have B4 := same_new (o := .tup [.ref e4, .ref z4]) h4
  have S4 := same_new (o := .tup [.ref r, .ref b4]) k4
  refine ⟨_, rfl, _, rfl, two_ok, fun a5 k5 => ⟨big (show 5 ≤ 1000000 by decide), fun pl kl => ⟨pl, rfl, ⟨_, SqL.of upd_same⟩, ?_⟩⟩⟩
  have S5 := same_new (o := .tup [.ref p, .ref r]) k5
  have SL := same_new (o := .lst [.ref a1, .ref a2, .ref a3, .ref a4, .ref a5]) kl
  have U5 := SL
  have U4 := S5.trans U5
  have Ub4 := S4.trans U4
  have Ui4 := B4.trans Ub4
  have Uj4 := I4.trans Ui4
  have U3 := J4.trans Uj4
  have Uj3 := S3.trans U3
  have U2 := J3.trans Uj3
  have U1 := S2.trans U2
  have U0 := S1.trans U1
  have E1 := U1 a1 _ upd_same
  have E2 := U2 a2 _ upd_same
  have E3 := U3 a3 _ upd_same
  have E4 := U4 a4 _ upd_same
  have E5 := U5 a5 _ upd_same
  have X3 := Uj3 b3 _ upd_same
  have X4 := Ub4 b4 _ upd_same
  have Y4 := Ui4 z4 _ upd_same
  have Z4 := Uj4 e4 _ upd_same
  have EL := @upd_same (upd (upd (upd (upd (upd (upd (upd (upd (upd H1 a1 (.tup [.ref p, .ref r])) a2 (.tup [.ref r, .ref p])) b3 (.tup [.ref pb, .ref pa])) a3 (.tup [.ref p, .ref b3])) e4 (.tup [.int 1, .int 0])) z4 (.tup [.int 0, .int 1])) b4 (.tup [.ref e4, .ref z4])) a4 (.tup [.ref r, .ref b4])) a5 (.tup [.ref p, .ref r])) pl (.lst [.ref a1, .ref a2, .ref a3, .ref a4, .ref a5])
  have P1 := hp.same U0
  have P2 := hrr.same U0
  have F1 := U0 _ _ epa
  have F2 := U0 _ _ epb
  generalize upd (upd (upd (upd (upd (upd (upd (upd (upd (upd H1 a1 (.tup [.ref p, .ref r])) a2 (.tup [.ref r, .ref p])) b3 (.tup [.ref pb, .ref pa])) a3 (.tup [.ref p, .ref b3])) e4 (.tup [.int 1, .int 0])) z4 (.tup [.int 0, .int 1])) b4 (.tup [.ref e4, .ref z4])) a4 (.tup [.ref r, .ref b4])) a5 (.tup [.ref p, .ref r])) pl (.lst [.ref a1, .ref a2, .ref a3, .ref a4, .ref a5]) = H9 at *
  have P3 : PairAt H9 b3 h g := ⟨pb, pa, X3, F2, F1⟩
  have P4 : PairAt H9 b4 (1, 0) (0, 1) := ⟨e4, z4, X4, Z4, Y4⟩
  have Ne : Nice2 (1, 0) := ⟨F_end, Nat.le_trans (by decide) (pow_le (show 2 ≤ 1000 by decide)), by rw [qf_end]; decide⟩
  have Nz : Nice2 (0, 1) := ⟨F_nought, Nat.le_trans (by decide) (pow_le (show 2 ≤ 1000 by decide)), by rw [qf_nought]; decide⟩
  refine for_on (ItOn.list (xs := [.ref a1, .ref a2, .ref a3, .ref a4, .ref a5])) (fun i σ' H' => Same H9 H' ∧ ∃ b d, σ' = [some (.ref a), some (.ref p), some (.ref r), b, d]) ⟨Same.refl _, _, _, rfl⟩ (fun i σ' H' _ h => SqL.of (h.1 _ _ EL)) ?_ ?_
  · rintro i x σ' H' hx ⟨hs, b, d, rfl⟩
    have hg : ∃ (t p r : Addr) (g h g' h' : Fr), x = .ref t ∧ H9 t = some (.tup [.ref p, .ref r]) ∧ PairAt H9 p g h ∧ PairAt H9 r g' h' ∧ Nice2 g ∧ Nice2 h ∧ Nice2 g' ∧ Nice2 h' ∧ g ≠ h ∧ g' ≠ h' := by
      have hm := List.mem_of_getElem? hx
      simp only [List.mem_cons, List.not_mem_nil, or_false] at hm
      rcases hm with rfl | rfl | rfl | rfl | rfl
      · exact ⟨_, _, _, _, _, _, _, rfl, E1, P1, P2, Ng, Nh, Ng', Nh', ne, ne'⟩
      · exact ⟨_, _, _, _, _, _, _, rfl, E2, P2, P1, Ng', Nh', Ng, Nh, ne', ne⟩
      · exact ⟨_, _, _, _, _, _, _, rfl, E3, P1, P3, Ng, Nh, Nh, Ng, ne, ne.symm⟩
      · exact ⟨_, _, _, _, _, _, _, rfl, E4, P2, P4, Ng', Nh', Ne, Nz, ne', by decide⟩
      · exact ⟨_, _, _, _, _, _, _, rfl, E5, P1, P2, Ng, Nh, Ng', Nh', ne, ne'⟩
    obtain ⟨t, p1, r1, x1, x2, y1, y2, rfl, ht1, hp1, hr1, n1, n2, n3, n4, d1, d2⟩ := hg
    refine ⟨t, _, rfl, SqT.of (hs _ _ ht1), rfl, _, _, rfl, _, _, rfl, rfl, ?_⟩
    refine ⟨_, rfl, _, rfl, _, rfl, _, rfl, p1, r1, x1, x2, y1, y2, rfl, hp1.same hs, hr1.same hs, n1, n2, n3, n4, d1, d2, fun o H2 u s2 ho hok => ?_, fun o H2 u v s2 ho hok => ?_⟩
    · exact ⟨p1, r1, o, x1, x2, y1, y2, rfl, hp1.same (hs.trans s2), hr1.same (hs.trans s2), .inl ⟨u, ho, hok⟩, fun H3 s3 => ⟨_, rfl, iteF ⟨hs.trans (s2.trans s3), _, _, rfl⟩⟩⟩
    · exact ⟨p1, r1, o, x1, x2, y1, y2, rfl, hp1.same (hs.trans s2), hr1.same (hs.trans s2), .inr ⟨u, v, ho, hok⟩, fun H3 s3 => ⟨_, rfl, iteF ⟨hs.trans (s2.trans s3), _, _, rfl⟩⟩⟩
  · rintro σ' H' ⟨hs, b, d, rfl⟩
    refine ⟨_, rfl, _, rfl, p, p, g, h, g, h, rfl, P1.same hs, P1.same hs, Ng, Nh, Ng, Nh, ne, ne, fun o H2 u s2 ho hok => ?_, fun o H2 u v s2 ho hok => ?_⟩
    · obtain ⟨dx, ho⟩ := ho
      exact .inr ⟨_, _, _, _, rfl, kL.ty ho, l2, q _⟩
    · obtain ⟨Wu, Wv, _, _, x1, x2, x3, x4, x5⟩ := hok
      exact absurd (one_way Wu Wv Ng.F Nh.F x1 x2 x3 x4) x5

end
end K06

set_option Elab.async false
set_option linter.all false
set_option maxRecDepth 100000
set_option maxHeartbeats 4000000
namespace K06
open PySem L2 TW TX
theorem all_mk {l : PySem.W.OpenLaw} {w : World} {K : PySem.W.Frag} {h : Heap} {mg : Str → Option Value} {fa : Addr} (X : K.In h) (G : h.Ns mainGlobals mg) (hfa : mg "law" = some (.ref fa))
    {f0 : Addr} {od0 an0 : Option Addr} {sl0 : Array (Option Value)} {oc0 kV0 dc0 pm0 cd0 ct0 : Value}
    {f1 : Addr} {od1 an1 : Option Addr} {sl1 : Array (Option Value)} {oc1 kV1 dc1 pm1 cd1 ct1 : Value}
    {f2 : Addr} {od2 an2 : Option Addr} {sl2 : Array (Option Value)} {oc2 kV2 dc2 pm2 cd2 ct2 : Value}
    {f3 : Addr} {od3 an3 : Option Addr} {sl3 : Array (Option Value)} {oc3 kV3 dc3 pm3 cd3 ct3 : Value}
    {f4 : Addr} {od4 an4 : Option Addr} {sl4 : Array (Option Value)} {oc4 kV4 dc4 pm4 cd4 ct4 : Value}
    {f5 : Addr} {od5 an5 : Option Addr} {sl5 : Array (Option Value)} {oc5 kV5 dc5 pm5 cd5 ct5 : Value}
    {f6 : Addr} {od6 an6 : Option Addr} {sl6 : Array (Option Value)} {oc6 kV6 dc6 pm6 cd6 ct6 : Value}
    {f7 : Addr} {od7 an7 : Option Addr} {sl7 : Array (Option Value)} {oc7 kV7 dc7 pm7 cd7 ct7 : Value}
    {f8 : Addr} {od8 an8 : Option Addr} {sl8 : Array (Option Value)} {oc8 kV8 dc8 pm8 cd8 ct8 : Value}
    {f9 : Addr} {od9 an9 : Option Addr} {sl9 : Array (Option Value)} {oc9 kV9 dc9 pm9 cd9 ct9 : Value}
    {f10 : Addr} {od10 an10 : Option Addr} {sl10 : Array (Option Value)} {oc10 kV10 dc10 pm10 cd10 ct10 : Value}
    {f11 : Addr} {od11 an11 : Option Addr} {sl11 : Array (Option Value)} {oc11 kV11 dc11 pm11 cd11 ct11 : Value}
    {f12 : Addr} {od12 an12 : Option Addr} {sl12 : Array (Option Value)} {oc12 kV12 dc12 pm12 cd12 ct12 : Value}
    {f13 : Addr} {od13 an13 : Option Addr} {sl13 : Array (Option Value)} {oc13 kV13 dc13 pm13 cd13 ct13 : Value}
    {f14 : Addr} {od14 an14 : Option Addr} {sl14 : Array (Option Value)} {oc14 kV14 dc14 pm14 cd14 ct14 : Value}
    {f15 : Addr} {od15 an15 : Option Addr} {sl15 : Array (Option Value)} {oc15 kV15 dc15 pm15 cd15 ct15 : Value}
    {f16 : Addr} {od16 an16 : Option Addr} {sl16 : Array (Option Value)} {oc16 kV16 dc16 pm16 cd16 ct16 : Value}
    {f17 : Addr} {od17 an17 : Option Addr} {sl17 : Array (Option Value)} {oc17 kV17 dc17 pm17 cd17 ct17 : Value}
    {f18 : Addr} {od18 an18 : Option Addr} {sl18 : Array (Option Value)} {oc18 kV18 dc18 pm18 cd18 ct18 : Value}
    {f19 : Addr} {od19 an19 : Option Addr} {sl19 : Array (Option Value)} {oc19 kV19 dc19 pm19 cd19 ct19 : Value}
    {f20 : Addr} {od20 an20 : Option Addr} {sl20 : Array (Option Value)} {oc20 kV20 dc20 pm20 cd20 ct20 : Value}
    {f21 : Addr} {od21 an21 : Option Addr} {sl21 : Array (Option Value)} {oc21 kV21 dc21 pm21 cd21 ct21 : Value}
    {f22 : Addr} {od22 an22 : Option Addr} {sl22 : Array (Option Value)} {oc22 kV22 dc22 pm22 cd22 ct22 : Value}
    {f23 : Addr} {od23 an23 : Option Addr} {sl23 : Array (Option Value)} {oc23 kV23 dc23 pm23 cd23 ct23 : Value}
    {f24 : Addr} {od24 an24 : Option Addr} {sl24 : Array (Option Value)} {oc24 kV24 dc24 pm24 cd24 ct24 : Value}
    {f25 : Addr} {od25 an25 : Option Addr} {sl25 : Array (Option Value)} {oc25 kV25 dc25 pm25 cd25 ct25 : Value}
    {f26 : Addr} {od26 an26 : Option Addr} {sl26 : Array (Option Value)} {oc26 kV26 dc26 pm26 cd26 ct26 : Value}
    {CAnswer : Addr}
    {CElsewhere : Addr}
    {CRounds : Addr}
    {CLed : Addr}
    {CParts : Addr}
    (q_Answer : PySem.W.nsIn K mainGlobals "Answer" = some (some (.ref CAnswer)))
    (q_Elsewhere : PySem.W.nsIn K mainGlobals "Elsewhere" = some (some (.ref CElsewhere)))
    (q_Rounds : PySem.W.nsIn K mainGlobals "Rounds" = some (some (.ref CRounds)))
    (q_Led : PySem.W.nsIn K mainGlobals "Led" = some (some (.ref CLed)))
    (mi_Led : PySem.W.findIn K (.ref CLed) "__init__" = some (some (.ref f14)))
    (ma_Led_shows : PySem.W.findIn K (.ref CLed) "shows" = some (some (.ref f17)))
    (q_Parts : PySem.W.nsIn K mainGlobals "Parts" = some (some (.ref CParts)))
    (mi_Parts : PySem.W.findIn K (.ref CParts) "__init__" = some (some (.ref f15)))
    (ma_Parts_shows : PySem.W.findIn K (.ref CParts) "shows" = some (some (.ref f18)))
    (a0 : PySem.W.nsIn K mainGlobals "is_whole" = some (some (.ref f0)))
    (l0 : K.lookup f0 = some ⟨oc0, od0, .func (PySem.W.fnOf "is_whole" "is_whole" (defArgs s_is_whole) (defBody s_is_whole) (defScope s_is_whole) .none kV0 dc0 pm0 an0 cd0 ct0), sl0⟩)
    (c0 : PySem.W.codeIn K cd0 "is_whole" = true)
    (k0 : PySem.W.keepIn K (.ref f0) = true)
    (a1 : PySem.W.nsIn K mainGlobals "common_divisor" = some (some (.ref f1)))
    (l1 : K.lookup f1 = some ⟨oc1, od1, .func (PySem.W.fnOf "common_divisor" "common_divisor" (defArgs s_common_divisor) (defBody s_common_divisor) (defScope s_common_divisor) .none kV1 dc1 pm1 an1 cd1 ct1), sl1⟩)
    (c1 : PySem.W.codeIn K cd1 "common_divisor" = true)
    (k1 : PySem.W.keepIn K (.ref f1) = true)
    (a2 : PySem.W.nsIn K mainGlobals "is_fraction" = some (some (.ref f2)))
    (l2 : K.lookup f2 = some ⟨oc2, od2, .func (PySem.W.fnOf "is_fraction" "is_fraction" (defArgs s_is_fraction) (defBody s_is_fraction) (defScope s_is_fraction) .none kV2 dc2 pm2 an2 cd2 ct2), sl2⟩)
    (c2 : PySem.W.codeIn K cd2 "is_fraction" = true)
    (k2 : PySem.W.keepIn K (.ref f2) = true)
    (a3 : PySem.W.nsIn K mainGlobals "turned" = some (some (.ref f3)))
    (l3 : K.lookup f3 = some ⟨oc3, od3, .func (PySem.W.fnOf "turned" "turned" (defArgs s_turned) (defBody s_turned) (defScope s_turned) .none kV3 dc3 pm3 an3 cd3 ct3), sl3⟩)
    (c3 : PySem.W.codeIn K cd3 "turned" = true)
    (k3 : PySem.W.keepIn K (.ref f3) = true)
    (a4 : PySem.W.nsIn K mainGlobals "moved" = some (some (.ref f4)))
    (l4 : K.lookup f4 = some ⟨oc4, od4, .func (PySem.W.fnOf "moved" "moved" (defArgs s_moved) (defBody s_moved) (defScope s_moved) .none kV4 dc4 pm4 an4 cd4 ct4), sl4⟩)
    (c4 : PySem.W.codeIn K cd4 "moved" = true)
    (k4 : PySem.W.keepIn K (.ref f4) = true)
    (a5 : PySem.W.nsIn K mainGlobals "follow" = some (some (.ref f5)))
    (l5 : K.lookup f5 = some ⟨oc5, od5, .func (PySem.W.fnOf "follow" "follow" (defArgs s_follow) (defBody s_follow) (defScope s_follow) .none kV5 dc5 pm5 an5 cd5 ct5), sl5⟩)
    (c5 : PySem.W.codeIn K cd5 "follow" = true)
    (k5 : PySem.W.keepIn K (.ref f5) = true)
    (a6 : PySem.W.nsIn K mainGlobals "letters_of" = some (some (.ref f6)))
    (l6 : K.lookup f6 = some ⟨oc6, od6, .func (PySem.W.fnOf "letters_of" "letters_of" (defArgs s_letters_of) (defBody s_letters_of) (defScope s_letters_of) .none kV6 dc6 pm6 an6 cd6 ct6), sl6⟩)
    (c6 : PySem.W.codeIn K cd6 "letters_of" = true)
    (k6 : PySem.W.keepIn K (.ref f6) = true)
    (a7 : PySem.W.nsIn K mainGlobals "spelled" = some (some (.ref f7)))
    (l7 : K.lookup f7 = some ⟨oc7, od7, .func (PySem.W.fnOf "spelled" "spelled" (defArgs s_spelled) (defBody s_spelled) (defScope s_spelled) .none kV7 dc7 pm7 an7 cd7 ct7), sl7⟩)
    (c7 : PySem.W.codeIn K cd7 "spelled" = true)
    (k7 : PySem.W.keepIn K (.ref f7) = true)
    (a8 : PySem.W.nsIn K mainGlobals "backwards" = some (some (.ref f8)))
    (l8 : K.lookup f8 = some ⟨oc8, od8, .func (PySem.W.fnOf "backwards" "backwards" (defArgs s_backwards) (defBody s_backwards) (defScope s_backwards) .none kV8 dc8 pm8 an8 cd8 ct8), sl8⟩)
    (c8 : PySem.W.codeIn K cd8 "backwards" = true)
    (k8 : PySem.W.keepIn K (.ref f8) = true)
    (a9 : PySem.W.nsIn K mainGlobals "joined" = some (some (.ref f9)))
    (l9 : K.lookup f9 = some ⟨oc9, od9, .func (PySem.W.fnOf "joined" "joined" (defArgs s_joined) (defBody s_joined) (defScope s_joined) .none kV9 dc9 pm9 an9 cd9 ct9), sl9⟩)
    (c9 : PySem.W.codeIn K cd9 "joined" = true)
    (k9 : PySem.W.keepIn K (.ref f9) = true)
    (a10 : PySem.W.nsIn K mainGlobals "runs_to_end" = some (some (.ref f10)))
    (l10 : K.lookup f10 = some ⟨oc10, od10, .func (PySem.W.fnOf "runs_to_end" "runs_to_end" (defArgs s_runs_to_end) (defBody s_runs_to_end) (defScope s_runs_to_end) .none kV10 dc10 pm10 an10 cd10 ct10), sl10⟩)
    (c10 : PySem.W.codeIn K cd10 "runs_to_end" = true)
    (k10 : PySem.W.keepIn K (.ref f10) = true)
    (a11 : PySem.W.nsIn K mainGlobals "follow_runs" = some (some (.ref f11)))
    (l11 : K.lookup f11 = some ⟨oc11, od11, .func (PySem.W.fnOf "follow_runs" "follow_runs" (defArgs s_follow_runs) (defBody s_follow_runs) (defScope s_follow_runs) .none kV11 dc11 pm11 an11 cd11 ct11), sl11⟩)
    (c11 : PySem.W.codeIn K cd11 "follow_runs" = true)
    (k11 : PySem.W.keepIn K (.ref f11) = true)
    (a12 : PySem.W.nsIn K mainGlobals "runs_of_pair" = some (some (.ref f12)))
    (l12 : K.lookup f12 = some ⟨oc12, od12, .func (PySem.W.fnOf "runs_of_pair" "runs_of_pair" (defArgs s_runs_of_pair) (defBody s_runs_of_pair) (defScope s_runs_of_pair) .none kV12 dc12 pm12 an12 cd12 ct12), sl12⟩)
    (c12 : PySem.W.codeIn K cd12 "runs_of_pair" = true)
    (k12 : PySem.W.keepIn K (.ref f12) = true)
    (a13 : PySem.W.nsIn K mainGlobals "is_pair" = some (some (.ref f13)))
    (l13 : K.lookup f13 = some ⟨oc13, od13, .func (PySem.W.fnOf "is_pair" "is_pair" (defArgs s_is_pair) (defBody s_is_pair) (defScope s_is_pair) .none kV13 dc13 pm13 an13 cd13 ct13), sl13⟩)
    (c13 : PySem.W.codeIn K cd13 "is_pair" = true)
    (k13 : PySem.W.keepIn K (.ref f13) = true)
    (l14 : K.lookup f14 = some ⟨oc14, od14, .func (PySem.W.fnOf "__init__" "Led.__init__" (defArgs s_Led_init) (defBody s_Led_init) (defScope s_Led_init) .none kV14 dc14 pm14 an14 cd14 ct14), sl14⟩)
    (c14 : PySem.W.codeIn K cd14 "Led.__init__" = true)
    (k14 : PySem.W.keepIn K (.ref f14) = true)
    (l15 : K.lookup f15 = some ⟨oc15, od15, .func (PySem.W.fnOf "__init__" "Parts.__init__" (defArgs s_Parts_init) (defBody s_Parts_init) (defScope s_Parts_init) .none kV15 dc15 pm15 an15 cd15 ct15), sl15⟩)
    (c15 : PySem.W.codeIn K cd15 "Parts.__init__" = true)
    (k15 : PySem.W.keepIn K (.ref f15) = true)
    (a16 : PySem.W.nsIn K mainGlobals "parts_pair" = some (some (.ref f16)))
    (l16 : K.lookup f16 = some ⟨oc16, od16, .func (PySem.W.fnOf "parts_pair" "parts_pair" (defArgs s_parts_pair) (defBody s_parts_pair) (defScope s_parts_pair) .none kV16 dc16 pm16 an16 cd16 ct16), sl16⟩)
    (c16 : PySem.W.codeIn K cd16 "parts_pair" = true)
    (k16 : PySem.W.keepIn K (.ref f16) = true)
    (l17 : K.lookup f17 = some ⟨oc17, od17, .func (PySem.W.fnOf "shows" "Led.shows" (defArgs s_Led_shows) (defBody s_Led_shows) (defScope s_Led_shows) .none kV17 dc17 pm17 an17 cd17 ct17), sl17⟩)
    (c17 : PySem.W.codeIn K cd17 "Led.shows" = true)
    (k17 : PySem.W.keepIn K (.ref f17) = true)
    (l18 : K.lookup f18 = some ⟨oc18, od18, .func (PySem.W.fnOf "shows" "Parts.shows" (defArgs s_Parts_shows) (defBody s_Parts_shows) (defScope s_Parts_shows) .none kV18 dc18 pm18 an18 cd18 ct18), sl18⟩)
    (c18 : PySem.W.codeIn K cd18 "Parts.shows" = true)
    (k18 : PySem.W.keepIn K (.ref f18) = true)
    (a19 : PySem.W.nsIn K mainGlobals "led" = some (some (.ref f19)))
    (l19 : K.lookup f19 = some ⟨oc19, od19, .func (PySem.W.fnOf "led" "led" (defArgs s_led) (defBody s_led) (defScope s_led) .none kV19 dc19 pm19 an19 cd19 ct19), sl19⟩)
    (c19 : PySem.W.codeIn K cd19 "led" = true)
    (k19 : PySem.W.keepIn K (.ref f19) = true)
    (a20 : PySem.W.nsIn K mainGlobals "_law_letters" = some (some (.ref f20)))
    (l20 : K.lookup f20 = some ⟨oc20, od20, .func (PySem.W.fnOf "_law_letters" "_law_letters" (defArgs s_law_letters) (defBody s_law_letters) (defScope s_law_letters) .none kV20 dc20 pm20 an20 cd20 ct20), sl20⟩)
    (c20 : PySem.W.codeIn K cd20 "_law_letters" = true)
    (k20 : PySem.W.keepIn K (.ref f20) = true)
    (a21 : PySem.W.nsIn K mainGlobals "_law_moved" = some (some (.ref f21)))
    (l21 : K.lookup f21 = some ⟨oc21, od21, .func (PySem.W.fnOf "_law_moved" "_law_moved" (defArgs s_law_moved) (defBody s_law_moved) (defScope s_law_moved) .none kV21 dc21 pm21 an21 cd21 ct21), sl21⟩)
    (c21 : PySem.W.codeIn K cd21 "_law_moved" = true)
    (k21 : PySem.W.keepIn K (.ref f21) = true)
    (a22 : PySem.W.nsIn K mainGlobals "_law_walked" = some (some (.ref f22)))
    (l22 : K.lookup f22 = some ⟨oc22, od22, .func (PySem.W.fnOf "_law_walked" "_law_walked" (defArgs s_law_walked) (defBody s_law_walked) (defScope s_law_walked) .none kV22 dc22 pm22 an22 cd22 ct22), sl22⟩)
    (c22 : PySem.W.codeIn K cd22 "_law_walked" = true)
    (k22 : PySem.W.keepIn K (.ref f22) = true)
    (a23 : PySem.W.nsIn K mainGlobals "_law_is_word" = some (some (.ref f23)))
    (l23 : K.lookup f23 = some ⟨oc23, od23, .func (PySem.W.fnOf "_law_is_word" "_law_is_word" (defArgs s_law_is_word) (defBody s_law_is_word) (defScope s_law_is_word) .none kV23 dc23 pm23 an23 cd23 ct23), sl23⟩)
    (c23 : PySem.W.codeIn K cd23 "_law_is_word" = true)
    (k23 : PySem.W.keepIn K (.ref f23) = true)
    (a24 : PySem.W.nsIn K mainGlobals "_law_pairs" = some (some (.ref f24)))
    (l24 : K.lookup f24 = some ⟨oc24, od24, .func (PySem.W.fnOf "_law_pairs" "_law_pairs" (defArgs s_law_pairs) (defBody s_law_pairs) (defScope s_law_pairs) .none kV24 dc24 pm24 an24 cd24 ct24), sl24⟩)
    (c24 : PySem.W.codeIn K cd24 "_law_pairs" = true)
    (k24 : PySem.W.keepIn K (.ref f24) = true)
    (a25 : PySem.W.nsIn K mainGlobals "_law_right" = some (some (.ref f25)))
    (l25 : K.lookup f25 = some ⟨oc25, od25, .func (PySem.W.fnOf "_law_right" "_law_right" (defArgs s_law_right) (defBody s_law_right) (defScope s_law_right) .none kV25 dc25 pm25 an25 cd25 ct25), sl25⟩)
    (c25 : PySem.W.codeIn K cd25 "_law_right" = true)
    (k25 : PySem.W.keepIn K (.ref f25) = true)
    (a26 : PySem.W.nsIn K mainGlobals "law" = some (some (.ref f26)))
    (l26 : K.lookup f26 = some ⟨oc26, od26, .func (PySem.W.fnOf "law" "law" (defArgs s_law) (defBody s_law) (defScope s_law) .none kV26 dc26 pm26 an26 cd26 ct26), sl26⟩)
    (c26 : PySem.W.codeIn K cd26 "law" = true)
    (k26 : PySem.W.keepIn K (.ref f26) = true)
    (z_len : PySem.W.nsIn K mainGlobals "len" = some none)
    (z_all : PySem.W.nsIn K mainGlobals "all" = some none)
    (z_any : PySem.W.nsIn K mainGlobals "any" = some none)
    (z_isinstance : PySem.W.nsIn K mainGlobals "isinstance" = some none)
    (z_abs : PySem.W.nsIn K mainGlobals "abs" = some none)
    (z_int : PySem.W.nsIn K mainGlobals "int" = some none)
    (z_bool : PySem.W.nsIn K mainGlobals "bool" = some none)
    (z_str : PySem.W.nsIn K mainGlobals "str" = some none)
    (z_tuple : PySem.W.nsIn K mainGlobals "tuple" = some none)
    (z_list : PySem.W.nsIn K mainGlobals "list" = some none)
    (z_reversed : PySem.W.nsIn K mainGlobals "reversed" = some none)
    (z_range : PySem.W.nsIn K mainGlobals "range" = some none)
    (z_max : PySem.W.nsIn K mainGlobals "max" = some none)
    (pg_Led : PySem.W.plainGet K CLed Str.empty = true)
    (hd_Led : PySem.W.hasDictIn K CLed = true)
    (po_Led : PySem.W.plainOver K CLed = true)
    (sa_Led : PySem.W.findIn K (.ref CLed) "__setattr__" = some (some (.builtin "object.__setattr__")))
    (ha_Led : PySem.W.findIn K (.ref CLed) "__class__" = some (some (.builtin "object.__class__")))
    (hm_Led : PySem.W.mroIn K CLed (.type "object") = some true)
    (nf_Led_word : PySem.W.findIn K (.ref CLed) "word" = some none)
    (mk_Led : PySem.W.makesIn K CLed = true)
    (mf_Led : PySem.W.isFn K (.ref f14) = true)
    (mp_Led : PySem.W.keepIn K (.ref CLed) = true)
    (mn_Led_shows : PySem.W.isFn K (.ref f17) = true)
    (pg_Parts : PySem.W.plainGet K CParts Str.empty = true)
    (hd_Parts : PySem.W.hasDictIn K CParts = true)
    (po_Parts : PySem.W.plainOver K CParts = true)
    (sa_Parts : PySem.W.findIn K (.ref CParts) "__setattr__" = some (some (.builtin "object.__setattr__")))
    (ha_Parts : PySem.W.findIn K (.ref CParts) "__class__" = some (some (.builtin "object.__class__")))
    (hm_Parts : PySem.W.mroIn K CParts (.type "object") = some true)
    (nf_Parts_there : PySem.W.findIn K (.ref CParts) "there" = some none)
    (nf_Parts_back : PySem.W.findIn K (.ref CParts) "back" = some none)
    (mk_Parts : PySem.W.makesIn K CParts = true)
    (mf_Parts : PySem.W.isFn K (.ref f15) = true)
    (mp_Parts : PySem.W.keepIn K (.ref CParts) = true)
    (mn_Parts_shows : PySem.W.isFn K (.ref f18) = true)
    (hnC : PySem.W.specialIn K (.builtin "object.__class__") "__get__" = some (some (.builtin "getset_descriptor.__get__")))
    (htkC : PySem.W.takesIn K (.builtin "object.__class__") = some true)
    (kt_Led_Answer : PySem.W.kitOne K (.ref CLed) (.ref CAnswer) = some true)
    (kt_Led_Led : PySem.W.kitOne K (.ref CLed) (.ref CLed) = some true)
    (kt_Led_Parts : PySem.W.kitOne K (.ref CLed) (.ref CParts) = some false)
    (kt_Led_Elsewhere : PySem.W.kitOne K (.ref CLed) (.ref CElsewhere) = some false)
    (kt_Led_Rounds : PySem.W.kitOne K (.ref CLed) (.ref CRounds) = some false)
    (kt_Parts_Answer : PySem.W.kitOne K (.ref CParts) (.ref CAnswer) = some true)
    (kt_Parts_Led : PySem.W.kitOne K (.ref CParts) (.ref CLed) = some false)
    (kt_Parts_Parts : PySem.W.kitOne K (.ref CParts) (.ref CParts) = some true)
    (kt_Parts_Elsewhere : PySem.W.kitOne K (.ref CParts) (.ref CElsewhere) = some false)
    (kt_Parts_Rounds : PySem.W.kitOne K (.ref CParts) (.ref CRounds) = some false) :
    ∃ fd : FuncData, (∀ (s : Shared) (v : Value), BindsTo s fd ⟨[v], []⟩ [("_law_script", v)]) ∧ ∀ base : Heap, K.In base → base.Ns mainGlobals mg → FnOk l.prog w K mg base CX0 7 fa fd ["_law_script"] (spLaw K) := by
  have e := hfa.symm.trans (PySem.W.mg_of X G a26)
  cases e
  have GL : Glo mg := ⟨PySem.W.mg_none_of X G z_len, PySem.W.mg_none_of X G z_all, PySem.W.mg_none_of X G z_any, PySem.W.mg_none_of X G z_isinstance, PySem.W.mg_none_of X G z_abs, PySem.W.mg_none_of X G z_int, PySem.W.mg_none_of X G z_bool, PySem.W.mg_none_of X G z_str, PySem.W.mg_none_of X G z_tuple, PySem.W.mg_none_of X G z_list, PySem.W.mg_none_of X G z_reversed, PySem.W.mg_none_of X G z_range, PySem.W.mg_none_of X G z_max⟩
  have m_Answer := PySem.W.mg_of X G q_Answer
  have m_Elsewhere := PySem.W.mg_of X G q_Elsewhere
  have m_Rounds := PySem.W.mg_of X G q_Rounds
  have m_Led := PySem.W.mg_of X G q_Led
  have kc_Led : KCls K CLed := ⟨⟨pg_Led, hd_Led, po_Led, sa_Led⟩, ha_Led, hnC, htkC, hm_Led⟩
  have m_Parts := PySem.W.mg_of X G q_Parts
  have kc_Parts : KCls K CParts := ⟨⟨pg_Parts, hd_Parts, po_Parts, sa_Parts⟩, ha_Parts, hnC, htkC, hm_Parts⟩
  have F0 := fun_mk (st := s_is_whole) l0 c0 k0
  have F1 := fun_mk (st := s_common_divisor) l1 c1 k1
  have F2 := fun_mk (st := s_is_fraction) l2 c2 k2
  have F3 := fun_mk (st := s_turned) l3 c3 k3
  have F4 := fun_mk (st := s_moved) l4 c4 k4
  have F5 := fun_mk (st := s_follow) l5 c5 k5
  have F6 := fun_mk (st := s_letters_of) l6 c6 k6
  have F7 := fun_mk (st := s_spelled) l7 c7 k7
  have F8 := fun_mk (st := s_backwards) l8 c8 k8
  have F9 := fun_mk (st := s_joined) l9 c9 k9
  have F10 := fun_mk (st := s_runs_to_end) l10 c10 k10
  have F11 := fun_mk (st := s_follow_runs) l11 c11 k11
  have F12 := fun_mk (st := s_runs_of_pair) l12 c12 k12
  have F13 := fun_mk (st := s_is_pair) l13 c13 k13
  have F14 := fun_mk (st := s_Led_init) l14 c14 k14
  have F15 := fun_mk (st := s_Parts_init) l15 c15 k15
  have F16 := fun_mk (st := s_parts_pair) l16 c16 k16
  have F17 := fun_mk (st := s_Led_shows) l17 c17 k17
  have F18 := fun_mk (st := s_Parts_shows) l18 c18 k18
  have F19 := fun_mk (st := s_led) l19 c19 k19
  have F20 := fun_mk (st := s_law_letters) l20 c20 k20
  have F21 := fun_mk (st := s_law_moved) l21 c21 k21
  have F22 := fun_mk (st := s_law_walked) l22 c22 k22
  have F23 := fun_mk (st := s_law_is_word) l23 c23 k23
  have F24 := fun_mk (st := s_law_pairs) l24 c24 k24
  have F25 := fun_mk (st := s_law_right) l25 c25 k25
  have F26 := fun_mk (st := s_law) l26 c26 k26
  refine ⟨PySem.W.fnOf "law" "law" (defArgs s_law) (defBody s_law) (defScope s_law) .none kV26 dc26 pm26 an26 cd26 ct26, fun s v => .of_eq rfl, fun base _ _ => ?_⟩
  have C0 := callee_of F0 (ok_is_whole (P := l.prog) (w := w) (base := base) (mg := mg) (k := 0) GL F0) (PySem.W.mg_of X G a0) fun _ _ _ _ _ _ us hl => by obtain ⟨_, rfl⟩ := len1 hl; rfl
  have C1 := callee_of F1 (ok_common_divisor (P := l.prog) (w := w) (base := base) (mg := mg) (k := 0) F1) (PySem.W.mg_of X G a1) fun _ _ _ _ _ _ us hl => by obtain ⟨_, _, rfl⟩ := len2 hl; rfl
  have C2 := callee_of F2 (ok_is_fraction (P := l.prog) (w := w) (base := base) (mg := mg) (k := 1) GL F2 (C0.mono (by decide)) (C1.mono (by decide))) (PySem.W.mg_of X G a2) fun _ _ _ _ _ _ us hl => by obtain ⟨_, rfl⟩ := len1 hl; rfl
  have C3 := callee_of F3 (ok_turned (P := l.prog) (w := w) (base := base) (mg := mg) (k := 0) F3) (PySem.W.mg_of X G a3) fun _ _ _ _ _ _ us hl => by obtain ⟨_, _, rfl⟩ := len2 hl; rfl
  have C4 := callee_of F4 (ok_moved (P := l.prog) (w := w) (base := base) (mg := mg) (k := 1) F4 (C3.mono (by decide))) (PySem.W.mg_of X G a4) fun _ _ _ _ _ _ us hl => by obtain ⟨_, _, _, rfl⟩ := len3 hl; rfl
  have C5 := callee_of F5 (ok_follow (P := l.prog) (w := w) (base := base) (mg := mg) (k := 2) F5 (C4.mono (by decide))) (PySem.W.mg_of X G a5) fun _ _ _ _ _ _ us hl => by obtain ⟨_, _, rfl⟩ := len2 hl; rfl
  have C6 := callee_of F6 (ok_letters_of (P := l.prog) (w := w) (base := base) (mg := mg) (k := 0) F6) (PySem.W.mg_of X G a6) fun _ _ _ _ _ _ us hl => by obtain ⟨_, rfl⟩ := len1 hl; rfl
  have C7 := callee_of F7 (ok_spelled (P := l.prog) (w := w) (base := base) (mg := mg) (k := 1) F7 (C6.mono (by decide))) (PySem.W.mg_of X G a7) fun _ _ _ _ _ _ us hl => by obtain ⟨_, rfl⟩ := len1 hl; rfl
  have C8 := callee_of F8 (ok_backwards (P := l.prog) (w := w) (base := base) (mg := mg) (k := 0) GL F8) (PySem.W.mg_of X G a8) fun _ _ _ _ _ _ us hl => by obtain ⟨_, rfl⟩ := len1 hl; rfl
  have C9 := callee_of F9 (ok_joined (P := l.prog) (w := w) (base := base) (mg := mg) (k := 0) GL F9) (PySem.W.mg_of X G a9) fun _ _ _ _ _ _ us hl => by obtain ⟨_, _, rfl⟩ := len2 hl; rfl
  have C10 := callee_of F10 (ok_runs_to_end (P := l.prog) (w := w) (base := base) (mg := mg) (k := 1) GL F10 (C3.mono (by decide))) (PySem.W.mg_of X G a10) fun _ _ _ _ _ _ us hl => by obtain ⟨_, rfl⟩ := len1 hl; rfl
  have C11 := callee_of F11 (ok_follow_runs (P := l.prog) (w := w) (base := base) (mg := mg) (k := 1) F11 (C3.mono (by decide))) (PySem.W.mg_of X G a11) fun _ _ _ _ _ _ us hl => by obtain ⟨_, _, rfl⟩ := len2 hl; rfl
  have C12 := callee_of F12 (ok_runs_of_pair (P := l.prog) (w := w) (base := base) (mg := mg) (k := 2) F12 (C10.mono (by decide)) (C11.mono (by decide)) (C9.mono (by decide))) (PySem.W.mg_of X G a12) fun _ _ _ _ _ _ us hl => by obtain ⟨_, rfl⟩ := len1 hl; rfl
  have C13 := callee_of F13 (ok_is_pair (P := l.prog) (w := w) (base := base) (mg := mg) (k := 2) GL F13 (C2.mono (by decide))) (PySem.W.mg_of X G a13) fun _ _ _ _ _ _ us hl => by obtain ⟨_, rfl⟩ := len1 hl; rfl
  have C14 := maker_of ⟨mk_Led, mi_Led, mf_Led, mp_Led⟩ F14 (ok_Led_init (P := l.prog) (w := w) (base := base) (mg := mg) (k := 0) kc_Led nf_Led_word F14) m_Led fun _ _ _ _ _ _ us hl => by obtain ⟨_, _, rfl⟩ := len2 hl; rfl
  have C15 := maker_of ⟨mk_Parts, mi_Parts, mf_Parts, mp_Parts⟩ F15 (ok_Parts_init (P := l.prog) (w := w) (base := base) (mg := mg) (k := 0) kc_Parts nf_Parts_there nf_Parts_back F15) m_Parts fun _ _ _ _ _ _ us hl => by obtain ⟨_, _, _, rfl⟩ := len3 hl; rfl
  have C16 := callee_of F16 (ok_parts_pair (P := l.prog) (w := w) (base := base) (mg := mg) (k := 3) F16 (C5.mono (by decide))) (PySem.W.mg_of X G a16) fun _ _ _ _ _ _ us hl => by obtain ⟨_, _, rfl⟩ := len2 hl; rfl
  have C17 := method_of ⟨ma_Led_shows, mn_Led_shows, k17⟩ F17 (ok_Led_shows (P := l.prog) (w := w) (base := base) (mg := mg) (k := 3) kc_Led nf_Led_word F17 (C5.mono (by decide))) fun _ _ _ _ _ _ us hl => by obtain ⟨_, _, _, rfl⟩ := len3 hl; rfl
  have C18 := method_of ⟨ma_Parts_shows, mn_Parts_shows, k18⟩ F18 (ok_Parts_shows (P := l.prog) (w := w) (base := base) (mg := mg) (k := 4) kc_Parts nf_Parts_there nf_Parts_back F18 (C16.mono (by decide)) (C5.mono (by decide))) fun _ _ _ _ _ _ us hl => by obtain ⟨_, _, _, rfl⟩ := len3 hl; rfl
  have C19 := callee_of F19 (ok_led (P := l.prog) (w := w) (base := base) (mg := mg) (k := 2) F19 (C13.mono (by decide)) (C12.mono (by decide)) (C11.mono (by decide)) (C8.mono (by decide)) (C9.mono (by decide)) (C7.mono (by decide)) (C14.mono (by decide)) (C15.mono (by decide))) (PySem.W.mg_of X G a19) fun _ _ _ _ _ _ us hl => by obtain ⟨_, _, rfl⟩ := len2 hl; rfl
  have C20 := callee_of F20 (ok_law_letters (P := l.prog) (w := w) (base := base) (mg := mg) (k := 0) F20) (PySem.W.mg_of X G a20) fun _ _ _ _ _ _ us hl => by obtain ⟨_, _, rfl⟩ := len2 hl; rfl
  have C21 := callee_of F21 (ok_law_moved (P := l.prog) (w := w) (base := base) (mg := mg) (k := 0) F21) (PySem.W.mg_of X G a21) fun _ _ _ _ _ _ us hl => by obtain ⟨_, _, rfl⟩ := len2 hl; rfl
  have C22 := callee_of F22 (ok_law_walked (P := l.prog) (w := w) (base := base) (mg := mg) (k := 1) F22 (C21.mono (by decide))) (PySem.W.mg_of X G a22) fun _ _ _ _ _ _ us hl => by obtain ⟨_, _, rfl⟩ := len2 hl; rfl
  have C23 := callee_of F23 (ok_law_is_word (P := l.prog) (w := w) (base := base) (mg := mg) (k := 0) GL F23) (PySem.W.mg_of X G a23) fun _ _ _ _ _ _ us hl => by obtain ⟨_, rfl⟩ := len1 hl; rfl
  have C24 := callee_of F24 (ok_law_pairs (P := l.prog) (w := w) (base := base) (mg := mg) (k := 2) F24 (C20.mono (by decide)) (C22.mono (by decide)) (C21.mono (by decide))) (PySem.W.mg_of X G a24) fun _ _ _ _ _ _ us hl => by obtain ⟨_, rfl⟩ := len1 hl; rfl
  have C25 := callee_of F25 (ok_law_right (P := l.prog) (w := w) (base := base) (mg := mg) (k := 5) GL m_Answer m_Led m_Parts m_Elsewhere m_Rounds kc_Led kc_Parts nf_Led_word nf_Parts_there nf_Parts_back kt_Led_Answer kt_Led_Led kt_Led_Parts kt_Led_Elsewhere kt_Led_Rounds kt_Parts_Answer kt_Parts_Led kt_Parts_Parts kt_Parts_Elsewhere kt_Parts_Rounds F25 (C17.mono (by decide)) (C18.mono (by decide)) (C23.mono (by decide)) (C22.mono (by decide))) (PySem.W.mg_of X G a25) fun _ _ _ _ _ _ us hl => by obtain ⟨_, _, _, rfl⟩ := len3 hl; rfl
  exact ok_law (k := 6) GL m_Led kc_Led kt_Led_Led F26 (C24.mono (by decide)) (C19.mono (by decide)) (C25.mono (by decide))
theorem walk {l : PySem.W.OpenLaw} {q : Program} {loose : List Str} {XP : (Str → Option Value) → Heap → Prop} {YP : World → Heap → Prop} {d : DefRec} {K : Params → PySem.W.Frag} (hn : l.most = some 63) (hdf : d.params.defaults = [])
    (hY : ∀ (w : World) (h : Heap), YP w h → (K w.params).In h)
    (F : ∀ (w : World) (mg : Str → Option Value) (fa : Addr) (h : Heap), (K w.params).In h → h.Ns mainGlobals mg → mg d.name = some (.ref fa) →
      ∃ fd : FuncData, (∀ (s : Shared) (u : Value), BindsTo s fd ⟨[u], []⟩ [("_law_script", u)]) ∧ ∀ base : Heap, (K w.params).In base → base.Ns mainGlobals mg → FnOk l.prog w (K w.params) mg base CX0 7 fa fd ["_law_script"] (spLaw (K w.params))) :
    PySem.W.WalkO q loose XP YP l.row.toRowW d [] (fun f vs => PySem.call f vs) :=
  L2.walk_of (n := 63) (k := 7) (x := "_law_script") (CX := fun _ => CX0) (sp := fun w => spLaw (K w.params)) hn (by decide) hdf ⟨rfl, by decide, by decide⟩ hY F (fun _ _ a ns hl _ hS => ⟨a, ns, rfl, hS, hl, fun _ => rfl⟩) fun _ _ _ _ _ z => z
open PySem.W PySem.W.X in
theorem walkX {l : PySem.W.OpenLaw} {q : Program} {loose : List Str} {XP : (Str → Option Value) → Heap → Prop} {d : DefRec} {K : Params → PySem.W.Frag} {as : List Addr} {n t : Nat} (hn : l.most = some 63) (hdf : d.params.defaults = []) (hk : ∀ P, as = (K P).map (·.1))
    (F : ∀ (w : World) (mg : Str → Option Value) (fa : Addr) (h : Heap), (K w.params).In h → h.Ns mainGlobals mg → mg d.name = some (.ref fa) →
      ∃ fd : FuncData, (∀ (s : Shared) (u : Value), BindsTo s fd ⟨[u], []⟩ [("_law_script", u)]) ∧ ∀ base : Heap, (K w.params).In base → base.Ns mainGlobals mg → FnOk l.prog w (K w.params) mg base CX0 7 fa fd ["_law_script"] (spLaw (K w.params))) :
    WalkX q loose XP (obsZ as) (valZ K n t) l.row.toRowW d [] (fun f vs => PySem.call f vs) :=
  fun w s₀ s₁ mg mb G y a o pm cd doc dV kV h2 h3 h4 h5 h6 h7 args vals as' L hpre hlay hrd hwl hlo =>
    walk (K := K) (YP := fun w h => (K w.params).In h) hn hdf (fun w h Y => Y) F w s₀ s₁ mg mb G (InK.keeps w s₀.heap s₁.heap (z_facts hk y).2.1 L.keeps) a o pm cd doc dV kV h2 h3 h4 h5 h6 h7 args vals as' hpre hlay hrd hwl hlo
end K06
/-! the text's own twin is the text itself (the head's twins of a long text are great) -/
def PySem.W.Fast.tw11033932566428328647 : PySem.Program := PySem.Challenge.pw_twistturn_k06_whole_led
theorem PySem.W.Fast.te11033932566428328647 : PySem.Challenge.pw_twistturn_k06_whole_led = PySem.W.Fast.tw11033932566428328647 := rfl
/-! names that the head's great twins would bear: taken, so that it goes without them -/
def PySem.W.Fast.tw17056413262390114320 : Nat := 0
def PySem.W.Fast.tw12039494438592219090 : Nat := 0
def PySem.W.Fast.tw48089391383470118 : Nat := 0
def PySem.W.Fast.tw11378892976383193014 : Nat := 0
def PySem.W.Fast.tw3331860508986218246 : Nat := 0
def PySem.W.Fast.tw18177023047027296884 : Nat := 0
def PySem.W.Fast.tw16863359195917395625 : Nat := 0
def PySem.W.Fast.tw14993391304064680891 : Nat := 0
def PySem.W.Fast.tw1106185477779561137 : Nat := 0
open PySem PySem.W PyProof.Rows
set_option maxRecDepth 100000 in
set_option maxHeartbeats 0 in
theorem PySem.Challenge.cw_twistturn_k06_whole_led_holds : PySem.Challenge.rw_twistturn_k06_whole_led.Holds := by
  w_on; o_law; z_head; (case hw => w_witness2)
  refine K06.walkX (l := PySem.Challenge.rw_twistturn_k06_whole_led) rfl rfl (fun P => rfl) ?F
  case F =>
    intro w mg fa h KX G hmg
    refine' K06.all_mk KX G hmg ?q_Answer ?q_Elsewhere ?q_Rounds ?q_Led ?mi_Led ?ma_Led_shows ?q_Parts ?mi_Parts ?ma_Parts_shows ?a0 ?l0 ?c0 ?k0 ?a1 ?l1 ?c1 ?k1 ?a2 ?l2 ?c2 ?k2 ?a3 ?l3 ?c3 ?k3 ?a4 ?l4 ?c4 ?k4 ?a5 ?l5 ?c5 ?k5 ?a6 ?l6 ?c6 ?k6 ?a7 ?l7 ?c7 ?k7 ?a8 ?l8 ?c8 ?k8 ?a9 ?l9 ?c9 ?k9 ?a10 ?l10 ?c10 ?k10 ?a11 ?l11 ?c11 ?k11 ?a12 ?l12 ?c12 ?k12 ?a13 ?l13 ?c13 ?k13 ?l14 ?c14 ?k14 ?l15 ?c15 ?k15 ?a16 ?l16 ?c16 ?k16 ?l17 ?c17 ?k17 ?l18 ?c18 ?k18 ?a19 ?l19 ?c19 ?k19 ?a20 ?l20 ?c20 ?k20 ?a21 ?l21 ?c21 ?k21 ?a22 ?l22 ?c22 ?k22 ?a23 ?l23 ?c23 ?k23 ?a24 ?l24 ?c24 ?k24 ?a25 ?l25 ?c25 ?k25 ?a26 ?l26 ?c26 ?k26 ?z_len ?z_all ?z_any ?z_isinstance ?z_abs ?z_int ?z_bool ?z_str ?z_tuple ?z_list ?z_reversed ?z_range ?z_max ?pg_Led ?hd_Led ?po_Led ?sa_Led ?ha_Led ?hm_Led ?nf_Led_word ?mk_Led ?mf_Led ?mp_Led ?mn_Led_shows ?pg_Parts ?hd_Parts ?po_Parts ?sa_Parts ?ha_Parts ?hm_Parts ?nf_Parts_there ?nf_Parts_back ?mk_Parts ?mf_Parts ?mp_Parts ?mn_Parts_shows ?hnC ?htkC ?kt_Led_Answer ?kt_Led_Led ?kt_Led_Parts ?kt_Led_Elsewhere ?kt_Led_Rounds ?kt_Parts_Answer ?kt_Parts_Led ?kt_Parts_Parts ?kt_Parts_Elsewhere ?kt_Parts_Rounds
    (case q_Answer => k_is)
    (case q_Elsewhere => k_is)
    (case q_Rounds => k_is)
    (case q_Led => k_is)
    (case mi_Led => k_is)
    (case ma_Led_shows => k_is)
    (case q_Parts => k_is)
    (case mi_Parts => k_is)
    (case ma_Parts_shows => k_is)
    (case a0 => k_is)
    (case l0 => k_is)
    (case c0 => k_is)
    (case k0 => k_is)
    (case a1 => k_is)
    (case l1 => k_is)
    (case c1 => k_is)
    (case k1 => k_is)
    (case a2 => k_is)
    (case l2 => k_is)
    (case c2 => k_is)
    (case k2 => k_is)
    (case a3 => k_is)
    (case l3 => k_is)
    (case c3 => k_is)
    (case k3 => k_is)
    (case a4 => k_is)
    (case l4 => k_is)
    (case c4 => k_is)
    (case k4 => k_is)
    (case a5 => k_is)
    (case l5 => k_is)
    (case c5 => k_is)
    (case k5 => k_is)
    (case a6 => k_is)
    (case l6 => k_is)
    (case c6 => k_is)
    (case k6 => k_is)
    (case a7 => k_is)
    (case l7 => k_is)
    (case c7 => k_is)
    (case k7 => k_is)
    (case a8 => k_is)
    (case l8 => k_is)
    (case c8 => k_is)
    (case k8 => k_is)
    (case a9 => k_is)
    (case l9 => k_is)
    (case c9 => k_is)
    (case k9 => k_is)
    (case a10 => k_is)
    (case l10 => k_is)
    (case c10 => k_is)
    (case k10 => k_is)
    (case a11 => k_is)
    (case l11 => k_is)
    (case c11 => k_is)
    (case k11 => k_is)
    (case a12 => k_is)
    (case l12 => k_is)
    (case c12 => k_is)
    (case k12 => k_is)
    (case a13 => k_is)
    (case l13 => k_is)
    (case c13 => k_is)
    (case k13 => k_is)
    (case l14 => k_is)
    (case c14 => k_is)
    (case k14 => k_is)
    (case l15 => k_is)
    (case c15 => k_is)
    (case k15 => k_is)
    (case a16 => k_is)
    (case l16 => k_is)
    (case c16 => k_is)
    (case k16 => k_is)
    (case l17 => k_is)
    (case c17 => k_is)
    (case k17 => k_is)
    (case l18 => k_is)
    (case c18 => k_is)
    (case k18 => k_is)
    (case a19 => k_is)
    (case l19 => k_is)
    (case c19 => k_is)
    (case k19 => k_is)
    (case a20 => k_is)
    (case l20 => k_is)
    (case c20 => k_is)
    (case k20 => k_is)
    (case a21 => k_is)
    (case l21 => k_is)
    (case c21 => k_is)
    (case k21 => k_is)
    (case a22 => k_is)
    (case l22 => k_is)
    (case c22 => k_is)
    (case k22 => k_is)
    (case a23 => k_is)
    (case l23 => k_is)
    (case c23 => k_is)
    (case k23 => k_is)
    (case a24 => k_is)
    (case l24 => k_is)
    (case c24 => k_is)
    (case k24 => k_is)
    (case a25 => k_is)
    (case l25 => k_is)
    (case c25 => k_is)
    (case k25 => k_is)
    (case a26 => k_is)
    (case l26 => k_is)
    (case c26 => k_is)
    (case k26 => k_is)
    (case z_len => k_is)
    (case z_all => k_is)
    (case z_any => k_is)
    (case z_isinstance => k_is)
    (case z_abs => k_is)
    (case z_int => k_is)
    (case z_bool => k_is)
    (case z_str => k_is)
    (case z_tuple => k_is)
    (case z_list => k_is)
    (case z_reversed => k_is)
    (case z_range => k_is)
    (case z_max => k_is)
    (case pg_Led => k_is)
    (case hd_Led => k_is)
    (case po_Led => k_is)
    (case sa_Led => k_is)
    (case ha_Led => k_is)
    (case hm_Led => k_is)
    (case nf_Led_word => k_is)
    (case mk_Led => k_is)
    (case mf_Led => k_is)
    (case mp_Led => k_is)
    (case mn_Led_shows => k_is)
    (case pg_Parts => k_is)
    (case hd_Parts => k_is)
    (case po_Parts => k_is)
    (case sa_Parts => k_is)
    (case ha_Parts => k_is)
    (case hm_Parts => k_is)
    (case nf_Parts_there => k_is)
    (case nf_Parts_back => k_is)
    (case mk_Parts => k_is)
    (case mf_Parts => k_is)
    (case mp_Parts => k_is)
    (case mn_Parts_shows => k_is)
    (case hnC => k_is)
    (case htkC => k_is)
    (case kt_Led_Answer => kit_is)
    (case kt_Led_Led => kit_is)
    (case kt_Led_Parts => kit_is)
    (case kt_Led_Elsewhere => kit_is)
    (case kt_Led_Rounds => kit_is)
    (case kt_Parts_Answer => kit_is)
    (case kt_Parts_Led => kit_is)
    (case kt_Parts_Parts => kit_is)
    (case kt_Parts_Elsewhere => kit_is)
    (case kt_Parts_Rounds => kit_is)
#print axioms PySem.Challenge.cw_twistturn_k06_whole_led_holds

