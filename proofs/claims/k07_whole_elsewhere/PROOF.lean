import PyProof.Rows.All
import Wide.All
import OpenK.AllK
import Wide.FinOn
import Lean
import PyProof.EqAt
import PyProof.EqKinds
import PyProof.TupleCall
import PyProof.StrWalks
import PyProof.StrOps
import PyProof.CallType
import PyProof.ReprLoop
import PyProof.WalksMore
import PyProof.FactsAll.str
import PyProof.FactsAll.object
import PyProof.StrLawsIn
import PySem.Challenge.RW_twistturn_k07_whole_elsewhere
-- CHANGE: your row's module here, as the last of these rows
set_option Elab.async false
set_option linter.all false
set_option maxRecDepth 100000
/-! the hand layer, lists and dicts together -/
namespace L2
open PySem PySem.Spec PyProof.Rows
/-- a key: an int or a str -/
abbrev Key := Sum Int Str
def keyIs : Key → Value → Bool
  | .inl k, v => Value.isInt k v
  | .inr x, v => Value.isStrOf x v
def keyH (w : World) : Key → Int
  | .inl k => hashInt k
  | .inr x => hashStr w x
theorem keyIs_shape : ∀ {k : Key} {v : Value}, keyIs k v = true → (∃ i t, k = Sum.inl i ∧ v = Value.int i t) ∨ (∃ x t, k = Sum.inr x ∧ v = Value.str x t)
  | .inl i, v, h => by
    obtain ⟨t, e⟩ := Value.isInt_shape (k := i) (v := v) h
    exact .inl ⟨i, t, rfl, e⟩
  | .inr x, v, h => by
    obtain ⟨t, e⟩ := Value.isStrOf_shape (x := x) (v := v) h
    exact .inr ⟨x, t, rfl, e⟩
theorem keyIs_int (i : Int) (t : Tok) : keyIs (.inl i) (.int i t) = true := by simp [keyIs, Value.isInt]
theorem keyIs_str (x : Str) (t : Tok) : keyIs (.inr x) (.str x t) = true := by simp [keyIs, Value.isStrOf]
theorem key_ll (a b : Int) : decide ((Sum.inl a : Key) = Sum.inl b) = (a == b) := by
  by_cases e : a = b
  · subst e; simp
  · have h : ¬ (Sum.inl a : Key) = Sum.inl b := fun q => e (Sum.inl.inj q)
    rw [decide_eq_false h]
    exact (beq_eq_false_iff_ne.mpr e).symm
theorem key_rr (a b : Str) : decide ((Sum.inr a : Key) = Sum.inr b) = decide (a = b) := by
  by_cases e : a = b
  · subst e; simp
  · have h : ¬ (Sum.inr a : Key) = Sum.inr b := fun q => e (Sum.inr.inj q)
    rw [decide_eq_false h, decide_eq_false e]
theorem key_lr (a : Int) (b : Str) : decide ((Sum.inl a : Key) = Sum.inr b) = false := decide_eq_false (fun q => nomatch q)
theorem key_rl (a : Str) (b : Int) : decide ((Sum.inr a : Key) = Sum.inl b) = false := decide_eq_false (fun q => nomatch q)
def mixKind (prog : Program) (w : World) : PySem.KeyKind prog w Key where
  is := keyIs
  hash := keyH w
  inj := fun v a b ha hb => by
    rcases keyIs_shape ha with ⟨i, t, rfl, rfl⟩ | ⟨x, t, rfl, rfl⟩
    · rcases keyIs_shape hb with ⟨j, u, rfl, e⟩ | ⟨y, u, rfl, e⟩
      · injection e with e1 _; rw [e1]
      · exact nomatch e
    · rcases keyIs_shape hb with ⟨j, u, rfl, e⟩ | ⟨y, u, rfl, e⟩
      · exact nomatch e
      · injection e with e1 _; rw [e1]
  byValue := fun k v h => by
    rcases keyIs_shape h with ⟨i, t, rfl, rfl⟩ | ⟨x, t, rfl, rfl⟩ <;> rfl
  pyHash := fun hv h => by
    rcases keyIs_shape hv with ⟨i, t, rfl, rfl⟩ | ⟨x, t, rfl, rfl⟩
    · exact wpAny_pyHash_int h
    · exact wpAny_pyHash_str h
  eqBool := fun hu hv h => by
    rcases keyIs_shape hu with ⟨i, t, rfl, rfl⟩ | ⟨x, t, rfl, rfl⟩
    · rcases keyIs_shape hv with ⟨j, u, rfl, rfl⟩ | ⟨y, u, rfl, rfl⟩
      · rw [key_ll] at h; exact wpAny_eqBool_int h
      · rw [key_lr] at h; exact SeqAt.EqAt.int_str i t y u _ _ _ _ h
    · rcases keyIs_shape hv with ⟨j, u, rfl, rfl⟩ | ⟨y, u, rfl, rfl⟩
      · rw [key_rl] at h; exact SeqAt.EqAt.str_int x t j u _ _ _ _ h
      · rw [key_rr] at h; exact wpAny_eqBool_str h
  «strs» := fun k x t v h => by
    rcases keyIs_shape h with ⟨i, u, rfl, e⟩ | ⟨y, u, rfl, e⟩
    · exact nomatch e
    · injection e with e1 _
      subst e1
      cases v <;> rfl
theorem mixKind_int (prog : Program) (w : World) (i : Int) (t : Tok) : (mixKind prog w).is (.inl i) (.int i t) = true := keyIs_int i t
theorem mixKind_str (prog : Program) (w : World) (x : Str) (t : Tok) : (mixKind prog w).is (.inr x) (.str x t) = true := keyIs_str x t
end L2
namespace L2
open PySem PySem.Spec PyProof.Rows
/-- a value, without the heap -/
inductive V where
  | non | bl (b : Bool) | int (i : Int) | str (x : Str) | byt (b : Array UInt8) | flt (b : UInt64) | ref (a : Addr) | ty (n : String)
  deriving DecidableEq
def RelV : V → Value → Prop
  | .non, u => u = Value.none
  | .bl b, u => u = Value.bool b
  | .int i, u => ∃ t, u = Value.int i t
  | .str x, u => ∃ t, u = Value.str x t
  | .byt b, u => ∃ t, u = Value.bytes b t
  | .flt b, u => ∃ t, u = Value.float b t
  | .ref a, u => u = Value.ref a
  | .ty n, u => u = Value.type n
abbrev Vals : List V → List Value → Prop := Paired RelV
theorem Vals.length {xs : List V} {us : List Value} (r : Vals xs us) : xs.length = us.length := Paired.length r
theorem Vals.get : ∀ {xs : List V} {us : List Value} {i : Nat} {x : V}, Vals xs us → xs[i]? = some x → ∃ u, us[i]? = some u ∧ RelV x u
  | _, _, _, _, .nil, e => by simp at e
  | _, _, 0, _, .cons r _, e => by simp at e; subst e; exact ⟨_, rfl, r⟩
  | _, _, i + 1, x, .cons _ t, e => by
    obtain ⟨u, h1, h2⟩ := Vals.get (i := i) (x := x) t (by simpa using e)
    exact ⟨u, by simpa using h1, h2⟩
theorem Vals.append : ∀ {xs ys : List V} {us ws : List Value}, Vals xs us → Vals ys ws → Vals (xs ++ ys) (us ++ ws)
  | _, _, _, _, .nil, s => s
  | _, _, _, _, .cons r t, s => .cons r (Vals.append t s)
theorem Vals.take : ∀ {xs : List V} {us : List Value} (n : Nat), Vals xs us → Vals (xs.take n) (us.take n)
  | _, _, 0, _ => .nil
  | _, _, _ + 1, .nil => .nil
  | _, _, n + 1, .cons r t => .cons r (Vals.take n t)
theorem Vals.drop : ∀ {xs : List V} {us : List Value} (n : Nat), Vals xs us → Vals (xs.drop n) (us.drop n)
  | _, _, 0, r => r
  | _, _, _ + 1, .nil => .nil
  | _, _, n + 1, .cons _ t => Vals.drop n t
def RelO : Option V → Option Value → Prop
  | some v, some u => RelV v u
  | none, none => True
  | _, _ => False
def KV {κ : Type} : List (κ × V) → List (κ × Value) → Prop := Paired fun (p : κ × V) (q : κ × Value) => p.1 = q.1 ∧ RelV p.2 q.2
/-- a key of a dict (00_mix): an int or a text -/
def kV : Key → V
  | .inl i => .int i
  | .inr x => .str x
/-- what stands at a tracked address -/
inductive HO where
  /-- a list -/
  | lst (xs : List V)
  /-- a tuple (never changes) -/
  | tup (xs : List V)
  /-- a dict whose keys are ints and texts; one whose keys are tuples of ints and texts (the empty one is both) -/
  | dK (kvs : List (Key × V)) | dT (kvs : List (List Key × V))
  /-- a set of ints: its members, its size -/
  | set (S : Int → Bool) (n : Nat)
  /-- an instance of the class at C, its dict at dx, its attributes -/
  | ins (C dx : Addr) (fs : List (Str × V))
  /-- the dict of the instance at x -/
  | own (x : Addr)
  /-- the dict of an exception -/
  | xd (fs : List (Str × V))
  /-- a bound method, f of x -/
  | met (f x : Addr)
  /-- a range object lo, lo + 1, .. below hi -/
  | rng (lo hi : Int)
  /-- a thing that is known to the object (the script; a dict while a loop walks it): read, never written while it is so -/
  | frz (o : Obj) (u : HO)
  /-- a code object's table -/
  | tbl (ps : Array Value)
  /-- any other thing, by what is true of its one object (a def of one's own: SetO a S n := HO.ext fun h => ..) -/
  | ext (φ : Heap → Prop)
abbrev Hp := Addr → Option HO
def upd (H : Hp) (a : Addr) (o : HO) : Hp := fun b => if b = a then some o else H b
theorem upd_same {H : Hp} {a : Addr} {o : HO} : upd H a o a = some o := by unfold upd; rw [if_pos rfl]
theorem upd_ne {H : Hp} {a b : Addr} {o : HO} (h : b ≠ a) : upd H a o b = H b := by unfold upd; rw [if_neg h]
theorem upd_upd {H : Hp} {a : Addr} {o u : HO} : upd (upd H a o) a u = upd H a u := by
  funext b; unfold upd; split <;> rfl
theorem ne_of_none {H : Hp} {a b : Addr} {o : HO} (h : H a = some o) (h' : H b = none) : a ≠ b := by
  intro e; subst e; rw [h] at h'; cases h'
section
variable (P : Program) (w : World)
def ObjOk (H : Hp) (h : Heap) (a : Addr) : HO → Prop
  | .lst xs => xs.length ≤ sizeLine ∧ ∃ (its : List Value) (n : Nat), Vals xs its ∧ h.get? a = some { cls := .type "list", data := .seq its.toArray n }
  | .tup xs => xs.length ≤ sizeLine ∧ ∃ its : List Value, Vals xs its ∧ IsTup h a its.toArray
  | .dK kvs => kvs.length ≤ sizeLine ∧ (a == sysModules) = false ∧ ∃ vs, KV kvs vs ∧ h.DictOf (mixKind P w) a vs
  | .dT kvs => kvs.length ≤ sizeLine ∧ (a == sysModules) = false ∧ ∃ xs : List (List Key × Addr × Value),
      Paired (fun (p : List Key × V) (q : List Key × Addr × Value) => p.1 = q.1 ∧ H q.2.1 = some (.tup (p.1.map kV)) ∧ RelV p.2 q.2.2) kvs xs ∧
      ∃ o es ep, h.get? a = some o ∧ o.ExactDict ∧ o.data = .dict es ep ∧ es.toList = xs.map (entryOfKey (tupleKind (mixKind P w))) ∧ (xs.map (·.1)).Nodup
  | .set S n => h.SetOf (intKind P w) a S n
  | .ins C dx fs => H dx = some (.own a) ∧ fs.length ≤ 1000 ∧ dx ≠ a ∧ h.get? a = some (PySem.W.instObj C dx) ∧
      ∃ mA, h.Ns1 dx mA ∧ (∀ f, RelO (fs.lookup f) (mA f)) ∧ PySem.Within mA (fs.map (·.1))
  | .own _ => ∃ o, h.get? a = some o
  | .xd fs => ∃ mA, h.Ns1 a mA ∧ ∀ f, RelO (fs.lookup f) (mA f)
  | .rng lo hi => ∃ t u v, h.get? a = some { cls := .type "range", data := .fields #[.int lo t, .int hi u, .int 1 v] }
  | .frz o u => h.get? a = some o ∧ ObjOk H h a u
  | .tbl ps => h.get? a = some { cls := .none, data := .fields ps }
  | .met f x => h.get? a = some (PySem.W.methodObj (.ref f) (.ref x))
  | .ext φ => φ h ∧ (∃ o, h.get? a = some o) ∧ ∀ h1 h2 : Heap, φ h1 → (∀ o, h1.get? a = some o → h2.get? a = some o) → φ h2
/-- the abstract heap is held -/
def HOk (H : Hp) (h : Heap) : Prop := ∀ a o, H a = some o → ObjOk P w H h a o
end
section
variable {P : Program} {w : World} {H H' : Hp} {h h' : Heap} {a : Addr} {o : HO}
theorem ObjOk.lt (x : ObjOk P w H h a o) : a < h.objs.size := by
  cases o with
  | lst xs => obtain ⟨_, _, _, _, e⟩ := x; exact Heap.lt_size e
  | tup xs => obtain ⟨_, _, _, p⟩ := x; exact p.lt
  | dK kvs => obtain ⟨_, _, _, _, o, _, _, e, _⟩ := x; exact Heap.lt_size e
  | dT kvs => obtain ⟨_, _, _, _, o, _, _, e, _⟩ := x; exact Heap.lt_size e
  | set S n => obtain ⟨o, _, _, _, e, _⟩ := x; exact Heap.lt_size e
  | ins C dx fs => obtain ⟨_, _, _, e, _⟩ := x; exact Heap.lt_size e
  | own y => obtain ⟨_, e⟩ := x; exact Heap.lt_size e
  | xd fs => obtain ⟨_, ⟨_, _, _, e, _⟩, _⟩ := x; exact Heap.lt_size e
  | rng lo hi => obtain ⟨_, _, _, e⟩ := x; exact Heap.lt_size e
  | frz ob u => obtain ⟨e, _⟩ := x; exact Heap.lt_size e
  | tbl ps => exact Heap.lt_size (show h.get? a = some _ from x)
  | met f y => exact Heap.lt_size (show h.get? a = some _ from x)
  | ext φ => obtain ⟨_, ⟨_, e⟩, _⟩ := x; exact Heap.lt_size e
theorem Paired.mapP {α β : Type} {F G : α → β → Prop} : ∀ {l₁ : List α} {l₂ : List β}, Paired F l₁ l₂ → (∀ a b, F a b → G a b) → Paired G l₁ l₂
  | _, _, .nil, _ => .nil
  | _, _, .cons r t, f => .cons (f _ _ r) (Paired.mapP t f)
/-- what an object's description leans on: its own object, its own dict, the tuples -/
theorem ObjOk.stay (x : ObjOk P w H h a o) (k : ∀ b u, (b = a ∨ H b = some (.own a)) → h.get? b = some u → h'.get? b = some u)
    (ho : ∀ b, H b = some (.own a) → H' b = some (.own a)) (ht : ∀ b xs, H b = some (.tup xs) → H' b = some (.tup xs)) : ObjOk P w H' h' a o := by
  induction o with
  | lst xs => obtain ⟨z, its, n, r, e⟩ := x; exact ⟨z, its, n, r, k _ _ (.inl rfl) e⟩
  | tup xs => obtain ⟨z, its, r, ob, e, c⟩ := x; exact ⟨z, its, r, ob, k _ _ (.inl rfl) e, c⟩
  | dK kvs => obtain ⟨z, y, vs, r, ob, es, ep, e, c⟩ := x; exact ⟨z, y, vs, r, ob, es, ep, k _ _ (.inl rfl) e, c⟩
  | dT kvs =>
    obtain ⟨z, y, xs, r, ob, es, ep, e, c⟩ := x
    exact ⟨z, y, xs, Paired.mapP r fun p q z => ⟨z.1, ht _ _ z.2.1, z.2.2⟩, ob, es, ep, k _ _ (.inl rfl) e, c⟩
  | set S n => obtain ⟨ob, es, ep, t, e, c⟩ := x; exact ⟨ob, es, ep, t, k _ _ (.inl rfl) e, c⟩
  | ins C dx fs =>
    obtain ⟨d, z, ne, e, mA, ⟨od, es, ep, e2, c⟩, r⟩ := x
    exact ⟨ho _ d, z, ne, k _ _ (.inl rfl) e, mA, ⟨od, es, ep, k _ _ (.inr d) e2, c⟩, r⟩
  | own y => obtain ⟨ob, e⟩ := x; exact ⟨ob, k _ _ (.inl rfl) e⟩
  | xd fs => obtain ⟨mA, ⟨od, es, ep, e, c⟩, r⟩ := x; exact ⟨mA, ⟨od, es, ep, k _ _ (.inl rfl) e, c⟩, r⟩
  | rng lo hi => obtain ⟨t, u, v, e⟩ := x; exact ⟨t, u, v, k _ _ (.inl rfl) e⟩
  | frz ob u ih => obtain ⟨e, q⟩ := x; exact ⟨k _ _ (.inl rfl) e, ih q⟩
  | tbl ps =>
    have e : h.get? a = some { cls := .none, data := .fields ps } := x
    show h'.get? a = some { cls := .none, data := .fields ps }
    exact k a _ (.inl rfl) e
  | met f y =>
    have e : h.get? a = some (PySem.W.methodObj (.ref f) (.ref y)) := x
    show h'.get? a = some (PySem.W.methodObj (.ref f) (.ref y))
    exact k a _ (.inl rfl) e
  | ext φ => obtain ⟨p, ⟨o, e⟩, st⟩ := x; exact ⟨st _ _ p fun o q => k _ _ (.inl rfl) q, ⟨o, k _ _ (.inl rfl) e⟩, st⟩
theorem HOk.lt (x : HOk P w H h) (e : H a = some o) : a < h.objs.size := (x a o e).lt
theorem HOk.fresh (x : HOk P w H h) (e : h.objs.size ≤ a) : H a = none := by
  cases q : H a with
  | none => rfl
  | some u => exact absurd (Nat.lt_of_lt_of_le (x.lt q) e) (Nat.lt_irrefl _)
/-- every object of the heap is kept -/
theorem HOk.kept (x : HOk P w H h) (k : ∀ b u, h.get? b = some u → h'.get? b = some u) : HOk P w H h' := fun a o e =>
  (x a o e).stay (fun b u _ q => k b u q) (fun _ q => q) fun _ _ q => q
/-- a new object is laid and tracked -/
theorem HOk.laid (x : HOk P w H h) (k : ∀ b u, h.get? b = some u → h'.get? b = some u) (hp : h.objs.size ≤ a) (new : ObjOk P w (upd H a o) h' a o) : HOk P w (upd H a o) h' := fun b u e => by
  have hn := x.fresh hp
  by_cases hb : b = a
  · subst hb; rw [upd_same] at e; cases e; exact new
  · rw [upd_ne hb] at e
    exact (x b u e).stay (fun c v _ q => k c v q) (fun c q => by rw [upd_ne (ne_of_none q hn)]; exact q) fun c xs q => by rw [upd_ne (ne_of_none q hn)]; exact q
end
/-- what may be read as u: it is u, or a known u -/
def Rd (H : Hp) (a : Addr) (u : HO) : Prop := H a = some u ∨ ∃ o, H a = some (.frz o u)
theorem Rd.ok {P : Program} {w : World} {H : Hp} {h : Heap} {a : Addr} {u : HO} (r : Rd H a u) (x : HOk P w H h) : ObjOk P w H h a u := by
  rcases r with r | ⟨o, r⟩
  · exact x a u r
  · obtain ⟨_, q⟩ := x a _ r
    exact q
/-- what may be written -/
def Mut : Option HO → Prop
  | some (.lst _) => True
  | some (.dK _) => True
  | some (.dT _) => True
  | some (.set _ _) => True
  | some (.ins _ _ _) => True
  | some (.ext _) => True
  | _ => False
section
variable {P : Program} {w : World} {H : Hp} {h h' : Heap} {x e : Addr} {o' : HO}
/-- the object at e is changed: x itself, or the dict of the instance x -/
theorem HOk.write (ok : HOk P w H h) (mu : Mut (H x)) (he : e = x ∨ H e = some (.own x)) (k : ∀ b u, b ≠ e → h.get? b = some u → h'.get? b = some u) (heo : ∃ u, h'.get? e = some u)
    (new : ObjOk P w (upd H x o') h' x o') : HOk P w (upd H x o') h' := fun b u q => by
  have nown : ∀ c y, H c = some (.own y) → c ≠ x := fun c y r z => by subst z; rw [r] at mu; exact mu
  have ntup : ∀ c xs, H c = some (.tup xs) → c ≠ x := fun c xs r z => by subst z; rw [r] at mu; exact mu
  by_cases hb : b = x
  · subst hb; rw [upd_same] at q; cases q; exact new
  · rw [upd_ne hb] at q
    by_cases hbe : b = e
    · have q' : H b = some (.own x) := by
        rcases he with z | z
        · exact absurd (hbe.trans z) hb
        · rw [hbe]; exact z
      rw [q] at q'; cases q'
      obtain ⟨v, hv⟩ := heo
      exact ⟨v, by rw [hbe]; exact hv⟩
    · refine (ok b u q).stay (fun c v hc r => k c v ?_ r) (fun c r => by rw [upd_ne (nown c b r)]; exact r) fun c xs r => by rw [upd_ne (ntup c xs r)]; exact r
      rcases hc with rfl | hc
      · exact hbe
      · rintro rfl
        rcases he with z | z
        · exact nown c b hc z
        · rw [hc] at z; cases z; exact hb rfl
end
/-! ### kept unless tracked; of the frames at fs (the callers') the slots may change (an exception that passes writes there); of the records at ex (iterators) nothing is said -/
structure Un (fs ex : List Addr) (H H' : Hp) (h h' : Heap) : Prop where
  keep : ∀ b o, h.get? b = some o → H b = none → b ∉ fs → b ∉ ex → h'.get? b = some o
  slot : ∀ b o, h.get? b = some o → H b = none → b ∈ fs → b ∉ ex → ∃ sl, h'.get? b = some { o with slots := sl }
  free : ∀ b o, h.get? b = some o → H b = none → b ∉ ex → H' b = none
  there : ∀ b o, h.get? b = some o → b ∉ ex → ∃ o', h'.get? b = some o'
  tups : ∀ b xs, H b = some (.tup xs) → H' b = some (.tup xs)
  frzs : ∀ b o u, H b = some (.frz o u) → H' b = some (.frz o u)
  tbls : ∀ b ps, H b = some (.tbl ps) → ∃ more, H' b = some (.tbl (ps ++ more))
section
variable {fs fs' ex ex' : List Addr} {H H1 H2 : Hp} {h h1 h2 h' : Heap} {a x e : Addr} {o : HO}
theorem Un.any (u : Un fs ex H H1 h h1) {b : Addr} {ob : Obj} (q : h.get? b = some ob) (n : H b = none) (hx : b ∉ ex) : ∃ sl, h1.get? b = some { ob with slots := sl } := by
  by_cases hb : b ∈ fs
  · exact u.slot b ob q n hb hx
  · exact ⟨ob.slots, u.keep b ob q n hb hx⟩
theorem Un.kept (k : ∀ b u, h.get? b = some u → h'.get? b = some u) : Un fs ex H H h h' :=
  ⟨fun b ob q _ _ _ => k b ob q, fun b ob q _ _ _ => ⟨ob.slots, k b ob q⟩, fun _ _ _ n _ => n, fun b ob q _ => ⟨ob, k b ob q⟩, fun _ _ q => q, fun _ _ _ q => q, fun _ ps q => ⟨#[], by rw [q]; simp⟩⟩
theorem Un.refl : Un fs ex H H h h := Un.kept fun _ _ q => q
theorem Un.laid (k : ∀ b u, h.get? b = some u → h'.get? b = some u) (hp : h.objs.size ≤ a) (hn : H a = none) : Un fs ex H (upd H a o) h h' where
  keep := fun b u q _ _ _ => k b u q
  slot := fun b u q _ _ _ => ⟨u.slots, k b u q⟩
  free := fun b u q n _ => by rw [upd_ne (Nat.ne_of_lt (Nat.lt_of_lt_of_le (Heap.lt_size q) hp))]; exact n
  there := fun b u q _ => ⟨u, k b u q⟩
  tups := fun b xs q => by rw [upd_ne (ne_of_none q hn)]; exact q
  frzs := fun b u xs q => by rw [upd_ne (ne_of_none q hn)]; exact q
  tbls := fun b ps q => ⟨#[], by rw [upd_ne (ne_of_none q hn), q]; simp⟩
theorem Un.write (mu : Mut (H x)) (he : e = x ∨ H e = some (.own x)) (k : ∀ b u, b ≠ e → h.get? b = some u → h'.get? b = some u) (heo : ∃ u, h'.get? e = some u) : Un fs ex H (upd H x o) h h' := by
  have hx : ∀ b, H b = none → b ≠ x := fun b n z => by subst z; rw [n] at mu; exact mu
  have hb : ∀ b, H b = none → b ≠ e := fun b n z => by
    subst z
    rcases he with r | r
    · exact hx b n r
    · rw [n] at r; cases r
  have hm : ∀ b u, H b = some u → ¬ Mut (some u) → b ≠ x := fun b u q nm z => by subst z; rw [q] at mu; exact nm mu
  refine ⟨fun b u q n _ _ => k b u (hb b n) q, fun b u q n _ _ => ⟨u.slots, k b u (hb b n) q⟩, fun b u q n _ => by rw [upd_ne (hx b n)]; exact n, fun b u q _ => ?_,
    fun b xs q => by rw [upd_ne (hm b _ q fun z => z)]; exact q, fun b u xs q => by rw [upd_ne (hm b _ q fun z => z)]; exact q, fun b ps q => ⟨#[], by rw [upd_ne (hm b _ q fun z => z), q]; simp⟩⟩
  by_cases hbe : b = e
  · subst hbe; exact heo
  · exact ⟨u, k b u hbe q⟩
end
/-! ### the heap without what is tracked -/
def trk (h : Heap) (H : Hp) : List Addr := (List.range h.objs.size).filter fun a => (H a).isSome
def hidT (h : Heap) (H : Hp) : Heap := PySem.W.hideAll h (trk h H)
theorem hidT_size (h : Heap) (H : Hp) : (hidT h H).objs.size = h.objs.size := PySem.W.hideAll_size _ _
theorem hidT_get {h : Heap} {H : Hp} {b : Addr} {o : Obj} (e : h.get? b = some o) (n : H b = none) : (hidT h H).get? b = some o :=
  PySem.W.hideAll_get _ e fun hm => by
    have q : (H b).isSome = true := (List.mem_filter.mp hm).2
    rw [n] at q; simp at q
theorem of_hidT {h : Heap} {H : Hp} {b : Addr} {o : Obj} (e : (hidT h H).get? b = some o) : h.get? b = some o ∧ H b = none := by
  have e' : h.get? b = some o := PySem.W.of_hideAll (trk h H) e
  refine ⟨e', ?_⟩
  cases q : H b with
  | none => rfl
  | some x =>
    have hm : b ∈ trk h H := List.mem_filter.mpr ⟨List.mem_range.mpr (Heap.lt_size e'), by simp [q]⟩
    have z : (hidT h H).get? b = none := PySem.W.hideAll_none (trk h H) hm
    rw [z] at e; cases e
/-! ### OpenK's ledger, filled with every new object but one -/
end L2
namespace L2
open PySem PySem.Spec PyProof.Rows
/-- the module's facts, over the base: the heap at the law's entry without what is tracked there -/
structure Mod (K : PySem.W.Frag) (mg : Str → Option Value) (base : Heap) : Prop where
  kin : K.In base
  glob : base.Ns mainGlobals mg
  blt : ∃ mb, base.Ns builtinsNs mb ∧ ∀ x : Str, x ≠ "__name__" → mb x = bootBuiltins x
  nolimit : base.NoLimit
/-- the context: a def's body (or a comprehension's block) running. base: fixed through the whole law; s₀, H₀: the entry; outer: the frames whose slots others may change (a def's callers); stack: all frames that run;
   ex: iterators that were made ahead of the entry and are walked here (a comprehension's); fn: the names whose cells were made at the entry (a def: all; a comprehension's block: its own); calm: not within an except suite; pn: pins that every state bears; xe: what is wanted of an exception that leaves the code -/
structure Cx where
  prog : Program
  w : World
  K : PySem.W.Frag
  mg : Str → Option Value
  base : Heap
  A : Around
  N : List Str
  s₀ : Shared
  H₀ : Hp
  env : Env
  outer : List Env
  stack : List Env
  ex : List Addr
  fn : Str → Bool
  calm : Bool
  pn : List (Addr × Obj)
  xe : Value → Shared → Prop
/-- the callers' frames -/
def frs (l : List Env) : List Addr := l.filterMap (·.frame)
abbrev Cx.fs (X : Cx) : List Addr := frs X.outer
def Vis (sc : Scope) (x : Str) : Prop := sc.names.lookup x = some .local ∨ sc.names.lookup x = some .cell ∨ sc.names.lookup x = some .free
def Loc (sc : Scope) (x : Str) : Prop := sc.names.lookup x = some .local ∨ sc.names.lookup x = some .cell
def Look (env : Env) (h : Heap) (m : Str → Option Value) (x : Str) (u : Value) : Prop :=
  (env.kindOf x = some .local ∧ m x = some u) ∨ ((env.kindOf x = some .cell ∨ env.kindOf x = some .free) ∧ ∃ c, env.cells.lookup x = some c ∧ h.IsCell c (some u))
structure Cx.Ok (X : Cx) : Prop where
  mod : Mod X.K X.mg X.base
  kind : X.env.scope.kind = .function
  glob : X.env.globals = mainGlobals
  blt : X.env.builtins = builtinsNs
  above : X.s₀.heap.objs.size ≤ X.env.locals
  inj : ∀ x y c, X.env.cells.lookup x = some c → X.env.cells.lookup y = some c → x = y
  has : ∀ x, (X.env.kindOf x = some .cell ∨ X.env.kindOf x = some .free) → ∃ c, X.env.cells.lookup x = some c
  cab : ∀ x c, X.fn x = true → X.env.cells.lookup x = some c → X.s₀.heap.objs.size ≤ c
  hd : X.calm = true → X.A.handled = none
  frames : X.A.frames = some X.stack
  stk : X.stack = X.outer ∨ (X.stack = X.env :: X.outer ∧ X.env.frame = some X.env.locals)
  exf : ∀ b ∈ X.ex, b ≠ X.env.locals ∧ ∀ x c, X.env.cells.lookup x = some c → c ≠ b
  bs : ∀ b o, X.base.get? b = some o → X.s₀.heap.get? b = some o ∧ X.H₀ b = none
  bsz : X.base.objs.size ≤ X.s₀.heap.objs.size
  noex : ∀ b o, X.base.get? b = some o → b ∉ X.ex
  exfs : ∀ b ∈ X.ex, b ∉ X.fs
  funs : X.s₀.heap.FunFrames X.base X.outer
  frf : ∀ b ∈ X.fs, X.H₀ b = none
structure Inv (X : Cx) (pins : List (Addr × Obj)) (σ : List (Option V)) (H : Hp) (s : Shared) : Prop where
  ok : X.Ok
  os : s.os = X.s₀.os
  bare : AllBare s.gens
  base : Un X.fs X.ex X.H₀ H X.s₀.heap s.heap
  loc : ∃ m, s.heap.Ns X.env.locals m ∧ ∀ (i : Nat) (x : Str) (v : V), X.N[i]? = some x → σ[i]? = some (some v) → Vis X.env.scope x → ∃ u, RelV v u ∧ Look X.env s.heap m x u
  cell : ∀ x c, X.env.cells.lookup x = some c → ∃ v, s.heap.IsCell c v
  free : H X.env.locals = none
  freeC : ∀ x c, X.env.cells.lookup x = some c → H c = none
  pin : ∀ p ∈ X.pn ++ pins, s.heap.get? p.1 = some p.2 ∧ H p.1 = none ∧ p.1 ≠ X.env.locals ∧ p.1 ∉ X.fs ∧ ∀ v, p.2.data ≠ .cell v
  hok : HOk X.prog X.w H s.heap
  len : σ.length = X.N.length
section
variable {X : Cx} {pins : List (Addr × Obj)} {σ : List (Option V)} {H H' : Hp} {s : Shared} {h' : Heap}
theorem Cx.Ok.nofr (ok : X.Ok) {b : Addr} {o : Obj} (e : X.base.get? b = some o) : b ∉ X.fs := fun hb => by
  have := (ok.funs.mem hb).1
  rw [e] at this; cases this
theorem Inv.bs (I : Inv X pins σ H s) : ∀ b o, X.base.get? b = some o → s.heap.get? b = some o ∧ H b = none := fun b o e =>
  ⟨I.base.keep b o (I.ok.bs b o e).1 (I.ok.bs b o e).2 (I.ok.nofr e) (I.ok.noex b o e), I.base.free b o (I.ok.bs b o e).1 (I.ok.bs b o e).2 (I.ok.noex b o e)⟩
theorem Inv.bk (I : Inv X pins σ H s) : ∀ b o, X.base.get? b = some o → s.heap.get? b = some o := fun b o e => (I.bs b o e).1
theorem Inv.mod (I : Inv X pins σ H s) : Mod X.K X.mg X.base := I.ok.mod
theorem Inv.kIn (I : Inv X pins σ H s) : X.K.In s.heap := I.ok.mod.kin.keeps I.bk
/-- the frame over the base: for OpenK's rules (K.In X.base is I.mod.kin) -/
theorem Inv.fr (I : Inv X pins σ H s) : ∃ m, Fr X.base X.env.locals s.heap m :=
  let ⟨m, hn, _⟩ := I.loc
  ⟨m, hn, I.bk, Nat.le_trans I.ok.bsz I.ok.above⟩
theorem Inv.lt (I : Inv X pins σ H s) : X.env.locals < s.heap.objs.size := let ⟨_, hn, _⟩ := I.loc; hn.lt
theorem Inv.sz (I : Inv X pins σ H s) : X.s₀.heap.objs.size ≤ s.heap.objs.size := Nat.le_trans I.ok.above (Nat.le_of_lt I.lt)
theorem Inv.nofs (I : Inv X pins σ H s) {a : Addr} (h : s.heap.objs.size ≤ a) : a ∉ X.fs := fun hb => by
  obtain ⟨_, o, ho, _⟩ := I.ok.funs.mem hb
  exact absurd (Nat.lt_of_lt_of_le (Heap.lt_size ho) (Nat.le_trans I.sz h)) (Nat.lt_irrefl _)
theorem Inv.cne (I : Inv X pins σ H s) : ∀ x c, X.env.cells.lookup x = some c → c ≠ X.env.locals := fun x c e z => by
  obtain ⟨v, o, ho, hd⟩ := I.cell x c e
  obtain ⟨m, ⟨o', es, ep, ho', hd', _⟩, _⟩ := I.loc
  rw [z, ho'] at ho; cases ho; rw [hd'] at hd; cases hd
theorem Inv.funs (I : Inv X pins σ H s) : s.heap.FunFrames X.base X.outer := by
  have all : ∀ (l : List Env), (∀ b ∈ frs l, b ∈ X.fs) → X.s₀.heap.FunFrames X.base l → s.heap.FunFrames X.base l := by
    intro l
    induction l with
    | nil => intro _ _; trivial
    | cons env r ih =>
      intro hs hl
      obtain ⟨hk, ⟨L, o, hf, hn, ho, hd⟩, hr⟩ := hl
      have hL : L ∈ X.fs := hs L (by unfold frs; rw [List.filterMap_cons, hf]; exact List.mem_cons_self)
      obtain ⟨sl, e⟩ := I.base.slot L o ho (I.ok.frf L hL) hL fun z => I.ok.exfs L z hL
      exact ⟨hk, ⟨L, _, hf, hn, e, hd⟩, ih (fun b hb => hs b (by unfold frs; rw [List.filterMap_cons, hf]; exact List.mem_cons_of_mem _ hb)) hr⟩
  exact all X.outer (fun _ hb => hb) I.ok.funs
/-- the frames that run, for a call -/
theorem Inv.stack (I : Inv X pins σ H s) : s.heap.FunFrames X.base X.stack := by
  rcases I.ok.stk with e | ⟨e, hf⟩
  · rw [e]; exact I.funs
  · rw [e]
    obtain ⟨m, hn, _⟩ := I.loc
    refine .cons (by rw [I.ok.kind]; decide) hf hn ?_ I.funs
    exact Heap.get?_none_of_le (Nat.le_trans I.ok.bsz I.ok.above)
theorem Inv.stkSub (I : Inv X pins σ H s) : ∀ b ∈ frs X.stack, b ∈ X.env.locals :: X.fs := fun b hb => by
  rcases I.ok.stk with e | ⟨e, hf⟩
  · rw [e] at hb; exact List.mem_cons_of_mem _ hb
  · rw [e] at hb
    unfold frs at hb
    rw [List.filterMap_cons, hf] at hb
    exact hb
theorem Inv.stkFree (I : Inv X pins σ H s) : ∀ b ∈ frs X.stack, H b = none := fun b hb => by
  rcases List.mem_cons.mp (I.stkSub b hb) with e | hb
  · rw [e]; exact I.free
  · obtain ⟨_, o, ho, _⟩ := I.ok.funs.mem hb
    exact I.base.free b o ho (I.ok.frf b hb) fun z => I.ok.exfs b z hb
/-- THE STEP: the untracked objects but the frame and the records at ch are kept (the callers' frames up to slots), the frame's map is kept, the new abstract heap is held -/
theorem Inv.step {g' : Array GenState} {t' : Nat} {d' : Drawn} {ch : List Addr} (I : Inv X pins σ H s)
    (hch : ∀ b ∈ ch, (b ∈ X.ex ∨ X.s₀.heap.objs.size ≤ b) ∧ b ≠ X.env.locals ∧ (∀ x c, X.env.cells.lookup x = some c → c ≠ b) ∧ ∀ p ∈ X.pn ++ pins, p.1 ≠ b)
    (keep : ∀ b o, b ≠ X.env.locals → b ∉ X.fs → b ∉ ch → s.heap.get? b = some o → H b = none → h'.get? b = some o)
    (slot : ∀ b o, b ≠ X.env.locals → b ∈ X.fs → b ∉ ch → s.heap.get? b = some o → H b = none → ∃ sl, h'.get? b = some { o with slots := sl }) (free : ∀ b o, b ∉ ch → s.heap.get? b = some o → H b = none → H' b = none)
    (there : ∀ b o, b ∉ ch → s.heap.get? b = some o → ∃ o', h'.get? b = some o')
    (tups : ∀ b xs, H b = some (.tup xs) → H' b = some (.tup xs)) (frzs : ∀ b o u, H b = some (.frz o u) → H' b = some (.frz o u)) (tbls : ∀ b ps, H b = some (.tbl ps) → ∃ more, H' b = some (.tbl (ps ++ more)))
    (ns : ∀ m, s.heap.Ns X.env.locals m → h'.Ns X.env.locals m) (hok : HOk X.prog X.w H' h') (hg : AllBare g') :
    Inv X pins σ H' { s with heap := h', gens := g', drawn := d', toks := t' } := by
  have neL : ∀ b o, X.s₀.heap.get? b = some o → b ≠ X.env.locals := fun b o e => Nat.ne_of_lt (Nat.lt_of_lt_of_le (Heap.lt_size e) I.ok.above)
  have neC : ∀ b o, X.s₀.heap.get? b = some o → b ∉ X.ex → b ∉ ch := fun b o e hx hb => by
    rcases (hch b hb).1 with z | z
    · exact hx z
    · exact absurd (Nat.lt_of_lt_of_le (Heap.lt_size e) z) (Nat.lt_irrefl _)
  have cellK : ∀ x c, X.env.cells.lookup x = some c → ∀ v, s.heap.IsCell c v → h'.IsCell c v := fun x c e v ⟨o, ho, hd⟩ => by
    have nch : c ∉ ch := fun z => (hch c z).2.2.1 x c e rfl
    by_cases hc : c ∈ X.fs
    · obtain ⟨sl, q⟩ := slot c o (I.cne x c e) hc nch ho (I.freeC x c e)
      exact ⟨_, q, hd⟩
    · exact ⟨o, keep c o (I.cne x c e) hc nch ho (I.freeC x c e), hd⟩
  refine ⟨I.ok, I.os, hg, ⟨fun b o e n hb hx => ?_, fun b o e n hb hx => ?_, fun b o e n hx => ?_, fun b o e hx => ?_, fun b xs e => tups b xs (I.base.tups b xs e), fun b o xs e => frzs b o xs (I.base.frzs b o xs e), fun b ps e => ?_⟩, ?_, fun x c e => ?_, ?_, fun x c e => ?_, fun p hp => ?_, hok, I.len⟩
  · exact keep b o (neL b o e) hb (neC b o e hx) (I.base.keep b o e n hb hx) (I.base.free b o e n hx)
  · obtain ⟨sl, e1⟩ := I.base.slot b o e n hb hx
    obtain ⟨sl', e2⟩ := slot b _ (neL b o e) hb (neC b o e hx) e1 (I.base.free b o e n hx)
    exact ⟨sl', e2⟩
  · obtain ⟨o', e1⟩ := I.base.there b o e hx
    exact free b o' (neC b o e hx) e1 (I.base.free b o e n hx)
  · obtain ⟨o', e1⟩ := I.base.there b o e hx
    exact there b o' (neC b o e hx) e1
  · obtain ⟨m1, e1⟩ := I.base.tbls b ps e
    obtain ⟨m2, e2⟩ := tbls b _ e1
    exact ⟨m1 ++ m2, by rw [e2, Array.append_assoc]⟩
  · obtain ⟨m, hn, hl⟩ := I.loc
    refine ⟨m, ns m hn, fun i x v e1 e2 e3 => ?_⟩
    obtain ⟨u, r, l⟩ := hl i x v e1 e2 e3
    refine ⟨u, r, ?_⟩
    rcases l with l | ⟨k, c, e, z⟩
    · exact .inl l
    · exact .inr ⟨k, c, e, cellK x c e _ z⟩
  · obtain ⟨v, z⟩ := I.cell x c e
    exact ⟨v, cellK x c e v z⟩
  · obtain ⟨m, ⟨o, _, _, ho, _⟩, _⟩ := I.loc
    exact free _ o (fun z => (hch _ z).2.1 rfl) ho I.free
  · obtain ⟨v, o, ho, hd⟩ := I.cell x c e
    exact free c o (fun z => (hch c z).2.2.1 x c e rfl) ho (I.freeC x c e)
  · obtain ⟨e, n, ne, nf, d⟩ := I.pin p hp
    have nch : p.1 ∉ ch := fun z => (hch p.1 z).2.2.2 p hp rfl
    exact ⟨keep p.1 p.2 ne nf nch e n, free p.1 p.2 nch e n, ne, nf, d⟩
/-- .. where the frame's own object is kept too -/
theorem Inv.un {t' : Nat} (I : Inv X pins σ H s) (u : Un X.fs [] H H' s.heap h') (hok : HOk X.prog X.w H' h') : Inv X pins σ H' { s with heap := h', toks := t' } := by
  obtain ⟨m, ⟨o, es, ep, ho, r⟩, _⟩ := id I.loc
  obtain ⟨sl, hL⟩ := u.any ho I.free (by simp)
  exact I.step (g' := s.gens) (d' := s.drawn) (ch := []) (fun _ z => nomatch z) (fun b o _ hb _ e n => u.keep b o e n hb (by simp)) (fun b o _ hb _ e n => u.slot b o e n hb (by simp)) (fun b o _ e n => u.free b o e n (by simp)) (fun b o _ e => u.there b o e (by simp)) u.tups u.frzs u.tbls (fun m' hm => by
    obtain ⟨o', es', ep', ho', r'⟩ := hm
    rw [ho] at ho'; cases ho'
    exact ⟨_, es', ep', hL, r'⟩) hok I.bare
/-- behind a call (or a comprehension's block): the slots of this frame may have changed too, the records at ch may have turned -/
theorem Inv.call {g' : Array GenState} {t' : Nat} {d' : Drawn} {ch : List Addr} (I : Inv X pins σ H s) (u : Un (frs X.stack) ch H H' s.heap h') (hok : HOk X.prog X.w H' h') (hg : AllBare g')
    (hch : ∀ b ∈ ch, (b ∈ X.ex ∨ X.s₀.heap.objs.size ≤ b) ∧ b ≠ X.env.locals ∧ (∀ x c, X.env.cells.lookup x = some c → c ≠ b) ∧ ∀ p ∈ X.pn ++ pins, p.1 ≠ b) :
    Inv X pins σ H' { s with heap := h', gens := g', drawn := d', toks := t' } := by
  obtain ⟨m, ⟨o, es, ep, ho, r⟩, _⟩ := id I.loc
  obtain ⟨sl, hL⟩ := u.any ho I.free fun z => (hch _ z).2.1 rfl
  exact I.step (ch := ch) hch (fun b o hL hb hc e n => u.keep b o e n (fun z => (List.mem_cons.mp (I.stkSub b z)).elim hL hb) hc) (fun b o _ _ hc e n => u.any e n hc) (fun b o hc e n => u.free b o e n hc) (fun b o hc e => u.there b o e hc) u.tups u.frzs u.tbls (fun m' hm => by
    obtain ⟨o', es', ep', ho', r'⟩ := hm
    rw [ho] at ho'; cases ho'
    exact ⟨_, es', ep', hL, r'⟩) hok hg
/-- an untracked record of ours (an iterator) has turned -/
theorem Inv.turned {t' : Nat} {it : Addr} (I : Inv X pins σ H s) (k : ∀ b o, b ≠ it → s.heap.get? b = some o → h'.get? b = some o) (hn : H it = none) (hL : it ≠ X.env.locals)
    (h1 : it ∈ X.ex ∨ X.s₀.heap.objs.size ≤ it) (h2 : ∀ x c, X.env.cells.lookup x = some c → c ≠ it) (h3 : ∀ p ∈ X.pn ++ pins, p.1 ≠ it) : Inv X pins σ H { s with heap := h', toks := t' } := by
  have nit : ∀ b u, H b = some u → b ≠ it := fun b u e z => by rw [z, hn] at e; cases e
  refine I.step (g' := s.gens) (d' := s.drawn) (ch := [it]) (fun b hb => ?_) (fun b o _ _ hc e _ => k b o (fun z => hc (by simp [z])) e) (fun b o _ _ hc e _ => ⟨o.slots, k b o (fun z => hc (by simp [z])) e⟩) (fun _ _ _ _ n => n)
    (fun b o hc e => ⟨o, k b o (fun z => hc (by simp [z])) e⟩) (fun _ _ e => e) (fun _ _ _ e => e) (fun b ps e => ⟨#[], by rw [e]; simp⟩) (fun m hm => ?_) (fun b u e => ?_) I.bare
  · have e : b = it := by simpa using hb
    subst e
    exact ⟨h1, hL, h2, h3⟩
  · obtain ⟨o, es, ep, ho, r⟩ := hm
    exact ⟨o, es, ep, k _ o (Ne.symm hL) ho, r⟩
  · refine (I.hok b u e).stay (fun c v hc q => k c v ?_ q) (fun _ q => q) fun _ _ q => q
    rcases hc with z | z
    · rw [z]; exact nit b u e
    · exact nit c _ z
theorem Inv.tok (I : Inv X pins σ H s) (t : Nat) : Inv X pins σ H { s with toks := t } := I.un (h' := s.heap) (t' := t) Un.refl I.hok
/-- all objects kept -/
theorem Inv.kept {t' : Nat} (I : Inv X pins σ H s) (k : ∀ b u, s.heap.get? b = some u → h'.get? b = some u) : Inv X pins σ H { s with heap := h', toks := t' } := I.un (Un.kept k) (I.hok.kept k)
/-- a new object laid and tracked -/
theorem Inv.laid {a : Addr} {o : HO} {t' : Nat} (I : Inv X pins σ H s) (k : ∀ b u, s.heap.get? b = some u → h'.get? b = some u) (hp : s.heap.objs.size ≤ a) (new : ObjOk X.prog X.w (upd H a o) h' a o) :
    Inv X pins σ (upd H a o) { s with heap := h', toks := t' } := I.un (Un.laid k hp (I.hok.fresh hp)) (I.hok.laid k hp new)
/-- an object written -/
theorem Inv.write {x e : Addr} {o : HO} {t' : Nat} (I : Inv X pins σ H s) (mu : Mut (H x)) (he : e = x ∨ H e = some (.own x)) (k : ∀ b u, b ≠ e → s.heap.get? b = some u → h'.get? b = some u) (heo : ∃ u, h'.get? e = some u)
    (new : ObjOk X.prog X.w (upd H x o) h' x o) : Inv X pins σ (upd H x o) { s with heap := h', toks := t' } := I.un (Un.write mu he k heo) (I.hok.write mu he k heo new)
/-- forgetting slots, pins -/
theorem Inv.weak {σ' : List (Option V)} (I : Inv X pins σ H s) (hl : σ'.length = σ.length) (w : ∀ (i : Nat) v, σ'[i]? = some (some v) → σ[i]? = some (some v)) : Inv X pins σ' H s :=
  ⟨I.ok, I.os, I.bare, I.base, let ⟨m, hn, hl'⟩ := I.loc; ⟨m, hn, fun i x v e1 e2 e3 => hl' i x v e1 (w i v e2) e3⟩, I.cell, I.free, I.freeC, I.pin, I.hok, hl.trans I.len⟩
theorem Inv.pins_of {pins' : List (Addr × Obj)} (I : Inv X pins σ H s) (h : ∀ p ∈ pins', s.heap.get? p.1 = some p.2 ∧ H p.1 = none ∧ p.1 ≠ X.env.locals ∧ p.1 ∉ X.fs ∧ ∀ v, p.2.data ≠ .cell v) : Inv X pins' σ H s :=
  ⟨I.ok, I.os, I.bare, I.base, I.loc, I.cell, I.free, I.freeC, fun p hp => (List.mem_append.mp hp).elim (fun z => I.pin p (List.mem_append_left _ z)) (h p), I.hok, I.len⟩
theorem nodup_ix {N : List Str} (hN : N.Nodup) {i j : Nat} {x : Str} (a : N[i]? = some x) (b : N[j]? = some x) : i = j := by
  obtain ⟨h1, e1⟩ := List.getElem?_eq_some_iff.mp a
  obtain ⟨h2, e2⟩ := List.getElem?_eq_some_iff.mp b
  exact (List.getElem_inj hN).mp (e1.trans e2.symm)
/-- a name is stored; what changed -/
theorem store_ok2 {M : Model} {A : Around} {E : Value → Shared → Prop} {i : Nat} {x : Str} {v : V} {u : Value} {Q : Unit → Shared → Prop} (I : Inv X pins σ H s) (hN : X.N.Nodup) (hi : X.N[i]? = some x) (hx : Loc X.env.scope x) (r : RelV v u)
    (h : ∀ s', Inv X pins (σ.set i (some v)) H s' → (∃ a, Heap.SameBut a s.heap s'.heap ∧ (a = X.env.locals ∨ X.env.cells.lookup x = some a)) → Q () s') (hf : X.fn x = true ∨ X.env.scope.names.lookup x = some .local := by first | exact .inl rfl | exact .inr rfl | assumption) : wpAny M A (storeName X.env x u) Q E s := by
  obtain ⟨m, hn, hl⟩ := id I.loc
  have hcls : (X.env.scope.kind == .class || (X.env.scope.kind == .module && X.env.locals != X.env.globals)) = false := by rw [I.ok.kind]; rfl
  have hiσ : i < σ.length := by rw [I.len]; exact (List.getElem?_eq_some_iff.mp hi).1
  have cne := I.cne
  have tracked : ∀ {a : Addr} {h' : Heap}, (∃ o, s.heap.get? a = some o ∧ H a = none) → Heap.SameBut a s.heap h' → HOk X.prog X.w H h' := fun {a h'} ha hs b ob e => by
    obtain ⟨_, _, hfree⟩ := ha
    refine (I.hok b ob e).stay (fun c w' hc q => (hs.2 c ?_).trans q) (fun _ q => q) fun _ _ q => q
    rintro rfl
    rcases hc with rfl | hc
    · rw [hfree] at e; cases e
    · rw [hfree] at hc; cases hc
  rcases hx with hk | hk
  · refine wpAny_storeName_local hk hn (fun h' hn' hs => ?_) hcls
    obtain ⟨oL, _, _, hoL, _⟩ := id hn
    refine h _ ⟨I.ok, I.os, I.bare, ⟨fun b o e n hb hx => ?_, fun b o e n hb hx => ?_, I.base.free, fun b o e hx => ?_, I.base.tups, I.base.frzs, I.base.tbls⟩, ⟨_, hn', fun j y v' e1 e2 e3 => ?_⟩, fun y c e => ?_, I.free, I.freeC, fun p hp => ?_, tracked ⟨oL, hoL, I.free⟩ hs, by simpa using I.len⟩ ⟨_, hs, .inl rfl⟩
    · exact (hs.2 b (Nat.ne_of_lt (Nat.lt_of_lt_of_le (Heap.lt_size e) I.ok.above))).trans (I.base.keep b o e n hb hx)
    · obtain ⟨sl, e1⟩ := I.base.slot b o e n hb hx
      exact ⟨sl, (hs.2 b (Nat.ne_of_lt (Nat.lt_of_lt_of_le (Heap.lt_size e) I.ok.above))).trans e1⟩
    · obtain ⟨o', e1⟩ := I.base.there b o e hx
      exact ⟨o', (hs.2 b (Nat.ne_of_lt (Nat.lt_of_lt_of_le (Heap.lt_size e) I.ok.above))).trans e1⟩
    · by_cases hj : j = i
      · subst hj
        rw [hi] at e1; cases e1
        rw [List.getElem?_set_self hiσ] at e2
        cases e2
        exact ⟨u, r, .inl ⟨hk, by simp⟩⟩
      · rw [List.getElem?_set_ne (Ne.symm hj)] at e2
        obtain ⟨u', r', q⟩ := hl j y v' e1 e2 e3
        refine ⟨u', r', ?_⟩
        rcases q with ⟨k, e⟩ | ⟨k, c, e, z⟩
        · refine .inl ⟨k, ?_⟩
          have : y ≠ x := fun e => hj (nodup_ix hN e1 (e ▸ hi))
          simp [this, e]
        · exact .inr ⟨k, c, e, z.sameBut hs (cne y c e)⟩
    · obtain ⟨w', z⟩ := I.cell y c e
      exact ⟨w', z.sameBut hs (cne y c e)⟩
    · obtain ⟨e, n, ne, nf, d⟩ := I.pin p hp
      exact ⟨(hs.2 p.1 ne).trans e, n, ne, nf, d⟩
  · have hfn : X.fn x = true := by
      rcases hf with z | z
      · exact z
      · rw [z] at hk; cases hk
    obtain ⟨c, hc⟩ := I.ok.has x (.inl hk)
    obtain ⟨w', z⟩ := I.cell x c hc
    refine wpAny_storeName_cell I.ok.kind hk hc z (fun h' hc' hs => ?_)
    obtain ⟨oc, hoc, hocd⟩ := id z
    refine h { s with heap := h' } ⟨I.ok, I.os, I.bare, ⟨fun b o e n hb hx => ?_, fun b o e n hb hx => ?_, I.base.free, fun b o e hx => ?_, I.base.tups, I.base.frzs, I.base.tbls⟩, ⟨m, hn.sameBut hs (Ne.symm (cne x c hc)), fun j y v' e1 e2 e3 => ?_⟩, fun y c' e => ?_, I.free, I.freeC, fun p hp => ?_, tracked ⟨oc, hoc, I.freeC x c hc⟩ hs, by simpa using I.len⟩ ⟨c, hs, .inr hc⟩
    · exact (hs.2 b (Nat.ne_of_lt (Nat.lt_of_lt_of_le (Heap.lt_size e) (I.ok.cab x c hfn hc)))).trans (I.base.keep b o e n hb hx)
    · obtain ⟨sl, e1⟩ := I.base.slot b o e n hb hx
      exact ⟨sl, (hs.2 b (Nat.ne_of_lt (Nat.lt_of_lt_of_le (Heap.lt_size e) (I.ok.cab x c hfn hc)))).trans e1⟩
    · obtain ⟨o', e1⟩ := I.base.there b o e hx
      exact ⟨o', (hs.2 b (Nat.ne_of_lt (Nat.lt_of_lt_of_le (Heap.lt_size e) (I.ok.cab x c hfn hc)))).trans e1⟩
    · by_cases hj : j = i
      · subst hj
        rw [hi] at e1; cases e1
        rw [List.getElem?_set_self hiσ] at e2
        cases e2
        exact ⟨u, r, .inr ⟨.inl hk, c, hc, hc'⟩⟩
      · rw [List.getElem?_set_ne (Ne.symm hj)] at e2
        obtain ⟨u', r', q⟩ := hl j y v' e1 e2 e3
        refine ⟨u', r', ?_⟩
        rcases q with q | ⟨k, c', e, z'⟩
        · exact .inl q
        · refine .inr ⟨k, c', e, z'.sameBut hs ?_⟩
          rintro rfl
          exact hj (nodup_ix hN e1 (I.ok.inj _ _ _ e hc ▸ hi))
    · by_cases hcc : c' = c
      · subst hcc; exact ⟨_, hc'⟩
      · obtain ⟨w2, z2⟩ := I.cell y c' e
        exact ⟨w2, z2.sameBut hs hcc⟩
    · obtain ⟨e, n, ne, nf, d⟩ := I.pin p hp
      refine ⟨(hs.2 p.1 ?_).trans e, n, ne, nf, d⟩
      intro q
      rw [q, hoc] at e
      have q' : oc = p.2 := Option.some.inj e
      exact d w' (by rw [← q']; exact hocd)
theorem store_ok {M : Model} {A : Around} {E : Value → Shared → Prop} {i : Nat} {x : Str} {v : V} {u : Value} {Q : Unit → Shared → Prop} (I : Inv X pins σ H s) (hN : X.N.Nodup) (hi : X.N[i]? = some x) (hx : Loc X.env.scope x) (r : RelV v u)
    (h : ∀ s', Inv X pins (σ.set i (some v)) H s' → Q () s') (hf : X.fn x = true ∨ X.env.scope.names.lookup x = some .local := by first | exact .inl rfl | exact .inr rfl | assumption) : wpAny M A (storeName X.env x u) Q E s :=
  store_ok2 I hN hi hx r (fun s' I' _ => h s' I') hf
/-- behind a call or a block, the state as it is -/
theorem Inv.call' {s' : Shared} {ch : List Addr} (I : Inv X pins σ H s) (ho : s'.os = s.os) (u : Un (frs X.stack) ch H H' s.heap s'.heap) (hok : HOk X.prog X.w H' s'.heap) (hg : AllBare s'.gens)
    (hch : ∀ b ∈ ch, (b ∈ X.ex ∨ X.s₀.heap.objs.size ≤ b) ∧ b ≠ X.env.locals ∧ (∀ x c, X.env.cells.lookup x = some c → c ≠ b) ∧ ∀ p ∈ X.pn ++ pins, p.1 ≠ b) : Inv X pins σ H' s' := by
  obtain ⟨h', g', d', t', o'⟩ := s'
  have e : o' = s.os := ho
  subst e
  exact I.call (g' := g') (t' := t') (d' := d') u hok hg hch
end
/-! ### the judgements -/
/-- an exception: its class, its own dict's address (where it has one), the abstract heap behind it -/
abbrev XK := Value → Option Addr → Hp → Prop
abbrev St := List (Option V)
abbrev VK := V → Hp → Prop
/-- an expression's reading; a test's; an argument list's -/
abbrev TE := St → Hp → VK → Prop
abbrev TT := St → Hp → (Bool → Hp → Prop) → Prop
abbrev TA := St → Hp → (List V → Hp → Prop) → Prop
/-- what is wanted behind a statement -/
structure Ends where
  nx : St → Hp → Prop
  rt : VK
  bk : St → Hp → Prop := fun _ _ => False
  ct : St → Hp → Prop := fun _ _ => False
abbrev TS := Ends → St → Hp → Prop
def EP (X : Cx) (pins : List (Addr × Obj)) (σ : St) (Q : VK) (u : Value) (s' : Shared) : Prop := ∃ v H', Inv X pins σ H' s' ∧ RelV v u ∧ Q v H'
def TP (X : Cx) (pins : List (Addr × Obj)) (σ : St) (Q : Bool → Hp → Prop) (b : Bool) (s' : Shared) : Prop := ∃ H', Inv X pins σ H' s' ∧ Q b H'
def AP (X : Cx) (pins : List (Addr × Obj)) (σ : St) (Q : List V → Hp → Prop) (us : List Value) (s' : Shared) : Prop := ∃ vs H', Inv X pins σ H' s' ∧ Vals vs us ∧ Q vs H'
def SP (X : Cx) (pins : List (Addr × Obj)) (D : Ends) (f : Flow) (s' : Shared) : Prop :=
  match f with
  | .next => ∃ σ' H', Inv X pins σ' H' s' ∧ D.nx σ' H'
  | .brk => ∃ σ' H', Inv X pins σ' H' s' ∧ D.bk σ' H'
  | .cont => ∃ σ' H', Inv X pins σ' H' s' ∧ D.ct σ' H'
  | .ret u => ∃ v σ' H', Inv X pins σ' H' s' ∧ RelV v u ∧ D.rt v H'
def PE (X : Cx) (e : Expr) (t : TE) : Prop :=
  ∀ (pins : List (Addr × Obj)) (s : Shared) (σ : St) (H : Hp) (Q : VK), Inv X pins σ H s → t σ H Q → wpAny (model X.prog X.w) X.A (eval e X.env) (EP X pins σ Q) X.xe s
def PT (X : Cx) (e : Expr) (t : TT) : Prop :=
  ∀ (pins : List (Addr × Obj)) (s : Shared) (σ : St) (H : Hp) (Q : Bool → Hp → Prop), Inv X pins σ H s → t σ H Q → wpAny (model X.prog X.w) X.A (isTrue e X.env (eval e X.env)) (TP X pins σ Q) X.xe s
/-- a test whatever its 'whole' is (and, or) -/
def PW (X : Cx) (e : Expr) (t : TT) : Prop :=
  ∀ (whole : Sem Value) (pins : List (Addr × Obj)) (s : Shared) (σ : St) (H : Hp) (Q : Bool → Hp → Prop), Inv X pins σ H s → t σ H Q → wpAny (model X.prog X.w) X.A (isTrue e X.env whole) (TP X pins σ Q) X.xe s
theorem PW.pt {X : Cx} {e : Expr} {t : TT} (h : PW X e t) : PT X e t := h _
/-- an argument list (no star), from the left -/
def PA (X : Cx) (es : List Expr) (t : TA) : Prop :=
  ∀ (pos : Pos) (pins : List (Addr × Obj)) (s : Shared) (σ : St) (H : Hp) (Q : List V → Hp → Prop), Inv X pins σ H s → t σ H Q → wpAny (model X.prog X.w) X.A (spliced (backTo pos (starEach es X.env))) (AP X pins σ Q) X.xe s
def PS (X : Cx) (st : Stmt) (t : TS) : Prop :=
  ∀ (pins : List (Addr × Obj)) (s : Shared) (σ : St) (H : Hp) (D : Ends), Inv X pins σ H s → t D σ H → wpAny (model X.prog X.w) X.A (exec st X.env) (SP X pins D) X.xe s
def PSs (X : Cx) (st : List Stmt) (t : TS) : Prop :=
  ∀ (pins : List (Addr × Obj)) (s : Shared) (σ : St) (H : Hp) (D : Ends), Inv X pins σ H s → t D σ H → wpAny (model X.prog X.w) X.A (execs st X.env) (SP X pins D) X.xe s
/-- weaken the end -/
theorem thn {α : Type} {t : Sem α} {Q Q' : α → Shared → Prop} {M : Model} {A : Around} {E : Value → Shared → Prop} {s : Shared} (h : wpAny M A t Q E s) (hQ : ∀ a s, Q a s → Q' a s) : wpAny M A t Q' E s := wpAny_mono h hQ fun _ _ x => x
end L2
namespace L2
open PySem PySem.Spec PyProof.Rows
section
variable {X : Cx}
/-- two expressions in a row -/
theorem bin {a b : Expr} {ta tb : TE} (ha : PE X a ta) (hb : PE X b tb) {pins : List (Addr × Obj)} {s : Shared} {σ : St} {H : Hp} {R : V → V → Hp → Prop} (I : Inv X pins σ H s) (h : ta σ H fun x H1 => tb σ H1 fun y H2 => R x y H2)
    {α : Type} {Q : α → Shared → Prop} {f : Value → Value → Sem α}
    (hf : ∀ v u s2 x y H2, Inv X pins σ H2 s2 → RelV x v → RelV y u → R x y H2 → wpAny (model X.prog X.w) X.A (f v u) Q X.xe s2) :
    wpAny (model X.prog X.w) X.A (eval a X.env) (fun v s₁ => wpAny (model X.prog X.w) X.A (eval b X.env) (fun u s₂ => wpAny (model X.prog X.w) X.A (f v u) Q X.xe s₂) X.xe s₁) X.xe s := by
  refine thn (ha pins s σ H _ I h) fun v s1 ⟨x, H1, I1, r1, q1⟩ => ?_
  refine thn (hb pins s1 σ H1 _ I1 q1) fun u s2 ⟨y, H2, I2, r2, q2⟩ => ?_
  exact hf v u s2 x y H2 I2 r1 r2 q2
/-! ### names and constants -/
def tVar (i : Nat) : TE := fun σ H Q => ∃ v, σ[i]? = some (some v) ∧ Q v H
def tC (v : V) : TE := fun _ H Q => Q v H
theorem pe_var {i : Nat} {x : Str} {pos : Pos} (hN : X.N[i]? = some x) (hv : Vis X.env.scope x) (hd : (x == ("__debug__" : Str)) = false := by decide) (hcd : (x == ("__classdict__" : Str)) = false := by decide) : PE X (.Name x pos) (tVar i) := by
  intro pins s σ H Q I h
  obtain ⟨v, e, h⟩ := h
  obtain ⟨m, hn, hl⟩ := I.loc
  obtain ⟨u, r, l⟩ := hl i x v hN e hv
  have fin : EP X pins σ Q u s := ⟨v, H, I, r, h⟩
  rcases l with ⟨hk, hm⟩ | ⟨hk, c, hc, hcell⟩
  · exact wpAny_Name (wpAny_loadName_local I.ok.kind hk hn hm fin) hd
  · rcases hk with hk | hk
    · exact wpAny_Name (wpAny_loadName_cell I.ok.kind hk hc hcell fin) hd
    · exact wpAny_Name (wpAny_loadName_free I.ok.kind hk hc hcell fin hcd) hd
theorem pe_int {i j pos} : PE X (.Constant (.int i) j pos) (tC (.int i)) := fun _ _ _ H _ I h => wpAny_Constant_int ⟨.int i, H, I.tok _, ⟨_, rfl⟩, h⟩
theorem pe_bl {b j pos} : PE X (.Constant (.bool b) j pos) (tC (.bl b)) := fun _ _ _ H _ I h => Constant_bool ⟨.bl b, H, I, rfl, h⟩
theorem pe_str {x j pos} : PE X (.Constant (.str x) j pos) (tC (.str x)) := fun _ _ _ H _ I h => Calls.Constant_str ⟨.str x, H, I.tok _, ⟨_, rfl⟩, h⟩
/-- a global name of the def -/
def Gl (X : Cx) (x : Str) : Prop := X.env.kindOf x = some .globalImplicit
theorem ld_glob {E : Value → Shared → Prop} {pins : List (Addr × Obj)} {s : Shared} {σ : St} {H : Hp} {x : Str} {u : Value} {pos : Pos} {Q : Value → Shared → Prop} (I : Inv X pins σ H s) (hg : Gl X x) (hm : X.mg x = some u) (h : Q u s)
    (hd : (x == ("__debug__" : Str)) = false := by decide) : wpAny (model X.prog X.w) X.A (eval (.Name x pos) X.env) Q E s :=
  Calls.Name_function_global I.ok.kind hg (Calls.loadGlobal_global (by rw [I.ok.glob]; exact I.mod.glob.keeps I.bk) hm h) hd
theorem ld_blt {E : Value → Shared → Prop} {pins : List (Addr × Obj)} {s : Shared} {σ : St} {H : Hp} {x : Str} {u : Value} {pos : Pos} {Q : Value → Shared → Prop} (I : Inv X pins σ H s) (hg : Gl X x) (hm : X.mg x = none) (hv : bootBuiltins x = some u) (h : Q u s)
    (hn : x ≠ "__name__" := by decide) (hd : (x == ("__debug__" : Str)) = false := by decide) : wpAny (model X.prog X.w) X.A (eval (.Name x pos) X.env) Q E s := by
  obtain ⟨mb, h1, h2⟩ := I.mod.blt
  exact Calls.Name_function_global I.ok.kind hg (Calls.loadGlobal_builtin (by rw [I.ok.glob]; exact I.mod.glob.keeps I.bk) hm (by rw [I.ok.blt]; exact h1.keeps I.bk) ((h2 x hn).trans hv) h) hd
/-- a module's constant, a class, a function, as a value -/
theorem pe_glob {x : Str} {v : V} {u : Value} {pos : Pos} (hg : Gl X x) (hm : X.mg x = some u) (r : RelV v u) (hd : (x == ("__debug__" : Str)) = false := by decide) : PE X (.Name x pos) (tC v) :=
  fun _ _ _ H _ I h => ld_glob I hg hm ⟨v, H, I, r, h⟩ hd
theorem pe_bltn {x : Str} {v : V} {u : Value} {pos : Pos} (hg : Gl X x) (hm : X.mg x = none) (hv : bootBuiltins x = some u) (r : RelV v u) (hn : x ≠ "__name__" := by decide) (hd : (x == ("__debug__" : Str)) = false := by decide) : PE X (.Name x pos) (tC v) :=
  fun _ _ _ H _ I h => ld_blt I hg hm hv ⟨v, H, I, r, h⟩ hn hd
/-! ### arithmetic -/
variable {a b : Expr} {ta tb : TE} {pos : Pos}
/-! ### comparisons -/
def PC (X : Cx) (op : CmpOp) (a b : Expr) (t : TE) : Prop :=
  ∀ (pins : List (Addr × Obj)) (s : Shared) (σ : St) (H : Hp) (Q : VK), Inv X pins σ H s → t σ H Q →
    wpAny (model X.prog X.w) X.A (eval a X.env) (fun v s₁ => wpAny (model X.prog X.w) X.A (eval b X.env) (fun u s₂ => wpAny (model X.prog X.w) X.A (compareOp op v u) (EP X pins σ Q) X.xe s₂) X.xe s₁) X.xe s
/-- a comparison as a value, as a test -/
def tB (t : TE) : TT := fun σ H Q => t σ H fun x H1 => ∃ c, x = .bl c ∧ Q c H1
theorem pt_cmp {op : CmpOp} {t : TE} (h : PC X op a b t) (h1 : behindInMarks op b = false := by first | exact nobehind _ (by decide) (by decide) | rfl) : PT X (.Compare a [op] [b] pos) (tB t) := by
  intro pins s σ H Q I hw
  refine wpAny_isTrue_Compare1 (thn (h pins s σ H _ I hw) fun v s1 h1 => thn h1 fun u s2 h2 => thn h2 fun c s3 ⟨x, H1, I1, r1, q1⟩ => ?_) h1
  obtain ⟨d, rfl, q⟩ := q1
  cases r1
  exact wpAny_truthy_bool ⟨H1, I1, q⟩
/-- an expression whose value is a bool, as a test -/
theorem pt_val {e : Expr} {t : TE} (h : PE X e t) (he : ∀ whole, isTrue e X.env whole = (do let v ← whole; standAt e.pos; holding [v] (truthy v)) := by intro _; rfl) : PT X e (tB t) := by
  intro pins s σ H Q I hw
  refine isTrue_plain (thn (h pins s σ H _ I hw) fun v s1 ⟨x, H1, I1, r1, q1⟩ => ?_) (he _)
  obtain ⟨d, rfl, q⟩ := q1
  cases r1
  exact wpAny_truthy_bool ⟨H1, I1, q⟩
/-! ### and, or, not -/
variable {tA tB' : TT} {rest : List Expr}
def tAnd (t u : TT) : TT := fun σ H Q => t σ H fun c H1 => if c = true then u σ H1 Q else Q false H1
def tOr (t u : TT) : TT := fun σ H Q => t σ H fun c H1 => if c = true then Q true H1 else u σ H1 Q
def tNot (t : TT) : TT := fun σ H Q => t σ H fun c H1 => Q (!c) H1
theorem pw_and1 (ha : PT X a tA) : PW X (.BoolOp .And [a] pos) tA := by
  intro wh pins s σ H Q I h
  refine isTrue_and (thn (ha pins s σ H Q I h) fun c s1 e => ?_)
  cases c with
  | true => exact isTrue_and_nil e
  | false => exact e
theorem pw_or1 (ha : PT X a tA) : PW X (.BoolOp .Or [a] pos) tA := by
  intro wh pins s σ H Q I h
  refine isTrue_or (thn (ha pins s σ H Q I h) fun c s1 e => ?_)
  cases c with
  | false => exact isTrue_or_nil e
  | true => exact e
theorem pw_and (ha : PT X a tA) (hb : PW X (.BoolOp .And (b :: rest) pos) tB') : PW X (.BoolOp .And (a :: b :: rest) pos) (tAnd tA tB') := by
  intro wh pins s σ H Q I h
  refine isTrue_and (thn (ha pins s σ H _ I h) fun c s1 ⟨H1, I1, q1⟩ => ?_)
  cases c with
  | true => exact hb wh pins s1 σ H1 Q I1 q1
  | false => exact ⟨H1, I1, q1⟩
theorem pw_or (ha : PT X a tA) (hb : PW X (.BoolOp .Or (b :: rest) pos) tB') : PW X (.BoolOp .Or (a :: b :: rest) pos) (tOr tA tB') := by
  intro wh pins s σ H Q I h
  refine isTrue_or (thn (ha pins s σ H _ I h) fun c s1 ⟨H1, I1, q1⟩ => ?_)
  cases c with
  | true => exact ⟨H1, I1, q1⟩
  | false => exact hb wh pins s1 σ H1 Q I1 q1
theorem pt_not (ha : PT X a tA) : PT X (.UnaryOp .Not a pos) (tNot tA) := by
  intro pins s σ H Q I h
  exact isTrue_not (ha pins s σ H (fun c H1 => Q (!c) H1) I h)
/-- .. as values (bools) -/
def tAndV (ta tb : TE) : TE := fun σ H Q => ta σ H fun x H1 => ∃ c, x = .bl c ∧ if c = true then tb σ H1 Q else Q (.bl false) H1
def tOrV (ta tb : TE) : TE := fun σ H Q => ta σ H fun x H1 => ∃ c, x = .bl c ∧ if c = true then Q (.bl true) H1 else tb σ H1 Q
theorem pe_one {op} {t : TE} (h : PE X a t) : PE X (.BoolOp op [a] pos) t := fun pins s σ H Q I hw => BoolOp_one (h pins s σ H Q I hw)
theorem pe_and (ha : PE X a ta) (hb : PE X (.BoolOp .And (b :: rest) pos) tb) : PE X (.BoolOp .And (a :: b :: rest) pos) (tAndV ta tb) := by
  intro pins s σ H Q I h
  refine BoolOp_and (thn (ha pins s σ H _ I h) fun v s1 ⟨x, H1, I1, r1, q1⟩ => ?_)
  obtain ⟨c, rfl, q1⟩ := q1
  cases r1
  refine wpAny_truthy_bool ?_
  cases c with
  | true => exact hb pins s1 σ H1 Q I1 q1
  | false => exact ⟨.bl false, H1, I1, rfl, q1⟩
theorem pe_or (ha : PE X a ta) (hb : PE X (.BoolOp .Or (b :: rest) pos) tb) : PE X (.BoolOp .Or (a :: b :: rest) pos) (tOrV ta tb) := by
  intro pins s σ H Q I h
  refine BoolOp_or (thn (ha pins s σ H _ I h) fun v s1 ⟨x, H1, I1, r1, q1⟩ => ?_)
  obtain ⟨c, rfl, q1⟩ := q1
  cases r1
  refine wpAny_truthy_bool ?_
  cases c with
  | false => exact hb pins s1 σ H1 Q I1 q1
  | true => exact ⟨.bl true, H1, I1, rfl, q1⟩
/-- a if t else b -/
def tIf (t : TT) (ta tb : TE) : TE := fun σ H Q => t σ H fun c H1 => if c = true then ta σ H1 Q else tb σ H1 Q
theorem pe_ifExp {c : Expr} (hc : PT X c tA) (ha : PE X a ta) (hb : PE X b tb) : PE X (.IfExp c a b pos) (tIf tA ta tb) := by
  intro pins s σ H Q I h
  refine wpAny_IfExp (thn (hc pins s σ H _ I h) fun d s1 ⟨H1, I1, q1⟩ => ?_)
  cases d with
  | true => exact ha pins s1 σ H1 Q I1 q1
  | false => exact hb pins s1 σ H1 Q I1 q1
end
end L2
namespace L2
open PySem PySem.Spec PyProof.Rows
/-! ### a list, a tuple that is read: tracked, frozen, or an object of the module -/
def SqL (K : PySem.W.Frag) (H : Hp) (a : Addr) (xs : List V) : Prop :=
  Rd H a (.lst xs) ∨
    ∃ (o : Obj) (its : Array Value) (n : Nat), K.lookup a = some o ∧ o.cls = .type "list" ∧ o.dict = none ∧ o.data = .seq its n ∧ its.size ≤ sizeLine ∧ Vals xs its.toList
def SqT (K : PySem.W.Frag) (H : Hp) (a : Addr) (xs : List V) : Prop :=
  Rd H a (.tup xs) ∨
    ∃ (o : Obj) (its : Array Value) (n : Nat), K.lookup a = some o ∧ o.cls = .type "tuple" ∧ o.data = .seq its n ∧ its.size ≤ sizeLine ∧ Vals xs its.toList
def absV : Value → Option V
  | .none => some .non
  | .bool b => some (.bl b)
  | .int i _ => some (.int i)
  | .str x _ => some (.str x)
  | .bytes b _ => some (.byt b)
  | .float b _ => some (.flt b)
  | .ref a => some (.ref a)
  | .type n => some (.ty n)
  | _ => none
theorem RelV.abs {x : V} {u : Value} (r : RelV x u) : absV u = some x := by
  cases x with
  | non => cases r; rfl
  | bl _ => cases r; rfl
  | int _ => obtain ⟨t, rfl⟩ := r; rfl
  | str _ => obtain ⟨t, rfl⟩ := r; rfl
  | byt _ => obtain ⟨t, rfl⟩ := r; rfl
  | flt _ => obtain ⟨t, rfl⟩ := r; rfl
  | ref _ => cases r; rfl
  | ty _ => cases r; rfl
theorem RelV.inj {x y : V} {u : Value} (r : RelV x u) (q : RelV y u) : x = y := Option.some.inj (r.abs.symm.trans q.abs)
theorem Vals.inj : ∀ {xs ys : List V} {us : List Value}, Vals xs us → Vals ys us → xs = ys
  | _, _, _, .nil, .nil => rfl
  | _, _, _, .cons r t, .cons r' t' => by rw [r.inj r', Vals.inj t t']
section
variable {X : Cx} {pins : List (Addr × Obj)} {σ : St} {H : Hp} {s : Shared} {a : Addr} {xs ys : List V}
theorem SqL.of {K : PySem.W.Frag} (h : H a = some (.lst xs)) : SqL K H a xs := .inl (.inl h)
theorem SqT.of {K : PySem.W.Frag} (h : H a = some (.tup xs)) : SqT K H a xs := .inl (.inl h)
theorem Inv.list (I : Inv X pins σ H s) (h : SqL X.K H a xs) : ∃ its : List Value, Vals xs its ∧ PlainL s.heap a its.toArray ∧ xs.length ≤ sizeLine := by
  rcases h with h | ⟨o, its, n, hk, hc, hd, hs, hz, r⟩
  · obtain ⟨z, its, n, r, e⟩ := h.ok I.hok
    exact ⟨its, r, ⟨_, n, e, rfl, rfl, rfl⟩, z⟩
  · refine ⟨its.toList, r, ⟨o, n, I.kIn a o hk, hc, hd, by simpa using hs⟩, ?_⟩
    have e := r.length
    simp only [Array.length_toList] at e
    omega
theorem Inv.tuple (I : Inv X pins σ H s) (h : SqT X.K H a xs) : ∃ its : List Value, Vals xs its ∧ IsTup s.heap a its.toArray ∧ xs.length ≤ sizeLine := by
  rcases h with h | ⟨o, its, n, hk, hc, hs, hz, r⟩
  · obtain ⟨z, its, r, p⟩ := h.ok I.hok
    exact ⟨its, r, p, z⟩
  · refine ⟨its.toList, r, ⟨o, I.kIn a o hk, hc, n, by simpa using hs⟩, ?_⟩
    have e := r.length
    simp only [Array.length_toList] at e
    omega
theorem Inv.list_inj (I : Inv X pins σ H s) (h : SqL X.K H a xs) (h' : SqL X.K H a ys) : xs = ys := by
  obtain ⟨its, r, ⟨o, n, e, _, _, d⟩, _⟩ := I.list h
  obtain ⟨its', r', ⟨o', n', e', _, _, d'⟩, _⟩ := I.list h'
  rw [e] at e'; cases e'
  rw [d] at d'
  injection d' with d1 _
  have : its = its' := by simpa using congrArg Array.toList d1
  subst this
  exact r.inj r'
theorem Inv.tuple_inj (I : Inv X pins σ H s) (h : SqT X.K H a xs) (h' : SqT X.K H a ys) : xs = ys := by
  obtain ⟨its, r, ⟨o, e, _, n, d⟩, _⟩ := I.tuple h
  obtain ⟨its', r', ⟨o', e', _, n', d'⟩, _⟩ := I.tuple h'
  rw [e] at e'; cases e'
  rw [d] at d'
  injection d' with d1 _
  have : its = its' := by simpa using congrArg Array.toList d1
  subst this
  exact r.inj r'
end
/-! ### another wish about exceptions -/
abbrev Cx.wish (X : Cx) (E : Value → Shared → Prop) : Cx := { X with xe := E }
/-- no exception leaves -/
abbrev Cx.nox (X : Cx) : Cx := X.wish fun _ _ => False
theorem Cx.Ok.wish {X : Cx} (ok : X.Ok) (E : Value → Shared → Prop) : (X.wish E).Ok :=
  ⟨ok.mod, ok.kind, ok.glob, ok.blt, ok.above, ok.inj, ok.has, ok.cab, ok.hd, ok.frames, ok.stk, ok.exf, ok.bs, ok.bsz, ok.noex, ok.exfs, ok.funs, ok.frf⟩
theorem Cx.Ok.unwish {X : Cx} {E : Value → Shared → Prop} (ok : (X.wish E).Ok) : X.Ok :=
  ⟨ok.mod, ok.kind, ok.glob, ok.blt, ok.above, ok.inj, ok.has, ok.cab, ok.hd, ok.frames, ok.stk, ok.exf, ok.bs, ok.bsz, ok.noex, ok.exfs, ok.funs, ok.frf⟩
section
variable {X : Cx} {pins : List (Addr × Obj)} {σ : St} {H : Hp} {s : Shared} {E : Value → Shared → Prop}
theorem Inv.wish (I : Inv X pins σ H s) (E : Value → Shared → Prop) : Inv (X.wish E) pins σ H s := ⟨I.ok.wish E, I.os, I.bare, I.base, I.loc, I.cell, I.free, I.freeC, I.pin, I.hok, I.len⟩
theorem Inv.unwish (I : Inv (X.wish E) pins σ H s) : Inv X pins σ H s := ⟨I.ok.unwish, I.os, I.bare, I.base, I.loc, I.cell, I.free, I.freeC, I.pin, I.hok, I.len⟩
theorem SP.unwish {D : Ends} {f : Flow} {s' : Shared} (h : SP (X.wish E) pins D f s') : SP X pins D f s' := by
  cases f with
  | next => obtain ⟨σ', H', I, q⟩ := h; exact ⟨σ', H', I.unwish, q⟩
  | brk => obtain ⟨σ', H', I, q⟩ := h; exact ⟨σ', H', I.unwish, q⟩
  | cont => obtain ⟨σ', H', I, q⟩ := h; exact ⟨σ', H', I.unwish, q⟩
  | ret u => obtain ⟨v, σ', H', I, r, q⟩ := h; exact ⟨v, σ', H', I.unwish, r, q⟩
theorem PSs.nox {st : List Stmt} {t : TS} (h : PSs X.nox st t) : PSs X st t := fun pins s σ H D I hw =>
  wpAny_mono (h pins s σ H D (I.wish _) hw) (fun _ _ q => q.unwish) fun _ _ z => False.elim z
end
/-! ### blocks and small statements -/
section
variable {X : Cx} {st : Stmt} {rest : List Stmt} {t u : TS} {e : Expr} {te : TE} {pos : Pos}
def tNext : TS := fun D σ H => D.nx σ H
def tSeq (t u : TS) : TS := fun D σ H => t { D with nx := u D } σ H
theorem pss_nil : PSs X [] tNext := fun _ _ σ H _ I h => wpAny_execs_nil ⟨σ, H, I, h⟩
theorem pss_cons (h1 : PS X st t) (h2 : PSs X rest u) : PSs X (st :: rest) (tSeq t u) := by
  intro pins s σ H D I h
  refine wpAny_execs_cons (thn (h1 pins s σ H { D with nx := u D } I h) fun f s1 q => ?_)
  cases f with
  | next =>
    obtain ⟨σ', H', I', q⟩ := q
    exact h2 pins s1 σ' H' D I' q
  | ret v => exact q
  | brk => exact q
  | cont => exact q
theorem pss_one (h1 : PS X st t) : PSs X [st] t := by
  intro pins s σ H D I h
  refine wpAny_execs_cons (thn (h1 pins s σ H D I h) fun f s1 q => ?_)
  cases f with
  | next => exact wpAny_execs_nil q
  | ret v => exact q
  | brk => exact q
  | cont => exact q
/-- in a def's body nothing is shown -/
theorem Inv.quiet {pins : List (Addr × Obj)} {σ : St} {H : Hp} {s : Shared} (I : Inv X pins σ H s) : interactive X.env = false := by simp [interactive, I.ok.kind]
/-- an expression whose value is dropped -/
def tDrop (te : TE) : TS := fun D σ H => te σ H fun _ H1 => D.nx σ H1
theorem ps_expr (he : PE X e te) (hs : swapsWith e none pos.line X.env = pure false := by rfl) : PS X (.Expr e pos) (tDrop te) := by
  intro pins s σ H D I h
  exact wpAny_Expr_any (thn (he pins s σ H _ I h) fun v s1 ⟨x, H1, I1, r1, q1⟩ => ⟨σ, H1, I1, q1⟩) I.quiet hs
def tRet (te : TE) : TS := fun D σ H => te σ H D.rt
theorem ps_ret (he : PE X e te) : PS X (.Return (some e) pos) (tRet te) := by
  intro pins s σ H D I h
  exact wpAny_Return_some (thn (he pins s σ H _ I h) fun v s1 ⟨x, H1, I1, r1, q1⟩ => ⟨x, σ, H1, I1, r1, q1⟩)
def tRetN : TS := fun D _ H => D.rt .non H
theorem ps_retN : PS X (.Return none pos) tRetN := fun _ _ σ H _ I h => wpAny_Return_none ⟨.non, σ, H, I, rfl, h⟩
def tIfS (c : TT) (t u : TS) : TS := fun D σ H => c σ H fun b H1 => if b = true then t D σ H1 else u D σ H1
theorem ps_if {c : Expr} {a b : List Stmt} {tc : TT} (hc : PT X c tc) (ha : PSs X a t) (hb : PSs X b u) : PS X (.If c a b pos) (tIfS tc t u) := by
  intro pins s σ H D I h
  refine wpAny_If (thn (hc pins s σ H _ I h) fun d s1 ⟨H1, I1, q1⟩ => ?_)
  cases d with
  | true => exact ha pins s1 σ H1 D I1 q1
  | false => exact hb pins s1 σ H1 D I1 q1
/-- code that the proof never comes to -/
def tNever : TS := fun _ _ _ => False
theorem ps_never : PS X st tNever := fun _ _ _ _ _ _ h => h.elim
end
/-! ### targets -/
abbrev TG := V → St → Hp → (St → Hp → Prop) → Prop
abbrev TGs := List V → St → Hp → (St → Hp → Prop) → Prop
def PG (X : Cx) (target : Expr) (t : TG) : Prop :=
  ∀ (pins : List (Addr × Obj)) (s : Shared) (σ : St) (H : Hp) (v : V) (u : Value) (Q : St → Hp → Prop), Inv X pins σ H s → RelV v u → t v σ H Q →
    wpAny (model X.prog X.w) X.A (assign target X.env u) (fun _ s' => ∃ σ' H', Inv X pins σ' H' s' ∧ Q σ' H') X.xe s
/-- several targets, one after another -/
def PGs (X : Cx) (ts : List Expr) (t : TGs) : Prop :=
  ∀ (pins : List (Addr × Obj)) (s : Shared) (σ : St) (H : Hp) (vs : List V) (us : List Value) (Q : St → Hp → Prop), Inv X pins σ H s → Vals vs us → t vs σ H Q →
    wpAny (model X.prog X.w) X.A (assignInOrder ((assignEach ts X.env).map (·.2)) us) (fun _ s' => ∃ σ' H', Inv X pins σ' H' s' ∧ Q σ' H') X.xe s
/-- a op= b, by values -/
abbrev TIp := V → V → Hp → VK → Prop
def PIp (X : Cx) (op : Operator) (t : TIp) : Prop :=
  ∀ (pins : List (Addr × Obj)) (s : Shared) (σ : St) (H : Hp) (x y : V) (v u : Value) (Q : VK), Inv X pins σ H s → RelV x v → RelV y u → t x y H Q →
    wpAny (model X.prog X.w) X.A (inplaceOp op v u) (EP X pins σ Q) X.xe s
section
variable {X : Cx} {pos : Pos}
def gName (i : Nat) : TG := fun v σ H Q => Q (σ.set i (some v)) H
theorem pg_name {i : Nat} {x : Str} (hN : X.N.Nodup) (hi : X.N[i]? = some x) (hx : Loc X.env.scope x) (hf : X.fn x = true ∨ X.env.scope.names.lookup x = some .local := by first | exact .inl rfl | exact .inr rfl | assumption) : PG X (.Name x pos) (gName i) := by
  intro pins s σ H v u Q I r h
  exact wpAny_assign_Name (store_ok I hN hi hx r (fun s' I' => ⟨_, H, I', h⟩) hf)
def gNil : TGs := fun vs σ H Q => vs = [] ∧ Q σ H
def gCons (t : TG) (u : TGs) : TGs := fun vs σ H Q => ∃ v r, vs = v :: r ∧ t v σ H fun σ' H' => u r σ' H' Q
theorem pgs_nil : PGs X [] gNil := by
  intro pins s σ H vs us Q I r h
  obtain ⟨e, h⟩ := h
  subst e
  cases r
  exact assignInOrder_nil ⟨σ, H, I, h⟩
theorem pgs_cons {e : Expr} {es : List Expr} {t : TG} {u : TGs} (h1 : PG X e t) (h2 : PGs X es u)
    (hs : (assignEach (e :: es) X.env).map (·.2) = assign e X.env :: (assignEach es X.env).map (·.2) := by rfl) : PGs X (e :: es) (gCons t u) := by
  intro pins s σ H vs us Q I r h
  obtain ⟨v, vr, e1, h⟩ := h
  subst e1
  cases r with
  | cons r rr =>
    rw [hs]
    refine assignInOrder_cons (thn (h1 pins s σ H _ _ _ I r h) fun _ s1 ⟨σ1, H1, I1, q1⟩ => ?_)
    exact h2 pins s1 σ1 H1 _ _ Q I1 rr q1
/-- (a, b, ..) = a tuple of that length -/
def gTup (K : PySem.W.Frag) (n : Nat) (t : TGs) : TG := fun v σ H Q => ∃ a xs, v = .ref a ∧ SqT K H a xs ∧ xs.length = n ∧ t xs σ H Q
theorem pg_tup {es : List Expr} {k : Nat} {t : TGs} {n : Nat} (hc : X.calm = true) (h : PGs X es t)
    (hn : (assignEach es X.env).length = n := by rfl) (hst : (assignEach es X.env).findIdx? (·.1) = none := by rfl) : PG X (.Tuple es k pos) (gTup X.K n t) := by
  intro pins s σ H v u Q I r hw
  obtain ⟨a, xs, e1, hq, hl, hw⟩ := hw
  subst e1
  cases r
  obtain ⟨its, rv, ht, hz⟩ := I.tuple hq
  refine assign_Tuple_tuple (I.ok.hd hc) ht (by simp [hn, ← hl, rv.length]) hst fun h' hx => ?_
  have I1 : Inv X pins σ H { s with heap := h' } := I.kept (t' := s.toks) fun b o e => hx b o (Nat.ne_of_lt (Heap.lt_size e)) e
  exact h pins _ σ H xs _ Q I1 (by simpa using rv) hw
/-- target = value -/
def tAsg (te : TE) (g : TG) : TS := fun D σ H => te σ H fun x H1 => g x σ H1 D.nx
theorem ps_asg {tg e : Expr} {te : TE} {g : TG} (he : PE X e te) (hg : PG X tg g) (hs : swapsWithSole [tg] e pos.line X.env = pure false := by rfl) (hw : swappedStores [tg] e X.env = pure none := by rfl)
    (h1 : (assignEach [tg] X.env).map (·.2) = [assign tg X.env] := by rfl) : PS X (.Assign [tg] e pos) (tAsg te g) := by
  intro pins s σ H D I h
  refine wpAny_Assign_stores (thn (he pins s σ H _ I h) fun v s1 ⟨x, H1, I1, r1, q1⟩ => ?_) hs hw
  rw [h1]
  exact thn (hg pins s1 σ H1 x v _ I1 r1 q1) fun _ s2 q => q
/-- name = value -/
theorem ps_set {i : Nat} {x : Str} {e : Expr} {te : TE} {pos' : Pos} (hN : X.N.Nodup) (hi : X.N[i]? = some x) (hx : Loc X.env.scope x) (he : PE X e te) (hs : swapsWith e (some (.Name x pos')) pos.line X.env = pure false := by rfl) (hf : X.fn x = true ∨ X.env.scope.names.lookup x = some .local := by first | exact .inl rfl | exact .inr rfl | assumption) :
    PS X (.Assign [.Name x pos'] e pos) (tAsg te (gName i)) := by
  intro pins s σ H D I h
  refine wpAny_Assign_Name (thn (he pins s σ H _ I h) fun v s1 ⟨y, H1, I1, r1, q1⟩ => ?_) hs
  exact store_ok I1 hN hi hx r1 (fun s2 I2 => ⟨_, H1, I2, q1⟩) hf
/-- a, b = x, y with plain local names: stored from the right; the pair itself is not tracked (the opening rows as in PyProof/Rows/TupAssign.lean:23) -/
def tPar (i j : Nat) (ta : TA) : TS := fun D σ H => ta σ H fun vs H1 => ∃ v w, vs = [v, w] ∧ D.nx ((σ.set i (some v)).set j (some w)) H1
theorem ps_par {i j : Nat} {x y : Str} {a b : Expr} {ta : TA} {px py pt : Pos} {kt k2 pt2} (hc : X.calm = true) (hN : X.N.Nodup) (hi : X.N[i]? = some x) (hj : X.N[j]? = some y) (hij : i ≠ j)
    (hx : X.env.scope.names.lookup x = some .local) (hy : X.env.scope.names.lookup y = some .local) (ha : PA X [a, b] ta)
    (hw : swappedStores [.Tuple [.Name x px, .Name y py] kt pt] (.Tuple [a, b] k2 pt2) X.env = pure (some [x, y]))
    (hs : swapsWithSole [.Tuple [.Name x px, .Name y py] kt pt] (.Tuple [a, b] k2 pt2) pos.line X.env = pure false := by rfl) :
    PS X (.Assign [.Tuple [.Name x px, .Name y py] kt pt] (.Tuple [a, b] k2 pt2) pos) (tPar i j ta) := by
  intro pins s σ H D I h
  rw [exec_Assign_arm]
  refine wpAny_bind (wpAny_standAt ?_)
  rw [hs]
  refine wpAny_bind (wpAny_pure ?_)
  rw [if_neg (by decide)]
  refine wpAny_bind (Tuple_ (thn (ha _ pins s σ H _ I h) fun us s1 ⟨vs, H1, I1, r1, q1⟩ => ?_))
  obtain ⟨v, w, e1, q1⟩ := q1
  subst e1
  obtain ⟨u1, u2, rfl, rv, rw'⟩ : ∃ u1 u2, us = [u1, u2] ∧ RelV v u1 ∧ RelV w u2 := by
    cases r1 with
    | cons p q =>
      cases q with
      | cons p' q' =>
        cases q'
        exact ⟨_, _, rfl, p, p'⟩
  refine wpAny_newObj_type ?_ (by show 2 ≤ sizeLine; decide)
  have I2 : Inv X pins σ H1 { s1 with heap := s1.heap.push { cls := .type "tuple", data := .seq [u1, u2].toArray } } := I1.kept (t' := s1.toks) fun b o e => Heap.get?_push_of_some _ e
  rw [hw]
  refine wpAny_bind (wpAny_pure ?_)
  show wpAny (model X.prog X.w) X.A (do rule "assign.swapped-stores"; let items ← unpackItems (.ref s1.heap.objs.size) 2 none; assignInOrder [fun v => bindName X.env y v, fun v => bindName X.env x v] items.reverse; pure Flow.next) _ _ _
  refine wpAny_bind (wpAny_rule (wpAny_bind (unpackItems_tuple (items := #[u1, u2]) (I.ok.hd hc) (IsTup.new s1.heap _) fun h' hx' => ?_)))
  have I3 := I2.kept (h' := h') (t' := s1.toks) fun b o e => hx' b o (Nat.ne_of_lt (Heap.lt_size e)) e
  show wpAny _ _ (assignInOrder [fun v => bindName X.env y v, fun v => bindName X.env x v] [u2, u1] >>= fun _ => pure Flow.next) _ _ _
  refine wpAny_bind (assignInOrder_cons (wpAny_bindName (store_ok I3 hN hj (.inl hy) rw' (fun s2 I4 => ?_) (.inr hy))))
  refine assignInOrder_cons (wpAny_bindName (store_ok I4 hN hi (.inl hx) rv (fun s3 I5 => assignInOrder_nil (wpAny_pure ?_)) (.inr hx)))
  rw [List.set_comm _ _ (Ne.symm hij)] at I5
  exact ⟨_, H1, I5, q1⟩
/-- name op= e -/
def tAug (i : Nat) (te : TE) (ti : TIp) : TS := fun D σ H => ∃ x, σ[i]? = some (some x) ∧ te σ H fun y H1 => ti x y H1 fun z H2 => D.nx (σ.set i (some z)) H2
theorem ps_aug {i : Nat} {x : Str} {e : Expr} {te : TE} {op : Operator} {ti : TIp} {pos' : Pos} (hN : X.N.Nodup) (hi : X.N[i]? = some x) (hx : Loc X.env.scope x) (he : PE X e te) (ho : PIp X op ti) (hf : X.fn x = true ∨ X.env.scope.names.lookup x = some .local := by first | exact .inl rfl | exact .inr rfl | assumption) :
    PS X (.AugAssign (.Name x pos') op e pos) (tAug i te ti) := by
  intro pins s σ H D I h
  obtain ⟨v, e1, h⟩ := h
  obtain ⟨m, hn, hl⟩ := I.loc
  have vis : Vis X.env.scope x := by rcases hx with k | k; exact .inl k; exact .inr (.inl k)
  obtain ⟨u, r, l⟩ := hl i x v hi e1 vis
  refine wpAny_AugAssign_Name ?_
  have go : wpAny (model X.prog X.w) X.A (eval e X.env) (fun w s₂ => wpAny (model X.prog X.w) X.A (inplaceOp op u w) (fun r s₃ => wpAny (model X.prog X.w) X.A (storeName X.env x r) (fun _ => SP X pins D .next) X.xe s₃) X.xe s₂) X.xe s := by
    refine thn (he pins s σ H _ I h) fun w s1 ⟨y, H1, I1, r1, q1⟩ => ?_
    refine thn (ho pins s1 σ H1 v y u w _ I1 r r1 q1) fun z s2 ⟨zv, H2, I2, r2, q2⟩ => ?_
    exact store_ok I2 hN hi hx r2 (fun s3 I3 => ⟨_, H2, I3, q2⟩) hf
  rcases l with ⟨hk, hm⟩ | ⟨hk, c, hc, hcell⟩
  · exact wpAny_loadName_local I.ok.kind hk hn hm go
  · rcases hk with hk | hk
    · exact wpAny_loadName_cell I.ok.kind hk hc hcell go
    · rcases hx with k | k
      · have : X.env.scope.names.lookup x = some .free := hk
        rw [k] at this; cases this
      · have : X.env.scope.names.lookup x = some .free := hk
        rw [k] at this; cases this
/-- ints -/
def ipI (f : Int → Int → Int) : TIp := fun x y H Q => ∃ i j, x = .int i ∧ y = .int j ∧ Q (.int (f i j)) H
theorem ip_add : PIp X .Add (ipI fun i j => i + j) := by
  intro pins s σ H x y v u Q I r1 r2 h
  obtain ⟨i, j, e1, e2, q⟩ := h
  subst e1; subst e2
  obtain ⟨t, rfl⟩ := r1
  obtain ⟨t', rfl⟩ := r2
  exact iadd_int ⟨.int _, H, I.tok _, ⟨_, rfl⟩, q⟩
end
/-! ### while -/
section
variable {X : Cx} {pos : Pos}
/-- the invariant W with its measure -/
def tWhile (c : TT) (tb : TS) : TS := fun D σ H => ∃ W : Nat → St → Hp → Prop, (∃ m, W m σ H) ∧ ∀ m σ H, W m σ H →
  c σ H fun b H1 => if b = true then ∃ N : St → Hp → Prop, (∀ σ' H', N σ' H' → ∃ m', m' < m ∧ W m' σ' H') ∧ tb { D with nx := N, ct := N, bk := D.nx } σ H1 else D.nx σ H1
theorem ps_while {c : Expr} {body : List Stmt} {tc : TT} {tb : TS} (hp : PassesOwn (model X.prog X.w) X.A X.env X.xe) (hc : PT X c tc) (hb : PSs X body tb) : PS X (.While c body [] pos) (tWhile tc tb) := by
  intro pins s σ H D I h
  obtain ⟨W, ⟨m0, w0⟩, turn⟩ := h
  refine wpAny_While (codeAny_whileLoop (fun n s' => ∃ σ' H', Inv X pins σ' H' s' ∧ W n σ' H') ?_ m0 ⟨σ, H, I, w0⟩)
  rintro n s1 ⟨σ1, H1, I1, w1⟩
  refine wpAny_passesOwn hp (thn (hc pins s1 σ1 H1 _ I1 (turn n σ1 H1 w1)) fun b s2 ⟨H2, I2, q2⟩ => ?_)
  cases b with
  | true =>
    obtain ⟨N, hN, q2⟩ := q2
    rw [if_pos rfl]
    refine wpAny_passesOwn hp (thn (hb pins s2 σ1 H2 _ I2 q2) fun f s3 q3 => ?_)
    cases f with
    | next =>
      obtain ⟨σ3, H3, I3, n3⟩ := q3
      obtain ⟨m', hm, w3⟩ := hN σ3 H3 n3
      exact ⟨m', hm, σ3, H3, I3, w3⟩
    | cont =>
      obtain ⟨σ3, H3, I3, n3⟩ := q3
      obtain ⟨m', hm, w3⟩ := hN σ3 H3 n3
      exact ⟨m', hm, σ3, H3, I3, w3⟩
    | brk => exact q3
    | ret v => exact q3
  | false =>
    rw [if_neg Bool.false_ne_true]
    exact wpAny_execs_nil ⟨σ1, H2, I2, q2⟩
end
/-! ### what a loop or a comprehension walks -/
/-- at turn i: it yields x (the heap may grow), or it stops -/
structure It where
  go : Nat → Hp → Prop
  yld : Nat → Hp → V → Hp → Prop
  stop : Nat → Hp → Prop
/-- the iterator's own objects may turn: they are not the frame's, not pinned, younger than the entry (or a comprehension's own) -/
def FpOk (X : Cx) (pins : List (Addr × Obj)) (H : Hp) (b : Addr) : Prop :=
  H b = none ∧ b ≠ X.env.locals ∧ b ∉ X.fs ∧ (b ∈ X.ex ∨ X.s₀.heap.objs.size ≤ b) ∧ (∀ x c, X.env.cells.lookup x = some c → c ≠ b) ∧ ∀ p ∈ X.pn ++ pins, p.1 ≠ b
theorem Inv.fpOk {X : Cx} {pins : List (Addr × Obj)} {σ : St} {H H' : Hp} {s : Shared} {b : Addr} (I : Inv X pins σ H s) (hb : s.heap.objs.size ≤ b) (hn : H' b = none) : FpOk X pins H' b := by
  refine ⟨hn, Nat.ne_of_gt (Nat.lt_of_lt_of_le I.lt hb), I.nofs hb, .inr (Nat.le_trans I.sz hb), fun x c e z => ?_, fun p hp z => ?_⟩
  · obtain ⟨v, q⟩ := I.cell x c e
    exact absurd (Nat.lt_of_lt_of_le q.lt (by rw [z]; exact hb)) (Nat.lt_irrefl _)
  · exact absurd (Nat.lt_of_lt_of_le (Heap.lt_size (I.pin p hp).1) (by rw [z]; exact hb)) (Nat.lt_irrefl _)
structure Turn (P : Program) (w : World) (K : PySem.W.Frag) (tg : Expr) (J : It) (fp : List Addr) (it : Addr) (tn : Nat → Heap → Prop) : Prop where
  mem : it ∈ fp
  obj : ∀ i h, tn i h → ∀ b ∈ fp, ∃ o, h.get? b = some o ∧ ∀ v, o.data ≠ .cell v
  keep : ∀ i h h', tn i h → (∀ b ∈ fp, ∀ o, h.get? b = some o → h'.get? b = some o) → tn i h'
  item : ∀ (X : Cx), X.prog = P → X.w = w → X.K = K → X.calm = true → ∀ (i : Nat) (pins : List (Addr × Obj)) (s : Shared) (σ : St) (H : Hp) (E : Value → Shared → Prop), Inv X pins σ H s → (∀ b ∈ fp, FpOk X pins H b) → tn i s.heap → J.go i H →
    wpAny (model P w) X.A (pyNext (.ref it)) (fun r s1 => ∃ u, r = some u ∧
      wpAny (model P w) X.A (letOwnedTupleGo tg (.ref it) u) (fun _ s2 => ∃ x H', Inv X pins σ H' s2 ∧ RelV x u ∧ J.yld i H x H' ∧ tn (i + 1) s2.heap ∧ ∀ b ∈ fp, H' b = none) E s1) E s
  done : ∀ (X : Cx), X.prog = P → X.w = w → X.K = K → X.calm = true → ∀ (i : Nat) (pins : List (Addr × Obj)) (s : Shared) (σ : St) (H : Hp) (E : Value → Shared → Prop), Inv X pins σ H s → (∀ b ∈ fp, FpOk X pins H b) → tn i s.heap → J.stop i H →
    wpAny (model P w) X.A (pyNext (.ref it)) (fun r s1 => r = none ∧ Inv X pins σ H s1) E s
  self : ∀ (A : Around) (i : Nat) (s : Shared) (Q : Value → Shared → Prop) (E : Value → Shared → Prop), tn i s.heap → Q (.ref it) s → wpAny (model P w) A (pyIter (.ref it)) Q E s
abbrev TI := St → Hp → (It → Hp → Prop) → Prop
/-- an iterator has come -/
def PIE (X : Cx) (pins : List (Addr × Obj)) (σ : St) (tg : Expr) (R : It → Hp → Prop) (itv : Value) (s2 : Shared) : Prop :=
  ∃ (it : Addr) (fp : List Addr) (tn : Nat → Heap → Prop) (J : It) (H' : Hp), itv = .ref it ∧ Inv X pins σ H' s2 ∧ Turn X.prog X.w X.K tg J fp it tn ∧ tn 0 s2.heap ∧ (∀ b ∈ fp, FpOk X pins H' b) ∧ R J H'
def PI (X : Cx) (tg iter : Expr) (wi : TI) : Prop :=
  ∀ (pins : List (Addr × Obj)) (s : Shared) (σ : St) (H : Hp) (R : It → Hp → Prop), Inv X pins σ H s → wi σ H R →
    wpAny (model X.prog X.w) X.A (eval iter X.env) (fun v s1 => wpAny (model X.prog X.w) X.A (pyIter v) (PIE X pins σ tg R) X.xe s1) X.xe s
/-- the step ahead of the store is nothing for an iterator that keeps no tuple -/
theorem go_of {M : Model} {A : Around} {E : Value → Shared → Prop} {s : Shared} {tg : Expr} {it : Addr} {u : Value} {o : Obj} {n : String} {vs : Array Value} {Q : Unit → Shared → Prop} (ho : s.heap.get? it = some o) (hc : o.cls = .type n) (hd : o.data = .fields vs)
    (hn : ["enumerate", "zip", "dict_itemiterator", "dict_reverseitemiterator", "odict_iterator", "itertools.zip_longest", "itertools.pairwise"].contains n = false) (hQ : Q () s) : wpAny M A (letOwnedTupleGo tg (.ref it) u) Q E s := by
  unfold letOwnedTupleGo
  cases tg <;> first
    | exact wpAny_pure hQ
    | (cases u <;> first
        | exact wpAny_pure hQ
        | (refine wpAny_bind (wpAny_load ho ?_)
           rw [hc, hd]
           show wpAny M A (if (["enumerate", "zip", "dict_itemiterator", "dict_reverseitemiterator", "odict_iterator", "itertools.zip_longest", "itertools.pairwise"].contains n && vs[0]? == some (rawInt _)) = true then _ else _) Q E s
           rw [if_neg (by intro h; rw [hn, Bool.false_and] at h; cases h)]
           exact wpAny_pure hQ))
/-- the list at a, as it stands at each turn (a loop may append to it) -/
def Itl (K : PySem.W.Frag) (a : Addr) : It :=
  ⟨fun i H => ∃ xs x, SqL K H a xs ∧ xs[i]? = some x, fun i H x H' => H' = H ∧ ∀ xs, SqL K H a xs → xs[i]? = some x, fun i H => ∃ xs, SqL K H a xs ∧ xs.length ≤ i⟩
def Itt (K : PySem.W.Frag) (a : Addr) : It :=
  ⟨fun i H => ∃ xs x, SqT K H a xs ∧ xs[i]? = some x, fun i H x H' => H' = H ∧ ∀ xs, SqT K H a xs → xs[i]? = some x, fun i H => ∃ xs, SqT K H a xs ∧ xs.length ≤ i⟩
/-- lo, lo + 1, .. (n of them) -/
def Itr (lo : Int) (n : Nat) : It := ⟨fun i _ => i < n, fun i H x H' => H' = H ∧ x = .int (lo + i), fun i _ => n ≤ i⟩
theorem turn_list {P : Program} {w : World} {K : PySem.W.Frag} {tg : Expr} (a it : Addr) : Turn P w K tg (Itl K a) [it] it (fun i h => h.IsListIter it a i) where
  mem := by simp
  obj := fun i h st b hb => by
    have e : b = it := by simpa using hb
    subst e
    obtain ⟨o, e, c, d⟩ := st
    exact ⟨o, e, fun v z => by rw [d] at z; cases z⟩
  keep := fun i h h' st k => st.at fun o e => k it (by simp) o e
  item := by
    intro X hP hw hK hc i pins s σ H E I hf st hg
    subst hP hw hK
    obtain ⟨xs, x, hq, hx⟩ := hg
    obtain ⟨its, rv, p, hz⟩ := I.list hq
    obtain ⟨u, hu, ru⟩ := rv.get hx
    obtain ⟨f0, f1, f2, f3, f4, f5⟩ := hf it (by simp)
    refine wpAny_pyNext_list_item st p.isList (x := u) (by simpa using hu) fun h' st' sb => ?_
    have I1 : Inv X pins σ H { s with heap := h' } := I.turned (t' := s.toks) (fun b o hb e => (sb.2 b hb).trans e) f0 f1 f3 f4 f5
    obtain ⟨o, e, c, d⟩ := id st'
    exact ⟨u, rfl, go_of (s := { s with heap := h' }) e c d (by decide) ⟨x, H, I1, ru, ⟨rfl, fun ys hy => by rw [I.list_inj hy hq]; exact hx⟩, st', fun b hb => (hf b hb).1⟩⟩
  done := by
    intro X hP hw hK hc i pins s σ H E I hf st hg
    subst hP hw hK
    obtain ⟨xs, hq, hx⟩ := hg
    obtain ⟨its, rv, p, hz⟩ := I.list hq
    obtain ⟨f0, f1, f2, f3, f4, f5⟩ := hf it (by simp)
    have hl := rv.length
    exact wpAny_pyNext_list_end (I.ok.hd hc) st p.isList (by simp; omega) fun h' eb => ⟨rfl, I.turned (t' := s.toks) (fun b o hb e => eb b o hb e) f0 f1 f3 f4 f5⟩
  self := fun _ _ _ _ _ st h => wpAny_pyIter_listiter st h
theorem turn_tuple {P : Program} {w : World} {K : PySem.W.Frag} {tg : Expr} (a it : Addr) : Turn P w K tg (Itt K a) [it] it (fun i h => h.IsTupleIter it a i) where
  mem := by simp
  obj := fun i h st b hb => by
    have e : b = it := by simpa using hb
    subst e
    obtain ⟨o, e, c, d⟩ := st
    exact ⟨o, e, fun v z => by rw [d] at z; cases z⟩
  keep := fun i h h' st k => st.at fun o e => k it (by simp) o e
  item := by
    intro X hP hw hK hc i pins s σ H E I hf st hg
    subst hP hw hK
    obtain ⟨xs, x, hq, hx⟩ := hg
    obtain ⟨its, rv, p, hz⟩ := I.tuple hq
    obtain ⟨u, hu, ru⟩ := rv.get hx
    obtain ⟨f0, f1, f2, f3, f4, f5⟩ := hf it (by simp)
    refine wpAny_pyNext_tuple_item st (show s.heap.IsTuple a its.toArray from p) (x := u) (by simpa using hu) fun h' st' sb => ?_
    have I1 : Inv X pins σ H { s with heap := h' } := I.turned (t' := s.toks) (fun b o hb e => (sb.2 b hb).trans e) f0 f1 f3 f4 f5
    obtain ⟨o, e, c, d⟩ := id st'
    exact ⟨u, rfl, go_of (s := { s with heap := h' }) e c d (by decide) ⟨x, H, I1, ru, ⟨rfl, fun ys hy => by rw [I.tuple_inj hy hq]; exact hx⟩, st', fun b hb => (hf b hb).1⟩⟩
  done := by
    intro X hP hw hK hc i pins s σ H E I hf st hg
    subst hP hw hK
    obtain ⟨xs, hq, hx⟩ := hg
    obtain ⟨its, rv, p, hz⟩ := I.tuple hq
    obtain ⟨f0, f1, f2, f3, f4, f5⟩ := hf it (by simp)
    have hl := rv.length
    exact wpAny_pyNext_tuple_end (I.ok.hd hc) st (show s.heap.IsTuple a its.toArray from p) (by simp; omega) fun h' eb => ⟨rfl, I.turned (t' := s.toks) (fun b o hb e => eb b o hb e) f0 f1 f3 f4 f5⟩
  self := fun _ _ _ _ _ st h => wpAny_pyIter_tupleiter st h
theorem turn_range {P : Program} {w : World} {K : PySem.W.Frag} {tg : Expr} (it : Addr) (lo : Int) (n : Nat) : Turn P w K tg (Itr lo n) [it] it (fun i h => IsRangeIter h it (lo + (i : Nat) * 1) ((n : Int) - (i : Nat)) 1) where
  mem := by simp
  obj := fun i h st b hb => by
    have e : b = it := by simpa using hb
    subst e
    exact ⟨_, st, fun v z => by
      have z' : Data.fields _ = Data.cell v := z
      cases z'⟩
  keep := fun i h h' st k => k it (by simp) _ st
  item := by
    intro X hP hw hK hc i pins s σ H E I hf st hg
    subst hP hw hK
    obtain ⟨f0, f1, f2, f3, f4, f5⟩ := hf it (by simp)
    have W := Walks.range (prog := X.prog) (w := X.w) (I.ok.hd hc) it lo 1 n
    refine W.item i s _ _ hg st fun v h' tk hv st' kk => ?_
    obtain ⟨t, rfl⟩ := hv
    have I1 : Inv X pins σ H { s with heap := h', toks := tk } := I.turned (fun b o hb e => kk b o (by simpa using hb) e) f0 f1 f3 f4 f5
    refine ⟨_, rfl, go_of (s := { s with heap := h', toks := tk }) (n := "range_iterator") st' rfl rfl (by decide) ⟨.int (lo + i), H, I1, ⟨t, ?_⟩, ⟨rfl, rfl⟩, st', fun b hb => (hf b hb).1⟩⟩
    rw [Int.mul_one]
  done := by
    intro X hP hw hK hc i pins s σ H E I hf st hg
    subst hP hw hK
    obtain ⟨f0, f1, f2, f3, f4, f5⟩ := hf it (by simp)
    exact wpAny_pyNext_range_end (I.ok.hd hc) st (by have : n ≤ i := hg; omega) fun h' eb => ⟨rfl, I.turned (t' := s.toks) (fun b o hb e => eb b o hb e) f0 f1 f3 f4 f5⟩
  self := fun _ _ _ _ _ st h => wpAny_pyIter_rangeiter st h
end L2
namespace L2
open PySem PySem.Spec PyProof.Rows
section
variable {X : Cx} {tg : Expr}
def iList (K : PySem.W.Frag) (tl : TE) : TI := fun σ H R => tl σ H fun x H1 => ∃ a, x = .ref a ∧ (∃ xs, SqL K H1 a xs) ∧ R (Itl K a) H1
def iTup (K : PySem.W.Frag) (tl : TE) : TI := fun σ H R => tl σ H fun x H1 => ∃ a, x = .ref a ∧ (∃ xs, SqT K H1 a xs) ∧ R (Itt K a) H1
theorem pi_list {l : Expr} {tl : TE} (hl : PE X l tl) : PI X tg l (iList X.K tl) := by
  intro pins s σ H R I h
  refine thn (hl pins s σ H _ I h) fun v s1 ⟨x, H1, I1, r1, q1⟩ => ?_
  obtain ⟨a, e, ⟨xs, hq⟩, q⟩ := q1
  subst e
  cases r1
  obtain ⟨its, rv, p, hz⟩ := I1.list hq
  refine wpAny_pyIter_list p.isList ?_
  refine ⟨s1.heap.objs.size, [s1.heap.objs.size], _, _, H1, rfl, I1.kept (t' := s1.toks) fun b o e => Heap.get?_push_of_some _ e, turn_list a _, ⟨_, Heap.get?_push_size _ rfl, rfl, rfl⟩, fun b hb => ?_, q⟩
  have e : b = s1.heap.objs.size := by simpa using hb
  subst e
  exact I1.fpOk (Nat.le_refl _) (I1.hok.fresh (Nat.le_refl _))
theorem pi_tup {l : Expr} {tl : TE} (hl : PE X l tl) : PI X tg l (iTup X.K tl) := by
  intro pins s σ H R I h
  refine thn (hl pins s σ H _ I h) fun v s1 ⟨x, H1, I1, r1, q1⟩ => ?_
  obtain ⟨a, e, ⟨xs, hq⟩, q⟩ := q1
  subst e
  cases r1
  obtain ⟨its, rv, p, hz⟩ := I1.tuple hq
  refine wpAny_pyIter_tuple (show s1.heap.IsTuple a its.toArray from p) ?_
  refine ⟨s1.heap.objs.size, [s1.heap.objs.size], _, _, H1, rfl, I1.kept (t' := s1.toks) fun b o e => Heap.get?_push_of_some _ e, turn_tuple a _, ⟨_, Heap.get?_push_size _ rfl, rfl, rfl⟩, fun b hb => ?_, q⟩
  have e : b = s1.heap.objs.size := by simpa using hb
  subst e
  exact I1.fpOk (Nat.le_refl _) (I1.hok.fresh (Nat.le_refl _))
/-- a range object just made, walked -/
theorem range_it {pins : List (Addr × Obj)} {σ : St} {H : Hp} {s : Shared} {R : It → Hp → Prop} {E : Value → Shared → Prop} {lo hi : Int} {t u v : Tok} {tk : Nat} (I : Inv X pins σ H s) (h1 : -(2 ^ 62) ≤ lo) (h2 : lo < 2 ^ 62) (h3 : -(2 ^ 62) ≤ hi) (h4 : hi < 2 ^ 62)
    (q : R (Itr lo (hi - lo).toNat) H) : wpAny (model X.prog X.w) X.A (pyIter (.ref s.heap.objs.size)) (PIE X pins σ tg R) E { s with heap := s.heap.push { cls := .type "range", data := .fields #[.int lo t, .int hi u, .int 1 v] }, toks := tk } := by
  refine wpAny_pyIter_range (IsRange.new ..) (small_one h1 h2 h3 h4) ?_
  have I1 : Inv X pins σ H { s with heap := s.heap.push { cls := .type "range", data := .fields #[.int lo t, .int hi u, .int 1 v] }, toks := tk } := I.kept fun b o e => Heap.get?_push_of_some _ e
  refine ⟨(s.heap.push { cls := .type "range", data := .fields #[.int lo t, .int hi u, .int 1 v] }).objs.size, [(s.heap.push { cls := .type "range", data := .fields #[.int lo t, .int hi u, .int 1 v] }).objs.size], _, _, H, rfl,
    I1.kept (t' := tk) fun b o e => Heap.get?_push_of_some _ e, turn_range _ lo (hi - lo).toNat, ?_, fun b hb => ?_, q⟩
  · have e1 : lo + ((0 : Nat) : Int) * 1 = lo := by simp
    have e2 : (((hi - lo).toNat : Nat) : Int) - ((0 : Nat) : Int) = Builtin.Range.rangeSize lo hi 1 := by rw [rangeSize_one]; split <;> omega
    show IsRangeIter _ _ (lo + ((0 : Nat) : Int) * 1) ((((hi - lo).toNat : Nat) : Int) - ((0 : Nat) : Int)) 1
    rw [e1, e2]
    exact Heap.get?_push_size _ rfl
  · have e : b = (s.heap.push { cls := .type "range", data := .fields #[.int lo t, .int hi u, .int 1 v] }).objs.size := by simpa using hb
    subst e
    exact I1.fpOk (Nat.le_refl _) (I1.hok.fresh (Nat.le_refl _))
def iRng1 (ta : TA) : TI := fun σ H R => ta σ H fun vs H1 => ∃ j : Int, vs = [.int j] ∧ -(2 ^ 62) ≤ j ∧ j < 2 ^ 62 ∧ R (Itr 0 j.toNat) H1
theorem pi_range1 {a : Expr} {ta : TA} {p pos : Pos} (hg : Gl X "range") (hm : X.mg "range" = none) (ha : PA X [a] ta) (hs : starEach [a] X.env = [(false, eval a X.env)] := by rfl) : PI X tg (.Call (.Name "range" p) [a] [] pos) (iRng1 ta) := by
  intro pins s σ H R I h
  refine Call_ (ld_blt I hg hm boot_range (PyProof.Rows.callWith_type1 (thn (ha pos pins s σ H _ I h) fun us s1 ⟨vs, H1, I1, r1, q1⟩ => ?_) hs rfl))
  obtain ⟨j, e, q1, q2, q⟩ := q1
  subst e
  cases r1 with
  | cons r rr =>
    cases rr
    obtain ⟨t, rfl⟩ := r
    exact call_range_1 (range_it I1 (by omega) (by omega) q1 q2 (by simpa using q))
/-! ### for -/
/-- W: the invariant by the turn and a measure; N: what the body is to reach -/
def tFor (wi : TI) (g : TG) (tb : TS) : TS := fun D σ H => wi σ H fun J H1 => ∃ W : Nat → Nat → St → Hp → Prop, (∃ m, W 0 m σ H1) ∧ ∀ i m σ H, W i m σ H →
  (J.stop i H ∧ D.nx σ H) ∨ (J.go i H ∧ ∃ N : St → Hp → Prop, (∀ σ' H', N σ' H' → ∃ m', m' < m ∧ W (i + 1) m' σ' H') ∧ ∀ x H', J.yld i H x H' → g x σ H' fun σ2 H2 => tb { D with nx := N, ct := N, bk := D.nx } σ2 H2)
/-- the records at fp as they stand -/
def pinsAt (fp : List Addr) (h : Heap) : List (Addr × Obj) := fp.filterMap fun b => (h.get? b).map fun o => (b, o)
theorem mem_pinsAt {fp : List Addr} {h : Heap} {b : Addr} {o : Obj} (hb : b ∈ fp) (e : h.get? b = some o) : (b, o) ∈ pinsAt fp h := List.mem_filterMap.mpr ⟨b, hb, by rw [e]; rfl⟩
theorem of_pinsAt {fp : List Addr} {h : Heap} {p : Addr × Obj} (hp : p ∈ pinsAt fp h) : p.1 ∈ fp ∧ h.get? p.1 = some p.2 := by
  obtain ⟨b, hb, e⟩ := List.mem_filterMap.mp hp
  cases q : h.get? b with
  | none => rw [q] at e; cases e
  | some o =>
    rw [q] at e
    have e' : (b, o) = p := Option.some.inj e
    subst e'
    exact ⟨hb, q⟩
theorem Inv.pinned {pins : List (Addr × Obj)} {σ : St} {H : Hp} {s : Shared} {fp : List Addr} (I : Inv X pins σ H s) (hf : ∀ b ∈ fp, FpOk X pins H b) (ho : ∀ b ∈ fp, ∃ o, s.heap.get? b = some o ∧ ∀ v, o.data ≠ .cell v) : Inv X (pins ++ pinsAt fp s.heap) σ H s :=
  I.pins_of fun p hp => (List.mem_append.mp hp).elim (fun z => I.pin p (List.mem_append_right _ z)) fun z => by
    obtain ⟨hb, e⟩ := of_pinsAt z
    obtain ⟨f0, f1, f2, _⟩ := hf p.1 hb
    obtain ⟨o, e', d⟩ := ho p.1 hb
    rw [e] at e'; cases e'
    exact ⟨e, f0, f1, f2, d⟩
theorem Inv.unpinned {pins pl : List (Addr × Obj)} {σ : St} {H : Hp} {s : Shared} (I : Inv X (pins ++ pl) σ H s) : Inv X pins σ H s := I.pins_of fun p hp => I.pin p (List.mem_append_right _ (List.mem_append_left _ hp))
theorem ps_for {iter : Expr} {body : List Stmt} {wi : TI} {g : TG} {tb : TS} {pos : Pos} (hp : PassesOwn (model X.prog X.w) X.A X.env X.xe) (hc : X.calm = true) (hi : PI X tg iter wi) (hg : PG X tg g) (hb : PSs X body tb)
    (hs : ∀ x, foldedSetIterable iter X.env x = pure x := by intro _; rfl) : PS X (.For tg iter body [] pos) (tFor wi g tb) := by
  intro pins s σ H D I h
  refine wpAny_For (thn (hi pins s σ H _ I h) fun v s1 h1 => thn h1 fun itv s2 h2 => ?_) hs
  obtain ⟨it, fp, tn, J, H2, e, I2, T, st2, f2, W, ⟨m0, w0⟩, turn⟩ := h2
  subst e
  -- what stays true of the iterator's objects through the loop
  have stat : ∀ {H' : Hp}, (∀ b ∈ fp, H' b = none) → ∀ b ∈ fp, FpOk X pins H' b := fun hn b hb => ⟨hn b hb, (f2 b hb).2⟩
  refine codeAny_forLoop_any (fun n s' => ∃ i σ' H', Inv X pins σ' H' s' ∧ tn i s'.heap ∧ (∀ b ∈ fp, H' b = none) ∧ W i n σ' H') ?_ m0 ⟨0, σ, H2, I2, st2, fun b hb => (f2 b hb).1, w0⟩
  rintro n s3 ⟨i, σ3, H3, I3, st3, fr3, w3⟩
  rcases turn i n σ3 H3 w3 with ⟨stop, qn⟩ | ⟨go, N, hN, step⟩
  · refine wpAny_passesOwn hp (thn (T.done X rfl rfl rfl hc i pins s3 σ3 H3 X.xe I3 (stat fr3) st3 stop) fun r s4 ⟨hr, I4⟩ => ?_)
    subst hr
    exact wpAny_execs_nil ⟨σ3, H3, I4, qn⟩
  · refine wpAny_passesOwn hp (thn (T.item X rfl rfl rfl hc i pins s3 σ3 H3 X.xe I3 (stat fr3) st3 go) fun r s4 ⟨u, hr, h4⟩ => ?_)
    subst hr
    refine wpAny_passesOwn hp (thn h4 fun _ s5 ⟨x, H5, I5, r5, y5, st5, fr5⟩ => ?_)
    have I5' := I5.pinned (stat fr5) (T.obj _ _ st5)
    refine wpAny_passesOwn hp (thn (hg _ s5 σ3 H5 x u _ I5' r5 (step x H5 y5)) fun _ s6 ⟨σ6, H6, I6, q6⟩ => ?_)
    refine wpAny_passesOwn hp (thn (hb _ s6 σ6 H6 _ I6 q6) fun f s7 q7 => ?_)
    have again : ∀ {σ7 : St} {H7 : Hp}, Inv X (pins ++ pinsAt fp s5.heap) σ7 H7 s7 → N σ7 H7 → ∃ m, m < n ∧ ∃ i σ' H', Inv X pins σ' H' s7 ∧ tn i s7.heap ∧ (∀ b ∈ fp, H' b = none) ∧ W i m σ' H' := fun {σ7 H7} I7 n7 => by
      obtain ⟨m', hm, w7⟩ := hN σ7 H7 n7
      refine ⟨m', hm, i + 1, σ7, H7, I7.unpinned, T.keep _ _ _ st5 fun b hb o e => (I7.pin (b, o) (List.mem_append_right _ (List.mem_append_right _ (mem_pinsAt hb e)))).1, fun b hb => ?_, w7⟩
      obtain ⟨o, e, d⟩ := T.obj _ _ st5 b hb
      exact (I7.pin (b, o) (List.mem_append_right _ (List.mem_append_right _ (mem_pinsAt hb e)))).2.1
    cases f with
    | next => obtain ⟨σ7, H7, I7, n7⟩ := q7; exact again I7 n7
    | cont => obtain ⟨σ7, H7, I7, n7⟩ := q7; exact again I7 n7
    | brk => obtain ⟨σ7, H7, I7, q7⟩ := q7; exact ⟨σ7, H7, I7.unpinned, q7⟩
    | ret v => obtain ⟨x7, σ7, H7, I7, r7, q7⟩ := q7; exact ⟨x7, σ7, H7, I7.unpinned, r7, q7⟩
end
/-! ### the forms one uses -/
/-- while, by a word and a measure of the state -/
theorem while_by {c : TT} {tb : TS} {D : Ends} {σ : St} {H : Hp} (Pv : St → Hp → Prop) (μ : St → Hp → Nat) (h0 : Pv σ H)
    (hs : ∀ σ H, Pv σ H → c σ H fun b H1 => if b = true then tb { D with nx := fun σ' H' => Pv σ' H' ∧ μ σ' H' < μ σ H, ct := fun σ' H' => Pv σ' H' ∧ μ σ' H' < μ σ H, bk := D.nx } σ H1 else D.nx σ H1)
    (mono : ∀ σ H Q Q', (∀ b H1, Q b H1 → Q' b H1) → c σ H Q → c σ H Q') : tWhile c tb D σ H := by
  refine ⟨fun m σ H => m = μ σ H ∧ Pv σ H, ⟨_, rfl, h0⟩, ?_⟩
  rintro m σ H ⟨rfl, p⟩
  refine mono σ H _ _ (fun b H1 q => ?_) (hs σ H p)
  cases b with
  | true => exact ⟨_, fun σ' H' ⟨p', l⟩ => ⟨_, l, rfl, p'⟩, q⟩
  | false => exact q
end L2
namespace L2
open PySem PySem.Spec PyProof.Rows
abbrev R2 := V → V → Hp → VK → Prop
/-- a two-place operation on values: f is binaryOp op, inplaceOp op or compareOp op -/
def OpR (X : Cx) (f : Value → Value → Sem Value) (r : R2) : Prop :=
  ∀ (pins : List (Addr × Obj)) (s : Shared) (σ : St) (H : Hp) (x y : V) (v u : Value) (Q : VK), Inv X pins σ H s → RelV x v → RelV y u → r x y H Q →
    wpAny (model X.prog X.w) X.A (f v u) (EP X pins σ Q) X.xe s
/-- a one-place operation -/
def UnR (X : Cx) (f : Value → Sem Value) (r : V → Hp → VK → Prop) : Prop :=
  ∀ (pins : List (Addr × Obj)) (s : Shared) (σ : St) (H : Hp) (x : V) (v : Value) (Q : VK), Inv X pins σ H s → RelV x v → r x H Q →
    wpAny (model X.prog X.w) X.A (f v) (EP X pins σ Q) X.xe s
/-- a call of a value that is known (a builtin, a type) with values -/
def CallR (X : Cx) (f : Value) (r : List V → Hp → VK → Prop) : Prop :=
  ∀ (pins : List (Addr × Obj)) (s : Shared) (σ : St) (H : Hp) (xs : List V) (us : List Value) (Q : VK), Inv X pins σ H s → Vals xs us → r xs H Q →
    wpAny (model X.prog X.w) X.A (call f us) (EP X pins σ Q) X.xe s
/-- a value's truth -/
def TruR (X : Cx) (r : V → Hp → (Bool → Hp → Prop) → Prop) : Prop :=
  ∀ (pins : List (Addr × Obj)) (s : Shared) (σ : St) (H : Hp) (x : V) (v : Value) (Q : Bool → Hp → Prop), Inv X pins σ H s → RelV x v → r x H Q →
    wpAny (model X.prog X.w) X.A (truthy v) (TP X pins σ Q) X.xe s
def tOp (r : R2) (ta tb : TE) : TE := fun σ H Q => ta σ H fun x H1 => tb σ H1 fun y H2 => r x y H2 Q
def tUn (r : V → Hp → VK → Prop) (ta : TE) : TE := fun σ H Q => ta σ H fun x H1 => r x H1 Q
/-- ints in, under C, and a value out -/
def rI (C : Int → Int → Prop) (g : Int → Int → V) : R2 := fun x y H Q => ∃ i j, x = .int i ∧ y = .int j ∧ C i j ∧ Q (g i j) H
def rI0 (g : Int → Int → V) : R2 := fun x y H Q => ∃ i j, x = .int i ∧ y = .int j ∧ Q (g i j) H
def rU (g : Int → V) : V → Hp → VK → Prop := fun x H Q => ∃ i, x = .int i ∧ Q (g i) H
section
variable {X : Cx} {a b c : Expr} {ta tb tc : TE} {pos : Pos}
theorem binT (ha : PE X a ta) (hb : PE X b tb) {pins : List (Addr × Obj)} {s : Shared} {σ : St} {H : Hp} {R : V → V → Hp → Prop} (I : Inv X pins σ H s)
    (h : ta σ H fun x H1 => tb σ H1 fun y H2 => R x y H2) {Q : Value → Shared → Prop} {f : Value → Value → Sem Value}
    (hf : ∀ v u s2 x y H2, Inv X pins σ H2 s2 → RelV x v → RelV y u → R x y H2 → wpAny (model X.prog X.w) X.A (f v u) Q X.xe s2) :
    wpAny (model X.prog X.w) X.A (eval a X.env) (fun v s₁ => wpAny (model X.prog X.w) X.A (eval b X.env) (fun u s₂ => wpAny (model X.prog X.w) X.A (f v u) Q X.xe s₂) X.xe s₁) X.xe s := by
  refine thn (ha pins s σ H _ I h) fun v s1 ⟨x, H1, I1, r1, q1⟩ => ?_
  refine thn (hb pins s1 σ H1 _ I1 q1) fun u s2 ⟨y, H2, I2, r2, q2⟩ => ?_
  exact hf v u s2 x y H2 I2 r1 r2 q2
theorem pe_op {op : Operator} {r : R2} (ho : OpR X (binaryOp op) r) (ha : PE X a ta) (hb : PE X b tb) : PE X (.BinOp a op b pos) (tOp r ta tb) := by
  intro pins s σ H Q I h
  exact wpAny_BinOp (binT ha hb I h fun v u s2 x y H2 I2 rx ry q => ho pins s2 σ H2 x y v u Q I2 rx ry q)
theorem pe_un {op : UnaryOp} {r : V → Hp → VK → Prop} (ho : UnR X (unaryOp op) r) (ha : PE X a ta) : PE X (.UnaryOp op a pos) (tUn r ta) := by
  intro pins s σ H Q I h
  exact UnaryOp_ (thn (ha pins s σ H _ I h) fun v s1 ⟨x, H1, I1, r1, q1⟩ => ho pins s1 σ H1 x v Q I1 r1 q1)
/-! ### ints -/
theorem opI {f : Value → Value → Sem Value} {C : Int → Int → Prop} {g : Int → Int → Int}
    (rule : ∀ (i j : Int) (t u : Tok) (s : Shared) (Q : Value → Shared → Prop) (E : Value → Shared → Prop), C i j → Q (.int (g i j) s.toks) { s with toks := s.toks + 1 } → wpAny (model X.prog X.w) X.A (f (.int i t) (.int j u)) Q E s) :
    OpR X f (rI C fun i j => .int (g i j)) := by
  intro pins s σ H x y v u Q I rx ry h
  obtain ⟨i, j, rfl, rfl, hc, q⟩ := h
  obtain ⟨t, rfl⟩ := rx
  obtain ⟨t', rfl⟩ := ry
  exact rule i j t t' s _ _ hc ⟨.int (g i j), H, I.tok _, ⟨_, rfl⟩, q⟩
theorem opI0 {f : Value → Value → Sem Value} {g : Int → Int → Int}
    (rule : ∀ (i j : Int) (t u : Tok) (s : Shared) (Q : Value → Shared → Prop) (E : Value → Shared → Prop), Q (.int (g i j) s.toks) { s with toks := s.toks + 1 } → wpAny (model X.prog X.w) X.A (f (.int i t) (.int j u)) Q E s) :
    OpR X f (rI0 fun i j => .int (g i j)) := by
  intro pins s σ H x y v u Q I rx ry h
  obtain ⟨i, j, rfl, rfl, q⟩ := h
  obtain ⟨t, rfl⟩ := rx
  obtain ⟨t', rfl⟩ := ry
  exact rule i j t t' s _ _ ⟨.int (g i j), H, I.tok _, ⟨_, rfl⟩, q⟩
theorem opB0 {f : Value → Value → Sem Value} {g : Int → Int → Bool}
    (rule : ∀ (i j : Int) (t u : Tok) (s : Shared) (Q : Value → Shared → Prop) (E : Value → Shared → Prop), Q (.bool (g i j)) s → wpAny (model X.prog X.w) X.A (f (.int i t) (.int j u)) Q E s) :
    OpR X f (rI0 fun i j => .bl (g i j)) := by
  intro pins s σ H x y v u Q I rx ry h
  obtain ⟨i, j, rfl, rfl, q⟩ := h
  obtain ⟨t, rfl⟩ := rx
  obtain ⟨t', rfl⟩ := ry
  exact rule i j t t' s _ _ ⟨.bl (g i j), H, I, rfl, q⟩
def CDiv (i j : Int) : Prop := 0 < j ∧ j < 1073741824
theorem op_add : OpR X (binaryOp .Add) (rI0 fun i j => .int (i + j)) := opI0 fun _ _ _ _ _ _ _ q => add_int q
theorem op_sub : OpR X (binaryOp .Sub) (rI0 fun i j => .int (i - j)) := opI0 fun _ _ _ _ _ _ _ q => sub_int q
/-- // by a positive divisor -/
theorem op_fdiv : OpR X (binaryOp .FloorDiv) (rI CDiv fun i j => .int (i / j)) := opI fun i j _ _ _ _ _ hc q => by
  have h1 : (0 : Int) < j := hc.1
  have h2 : j < 1073741824 := hc.2
  exact floordiv_int (by omega) (by rw [Int.fdiv_eq_ediv_of_nonneg i (by omega)]; exact q) (.inl (PyProof.noPylong_small (by omega)))
/-- % by a positive divisor of any size -/
theorem op_mod : OpR X (binaryOp .Mod) (rI (fun _ j => 0 < j) fun i j => .int (i % j)) := opI fun i j _ _ _ _ _ hc q => by
  have h1 : (0 : Int) < j := hc
  exact mod_int' (by omega) (by rw [Int.fmod_eq_emod_of_nonneg i (by omega)]; exact q)
theorem unI {f : Value → Sem Value} {g : Int → Int}
    (rule : ∀ (i : Int) (t : Tok) (s : Shared) (Q : Value → Shared → Prop) (E : Value → Shared → Prop), Q (.int (g i) s.toks) { s with toks := s.toks + 1 } → wpAny (model X.prog X.w) X.A (f (.int i t)) Q E s) :
    UnR X f (rU fun i => .int (g i)) := by
  intro pins s σ H x v Q I rx h
  obtain ⟨i, rfl, q⟩ := h
  obtain ⟨t, rfl⟩ := rx
  exact rule i t s _ _ ⟨.int (g i), H, I.tok _, ⟨_, rfl⟩, q⟩
theorem un_neg : UnR X (unaryOp .USub) (rU fun i => .int (-i)) := unI fun _ _ _ _ _ q => neg_int q
/-! ### bools among ints: n += (a < b) -/
end
/-! ### comparisons -/
/-- the scalars that == tells apart as data does -/
def scal : V → V → Bool
  | .non, .non => true | .non, .int _ => true | .int _, .non => true | .non, .bl _ => true | .bl _, .non => true | .non, .str _ => true | .str _, .non => true
  | .int _, .int _ => true | .bl _, .bl _ => true | .str _, .str _ => true | .byt _, .byt _ => true
  | .int _, .str _ => true | .str _, .int _ => true | .bl _, .str _ => true | .str _, .bl _ => true
  | _, _ => false
def rEq : R2 := fun x y H Q => scal x y = true ∧ Q (.bl (decide (x = y))) H
def rNe : R2 := fun x y H Q => scal x y = true ∧ Q (.bl (!decide (x = y))) H
theorem dec_int {i j : Int} : decide (V.int i = V.int j) = (i == j) := by
  rw [Bool.eq_iff_iff]
  simp
theorem dec_bl {i j : Bool} : decide (V.bl i = V.bl j) = (i == j) := by
  rw [Bool.eq_iff_iff]
  simp
theorem dec_str {i j : Str} : decide (V.str i = V.str j) = (i == j) := by
  rw [Bool.eq_iff_iff]
  simp
theorem dec_byt {i j : Array UInt8} : decide (V.byt i = V.byt j) = (i.toList == j.toList) := by
  rw [Bool.eq_iff_iff]
  cases i
  cases j
  simp
section
variable {X : Cx} {a b c : Expr} {ta tb tc : TE} {pos : Pos}
theorem fin_bl {pins : List (Addr × Obj)} {σ : St} {H : Hp} {s : Shared} {Q : VK} {k k' : Bool} (I : Inv X pins σ H s) (q : Q (.bl k) H) (e : k = k') : EP X pins σ Q (.bool k') s := by
  subst e
  exact ⟨.bl k, H, I, rfl, q⟩
theorem op_eq : OpR X (compareOp .Eq) rEq := by
  intro pins s σ H x y v u Q I rx ry h
  obtain ⟨hs, q⟩ := h
  cases x with
  | non =>
    cases rx
    cases y with
    | non => cases ry; exact PySem.EqNone.eq_none_none (fin_bl I q (by simp))
    | bl j => cases ry; exact PySem.EqNone.eq_none_bool (fin_bl I q (by simp))
    | int j => obtain ⟨t', rfl⟩ := ry; exact PySem.EqNone.eq_none_int (fin_bl I q (by simp))
    | str j => obtain ⟨t', rfl⟩ := ry; exact PySem.EqNone.eq_none_str (fin_bl I q (by simp))
    | _ => exact absurd (show false = true from hs) Bool.false_ne_true
  | bl i =>
    cases rx
    cases y with
    | non => cases ry; exact PySem.EqNone.eq_bool_none (fin_bl I q (by simp))
    | bl j => cases ry; exact eq_bool (fin_bl I q dec_bl)
    | str j => obtain ⟨t', rfl⟩ := ry; exact PySem.EqMixed.eq_bool_str (fin_bl I q (by simp))
    | _ => exact absurd (show false = true from hs) Bool.false_ne_true
  | int i =>
    obtain ⟨t, rfl⟩ := rx
    cases y with
    | non => cases ry; exact PySem.EqNone.eq_int_none (fin_bl I q (by simp))
    | int j => obtain ⟨t', rfl⟩ := ry; exact eq_int (fin_bl I q dec_int)
    | str j => obtain ⟨t', rfl⟩ := ry; exact PySem.EqMixed.eq_int_str (fin_bl I q (by simp))
    | _ => exact absurd (show false = true from hs) Bool.false_ne_true
  | str i =>
    obtain ⟨t, rfl⟩ := rx
    cases y with
    | non => cases ry; exact PySem.EqNone.eq_str_none (fin_bl I q (by simp))
    | bl j => cases ry; exact PySem.EqMixed.eq_str_bool (fin_bl I q (by simp))
    | int j => obtain ⟨t', rfl⟩ := ry; exact PySem.EqMixed.eq_str_int (fin_bl I q (by simp))
    | str j => obtain ⟨t', rfl⟩ := ry; exact eq_str (fin_bl I q dec_str)
    | _ => exact absurd (show false = true from hs) Bool.false_ne_true
  | byt i =>
    obtain ⟨t, rfl⟩ := rx
    cases y with
    | byt j => obtain ⟨t', rfl⟩ := ry; exact PySem.W.eq_bytes (fin_bl I q dec_byt)
    | _ => exact absurd (show false = true from hs) Bool.false_ne_true
  | _ => cases y <;> exact absurd (show false = true from hs) Bool.false_ne_true
theorem op_ne : OpR X (compareOp .NotEq) rNe := by
  intro pins s σ H x y v u Q I rx ry h
  obtain ⟨hs, q⟩ := h
  cases x with
  | non =>
    cases rx
    cases y with
    | non => cases ry; exact PySem.EqNone.ne_none_none (fin_bl I q (by simp))
    | bl j => cases ry; exact PySem.EqNone.ne_none_bool (fin_bl I q (by simp))
    | int j => obtain ⟨t', rfl⟩ := ry; exact PySem.EqNone.ne_none_int (fin_bl I q (by simp))
    | str j => obtain ⟨t', rfl⟩ := ry; exact PySem.EqNone.ne_none_str (fin_bl I q (by simp))
    | _ => exact absurd (show false = true from hs) Bool.false_ne_true
  | bl i =>
    cases rx
    cases y with
    | non => cases ry; exact PySem.EqNone.ne_bool_none (fin_bl I q (by simp))
    | bl j => cases ry; exact ne_bool (fin_bl I q (congrArg not dec_bl))
    | str j => obtain ⟨t', rfl⟩ := ry; exact PySem.EqMixed.ne_bool_str (fin_bl I q (by simp))
    | _ => exact absurd (show false = true from hs) Bool.false_ne_true
  | int i =>
    obtain ⟨t, rfl⟩ := rx
    cases y with
    | non => cases ry; exact PySem.EqNone.ne_int_none (fin_bl I q (by simp))
    | int j => obtain ⟨t', rfl⟩ := ry; exact ne_int (fin_bl I q (congrArg not dec_int))
    | str j => obtain ⟨t', rfl⟩ := ry; exact PySem.EqMixed.ne_int_str (fin_bl I q (by simp))
    | _ => exact absurd (show false = true from hs) Bool.false_ne_true
  | str i =>
    obtain ⟨t, rfl⟩ := rx
    cases y with
    | non => cases ry; exact PySem.EqNone.ne_str_none (fin_bl I q (by simp))
    | bl j => cases ry; exact PySem.EqMixed.ne_str_bool (fin_bl I q (by simp))
    | int j => obtain ⟨t', rfl⟩ := ry; exact PySem.EqMixed.ne_str_int (fin_bl I q (by simp))
    | str j => obtain ⟨t', rfl⟩ := ry; exact ne_str (fin_bl I q (congrArg not dec_str))
    | _ => exact absurd (show false = true from hs) Bool.false_ne_true
  | byt i =>
    obtain ⟨t, rfl⟩ := rx
    cases y with
    | byt j => obtain ⟨t', rfl⟩ := ry; exact PySem.W.ne_bytes (fin_bl I q (congrArg not dec_byt))
    | _ => exact absurd (show false = true from hs) Bool.false_ne_true
  | _ => cases y <;> exact absurd (show false = true from hs) Bool.false_ne_true
theorem op_lt : OpR X (compareOp .Lt) (rI0 fun i j => .bl (decide (i < j))) := opB0 fun _ _ _ _ _ _ _ q => lt_int q
theorem op_gt : OpR X (compareOp .Gt) (rI0 fun i j => .bl (decide (j < i))) := opB0 fun _ _ _ _ _ _ _ q => gt_int q
/-- the one string within the other -/
theorem op_in_str : OpR X (compareOp .In) (fun x y H Q => ∃ i j, x = .str i ∧ y = .str j ∧ Q (.bl (!(Builtin.Str.occurrences j i 0 j.length 1).isEmpty)) H) := by
  intro pins s σ H x y v u Q I rx ry h
  obtain ⟨i, j, rfl, rfl, q⟩ := h
  obtain ⟨t, rfl⟩ := rx
  obtain ⟨t', rfl⟩ := ry
  exact in_str (fin_bl I q rfl)
theorem op_notN : OpR X (compareOp .IsNot) (fun x y H Q => y = .non ∧ Q (.bl (!decide (x = .non))) H) := by
  intro pins s σ H x y v u Q I rx ry h
  obtain ⟨rfl, q⟩ := h
  cases ry
  refine isnot_none_gen (fin_bl I q ?_)
  cases x <;> first
    | (cases rx; rfl)
    | (obtain ⟨t, rfl⟩ := rx; rfl)
/-- two rules for one operation: by cases -/
theorem OpR.or {f : Value → Value → Sem Value} {r r' : R2} (h : OpR X f r) (h' : OpR X f r') : OpR X f (fun x y H Q => r x y H Q ∨ r' x y H Q) := by
  intro pins s σ H x y v u Q I rx ry q
  rcases q with q | q
  · exact h pins s σ H x y v u Q I rx ry q
  · exact h' pins s σ H x y v u Q I rx ry q
theorem nomark (b : Expr) {op : CmpOp} (h : op ≠ .In := by decide) (h2 : op ≠ .NotIn := by decide) : behindInMarks op b = false := by
  have e1 : (op == CmpOp.In) = false := by cases op <;> first | rfl | exact absurd rfl h
  have e2 : (op == CmpOp.NotIn) = false := by cases op <;> first | rfl | exact absurd rfl h2
  cases b <;> simp [behindInMarks, e1, e2]
/-- a comparison as a value; hm: nomark b, or (for in, not in) by with_unfolding_all rfl -/
theorem pe_cmpR {op : CmpOp} {r : R2} (ho : OpR X (compareOp op) r) (ha : PE X a ta) (hb : PE X b tb) (hm : behindInMarks op b = false) : PE X (.Compare a [op] [b] pos) (tOp r ta tb) := by
  intro pins s σ H Q I h
  exact wpAny_Compare1 (binT ha hb I h fun v u s2 x y H2 I2 rx ry q => ho pins s2 σ H2 x y v u Q I2 rx ry q) hm
/-- a reading of a value as a test -/
def tTest (t : TE) : TT := fun σ H Q => t σ H fun x H' => ∃ k, x = .bl k ∧ Q k H'
theorem pt_cmpR {op : CmpOp} {r : R2} (ho : OpR X (compareOp op) r) (ha : PE X a ta) (hb : PE X b tb) (hm : behindInMarks op b = false) : PT X (.Compare a [op] [b] pos) (tTest (tOp r ta tb)) := by
  intro pins s σ H Q I h
  refine wpAny_isTrue_Compare1 (thn (ha pins s σ H _ I h) fun v s1 ⟨x, H1, I1, r1, q1⟩ => thn (hb pins s1 σ H1 _ I1 q1) fun u s2 ⟨y, H2, I2, r2, q2⟩ =>
    thn (ho pins s2 σ H2 x y v u _ I2 r1 r2 q2) fun c s3 ⟨z, H3, I3, r3, k, e, q3⟩ => ?_) hm
  subst e
  cases r3
  exact wpAny_truthy_bool ⟨H3, I3, q3⟩
/-! ### truth -/
/-- a value's truth by the abstract heap -/
def TruV (K : PySem.W.Frag) (x : V) (H : Hp) (k : Bool) : Prop :=
  match x with
  | .non => k = false
  | .bl b => k = b
  | .int i => k = (i != 0)
  | .str y => y.length ≤ sizeLine ∧ k = ((y.length : Int) != 0)
  | .byt y => y.size ≤ sizeLine ∧ k = ((y.size : Int) != 0)
  | .ref p => (∃ xs, SqL K H p xs ∧ k = !xs.isEmpty) ∨ (∃ xs, SqT K H p xs ∧ k = !xs.isEmpty) ∨ ∃ kvs, H p = some (.dK kvs) ∧ k = !kvs.isEmpty
  | _ => False
theorem isEmpty_kv {κ : Type} {kvs : List (κ × V)} {vs : List (κ × Value)} (r : KV kvs vs) : (!vs.isEmpty) = !kvs.isEmpty := by
  cases r <;> rfl
theorem isEmpty_of {xs : List V} {its : List Value} (r : Vals xs its) : (!its.toArray.isEmpty) = !xs.isEmpty := by
  cases r <;> simp
theorem line63 : (sizeLine : Nat) < 2 ^ 63 := by rw [sizeLine_eq]; decide
theorem tru_ok : TruR X (fun x H Q => ∃ k, TruV X.K x H k ∧ Q k H) := by
  intro pins s σ H x v Q I rx h
  obtain ⟨k, e, q⟩ := h
  have hl := line63
  have hs : sizeLine = 16777216 := sizeLine_eq
  cases x with
  | non =>
    cases rx
    have e' : k = false := e
    subst e'
    exact truthy_none ⟨H, I, q⟩
  | bl b =>
    cases rx
    have e' : k = b := e
    subst e'
    exact wpAny_truthy_bool ⟨H, I, q⟩
  | int i =>
    obtain ⟨t, rfl⟩ := rx
    have e' : k = (i != 0) := e
    subst e'
    exact PySem.P.truthy_int ⟨H, I, q⟩
  | str y =>
    obtain ⟨t, rfl⟩ := rx
    obtain ⟨hy, e'⟩ : y.length ≤ sizeLine ∧ k = ((y.length : Int) != 0) := e
    subst e'
    exact PySem.P.truthy_str (by omega) ⟨H, I.tok _, q⟩
  | byt y =>
    obtain ⟨t, rfl⟩ := rx
    obtain ⟨hy, e'⟩ : y.size ≤ sizeLine ∧ k = ((y.size : Int) != 0) := e
    subst e'
    exact PySem.W.truthy_bytes (by omega) ⟨H, I.tok _, q⟩
  | ref p =>
    cases rx
    have e' : (∃ xs, SqL X.K H p xs ∧ k = !xs.isEmpty) ∨ (∃ xs, SqT X.K H p xs ∧ k = !xs.isEmpty) ∨ ∃ kvs, H p = some (.dK kvs) ∧ k = !kvs.isEmpty := e
    rcases e' with ⟨xs, hx, e'⟩ | ⟨xs, hx, e'⟩ | ⟨kvs, hx, e'⟩
    · subst e'
      obtain ⟨its, r, pl, hz⟩ := I.list hx
      have hlen := r.length
      exact wpAny_truthy_list pl.isList (by simp only [List.size_toArray]; omega) ⟨H, I.tok _, by rw [isEmpty_of r]; exact q⟩
    · subst e'
      obtain ⟨its, r, pl, hz⟩ := I.tuple hx
      have hlen := r.length
      exact truthy_tuple pl (by simp only [List.size_toArray]; omega) ⟨H, I.tok _, by rw [isEmpty_of r]; exact q⟩
    · subst e'
      obtain ⟨hz, hS, vs, r, m⟩ : kvs.length ≤ sizeLine ∧ (p == sysModules) = false ∧ ∃ vs, KV kvs vs ∧ s.heap.DictOf (mixKind X.prog X.w) p vs := I.hok p _ hx
      have hlen : kvs.length = vs.length := Paired.length r
      exact wpAny_truthy_dict hS m (by omega) ⟨H, I.tok _, by rw [isEmpty_kv r]; exact q⟩
  | _ => exact (show False from e).elim
/-- any expression whose test is its value's truth (a name, a call, a subscript, a field ..: he by fun _ => rfl) -/
theorem pt_truth (ha : PE X a ta) (he : ∀ whole, isTrue a X.env whole = (do let v ← whole; standAt a.pos; holding [v] (truthy v))) :
    PT X a (fun σ H Q => ta σ H fun x H' => ∃ k, TruV X.K x H' k ∧ Q k H') := by
  intro pins s σ H Q I h
  exact isTrue_plain (thn (ha pins s σ H _ I h) fun v s1 ⟨x, H1, I1, r1, q1⟩ => tru_ok pins s1 σ H1 x v Q I1 r1 q1) (he _)
/-! ### strs and bytes -/
theorem op_add_str : OpR X (binaryOp .Add) (fun x y H Q => ∃ i j, x = .str i ∧ y = .str j ∧ i.length + j.length ≤ sizeLine ∧ Q (.str (i ++ j)) H) := by
  intro pins s σ H x y v u Q I rx ry h
  obtain ⟨i, j, rfl, rfl, hz, q⟩ := h
  obtain ⟨t, rfl⟩ := rx
  obtain ⟨t', rfl⟩ := ry
  exact add_str (fun t' tk => ⟨.str (i ++ j), H, I.tok _, ⟨_, rfl⟩, q⟩) hz
/-! ### scalar builtins, by CallR -/
theorem vals1 {x : V} {us : List Value} (r : Vals [x] us) : ∃ u, us = [u] ∧ RelV x u := by
  cases r with
  | cons r1 r2 => cases r2; exact ⟨_, rfl, r1⟩
theorem vals2 {x y : V} {us : List Value} (r : Vals [x, y] us) : ∃ u w', us = [u, w'] ∧ RelV x u ∧ RelV y w' := by
  cases r with
  | cons r1 r2 =>
    cases r2 with
    | cons r3 r4 => cases r4; exact ⟨_, _, rfl, r1, r3⟩
/-- len of a str, a bytes, a list, a tuple -/
def LenV (K : PySem.W.Frag) (x : V) (H : Hp) (n : Nat) : Prop :=
  match x with
  | .str y => y.length ≤ sizeLine ∧ n = y.length
  | .byt y => y.size ≤ sizeLine ∧ n = y.size
  | .ref p => (∃ xs, SqL K H p xs ∧ n = xs.length) ∨ ∃ xs, SqT K H p xs ∧ n = xs.length
  | _ => False
theorem call_len : CallR X (.builtin "len") (fun xs H Q => ∃ x n, xs = [x] ∧ LenV X.K x H n ∧ Q (.int n) H) := by
  intro pins s σ H xs us Q I r h
  obtain ⟨x, n, rfl, e, q⟩ := h
  obtain ⟨u, rfl, rx⟩ := vals1 r
  have hl := line63
  have hs : sizeLine = 16777216 := sizeLine_eq
  cases x with
  | str y =>
    obtain ⟨t, rfl⟩ := rx
    obtain ⟨hy, e'⟩ : y.length ≤ sizeLine ∧ n = y.length := e
    subst e'
    exact len_str (by omega) ⟨.int _, H, I.tok _, ⟨_, rfl⟩, q⟩
  | byt y =>
    obtain ⟨t, rfl⟩ := rx
    obtain ⟨hy, e'⟩ : y.size ≤ sizeLine ∧ n = y.size := e
    subst e'
    exact PySem.W.len_bytes (by omega) ⟨.int _, H, I.tok _, ⟨_, rfl⟩, q⟩
  | ref p =>
    cases rx
    have e' : (∃ xs, SqL X.K H p xs ∧ n = xs.length) ∨ ∃ xs, SqT X.K H p xs ∧ n = xs.length := e
    rcases e' with ⟨xs, hx, e'⟩ | ⟨xs, hx, e'⟩
    · subst e'
      obtain ⟨its, r', pl, hz⟩ := I.list hx
      have hlen := r'.length
      exact Calls.call_len_list pl.isList (by simp only [List.size_toArray]; omega) ⟨.int xs.length, H, I.tok _, ⟨_, by simp only [List.size_toArray]; rw [hlen]⟩, q⟩
    · subst e'
      obtain ⟨its, r', pl, hz⟩ := I.tuple hx
      have hlen := r'.length
      exact len_tuple pl (by simp only [List.size_toArray]; omega) ⟨.int xs.length, H, I.tok _, ⟨_, by simp only [List.size_toArray]; rw [hlen]⟩, q⟩
  | _ => exact (show False from e).elim
end
end L2
namespace L2
open PySem PySem.Spec PyProof.Rows
/-! ### an instance, its attributes a map -/
structure ObjM (h : Heap) (x dx C : Addr) (mA : Str → Option Value) : Prop where
  obj : h.get? x = some (PySem.W.instObj C dx)
  ns : h.Ns1 dx mA
  ne : dx ≠ x
theorem lookIn_ns {h : Heap} {dx : Addr} {mA : Str → Option Value} (n : h.Ns1 dx mA) : ∃ od, h.get? dx = some od ∧ ∀ name, PySem.W.lookIn name od = some (mA name) := by
  obtain ⟨o, es, ep, ho, hd, hk, _, hm⟩ := n
  refine ⟨o, ho, fun name => ?_⟩
  have e := hm name
  unfold nsFind findBy at e
  rw [← Array.find?_toList] at e
  unfold PySem.W.lookIn
  rw [hd]
  dsimp only
  split
  · rename_i y q
    rw [q] at e
    exact congrArg some e
  · rename_i q
    rw [q] at e
    have a : es.toList.any (·.refKey) = false := by
      rw [List.any_eq_false]
      intro y hy
      obtain ⟨z, t, hkey⟩ := hk y (Array.mem_toList_iff.mp hy)
      simp [DictEntry.refKey, hkey]
    have a' : ¬ es.toList.any (·.refKey) = true := by rw [a]; exact Bool.false_ne_true
    rw [if_neg a']
    exact congrArg some e
theorem ObjM.look {h : Heap} {x dx C : Addr} {mA : Str → Option Value} (I : ObjM h x dx C mA) : ∃ od, PySem.W.InstAt h x (PySem.W.instObj C dx) C (some od) ∧ ∀ name, PySem.W.lookIn name od = some (mA name) :=
  let ⟨od, ho, hl⟩ := lookIn_ns I.ns
  ⟨od, ⟨I.obj, rfl, rfl, ho⟩, hl⟩
section
variable {prog : Program} {w : World} {A : Around} {E : Value → Shared → Prop} {s : Shared} {K : PySem.W.Frag} {x dx C f : Addr} {mA : Str → Option Value} {name : Str} {v : Value}
theorem get_map {expr : Bool} {Q : Value → Shared → Prop} (X : K.In s.heap) (I : ObjM s.heap x dx C mA) (hg : PySem.W.plainGet K C name = true) (hh : PySem.W.hasDictIn K C = true)
    (ha : PySem.W.findIn K (.ref C) name = some none) (hv : mA name = some v) (hv' : PySem.W.handedIn v = true) (h : Q v { s with toks := s.toks + 1 }) :
    wpAny (model prog w) A (getAttr (.ref x) name expr) Q E s := by
  obtain ⟨od, J, hl⟩ := I.look
  exact PySem.W.get_value X J (PySem.W.plainGet_of hg).1 (PySem.W.findObj_own hh ha rfl (by rw [hl, hv])) hv' h
theorem get_meth {pl : Sem Bool} {Q : Value × List Value → Shared → Prop} (X : K.In s.heap) (I : ObjM s.heap x dx C mA) (hg : PySem.W.plainGet K C name = true)
    (hf : PySem.W.findIn K (.ref C) name = some (some (.ref f))) (ht : PySem.W.isFn K (.ref f) = true) (hv : mA name = none) (h : Q (.ref f, [.ref x]) s) :
    wpAny (model prog w) A (getMethod (.ref x) name pl) Q E s := by
  obtain ⟨od, J, hl⟩ := I.look
  exact PySem.W.method_fn X J (PySem.W.plainGet_of hg).1 (PySem.W.plainGet_of hg).2 hf (beq_iff_eq.mp ht) (by show (PySem.W.lookIn name od).map (·.isSome) = some false; rw [hl, hv]; rfl) h
theorem set_map {ns : List Str} {Q : Unit → Shared → Prop} (X : K.In s.heap) (I : ObjM s.heap x dx C mA)
    (hs : PySem.W.findIn K (.ref C) "__setattr__" = some (some (.builtin "object.__setattr__"))) (hp : PySem.W.plainOver K C = true) (ht : PySem.W.takerIn K C name = some none) (hh : PySem.W.hasDictIn K C = true)
    (hw : PySem.Within mA ns) (hsz : ns.length ≤ sizeLine)
    (h : ∀ h', ObjM h' x dx C (fun y => if y = name then some v else mA y) → Heap.SameBut dx s.heap h' → Q () { s with heap := h', toks := s.toks + 2 }) :
    wpAny (model prog w) A (setAttr (.ref x) name v) Q E s := by
  obtain ⟨od, J, hl⟩ := I.look
  refine PySem.W.set_plain X J hs (PySem.W.osa_open (s := { s with toks := s.toks + 1 }) (r := none) X J hp ht fun b => ?_)
  obtain ⟨cd, hc, hd'⟩ := PySem.W.any_some hh
  have hx : s.heap.get? x = some ⟨.ref C, some dx, .plain, #[]⟩ := I.obj
  refine wpAny_bind (wpAny_pure (wpAny_bind (wpAny_bind (wpAny_loadPart hx (wpAny_bind (PySem.W.Looks.here (s := { s with toks := s.toks + 1 }) (PySem.W.looks_clsIn X hc) ?_))))))
  rw [hd']
  refine wpAny_pure (a := some dx) (wpAny_bind (wpAny_pure (wpAny_bind ?_)))
  refine wpAny_nsSet1 (s := { s with toks := s.toks + 1 }) I.ns fun h' hn2 hs2 => ?_
  obtain ⟨oD, esD, epD, hoD, hdD, hcD⟩ := hn2.count (PySem.Within.cons name v hw)
  refine wpAny_bind (wpAny_lookBehind hoD (by rw [hdD]; exact pastItsLine_dict (Nat.le_trans hcD (by rw [List.length_cons]; omega))) ?_)
  exact wpAny_pure (h _ ⟨(hs2.2 _ (Ne.symm I.ne)).trans I.obj, hn2, I.ne⟩ hs2)
/-- C(..): the dict at the heap's end, the instance behind it; then its __init__ -/
theorem make_map {R : Result → Shared → Prop} {vs : List Value} {kw : List (Str × Value)} (X : K.In s.heap) (hm : PySem.W.makesIn K C = true)
    (hi : PySem.W.findIn K (.ref C) "__init__" = some (some (.ref f))) (hf : PySem.W.typeIn K (.ref f) = some (.type "function"))
    (h : codeAny (model prog w) (A.under (.builtin "type.__call__" ⟨.ref C :: vs, kw⟩)) (.call (.ref f) ⟨.ref (s.heap.objs.size + 1) :: vs, kw⟩) (PySem.W.InitBack (s.heap.objs.size + 1) R)
      { s with heap := (s.heap.push PySem.W.emptyDict).push (PySem.W.instObj C s.heap.objs.size) }) :
    codeAny (model prog w) A (.call (.ref C) ⟨vs, kw⟩) R s := by
  obtain ⟨hh, g, d, t, os⟩ := s
  exact PySem.W.make_core (PySem.W.makes_of X hm) (PySem.W.looks_findIn X hi) (fun self => PySem.W.bind_fn X self hf) (.inl rfl) h
end
/-! ### the attributes as a list of pairs -/
def putF (f : Str) (v : V) : List (Str × V) → List (Str × V)
  | [] => [(f, v)]
  | (g, x) :: r => if g = f then (g, v) :: r else (g, x) :: putF f v r
theorem lookup_putF (f g : Str) (v : V) : ∀ fs : List (Str × V), (putF f v fs).lookup g = if g = f then some v else fs.lookup g
  | [] => by
    show List.lookup g [(f, v)] = _
    by_cases h : g = f
    · have hb : (g == f) = true := beq_iff_eq.mpr h
      simp only [List.lookup, hb, if_pos h]
    · have hb : (g == f) = false := beq_eq_false_iff_ne.mpr h
      simp only [List.lookup, hb, if_neg h]
  | (k, x) :: r => by
    have ih := lookup_putF f g v r
    rw [show putF f v ((k, x) :: r) = (if k = f then (k, v) :: r else (k, x) :: putF f v r) from rfl]
    by_cases hk : k = f
    · rw [if_pos hk]
      by_cases h : g = k
      · have hb : (g == k) = true := beq_iff_eq.mpr h
        simp only [List.lookup, hb, if_pos (h.trans hk)]
      · have hb : (g == k) = false := beq_eq_false_iff_ne.mpr h
        simp only [List.lookup, hb, if_neg (fun e : g = f => h (e.trans hk.symm))]
    · rw [if_neg hk]
      by_cases h : g = k
      · have hb : (g == k) = true := beq_iff_eq.mpr h
        simp only [List.lookup, hb, if_neg (fun e : g = f => hk (h.symm.trans e))]
      · have hb : (g == k) = false := beq_eq_false_iff_ne.mpr h
        simp only [List.lookup, hb]
        exact ih
theorem keys_putF (f : Str) (v : V) : ∀ fs : List (Str × V), f ∈ (putF f v fs).map (·.1) ∧ ∀ g, g ∈ fs.map (·.1) → g ∈ (putF f v fs).map (·.1)
  | [] => ⟨by simp [putF], fun g h => by simp at h⟩
  | (k, x) :: r => by
    obtain ⟨i1, i2⟩ := keys_putF f v r
    rw [show putF f v ((k, x) :: r) = (if k = f then (k, v) :: r else (k, x) :: putF f v r) from rfl]
    by_cases hk : k = f
    · rw [if_pos hk]
      subst hk
      exact ⟨by simp, fun g h => by simpa using h⟩
    · rw [if_neg hk]
      refine ⟨?_, fun g h => ?_⟩
      · rw [List.map_cons]
        exact List.mem_cons_of_mem _ i1
      · rw [List.map_cons] at h ⊢
        rcases List.mem_cons.mp h with e | e
        · exact List.mem_cons.mpr (.inl e)
        · exact List.mem_cons_of_mem _ (i2 g e)
theorem length_putF (f : Str) (v : V) : ∀ fs : List (Str × V), (putF f v fs).length ≤ fs.length + 1
  | [] => by simp [putF]
  | (k, x) :: r => by
    have ih := length_putF f v r
    rw [show putF f v ((k, x) :: r) = (if k = f then (k, v) :: r else (k, x) :: putF f v r) from rfl]
    by_cases hk : k = f
    · rw [if_pos hk, List.length_cons, List.length_cons]; omega
    · rw [if_neg hk, List.length_cons, List.length_cons]; omega
theorem RelO.some_of {v : V} {o : Option Value} (r : RelO (some v) o) : ∃ u, o = some u ∧ RelV v u := by
  cases o with
  | none => exact (show False from r).elim
  | some u => exact ⟨u, rfl, r⟩
theorem RelO.none_of {o : Option Value} (r : RelO none o) : o = none := by
  cases o with
  | none => rfl
  | some u => exact (show False from r).elim
theorem handed_of {v : V} {u : Value} (r : RelV v u) : PySem.W.handedIn u = true := by
  cases v with
  | non => cases (show u = Value.none from r); rfl
  | bl b => cases (show u = Value.bool b from r); rfl
  | int i => obtain ⟨t, e⟩ := (show ∃ t, u = Value.int i t from r); cases e; rfl
  | str x => obtain ⟨t, e⟩ := (show ∃ t, u = Value.str x t from r); cases e; rfl
  | byt b => obtain ⟨t, e⟩ := (show ∃ t, u = Value.bytes b t from r); cases e; rfl
  | flt b => obtain ⟨t, e⟩ := (show ∃ t, u = Value.float b t from r); cases e; rfl
  | ref a => cases (show u = Value.ref a from r); rfl
  | ty n => cases (show u = Value.type n from r); rfl
section
variable {P : Program} {w : World} {H H' : Hp} {h h' : Heap} {a C dx : Addr} {fs fs' : List (Str × V)}
theorem ins_get (hok : HOk P w H h) (e : H a = some (.ins C dx fs)) : ∃ mA, ObjM h a dx C mA ∧ (∀ f, RelO (fs.lookup f) (mA f)) ∧ PySem.Within mA (fs.map (·.1)) ∧ fs.length ≤ 1000 ∧ H dx = some (.own a) := by
  obtain ⟨d, z, ne, ob, mA, n, r, q⟩ := (show ObjOk P w H h a (.ins C dx fs) from hok a _ e)
  exact ⟨mA, ⟨ob, n, ne⟩, r, q, z, d⟩
end
/-! ### what of the text a class must have -/
structure Cls (K : PySem.W.Frag) (C : Addr) : Prop where
  pg : PySem.W.plainGet K C Str.empty = true
  hd : PySem.W.hasDictIn K C = true
  po : PySem.W.plainOver K C = true
  sa : PySem.W.findIn K (.ref C) "__setattr__" = some (some (.builtin "object.__setattr__"))
theorem Cls.get {K : PySem.W.Frag} {C : Addr} (c : Cls K C) (f : Str) : PySem.W.plainGet K C f = true := c.pg
/-- no class of it has the name -/
def NoAttr (K : PySem.W.Frag) (C : Addr) (f : Str) : Prop := PySem.W.findIn K (.ref C) f = some none
theorem NoAttr.taker {K : PySem.W.Frag} {C : Addr} {f : Str} (n : NoAttr K C f) : PySem.W.takerIn K C f = some none := by
  unfold PySem.W.takerIn
  rw [show PySem.W.findIn K (.ref C) f = some none from n]
  rfl
/-- a method: a plain def of the class or of one above it -/
structure Meth (K : PySem.W.Frag) (C : Addr) (m : Str) (f : Addr) : Prop where
  at_ : PySem.W.findIn K (.ref C) m = some (some (.ref f))
  fn : PySem.W.isFn K (.ref f) = true
  kp : PySem.W.keepIn K (.ref f) = true
section
variable {X : Cx} {pins : List (Addr × Obj)} {σ : St} {H : Hp} {s : Shared} {a C dx : Addr} {fs : List (Str × V)} {f : Str} {v : V} {A : Around} {E : Value → Shared → Prop}
theorem getattr_ok {b : Bool} {Q : Value → Shared → Prop} (I : Inv X pins σ H s) (e : H a = some (.ins C dx fs)) (c : Cls X.K C) (n : NoAttr X.K C f) (l : fs.lookup f = some v)
    (h : ∀ u s', Inv X pins σ H s' → RelV v u → Q u s') : wpAny (model X.prog X.w) A (getAttr (.ref a) f b) Q E s := by
  obtain ⟨mA, O, r, _, _, _⟩ := ins_get I.hok e
  obtain ⟨u, hu, ru⟩ := RelO.some_of (v := v) (o := mA f) (by rw [← l]; exact r f)
  exact get_map I.kIn O (c.get f) c.hd n hu (handed_of ru) (h u _ (I.tok _) ru)
theorem getmeth_ok {m : Str} {g : Addr} {pl : Sem Bool} {Q : Value × List Value → Shared → Prop} (I : Inv X pins σ H s) (e : H a = some (.ins C dx fs)) (c : Cls X.K C) (k : Meth X.K C m g) (l : fs.lookup m = none)
    (h : Q (.ref g, [.ref a]) s) : wpAny (model X.prog X.w) A (getMethod (.ref a) m pl) Q E s := by
  obtain ⟨mA, O, r, _, _, _⟩ := ins_get I.hok e
  have hn : mA m = none := RelO.none_of (by rw [← l]; exact r m)
  exact get_meth I.kIn O (c.get m) k.at_ k.fn hn h
theorem setattr_ok {y : V} {u : Value} {Q : Unit → Shared → Prop} (I : Inv X pins σ H s) (e : H a = some (.ins C dx fs)) (c : Cls X.K C) (n : NoAttr X.K C f) (hl : fs.length < 1000) (ry : RelV y u)
    (h : ∀ s', Inv X pins σ (upd H a (.ins C dx (putF f y fs))) s' → Q () s') : wpAny (model X.prog X.w) A (setAttr (.ref a) f u) Q E s := by
  obtain ⟨mA, O, r, wi, _, ho⟩ := ins_get I.hok e
  have hz : (fs.map (·.1)).length ≤ sizeLine := by rw [List.length_map, sizeLine_eq]; omega
  refine set_map I.kIn O c.sa c.po n.taker c.hd wi hz fun h' O' sb => h _ ?_
  have hd : ∃ o, h'.get? dx = some o := let ⟨o, _, _, e', _⟩ := O'.ns; ⟨o, e'⟩
  refine I.write (x := a) (e := dx) (by rw [e]; exact True.intro) (.inr ho) (fun b q hb z => (sb.2 b hb).trans z) hd ?_
  refine ⟨by rw [upd_ne O.ne]; exact ho, ?_, O.ne, O'.obj, _, O'.ns, fun g => ?_, fun g hg => ?_⟩
  · have := length_putF f y fs; omega
  · show RelO ((putF f y fs).lookup g) (if g = f then some u else mA g)
    rw [lookup_putF]
    by_cases q : g = f
    · rw [if_pos q, if_pos q]; exact ry
    · rw [if_neg q, if_neg q]; exact r g
  · by_cases q : g = f
    · rw [q]; exact (keys_putF f y fs).1
    · refine (keys_putF f y fs).2 g (wi g fun z => hg ?_)
      show (if g = f then some u else mA g) = none
      rw [if_neg q]; exact z
/-- a new instance, tracked, without attributes -/
theorem Inv.made (I : Inv X pins σ H s) : Inv X pins σ (upd (upd H s.heap.objs.size (.own (s.heap.objs.size + 1))) (s.heap.objs.size + 1) (.ins C s.heap.objs.size []))
    { s with heap := (s.heap.push PySem.W.emptyDict).push (PySem.W.instObj C s.heap.objs.size) } := by
  have e1 : (s.heap.push PySem.W.emptyDict).get? s.heap.objs.size = some PySem.W.emptyDict := Heap.get?_push_size s.heap rfl
  have e2 : ((s.heap.push PySem.W.emptyDict).push (PySem.W.instObj C s.heap.objs.size)).get? (s.heap.objs.size + 1) = some (PySem.W.instObj C s.heap.objs.size) := by
    have := Heap.get?_push_size (s.heap.push PySem.W.emptyDict) (o := PySem.W.instObj C s.heap.objs.size) rfl
    rwa [Heap.size_push] at this
  have e3 : (s.heap.push PySem.W.emptyDict).Ns s.heap.objs.size (fun _ => none) := ⟨PySem.W.emptyDict, #[], _, e1, rfl, (fun e he => absurd he (by simp)), fun _ => rfl⟩
  have I1 := I.laid (a := s.heap.objs.size) (o := .own (s.heap.objs.size + 1)) (h' := s.heap.push PySem.W.emptyDict) (t' := s.toks) (fun b u q => Heap.get?_push_of_some _ q) (Nat.le_refl _) ⟨_, e1⟩
  refine I1.laid (a := s.heap.objs.size + 1) (o := .ins C s.heap.objs.size []) (t' := s.toks) (fun b u q => Heap.get?_push_of_some _ q) (Nat.le_of_eq (Heap.size_push _ _)) ?_
  have ne : s.heap.objs.size ≠ s.heap.objs.size + 1 := Nat.ne_of_lt (Nat.lt_succ_self _)
  refine ⟨by rw [upd_ne ne, upd_same], Nat.zero_le _, ne, e2, fun _ => none, (Heap.Ns1.of_empty e3).at fun o q => Heap.get?_push_of_some _ q, fun _ => True.intro, fun y hy => absurd rfl hy⟩
/-- e.f where nothing but the object is asked: through attributeBase (super) and the last hold -/
theorem attr_of {prog : Program} {w : World} {env : Env} {e : Expr} {f : Str} {pos : Pos} {s : Shared} {Q : Value → Shared → Prop} (hb : attributeBase e f env (eval e env) = eval e env)
    (h : wpAny (model prog w) A (eval e env) (fun o s₁ => wpAny (model prog w) A (getAttr o f true) Q E s₁) E s) : wpAny (model prog w) A (eval (.Attribute e f pos) env) Q E s :=
  Attribute_any_ h (by rw [arm_eval_Attribute, hb])
end
/-! ### readings and rules -/
/-- e.f, an attribute of the instance -/
def tFld (K : PySem.W.Frag) (ta : TE) (f : Str) : TE := fun σ H Q => ta σ H fun x H1 => ∃ a C dx fs v, x = .ref a ∧ H1 a = some (.ins C dx fs) ∧ Cls K C ∧ NoAttr K C f ∧ fs.lookup f = some v ∧ Q v H1
/-- e.f = value -/
def sFld (K : PySem.W.Frag) (ta tv : TE) (f : Str) : TS := fun D σ H => tv σ H fun y H1 => ta σ H1 fun x H2 => ∃ a C dx fs, x = .ref a ∧ H2 a = some (.ins C dx fs) ∧ Cls K C ∧ NoAttr K C f ∧ fs.length < 1000 ∧
  D.nx σ (upd H2 a (.ins C dx (putF f y fs)))
section
variable {X : Cx} {o e value : Expr} {f : Str} {pos pos' tpos : Pos} {ta tv : TE}
theorem pe_fld (he : PE X e ta) (hb : attributeBase e f X.env (eval e X.env) = eval e X.env) : PE X (.Attribute e f pos) (tFld X.K ta f) := by
  intro pins s σ H Q I h
  refine attr_of hb (thn (he pins s σ H _ I h) fun u s1 ⟨x, H1, I1, rx, a, C, dx, fs, v, ex, ea, c, n, l, q⟩ => ?_)
  subst ex
  obtain rfl : u = Value.ref a := rx
  exact getattr_ok I1 ea c n l fun u' s2 I2 ru => ⟨v, H1, I2, ru, q⟩
theorem ps_fld (ha : PE X o ta) (hv : PE X value tv) (hs : swapsWith value (some (.Attribute o f pos')) pos.line X.env = pure false) : PS X (.Assign [.Attribute o f pos'] value pos) (sFld X.K ta tv f) := by
  intro pins s σ H D I h
  refine plainObj_wpAny_Assign_Attribute (thn (hv pins s σ H _ I h) fun u s1 ⟨y, H1, I1, ry, q⟩ => thn (ha pins s1 σ H1 _ I1 q) fun ov s2 ⟨x, H2, I2, rx, a, C, dx, fs, ex, ea, c, n, l, q2⟩ => ?_) hs
  subst ex
  obtain rfl : ov = Value.ref a := rx
  exact setattr_ok I2 ea c n l ry fun s3 I3 => ⟨σ, _, I3, q2⟩
/-- what is between an instance and its method: the tree of a method call -/
theorem methcall_of {pl : Sem Bool} {m : Str} {apos : Pos} {args : List Expr} {pins : List (Addr × Obj)} {s : Shared} {σ : St} {H : Hp} {Q : Value → Shared → Prop} {te : TE} (he : PE X e te) (I : Inv X pins σ H s)
    (h : te σ H fun x H1 => ∃ a C dx fs g, x = .ref a ∧ H1 a = some (.ins C dx fs) ∧ Cls X.K C ∧ Meth X.K C m g ∧ fs.lookup m = none ∧
      ∀ s1, Inv X pins σ H1 s1 → wpAny (model X.prog X.w) X.A (callWith pos (.ref g) [.ref a] (backTo pos (starEach args X.env)) (backToKw pos (keywordEach [] X.env))) Q X.xe s1)
    (ht : eval (.Call (.Attribute e m apos) args [] pos) X.env = (do
      let ov ← eval e X.env
      standAt apos.atName
      let (f, first) ← holding [ov] (getMethod ov m pl)
      callWith pos f first (backTo pos (starEach args X.env)) (backToKw pos (keywordEach [] X.env)))) :
    wpAny (model X.prog X.w) X.A (eval (.Call (.Attribute e m apos) args [] pos) X.env) Q X.xe s := by
  refine PySem.W.methodCall_KW (pl := pl) (thn (he pins s σ H _ I h) fun u s1 ⟨x, H1, I1, rx, a, C, dx, fs, g, ex, ea, c, k, l, q⟩ => ?_) ht
  subst ex
  obtain rfl : u = Value.ref a := rx
  exact getmeth_ok I1 ea c k l (q s1 I1)
end
/-! ### isinstance -/
section
variable {X : Cx} {pins : List (Addr × Obj)} {σ : St} {H : Hp} {s : Shared} {A : Around} {E : Value → Shared → Prop} {Q : Value → Shared → Prop} {c : Value} {b : Bool}
/-- the type of a value, as the fragment's deciders take it; for an instance its class -/
inductive TyOf (K : PySem.W.Frag) (H : Hp) : V → Value → Prop where
  | non : TyOf K H .non (.type "NoneType")
  | bl (x : Bool) : TyOf K H (.bl x) (.type "bool")
  | int (i : Int) : TyOf K H (.int i) (.type "int")
  | str (x : Str) : TyOf K H (.str x) (.type "str")
  | flt (x : UInt64) : TyOf K H (.flt x) (.type "float")
  | lst {a : Addr} {xs : List V} (e : H a = some (.lst xs)) : TyOf K H (.ref a) (.type "list")
  | frz {a : Addr} {o : Obj} {xs : List V} (e : H a = some (.frz o (.lst xs))) : TyOf K H (.ref a) (.type "list")
  | tup {a : Addr} {xs : List V} (e : H a = some (.tup xs)) : TyOf K H (.ref a) (.type "tuple")
  | dK {a : Addr} {kvs : List (Key × V)} (e : H a = some (.dK kvs)) : TyOf K H (.ref a) (.type "dict")
  | dT {a : Addr} {kvs : List (List Key × V)} (e : H a = some (.dT kvs)) : TyOf K H (.ref a) (.type "dict")
  | ins {a C dx : Addr} {fs : List (Str × V)} (e : H a = some (.ins C dx fs)) (cl : Cls K C) (ha : PySem.W.findIn K (.ref C) "__class__" = some (some (.builtin "object.__class__")))
      (hn : PySem.W.specialIn K (.builtin "object.__class__") "__get__" = some (some (.builtin "getset_descriptor.__get__"))) (htk : PySem.W.takesIn K (.builtin "object.__class__") = some true)
      (hm : PySem.W.mroIn K C (.type "object") = some true) : TyOf K H (.ref a) (.ref C)
/-- isinstance(x, c) for one class c, a built-in or an own one: kitOne's answer -/
theorem isinst_ok {x : V} {u t : Value} (I : Inv X pins σ H s) (rx : RelV x u) (ty : TyOf X.K H x t) (e : PySem.W.kitOne X.K t c = some b) (h : ∀ tk, Q (.bool b) { s with toks := tk }) :
    wpAny (model X.prog X.w) A (call (.builtin "isinstance") [u, c]) Q E s := by
  cases ty with
  | non => cases (show u = Value.none from rx); exact PySem.W.kia_one PySem.W.kitx_none I.kIn True.intro e (fun z => nomatch z) h
  | bl y => cases (show u = Value.bool y from rx); exact PySem.W.kia_one PySem.W.kitx_bool I.kIn True.intro e (fun z => nomatch z) h
  | int i => obtain ⟨t, q⟩ := (show ∃ t, u = Value.int i t from rx); cases q; exact PySem.W.kia_one PySem.W.kitx_int I.kIn True.intro e (fun z => nomatch z) h
  | str y => obtain ⟨t, q⟩ := (show ∃ t, u = Value.str y t from rx); cases q; exact PySem.W.kia_one PySem.W.kitx_str I.kIn True.intro e (fun z => nomatch z) h
  | flt y => obtain ⟨t, q⟩ := (show ∃ t, u = Value.float y t from rx); cases q; exact PySem.W.kia_one PySem.W.kitx_float I.kIn True.intro e (fun z => nomatch z) h
  | @lst a xs ea =>
    cases (show u = Value.ref a from rx)
    obtain ⟨_, _, n, _, h1⟩ := (show ObjOk X.prog X.w H s.heap a (.lst xs) from I.hok a _ ea)
    exact PySem.W.kia_one PySem.W.kitx_list I.kIn ⟨_, h1, rfl⟩ e (fun z => nomatch z) h
  | @frz a ob xs ea =>
    cases (show u = Value.ref a from rx)
    obtain ⟨_, _, _, n, _, h1⟩ := (show ObjOk X.prog X.w H s.heap a (.frz ob (.lst xs)) from I.hok a _ ea)
    exact PySem.W.kia_one PySem.W.kitx_list I.kIn ⟨_, h1, rfl⟩ e (fun z => nomatch z) h
  | @tup a xs ea =>
    cases (show u = Value.ref a from rx)
    obtain ⟨_, _, _, p⟩ := (show ObjOk X.prog X.w H s.heap a (.tup xs) from I.hok a _ ea)
    obtain ⟨o, h1, h2, _⟩ := p
    exact PySem.W.kia_one PySem.W.kitx_tuple I.kIn ⟨o, h1, h2⟩ e (fun z => nomatch z) h
  | @dK a kvs ea =>
    cases (show u = Value.ref a from rx)
    obtain ⟨_, _, vs, _, p⟩ := (show ObjOk X.prog X.w H s.heap a (.dK kvs) from I.hok a _ ea)
    obtain ⟨o, es, ep, h1, h2, _⟩ := p
    exact PySem.W.kia_one PySem.W.kitx_dict I.kIn ⟨o, h1, h2.1⟩ e (fun z => nomatch z) h
  | @dT a kvs ea =>
    cases (show u = Value.ref a from rx)
    obtain ⟨_, _, xs, _, o, es, ep, h1, h2, _⟩ := (show ObjOk X.prog X.w H s.heap a (.dT kvs) from I.hok a _ ea)
    exact PySem.W.kia_one PySem.W.kitx_dict I.kIn ⟨o, h1, h2.1⟩ e (fun z => nomatch z) h
  | @ins a C dx fs ea cl ha hn htk hm =>
    cases (show u = Value.ref a from rx)
    obtain ⟨mA, O, _⟩ := ins_get I.hok ea
    obtain ⟨od, J, _⟩ := O.look
    exact PySem.W.kia_one (PySem.W.kitx_own (cl.get _) cl.hd ha hn htk hm) I.kIn J e (fun z => nomatch z) h
end
end L2
namespace L2
open PySem PySem.Spec PyProof.Rows
/-! ### room -/
structure Room (k : Nat) (A : Around) : Prop where
  hd : A.handled = none
  dp : A.depth + 3 * k + 5 < recursionLimit
  un : A.units + 16 * k + 200 < cLine
theorem Room.mono {j k : Nat} {A : Around} (r : Room k A) (h : j ≤ k) : Room j A := ⟨r.hd, by have := r.dp; omega, by have := r.un; omega⟩
theorem Room.deeper {k : Nat} {A : Around} (r : Room (k + 1) A) (env : Env) : Room k (A.deeper env) :=
  ⟨r.hd, by have := r.dp; show A.depth + 1 + 3 * k + 5 < _; omega, by have := r.un; show A.units + 3 + 16 * k + 200 < _; omega⟩
theorem make_depth {A : Around} {C : Addr} {us : List Value} {kw : List (Str × Value)} : (A.under (.builtin "type.__call__" ⟨.ref C :: us, kw⟩)).depth = A.depth + 1 := by
  first | rfl | simp [Around.under, Code.weight, Code.isCreation, Code.isGuard, Code.isCaller, Code.frames, Code.isFrame, guardIds]
theorem make_units {A : Around} {C : Addr} {us : List Value} {kw : List (Str × Value)} : (A.under (.builtin "type.__call__" ⟨.ref C :: us, kw⟩)).units = A.units + 1 := by
  first | rfl | simp [Around.under, Code.cUnits, Code.frames, Code.isFrame]
theorem Room.make {k : Nat} {A : Around} (r : Room (k + 1) A) (C : Addr) (us : List Value) (kw : List (Str × Value)) : Room k (A.under (.builtin "type.__call__" ⟨.ref C :: us, kw⟩)) :=
  ⟨r.hd, by have := r.dp; rw [make_depth]; omega, by have := r.un; rw [make_units]; omega⟩
theorem Room.depth {k : Nat} {A : Around} (r : Room k A) : A.depth < recursionLimit := by have := r.dp; omega
theorem Room.units {k : Nat} {A : Around} (r : Room k A) : A.units + 64 < cLine := by have := r.un; omega
/-! ### argument lists and displays -/
def tNil : TA := fun _ H Q => Q [] H
def tCons (ta : TE) (tr : TA) : TA := fun σ H Q => ta σ H fun x H1 => tr σ H1 fun xs H2 => Q (x :: xs) H2
section
variable {X : Cx} {e : Expr} {es : List Expr} {te : TE} {t : TA} {pos : Pos}
theorem pa_nil : PA X [] tNil := fun _ _ _ _ H Q I h => Calls.spliced_nil ⟨[], H, I, .nil, h⟩
theorem pa_cons (ha : PE X e te) (hr : PA X es t) (hs : starEach (e :: es) X.env = (false, eval e X.env) :: starEach es X.env := by rfl) : PA X (e :: es) (tCons te t) := by
  intro pos pins s σ H Q I h
  rw [hs]
  show wpAny _ _ (spliced ((false, eval e X.env) :: backTo pos (starEach es X.env))) _ _ s
  refine Calls.spliced_cons (thn (ha pins s σ H _ I h) fun u s1 ⟨x, H1, I1, r1, q1⟩ => ?_)
  exact thn (hr pos pins s1 σ H1 _ I1 q1) fun us s2 ⟨xs, H2, I2, r2, q2⟩ => ⟨x :: xs, H2, I2, .cons r1 r2, q2⟩
/-- a tuple, a list of written items -/
def tTup (t : TA) : TE := fun σ H Q => t σ H fun xs H1 => xs.length ≤ sizeLine ∧ ∀ p, H1 p = none → Q (.ref p) (upd H1 p (.tup xs))
def tLst (t : TA) : TE := fun σ H Q => t σ H fun xs H1 => xs.length ≤ sizeLine ∧ ∀ p, H1 p = none → Q (.ref p) (upd H1 p (.lst xs))
theorem pe_tup {x1} (h : PA X es t) : PE X (.Tuple es x1 pos) (tTup t) := by
  intro pins s σ H Q I hq
  refine wpAny_Tuple_spliced (thn (h pos pins s σ H _ I hq) fun us s1 ⟨xs, H1, I1, r, z, q⟩ => ⟨by rw [← r.length]; exact z, ?_⟩)
  have hf : H1 s1.heap.objs.size = none := I1.hok.fresh (Nat.le_refl _)
  refine ⟨.ref s1.heap.objs.size, upd H1 s1.heap.objs.size (.tup xs), I1.laid (t' := s1.toks) (fun b u e => Heap.get?_push_of_some _ e) (Nat.le_refl _) ?_, rfl, q _ hf⟩
  exact ⟨z, us, r, ⟨_, Heap.get?_push_size _ rfl, rfl, _, rfl⟩⟩
theorem pe_lst (h : PA X es t) : PE X (.List es pos) (tLst t) := by
  intro pins s σ H Q I hq
  refine wpAny_List_spliced (thn (h pos pins s σ H _ I hq) fun us s1 ⟨xs, H1, I1, r, z, q⟩ => ⟨by rw [← r.length]; exact z, ?_⟩)
  have hf : H1 s1.heap.objs.size = none := I1.hok.fresh (Nat.le_refl _)
  refine ⟨.ref s1.heap.objs.size, upd H1 s1.heap.objs.size (.lst xs), I1.laid (t' := s1.toks) (fun b u e => Heap.get?_push_of_some _ e) (Nat.le_refl _) ?_, rfl, q _ hf⟩
  exact ⟨z, us, 0, r, Heap.get?_push_size _ rfl⟩
end
/-! ### what a def promises -/
/-- a def's promise: the bound arguments in the parameters' order, the heap, the wanted end, the wanted exception -/
abbrev Sp := List V → Hp → VK → XK → Prop
/-- how an exception lies behind a call (file 08 gives it): the callers' frames, abstract heap and state ahead of the call, the wish, the exception, the state -/
abbrev CXT := List Env → Hp → Shared → XK → Value → Shared → Prop
/-- the state at a call -/
structure Env0 (P : Program) (w : World) (K : PySem.W.Frag) (mg : Str → Option Value) (base : Heap) (A : Around) (outer : List Env) (s : Shared) (H : Hp) : Prop where
  frames : A.frames = some outer
  mod : Mod K mg base
  bs : ∀ b o, base.get? b = some o → s.heap.get? b = some o ∧ H b = none
  bsz : base.objs.size ≤ s.heap.objs.size
  funs : s.heap.FunFrames base outer
  frf : ∀ b ∈ frs outer, H b = none
  hok : HOk P w H s.heap
  bare : AllBare s.gens
/-- a call's end -/
def CE (outer : List Env) (P : Program) (w : World) (H : Hp) (s : Shared) (Q : VK) (u : Value) (s' : Shared) : Prop :=
  ∃ v H', s'.os = s.os ∧ AllBare s'.gens ∧ Un (frs outer) [] H H' s.heap s'.heap ∧ HOk P w H' s'.heap ∧ RelV v u ∧ Q v H'
def CR (CX : CXT) (outer : List Env) (P : Program) (w : World) (H : Hp) (s : Shared) (Q : VK) (E : XK) (r : Result) (s' : Shared) : Prop :=
  match r with
  | .ok (.ret u) => CE outer P w H s Q u s'
  | .ok _ => False
  | .error e => CX outer H s E e s'
structure FnOk (P : Program) (w : World) (K : PySem.W.Frag) (mg : Str → Option Value) (base : Heap) (CX : CXT) (k : Nat) (f : Addr) (fd : FuncData) (ps : List Str) (sp : Sp) : Prop where
  len : ∀ vs H Q E, sp vs H Q E → vs.length = ps.length
  run : ∀ (A : Around) (outer : List Env) (s : Shared) (H : Hp) (args : Args) (us : List Value) (vs : List V) (Q : VK) (E : XK), Room k A → Env0 P w K mg base A outer s H → BindsTo s fd args (ps.zip us) → Vals vs us → sp vs H Q E →
    codeAny (model P w) A (.call (.ref f) args) (CR CX outer P w H s Q E) s
theorem FnOk.mono {P : Program} {w : World} {K : PySem.W.Frag} {mg : Str → Option Value} {base : Heap} {CX : CXT} {j k : Nat} {f : Addr} {fd : FuncData} {ps : List Str} {sp : Sp} (F : FnOk P w K mg base CX j f fd ps sp) (h : j ≤ k) :
    FnOk P w K mg base CX k f fd ps sp := ⟨F.len, fun A outer s H args us vs Q E hr => F.run A outer s H args us vs Q E (hr.mono h)⟩
theorem Env0.make {P : Program} {w : World} {K : PySem.W.Frag} {mg : Str → Option Value} {base : Heap} {A : Around} {outer : List Env} {s : Shared} {H : Hp} (e : Env0 P w K mg base A outer s H) (C : Addr) (us : List Value) (kw : List (Str × Value)) :
    Env0 P w K mg base (A.under (.builtin "type.__call__" ⟨.ref C :: us, kw⟩)) outer s H := ⟨by first | exact e.frames | (simpa [Around.under, Code.envs, Code.isFrame, pushEnvs] using e.frames), e.mod, e.bs, e.bsz, e.funs, e.frf, e.hok, e.bare⟩
section
variable {X : Cx} {pins : List (Addr × Obj)} {σ : St} {H : Hp} {s s' : Shared}
/-- from a body: what a callee wants -/
theorem Inv.env0 (I : Inv X pins σ H s) : Env0 X.prog X.w X.K X.mg X.base X.A X.stack s H :=
  ⟨I.ok.frames, I.ok.mod, I.bs, Nat.le_trans I.ok.bsz I.sz, I.stack, I.stkFree, I.hok, I.bare⟩
/-- behind a call -/
theorem Inv.after {Q : VK} {u : Value} (I : Inv X pins σ H s) (h : CE X.stack X.prog X.w H s Q u s') : EP X pins σ Q u s' := by
  obtain ⟨v, H', os, bare, un, hok, r, q⟩ := h
  obtain ⟨hh, g, d, t, os'⟩ := s'
  obtain rfl : os' = s.os := os
  exact ⟨v, H', I.call (h' := hh) (g' := g) (d' := d) (t' := t) (ch := []) un hok bare (fun b z => absurd z (by simp)), r, q⟩
end
/-! ### calls -/
/-- f(..): the written arguments, then the defaults dvs; E: what is wanted of an exception -/
def tCall (sp : Sp) (dvs : List V) (E : XK) (t : TA) : TE := fun σ H Q => t σ H fun vs H1 => sp (vs ++ dvs) H1 Q E
/-- o.m(..) of an instance of the class at C -/
def tMeth (C : Addr) (m : Str) (sp : Sp) (dvs : List V) (E : XK) (ta : TE) (t : TA) : TE := fun σ H Q => ta σ H fun x H1 => ∃ a dx fs, x = .ref a ∧ H1 a = some (.ins C dx fs) ∧ fs.lookup m = none ∧
  t σ H1 fun vs H2 => sp (x :: (vs ++ dvs)) H2 Q E
/-- C(..): a new instance and its dict, then __init__ -/
def tMake (C : Addr) (sp : Sp) (dvs : List V) (E : XK) (t : TA) : TE := fun σ H Q => t σ H fun vs H1 => ∀ x dx, H1 x = none → H1 dx = none → dx ≠ x →
  sp (.ref x :: (vs ++ dvs)) (upd (upd H1 dx (.own x)) x (.ins C dx [])) (fun v H2 => v = .non ∧ Q (.ref x) H2) E
/-- how the parameters are bound: us the positional arguments, kw the keywords' values by name, ds the defaults that fill up -/
def Binds (K : PySem.W.Frag) (fd : FuncData) (ps : List Str) (ds : List Value) : Prop :=
  ∀ (s : Shared) (us : List Value), K.In s.heap → (us ++ ds).length = ps.length → BindsTo s fd ⟨us, []⟩ (ps.zip (us ++ ds))
/-- every parameter is given -/
theorem Binds.all {K : PySem.W.Frag} {fd : FuncData} {ps : List Str} (h : ∀ us : List Value, us.length = ps.length → bindArgs fd ⟨us, []⟩ = pure (ps.zip us)) : Binds K fd ps [] := fun s us _ hl => by
  rw [List.append_nil] at hl ⊢
  exact .of_eq (h us hl)
/-- an exception of a callee reaches what this body wants of exceptions -/
def Passes (CX : CXT) (X : Cx) (E : XK) : Prop := ∀ (pins : List (Addr × Obj)) (σ : St) (H : Hp) (s : Shared) (e : Value) (s' : Shared), Inv X pins σ H s → CX X.stack H s E e s' → X.xe e s'
section
variable {X : Cx} {CX : CXT} {k : Nat} {f C : Addr} {fd : FuncData} {ps : List Str} {sp : Sp} {dvs : List V} {ds : List Value} {E : XK} {x m : Str} {p pos apos : Pos} {e o : Expr} {es : List Expr} {ta : TE} {t : TA}
/-- the callee runs -/
theorem run_fn {pins : List (Addr × Obj)} {σ : St} {H : Hp} {s : Shared} {Q : VK} {us : List Value} {vs : List V} (F : FnOk X.prog X.w X.K X.mg X.base CX k f fd ps sp) (hr : Room k X.A) (hb : Binds X.K fd ps ds) (hd : Vals dvs ds) (hx : Passes CX X E)
    (I : Inv X pins σ H s) (r : Vals vs us) (h : sp (vs ++ dvs) H Q E) : wpAny (model X.prog X.w) X.A (call (.ref f) us) (EP X pins σ Q) X.xe s := by
  have r2 : Vals (vs ++ dvs) (us ++ ds) := r.append hd
  have hl : (us ++ ds).length = ps.length := by rw [← r2.length]; exact F.len _ _ _ _ h
  refine wpAny_call (codeAny_mono (F.run X.A X.stack s H ⟨us, []⟩ (us ++ ds) (vs ++ dvs) Q E hr I.env0 (hb s us I.kIn hl) r2 h) fun r s' hq => ?_)
  cases r with
  | error e => exact hx pins σ H s e s' I hq
  | ok fl =>
    cases fl with
    | ret u => exact I.after hq
    | next => exact False.elim hq
    | brk => exact False.elim hq
    | cont => exact False.elim hq
theorem pe_call (F : FnOk X.prog X.w X.K X.mg X.base CX k f fd ps sp) (hr : Room k X.A) (hg : Gl X x) (hm : X.mg x = some (.ref f)) (hk : PySem.W.keepIn X.K (.ref f) = true) (hb : Binds X.K fd ps ds) (hd : Vals dvs ds) (hx : Passes CX X E)
    (ha : PA X (e :: es) t) (hdb : (x == ("__debug__" : Str)) = false := by decide) (he : starEach (e :: es) X.env = (false, eval e X.env) :: starEach es X.env := by rfl) (hpl : (backTo pos (starEach es X.env)).any (·.1) = false := by rfl) :
    PE X (.Call (.Name x p) (e :: es) [] pos) (tCall sp dvs E t) := by
  intro pins s σ H Q I h
  refine wpAny_Call_Name_kw (ld_glob I hg hm ?_ hdb)
  refine PySem.W.callWith_K (h₀ := X.base) I.ok.mod.kin hk (thn (ha pos pins s σ H _ I h) fun us s1 ⟨vs, H1, I1, r, q⟩ => ⟨I1.kIn, ?_⟩) he hpl
  exact run_fn F hr hb hd hx I1 r q
/-- o.m(e, ..) -/
theorem pe_meth {pl : Sem Bool} (he : PE X o ta) (c : Cls X.K C) (hm : Meth X.K C m f) (F : FnOk X.prog X.w X.K X.mg X.base CX k f fd ps sp) (hr : Room k X.A) (hb : Binds X.K fd ps ds) (hd : Vals dvs ds) (hx : Passes CX X E) (ha : PA X (e :: es) t)
    (hst : starEach (e :: es) X.env = (false, eval e X.env) :: starEach es X.env := by rfl) (hpl : (backTo pos (starEach es X.env)).any (·.1) = false := by rfl)
    (ht : eval (.Call (.Attribute o m apos) (e :: es) [] pos) X.env = (do
      let ov ← eval o X.env
      standAt apos.atName
      let (f, first) ← holding [ov] (getMethod ov m pl)
      callWith pos f first (backTo pos (starEach (e :: es) X.env)) (backToKw pos (keywordEach [] X.env))) := by rfl) :
    PE X (.Call (.Attribute o m apos) (e :: es) [] pos) (tMeth C m sp dvs E ta t) := by
  intro pins s σ H Q I h
  refine PySem.W.methodCall_KW (pl := pl) (thn (he pins s σ H _ I h) fun u s1 ⟨x, H1, I1, rx, a, dx, fs, ex, ea, l, q⟩ => ?_) ht
  subst ex
  obtain rfl : u = Value.ref a := rx
  refine getmeth_ok I1 ea c hm l ?_
  refine PySem.W.callWith_K (first := [.ref a]) (h₀ := X.base) I.ok.mod.kin hm.kp (thn (ha pos pins s1 σ H1 _ I1 q) fun us s2 ⟨vs, H2, I2, r, q2⟩ => ⟨I2.kIn, ?_⟩) hst hpl
  exact run_fn (us := .ref a :: us) (vs := .ref a :: vs) F hr hb hd hx I2 (.cons rfl r) q2
/-- what a class must have to be made -/
structure Mk (K : PySem.W.Frag) (C f : Addr) : Prop where
  makes : PySem.W.makesIn K C = true
  init : PySem.W.findIn K (.ref C) "__init__" = some (some (.ref f))
  fn : PySem.W.isFn K (.ref f) = true
  kp : PySem.W.keepIn K (.ref C) = true
theorem run_make {pins : List (Addr × Obj)} {σ : St} {H : Hp} {s : Shared} {Q : VK} {us : List Value} {vs : List V} (M : Mk X.K C f) (F : FnOk X.prog X.w X.K X.mg X.base CX k f fd ps sp) (hr : Room (k + 1) X.A) (hb : Binds X.K fd ps ds) (hd : Vals dvs ds)
    (hx : Passes CX X E) (I : Inv X pins σ H s) (r : Vals vs us)
    (h : ∀ x dx, H x = none → H dx = none → dx ≠ x → sp (.ref x :: (vs ++ dvs)) (upd (upd H dx (.own x)) x (.ins C dx [])) (fun v H2 => v = .non ∧ Q (.ref x) H2) E) :
    wpAny (model X.prog X.w) X.A (call (.ref C) us) (EP X pins σ Q) X.xe s := by
  have hq := h (s.heap.objs.size + 1) s.heap.objs.size (I.hok.fresh (Nat.le_succ _)) (I.hok.fresh (Nat.le_refl _)) (Nat.ne_of_lt (Nat.lt_succ_self _))
  have I2 := Inv.made (C := C) I
  have r2 : Vals (V.ref (s.heap.objs.size + 1) :: (vs ++ dvs)) (Value.ref (s.heap.objs.size + 1) :: (us ++ ds)) := .cons rfl (r.append hd)
  have hl : (Value.ref (s.heap.objs.size + 1) :: us ++ ds).length = ps.length := by
    have e := r2.length
    rw [F.len _ _ _ _ hq] at e
    exact e.symm
  refine wpAny_call (make_map (f := f) I.kIn M.makes M.init (beq_iff_eq.mp M.fn) (codeAny_mono (F.run _ X.stack _ _ ⟨Value.ref (s.heap.objs.size + 1) :: us, []⟩ (Value.ref (s.heap.objs.size + 1) :: (us ++ ds)) _ _ E (hr.make C us [])
    (I2.env0.make C us []) (hb _ (Value.ref (s.heap.objs.size + 1) :: us) I2.kIn hl) r2 hq) fun r s' hq' => ?_))
  cases r with
  | error e => exact hx pins σ _ _ e s' I2 hq'
  | ok fl =>
    cases fl with
    | ret u =>
      obtain ⟨v, H', I3, rv, ev, q3⟩ := I2.after hq'
      subst ev
      exact ⟨rv, ⟨V.ref (s.heap.objs.size + 1), H', I3, rfl, q3⟩⟩
    | next => exact False.elim hq'
    | brk => exact False.elim hq'
    | cont => exact False.elim hq'
theorem pe_make (M : Mk X.K C f) (F : FnOk X.prog X.w X.K X.mg X.base CX k f fd ps sp) (hr : Room (k + 1) X.A) (hg : Gl X x) (hm : X.mg x = some (.ref C)) (hb : Binds X.K fd ps ds) (hd : Vals dvs ds) (hx : Passes CX X E)
    (ha : PA X (e :: es) t) (hdb : (x == ("__debug__" : Str)) = false := by decide) (he : starEach (e :: es) X.env = (false, eval e X.env) :: starEach es X.env := by rfl) (hpl : (backTo pos (starEach es X.env)).any (·.1) = false := by rfl) :
    PE X (.Call (.Name x p) (e :: es) [] pos) (tMake C sp dvs E t) := by
  intro pins s σ H Q I h
  refine wpAny_Call_Name_kw (ld_glob I hg hm ?_ hdb)
  refine PySem.W.callWith_K (h₀ := X.base) I.ok.mod.kin M.kp (thn (ha pos pins s σ H _ I h) fun us s1 ⟨vs, H1, I1, r, q⟩ => ⟨I1.kIn, ?_⟩) he hpl
  exact run_make M F hr hb hd hx I1 r q
end
/-! ### keywords -/
section
variable {X : Cx} {CX : CXT} {k : Nat} {f C : Addr} {fd : FuncData} {ps ks : List Str} {sp : Sp} {E : XK} {x m : Str} {p pos apos kpos : Pos} {e o : Expr} {es : List Expr} {kws : List Keyword} {te ta : TE} {t tk : TA} {nm : Option Str}
variable {g : List Value → List Value → List Value} {gV : List V → List V → List V}
end
/-! ### a def's body keeps its promise -/
/-- names: the parameters first -/
structure FnScope (N P : List Str) (sc : Scope) : Prop where
  kind : sc.kind = .function
  co : sc.isCoroutine = false
  gen : sc.isGenerator = false
  nd : N.Nodup
  pre : N.take P.length = P
  par : ∀ x ∈ P, sc.names.lookup x = some .local ∨ sc.names.lookup x = some .cell
  nofree : ∀ y ∈ sc.names, y.2 ≠ .free
theorem bindL_out {kindOf : Str → Option NameKind} {x : Str} : ∀ {binds : List (Str × Value)} {m : Str → Option Value}, (∀ v, (x, v) ∉ binds) → bindL kindOf binds m x = m x
  | [], _, _ => rfl
  | (n, v) :: r, m, h => by
    unfold bindL
    rw [bindL_out fun w hw => h w (List.mem_cons_of_mem _ hw)]
    split
    · have : x ≠ n := by rintro rfl; exact h v List.mem_cons_self
      simp [this]
    · rfl
theorem bindC_out {kindOf : Str → Option NameKind} {x : Str} : ∀ {binds : List (Str × Value)} {m : Str → Option Value}, (∀ v, (x, v) ∉ binds) → bindC kindOf binds m x = m x
  | [], _, _ => rfl
  | (n, v) :: r, m, h => by
    unfold bindC
    rw [bindC_out fun w hw => h w (List.mem_cons_of_mem _ hw)]
    split
    · rfl
    · have : x ≠ n := by rintro rfl; exact h v List.mem_cons_self
      simp [this]
theorem bindL_get {kindOf : Str → Option NameKind} {x : Str} {v : Value} : ∀ {P : List Str} {vs : List Value} {i : Nat} {m : Str → Option Value}, P.Nodup → P[i]? = some x → vs[i]? = some v → kindOf x = some .local →
    bindL kindOf (P.zip vs) m x = some v
  | [], _, _, _, _, h, _, _ => by simp at h
  | _ :: _, [], _, _, _, _, h, _ => by simp at h
  | p :: P, w :: vs, 0, m, nd, h1, h2, hk => by
    simp at h1 h2; subst h1; subst h2
    show bindL kindOf ((p, w) :: P.zip vs) m p = _
    unfold bindL
    rw [bindL_out fun v hv => (List.nodup_cons.mp nd).1 (List.of_mem_zip hv).1, if_pos hk]
    simp
  | p :: P, w :: vs, i + 1, m, nd, h1, h2, hk => by
    show bindL kindOf ((p, w) :: P.zip vs) m x = _
    unfold bindL
    exact bindL_get (i := i) (List.nodup_cons.mp nd).2 (by simpa using h1) (by simpa using h2) hk
theorem bindC_get {kindOf : Str → Option NameKind} {x : Str} {v : Value} : ∀ {P : List Str} {vs : List Value} {i : Nat} {m : Str → Option Value}, P.Nodup → P[i]? = some x → vs[i]? = some v → kindOf x ≠ some .local →
    bindC kindOf (P.zip vs) m x = some v
  | [], _, _, _, _, h, _, _ => by simp at h
  | _ :: _, [], _, _, _, _, h, _ => by simp at h
  | p :: P, w :: vs, 0, m, nd, h1, h2, hk => by
    simp at h1 h2; subst h1; subst h2
    show bindC kindOf ((p, w) :: P.zip vs) m p = _
    unfold bindC
    rw [bindC_out fun v hv => (List.nodup_cons.mp nd).1 (List.of_mem_zip hv).1, if_neg hk]
    simp
  | p :: P, w :: vs, i + 1, m, nd, h1, h2, hk => by
    show bindC kindOf ((p, w) :: P.zip vs) m x = _
    unfold bindC
    exact bindC_get (i := i) (List.nodup_cons.mp nd).2 (by simpa using h1) (by simpa using h2) hk
/-- the names' values at the entry -/
def start (N : List Str) (vs : List V) : St := vs.map some ++ List.replicate (N.length - vs.length) none
/-- the context of a def's body, at its entry; an exception leaves the frame, then lies as CX says -/
def cxOf (CX : CXT) (P : Program) (w : World) (K : PySem.W.Frag) (mg : Str → Option Value) (base : Heap) (N : List Str) (qual : Str) (scope : Scope) (f : Addr) (cd : Value) (A : Around) (outer : List Env) (s : Shared) (H : Hp) (E : XK) : Cx where
  prog := P
  w := w
  K := K
  mg := mg
  base := base
  A := A.deeper (envOfC qual scope s.heap.objs.size f cd)
  N := N
  s₀ := s
  H₀ := H
  env := envOfC qual scope s.heap.objs.size f cd
  outer := outer
  stack := envOfC qual scope s.heap.objs.size f cd :: outer
  ex := []
  calm := true
  fn := fun _ => true
  pn := []
  xe := fun e s' => wpAny (model P w) (A.deeper (envOfC qual scope s.heap.objs.size f cd)) (leaving (envOfC qual scope s.heap.objs.size f cd) e) (fun _ s'' => CX outer H s E e s'') (fun e' s'' => CX outer H s E e' s'') s'
theorem cell_has {sc : Scope} {n : Nat} {x : Str} (h : sc.names.lookup x = some .cell) : ∃ c, (cellsFrom n sc.names []).lookup x = some c := by
  have q := PySem.W.cellsFrom_some sc.names n [] (.inl h)
  exact Option.isSome_iff_exists.mp q
theorem inv_start {CX : CXT} {P : Program} {w : World} {K : PySem.W.Frag} {mg : Str → Option Value} {base : Heap} {N ps : List Str} {qual : Str} {scope : Scope} {f : Addr} {cd : Value} {A : Around} {outer : List Env} {s s1 : Shared} {H : Hp} {E : XK} {us : List Value} {vs : List V}
    (S : FnScope N ps scope) (hd : A.handled = none) (e0 : Env0 P w K mg base A outer s H) (hl : vs.length = ps.length) (r : Vals vs us)
    (x : InCallC s s.heap.objs.size (bindL (envOfC qual scope s.heap.objs.size f cd).kindOf (ps.zip us) fun _ => none) (cellsFrom (s.heap.objs.size + 1) scope.names []) (bindC (envOfC qual scope s.heap.objs.size f cd).kindOf (ps.zip us) fun _ => none) s1) :
    Inv (cxOf CX P w K mg base N qual scope f cd A outer s H E) [] (start N vs) H s1 := by
  have hpl : ps.length ≤ N.length := by have := congrArg List.length S.pre; rw [List.length_take] at this; omega
  obtain ⟨h1, tk, rfl, hk⟩ := x.done
  have noA : ∀ b : Addr, b ∉ (cxOf CX P w K mg base N qual scope f cd A outer s H E).ex := fun b z => absurd (show b ∈ ([] : List Addr) from z) (by simp)
  refine ⟨⟨e0.mod, S.kind, rfl, rfl, Nat.le_refl _, fun y z c h1 h2 => ?_, fun y hy => ?_, fun y c _ h => ?_, fun _ => hd, Around.frames_deeper e0.frames, .inr ⟨rfl, rfl⟩, fun b z => absurd z (noA b), e0.bs, e0.bsz, fun b _ _ => noA b, fun b z => absurd z (noA b), e0.funs, e0.frf⟩,
    rfl, e0.bare, Un.kept hk, ⟨_, x.toInCall.ns, fun i y v h1 h2 h3 => ?_⟩, fun y c h => ⟨_, x.cell y c h⟩, e0.hok.fresh (Nat.le_refl _), fun y c h => ?_, fun p hp => absurd (show p ∈ ([] : List (Addr × Obj)) from hp) (by simp), e0.hok.kept hk, ?_⟩
  · exact name_of_addr x.apart (PySem.mem_of_lookup h1) (PySem.mem_of_lookup h2)
  · have hy : scope.names.lookup y = some .cell ∨ scope.names.lookup y = some .free := hy
    rcases hy with hy | hy
    · exact cell_has hy
    · exact absurd rfl (S.nofree _ (PySem.mem_of_lookup hy))
  · exact Nat.le_of_lt (x.above y c (PySem.mem_of_lookup h))
  · have hi : i < vs.length := by
      unfold start at h2
      by_cases hi : i < vs.length
      · exact hi
      · rw [List.getElem?_append_right (by simpa using hi)] at h2
        rw [List.getElem?_replicate] at h2
        split at h2 <;> cases h2
    have ha : vs[i]? = some v := by
      unfold start at h2
      rw [List.getElem?_append_left (by simpa using hi), List.getElem?_map] at h2
      cases e : vs[i]? with
      | none => rw [e] at h2; cases h2
      | some a => rw [e] at h2; cases h2; rfl
    obtain ⟨u, hu, rv⟩ := r.get ha
    have hp : ps[i]? = some y := by
      rw [← S.pre, List.getElem?_take_of_lt (by omega)]; exact h1
    have ndP : ps.Nodup := by rw [← S.pre]; exact S.nd.sublist (List.take_sublist _ _)
    refine ⟨u, rv, ?_⟩
    rcases S.par y (List.mem_of_getElem? hp) with k | k
    · exact .inl ⟨k, bindL_get ndP hp hu k⟩
    · obtain ⟨c, e⟩ := cell_has (n := s.heap.objs.size + 1) k
      refine .inr ⟨.inl k, c, e, ?_⟩
      have q := x.cell y c e
      rw [bindC_get ndP hp hu (by show scope.names.lookup y ≠ _; rw [k]; decide)] at q
      exact q
  · exact e0.hok.fresh (Nat.le_of_lt (x.above y c (PySem.mem_of_lookup h)))
  · unfold start
    show _ = N.length
    rw [List.length_append, List.length_map, List.length_replicate]
    omega
/-- THE RULE: a def (or a method) of the text, by its body. The body's reading t is chosen for each entry; it is run at the parameters' values -/
theorem fn_of {CX : CXT} {P : Program} {w : World} {K : PySem.W.Frag} {mg : Str → Option Value} {base : Heap} {k : Nat} {f : Addr} {name qual : Str} {params : Arguments} {body : List Stmt} {scope : Scope} {dV kV doc pm cdv ct oc : Value} {an od : Option Addr}
    {osl : Array (Option Value)} {N ps : List Str} {sp : Sp} (lk : K.lookup f = some ⟨oc, od, .func (PySem.W.fnOf name qual params body scope dV kV doc pm an cdv ct), osl⟩) (hcd : PySem.W.codeIn K cdv qual = true) (S : FnScope N ps scope)
    (len : ∀ vs H Q E, sp vs H Q E → vs.length = ps.length)
    (hbody : ∀ (A : Around) (outer : List Env) (s : Shared) (H : Hp) (vs : List V) (Q : VK) (E : XK), Room k (A.deeper (envOfC qual scope s.heap.objs.size f cdv)) → sp vs H Q E →
      ∃ t, PSs (cxOf CX P w K mg base N qual scope f cdv A outer s H E) body t ∧ t { nx := fun _ H' => Q .non H', rt := Q } (start N vs) H) :
    FnOk P w K mg base CX (k + 1) f (PySem.W.fnOf name qual params body scope dV kV doc pm an cdv ct) ps sp := by
  refine ⟨len, fun A outer s H args us vs Q E hr e0 hb r hsp => ?_⟩
  have hl := len _ _ _ _ hsp
  have KX : K.In s.heap := e0.mod.kin.keeps fun b o e => (e0.bs b o e).1
  have lim : s.heap.NoLimit := e0.mod.nolimit.keeps fun b o e => (e0.bs b o e).1
  have hkind : ∀ y ∈ ps.zip us, scope.names.lookup y.1 = some .local ∨ (scope.names.lookup y.1 = some .cell ∧ ((cellsFrom (s.heap.objs.size + 1) scope.names []).lookup y.1).isSome = true) := fun ⟨n, v⟩ hy => by
    rcases S.par n (List.of_mem_zip hy).1 with q | q
    · exact .inl q
    · exact .inr ⟨q, PySem.W.cellsFrom_some _ _ _ (.inl q)⟩
  refine codeAny_call_function hr.depth (KX _ _ lk) rfl S.co S.gen rfl (PySem.W.codeRec_of KX hcd) (hb _ _ _ _ ?_)
  refine wpAny_newFunctionEnv_cells S.kind hkind fun env he s1 x => ?_
  subst he
  refine ⟨lim.keeps x.toInCall.keep, codeAny_func ?_⟩
  obtain ⟨t, ht, hq⟩ := hbody A outer s H vs Q E (hr.deeper _) hsp
  have I : Inv (cxOf CX P w K mg base N qual scope f cdv A outer s H E) [] (start N vs) H s1 := inv_start S hr.hd e0 hl r x
  refine wpAny_mono (ht [] s1 (start N vs) H _ I hq) (fun fl s' hs => ?_) fun e s' hs => hs
  have fin : ∀ {σ' : St} {H' : Hp} {v : V} {u : Value}, Inv (cxOf CX P w K mg base N qual scope f cdv A outer s H E) [] σ' H' s' → RelV v u → Q v H' → CE outer P w H s Q u s' :=
    fun {σ' H' v u} J rv q => ⟨v, H', J.os, J.bare, J.base, J.hok, rv, q⟩
  cases fl with
  | ret u =>
    obtain ⟨v, σ', H', J, rv, q⟩ := hs
    exact fin J rv q
  | next =>
    obtain ⟨σ', H', J, q⟩ := hs
    exact fin (v := V.non) (u := Value.none) J rfl q
  | brk =>
    obtain ⟨_, _, _, q⟩ := hs
    exact False.elim q
  | cont =>
    obtain ⟨_, _, _, q⟩ := hs
    exact False.elim q
end L2
namespace L2
open PySem PySem.Spec PyProof.Rows
section
variable {X : Cx} {x : Str} {p pos : Pos} {e : Expr} {es : List Expr} {t : TA} {id T : String} {r : List V → Hp → VK → Prop}
def tCB (r : List V → Hp → VK → Prop) (t : TA) : TE := fun σ H Q => t σ H fun vs H1 => r vs H1 Q
/-- f(e, ..), f a built-in function -/
theorem pe_callB (hc : CallR X (.builtin id) r) (hg : Gl X x) (hm : X.mg x = none) (hv : bootBuiltins x = some (.builtin id)) (ha : PA X (e :: es) t) (hn : x ≠ "__name__" := by decide) (hdb : (x == ("__debug__" : Str)) = false := by decide)
    (he : starEach (e :: es) X.env = (false, eval e X.env) :: starEach es X.env := by rfl) (hpl : (backTo pos (starEach es X.env)).any (·.1) = false := by rfl) : PE X (.Call (.Name x p) (e :: es) [] pos) (tCB r t) := by
  intro pins s σ H Q I h
  refine wpAny_Call_Name_kw (ld_blt I hg hm hv ?_ hn hdb)
  exact PyProof.Rows.callWith_builtin1 (thn (ha pos pins s σ H _ I h) fun us s1 ⟨vs, H1, I1, r1, q1⟩ => hc pins s1 σ H1 vs us Q I1 r1 q1) he hpl
end
end L2
namespace HT
open PySem PyProof.Rows
section
open PySem.SeqAt
open PySem.AutoSeq1 (wpAny_loadPart')
open PySem.MeetsSeq PySem.MeetsSeq2 PySem.MeetsSeq3
end
section
variable {prog : Program} {w : World} {A : Around} {E : Value → Shared → Prop} {s : Shared}
/-! ### t[a:b], not the whole -/
/-- a slice's bound as a place among n (d where it is left out) -/
def sIx (n d : Nat) : Option Int → Nat
  | none => d
  | some v => if v < 0 then (v + (n : Int)).toNat else min v.toNat n
end
end HT
namespace L2
open PySem PySem.Spec PyProof.Rows
/-! ### the parts of a slice -/
abbrev TO := St → Hp → (Option Int → Hp → Prop) → Prop
/-- a slice's part (left out, or an int) -/
def PO (X : Cx) (e : Option Expr) (t : TO) : Prop :=
  ∀ (pins : List (Addr × Obj)) (s : Shared) (σ : St) (H : Hp) (Q : Option Int → Hp → Prop), Inv X pins σ H s → t σ H Q →
    wpAny (model X.prog X.w) X.A (evalPart e X.env) (fun u s' => ∃ o H', Inv X pins σ H' s' ∧ IsPart u o ∧ Q o H') X.xe s
def tNoPart : TO := fun _ H Q => Q none H
def tPart (t : TE) : TO := fun σ H Q => t σ H fun x H1 => ∃ i, x = .int i ∧ Q (some i) H1
section
variable {X : Cx} {e : Expr} {te : TE} {lo hi : Option Expr} {tl th : TO} {pos p2 : Pos}
theorem po_none : PO X none tNoPart := by
  intro pins s σ H Q I h
  rw [evalPart_none]
  exact wpAny_pure ⟨none, H, I, .none, h⟩
theorem po_some (h : PE X e te) : PO X (some e) (tPart te) := by
  intro pins s σ H Q I hw
  rw [evalPart_some]
  refine thn (h pins s σ H _ I hw) fun u s1 ⟨x, H1, I1, r1, q1⟩ => ?_
  obtain ⟨i, rfl, q⟩ := q1
  obtain ⟨t, rfl⟩ := r1
  exact ⟨some i, H1, I1, .int i t, q⟩
/-- what a slice of a value is, by values: the slice object stands at sl -/
def SlR (X : Cx) (r : V → Option Int → Option Int → Hp → VK → Prop) : Prop :=
  ∀ (pins : List (Addr × Obj)) (s : Shared) (σ : St) (H : Hp) (x : V) (v vl vu : Value) (lo hi : Option Int) (sl : Addr) (Q : VK), Inv X pins σ H s → RelV x v → s.heap.IsSliceOf sl vl vu .none → IsPart vl lo → IsPart vu hi → r x lo hi H Q →
    ∃ T id, typeLookup (.type T) "__getitem__" = pure (some (.builtin id)) ∧ s.TypeIs v T ∧ wpAny (model X.prog X.w) X.A (getItem v (.ref sl)) (EP X pins σ Q) X.xe s
def tSl (r : V → Option Int → Option Int → Hp → VK → Prop) (te : TE) (tl th : TO) : TE := fun σ H Q => te σ H fun x H1 => tl σ H1 fun l H2 => th σ H2 fun u H3 => r x l u H3 Q
/-- a[lo:hi], any a -/
theorem pe_slice {r : V → Option Int → Option Int → Hp → VK → Prop} (hr : SlR X r) (he : PE X e te) (hl : PO X lo tl) (hu : PO X hi th) : PE X (.Subscript e (.Slice lo hi none p2) pos) (tSl r te tl th) := by
  intro pins s σ H Q I h
  refine Subscript_ (thn (he pins s σ H _ I h) fun v s1 ⟨x, H1, I1, r1, q1⟩ => ?_)
  refine wpAny_Slice (thn (hl pins s1 σ H1 _ I1 q1) fun vl s2 ⟨l, H2, I2, pl, q2⟩ => thn (hu pins s2 σ H2 _ I2 q2) fun vu s3 ⟨u, H3, I3, pu, q3⟩ => ?_)
  rw [evalPart_none]
  refine wpAny_pure ?_
  have I4 : Inv X pins σ H3 { s3 with heap := s3.heap.push { cls := .type "slice", data := .fields #[vl, vu, .none] } } := I3.kept (t' := s3.toks) fun b ob q => Heap.get?_push_of_some _ q
  obtain ⟨T, id, hT, ht, hg⟩ := hr pins { s3 with heap := s3.heap.push { cls := .type "slice", data := .fields #[vl, vu, .none] } } σ H3 x v vl vu l u s3.heap.objs.size Q I4 r1 (Heap.IsSliceOf.new ..) pl pu q3
  show wpAny (model X.prog X.w) X.A (subscriptTail e (.Slice lo hi none p2) v (.ref s3.heap.objs.size)) (EP X pins σ Q) X.xe { s3 with heap := s3.heap.push { cls := .type "slice", data := .fields #[vl, vu, .none] } }
  exact tail_any (ops := [.ref s3.heap.objs.size, v]) ht hT hg (by with_unfolding_all rfl)
/-- the items of xs[lo:hi] -/
def cutV (xs : List V) (lo hi : Option Int) : List V := (xs.drop (HT.sIx xs.length 0 lo)).take (HT.sIx xs.length xs.length hi - HT.sIx xs.length 0 lo)
theorem cutV_length (xs : List V) (lo hi : Option Int) : (cutV xs lo hi).length ≤ xs.length := by
  unfold cutV
  rw [List.length_take, List.length_drop]
  omega
/-! ### t < u, t + u -/
end
end L2
namespace L2
open PySem PySem.Spec PyProof.Rows
/-! ### places -/
/-- the place that an index of any sign means -/
def ixN (n : Nat) (i : Int) : Option Nat := if 0 ≤ i then (if i < n then some i.toNat else none) else if -(n : Int) ≤ i then some (i + n).toNat else none
def atI {α : Type} (xs : List α) (i : Int) : Option α := (ixN xs.length i).bind fun j => xs[j]?
theorem ixN_seq {n : Nat} {i : Int} {j : Nat} (h : ixN n i = some j) : seqIndex? i n = some j ∧ j < n ∧ -(n : Int) ≤ i ∧ i < n := by
  unfold ixN at h
  by_cases h0 : 0 ≤ i
  · rw [if_pos h0] at h
    by_cases h1 : i < n
    · rw [if_pos h1] at h
      have e : i.toNat = j := Option.some.inj h
      exact ⟨by rw [seqIndex_of h0 h1, e], by omega, by omega, h1⟩
    · rw [if_neg h1] at h; cases h
  · rw [if_neg h0] at h
    by_cases h1 : -(n : Int) ≤ i
    · rw [if_pos h1] at h
      have e : (i + n).toNat = j := Option.some.inj h
      exact ⟨by rw [seqIndex_neg (by omega) h1, e], by omega, h1, by omega⟩
    · rw [if_neg h1] at h; cases h
theorem atI_get {α : Type} {xs : List α} {i : Int} {v : α} (h : atI xs i = some v) : ∃ j, seqIndex? i xs.length = some j ∧ xs[j]? = some v ∧ j < xs.length ∧ -(xs.length : Int) ≤ i ∧ i < xs.length := by
  unfold atI at h
  cases e : ixN xs.length i with
  | none => rw [e] at h; cases h
  | some j =>
    rw [e] at h
    obtain ⟨h1, h2, h3, h4⟩ := ixN_seq e
    exact ⟨j, h1, h, h2, h3, h4⟩
theorem atI_nat {α : Type} {xs : List α} {j : Nat} {v : α} (h : xs[j]? = some v) : atI xs (j : Int) = some v := by
  have hj : j < xs.length := (List.getElem?_eq_some_iff.mp h).1
  have e : ixN xs.length (j : Int) = some j := by
    unfold ixN
    rw [if_pos (by omega), if_pos (by omega)]; simp
  unfold atI; rw [e]; exact h
theorem atI_last {α : Type} (xs : List α) (v : α) : atI (xs ++ [v]) (-1) = some v := by
  have hl : (xs ++ [v]).length = xs.length + 1 := by simp
  have e : ixN (xs ++ [v]).length (-1) = some xs.length := by
    unfold ixN
    rw [hl, if_neg (by decide), if_pos (by omega)]
    congr 1
    omega
  unfold atI
  rw [e]
  show (xs ++ [v])[xs.length]? = some v
  simp
/-! ### what may be subscripted -/
/-- what stands as an index of a plain subscript -/
def PlainIx (b : Expr) : Prop := ∀ o i, subscripted b false o i = operate [o, i] (getItem o i)
/-- a subscript by values -/
def IxR (X : Cx) (r : R2) : Prop :=
  ∀ (value slice : Expr) (pins : List (Addr × Obj)) (s : Shared) (σ : St) (H : Hp) (x y : V) (v u : Value) (Q : VK), Inv X pins σ H s → RelV x v → RelV y u → r x y H Q →
    subscripted slice false v u = operate [v, u] (getItem v u) → wpAny (model X.prog X.w) X.A (subscriptTail value slice v u) (EP X pins σ Q) X.xe s
/-- a call of a builtin's method by values: the receiver, the arguments -/
def MtR (X : Cx) (id : String) (r : V → List V → Hp → VK → Prop) : Prop :=
  ∀ (pins : List (Addr × Obj)) (s : Shared) (σ : St) (H : Hp) (x : V) (xs : List V) (v : Value) (us : List Value) (Q : VK), Inv X pins σ H s → RelV x v → Vals xs us → r x xs H Q →
    wpAny (model X.prog X.w) X.A (call (.builtin id) (v :: us)) (EP X pins σ Q) X.xe s
section
variable {X : Cx} {a b : Expr} {ta tb : TE} {pos : Pos}
theorem IxR.or {r r' : R2} (h : IxR X r) (h' : IxR X r') : IxR X (fun x y H Q => r x y H Q ∨ r' x y H Q) := by
  intro value slice pins s σ H x y v u Q I rx ry q hs
  rcases q with q | q
  · exact h value slice pins s σ H x y v u Q I rx ry q hs
  · exact h' value slice pins s σ H x y v u Q I rx ry q hs
/-- a[b] -/
theorem pe_ix {r : R2} (hr : IxR X r) (ha : PE X a ta) (hb : PE X b tb) (hs : PlainIx b) : PE X (.Subscript a b pos) (tOp r ta tb) := by
  intro pins s σ H Q I h
  exact Subscript_ (binT ha hb I h fun v u s2 x y H2 I2 rx ry q => hr a b pins s2 σ H2 x y v u Q I2 rx ry q (hs _ _))
def rIxL (K : PySem.W.Frag) : R2 := fun x y H Q => ∃ p xs i v, x = .ref p ∧ y = .int i ∧ SqL K H p xs ∧ atI xs i = some v ∧ Q v H
def rIxT (K : PySem.W.Frag) : R2 := fun x y H Q => ∃ p xs i v, x = .ref p ∧ y = .int i ∧ SqT K H p xs ∧ atI xs i = some v ∧ Q v H
def rIxS : R2 := fun x y H Q => ∃ z i c, x = .str z ∧ y = .int i ∧ z.length ≤ sizeLine ∧ atI z.cps.toList i = some c ∧ Q (.str ⟨#[c]⟩) H
theorem ix_list : IxR X (rIxL X.K) := by
  intro value slice pins s σ H x y v u Q I rx ry h hs
  obtain ⟨p, xs, i, z, rfl, rfl, hq, he, q⟩ := h
  cases rx
  obtain ⟨t, rfl⟩ := ry
  obtain ⟨its, r, pl, hz⟩ := I.list hq
  obtain ⟨j, h1, h2, h3, h4, h5⟩ := atI_get he
  obtain ⟨w, ew, rw'⟩ := r.get h2
  have hl := r.length
  have hn := line63
  have fin : EP X pins σ Q w s := ⟨z, H, I, rw', q⟩
  by_cases h0 : 0 ≤ i
  · have hj : i.toNat = j := by
      rw [seqIndex_of h0 h5] at h1
      exact Option.some.inj h1
    exact item_listR pl.isList h0 (by omega) (by rw [hj]; simpa using ew) fin hs
  · have hj : (i + (its.toArray.size : Int)).toNat = j := by
      rw [seqIndex_neg (by omega) h4] at h1
      rw [List.size_toArray, ← hl]
      exact Option.some.inj h1
    exact subscriptTail_builtinR (x := w) pl.isList.typeIs slot_list_getitem.lookup
      (wpAny_getItem_list_neg (Q := fun r s' => r = w ∧ EP X pins σ Q r s') pl.isList (by omega) (by rw [List.size_toArray] <;> omega) (by omega) (by rw [hj]; simpa using ew) ⟨rfl, fin⟩) hs
theorem ix_tup : IxR X (rIxT X.K) := by
  intro value slice pins s σ H x y v u Q I rx ry h hs
  obtain ⟨p, xs, i, z, rfl, rfl, hq, he, q⟩ := h
  cases rx
  obtain ⟨t, rfl⟩ := ry
  obtain ⟨its, r, pl, hz⟩ := I.tuple hq
  obtain ⟨j, h1, h2, h3, h4, h5⟩ := atI_get he
  obtain ⟨w, ew, rw'⟩ := r.get h2
  have hl := r.length
  have hn := line63
  have fin : EP X pins σ Q w s := ⟨z, H, I, rw', q⟩
  exact subscriptTail_builtinR (x := w) pl.typeIs slot_tuple_getitem.lookup
    (getItem_tuple (j := j) (Q := fun r s' => r = w ∧ EP X pins σ Q r s') pl (by omega) (by omega) (by rw [List.size_toArray, ← hl]; exact h1) (by simpa using ew) ⟨rfl, fin⟩) hs
theorem ix_str : IxR X rIxS := by
  intro value slice pins s σ H x y v u Q I rx ry h hs
  obtain ⟨z, i, c, rfl, rfl, hz, he, q⟩ := h
  obtain ⟨t, rfl⟩ := rx
  obtain ⟨t', rfl⟩ := ry
  obtain ⟨j, h1, h2, h3, h4, h5⟩ := atI_get he
  have hl : z.cps.toList.length = z.length := by simp [Str.length]
  rw [hl] at h1 h4 h5
  have hn := line63
  exact tail_any (typeIs_str s z t) slot_str_getitem.lookup (getItem_str (c := c) (by
    have e1 : decide (i < -(2 ^ 63 : Int)) = false := decide_eq_false (by omega)
    have e2 : decide (i ≥ 2 ^ 63) = false := decide_eq_false (by omega)
    rw [e1, e2, Bool.or_false]) (by rw [h1]; simpa using h2) ⟨.str ⟨#[c]⟩, H, I.tok _, ⟨_, rfl⟩, q⟩) hs
/-- list, tuple or str -/
def rIx (K : PySem.W.Frag) : R2 := fun x y H Q => rIxL K x y H Q ∨ rIxT K x y H Q ∨ rIxS x y H Q
theorem ix_seq : IxR X (rIx X.K) := ix_list.or (ix_tup.or ix_str)
/-! ### xs[i] = v, any sign -/
/-! ### slices -/
theorem slice_bounds (lo hi : Option Int) (n : Nat) : (sliceBounds lo hi none n).1 = ((HT.sIx n 0 lo : Nat) : Int) ∧ (sliceBounds lo hi none n).2.1 = ((HT.sIx n n hi : Nat) : Int) ∧ (sliceBounds lo hi none n).2.2 = 1 := by
  refine ⟨?_, ?_, rfl⟩
  · cases lo with
    | none => simp [sliceBounds, HT.sIx]
    | some i =>
      simp only [sliceBounds, HT.sIx, Option.getD_none, show (1 : Int) > 0 by decide, if_true]
      by_cases h : i < 0
      · simp only [h, if_true] <;> omega
      · simp only [h, if_false] <;> omega
  · cases hi with
    | none => simp [sliceBounds, HT.sIx]
    | some i =>
      simp only [sliceBounds, HT.sIx, Option.getD_none, show (1 : Int) > 0 by decide, if_true]
      by_cases h : i < 0
      · simp only [h, if_true] <;> omega
      · simp only [h, if_false] <;> omega
theorem slicePick_cut (its : List Value) (lo hi : Option Int) : slicePick its.toArray lo hi none = ((its.drop (HT.sIx its.length 0 lo)).take (HT.sIx its.length its.length hi - HT.sIx its.length 0 lo)).toArray := by
  obtain ⟨h1, h2, h3⟩ := slice_bounds lo hi its.toArray.size
  unfold slicePick
  rw [h1, h2, h3]
  simp only [sliceRange_one, pick_run, List.size_toArray] <;> rfl
/-- xs[lo:hi] of a list: a new list -/
def rSlL (K : PySem.W.Frag) : V → Option Int → Option Int → Hp → VK → Prop := fun x lo hi H Q => ∃ a xs, x = .ref a ∧ SqL K H a xs ∧ ∀ p, H p = none → Q (.ref p) (upd H p (.lst (cutV xs lo hi)))
theorem sl_list : SlR X (rSlL X.K) := by
  intro pins s σ H x v vl vu lo hi sl Q I rx hs pl pu h
  obtain ⟨a, xs, rfl, hx, q⟩ := h
  cases rx
  obtain ⟨its, r, ht, hz⟩ := I.list hx
  have hlen := r.length
  refine ⟨"list", _, slot_list_getitem.lookup, ht.isList.typeIs, ?_⟩
  refine wpAny_getItem_list_slice ht.isList hs pl pu .none (by simp) ?_ (by rw [List.size_toArray] <;> omega)
  rw [slicePick_cut, ← hlen]
  refine ⟨.ref s.heap.objs.size, _, I.laid (t' := s.toks) (o := .lst (cutV xs lo hi)) (fun b ob q => Heap.get?_push_of_some _ q) (Nat.le_refl _) ?_, rfl, q _ (I.hok.fresh (Nat.le_refl _))⟩
  exact ⟨Nat.le_trans (cutV_length xs lo hi) hz, _, 0, (r.drop (HT.sIx xs.length 0 lo)).take (HT.sIx xs.length xs.length hi - HT.sIx xs.length 0 lo), Heap.get?_push_size _ rfl⟩
/-! ### in, not in: flat items -/
def flatV : V → Bool
  | .non => true
  | .bl _ => true
  | .int _ => true
  | .str _ => true
  | _ => false
/-- == of flat values -/
def eqV : V → V → Bool
  | .non, .non => true
  | .bl a, .bl b => a == b
  | .bl a, .int b => (if a then 1 else 0) == b
  | .int a, .bl b => a == (if b then 1 else 0)
  | .int a, .int b => a == b
  | .str a, .str b => a == b
  | _, _ => false
theorem eqAt_V {A : Around} {s : Shared} {y x : V} {u v : Value} (ry : RelV y u) (rx : RelV x v) (fy : flatV y = true) (fx : flatV x = true) : SeqAt.EqAt A s u v (eqV y x) := by
  cases y with
  | non =>
    cases ry
    cases x with
    | non => cases rx; exact SeqAt.EqAt.same _
    | bl b => cases rx; exact SeqAt.EqAt.none_bool b
    | int b => obtain ⟨t, rfl⟩ := rx; exact SeqAt.EqAt.none_int b t
    | str b => obtain ⟨t, rfl⟩ := rx; exact SeqAt.EqAt.none_str b t
    | _ => exact absurd (show false = true from fx) Bool.false_ne_true
  | bl a =>
    cases ry
    cases x with
    | non => cases rx; exact SeqAt.EqAt.bool_none a
    | bl b => cases rx; exact SeqAt.EqAt.bool_bool a b
    | int b => obtain ⟨t, rfl⟩ := rx; exact SeqAt.EqAt.bool_int a b t
    | str b => obtain ⟨t, rfl⟩ := rx; exact SeqAt.EqAt.bool_str a b t
    | _ => exact absurd (show false = true from fx) Bool.false_ne_true
  | int a =>
    obtain ⟨t', rfl⟩ := ry
    cases x with
    | non => cases rx; exact SeqAt.EqAt.int_none a t'
    | bl b => cases rx; exact SeqAt.EqAt.int_bool a t' b
    | int b => obtain ⟨t, rfl⟩ := rx; exact SeqAt.EqAt.int_int a t' b t
    | str b => obtain ⟨t, rfl⟩ := rx; exact SeqAt.EqAt.int_str a t' b t
    | _ => exact absurd (show false = true from fx) Bool.false_ne_true
  | str a =>
    obtain ⟨t', rfl⟩ := ry
    cases x with
    | non => cases rx; exact SeqAt.EqAt.str_none a t'
    | bl b => cases rx; exact SeqAt.EqAt.str_bool a t' b
    | int b => obtain ⟨t, rfl⟩ := rx; exact SeqAt.EqAt.str_int a t' b t
    | str b => obtain ⟨t, rfl⟩ := rx; exact SeqAt.EqAt.str_str a t' b t
    | _ => exact absurd (show false = true from fx) Bool.false_ne_true
  | _ => exact absurd (show false = true from fy) Bool.false_ne_true
/-- the items' answers, read off the values (a value's own answer does not lean on its token) -/
def eqU (x : V) (u : Value) : Bool := match u with
  | .none => eqV .non x
  | .bool b => eqV (.bl b) x
  | .int i _ => eqV (.int i) x
  | .str z _ => eqV (.str z) x
  | _ => false
theorem eqU_of {x y : V} {u : Value} (r : RelV y u) (f : flatV y = true) : eqU x u = eqV y x := by
  cases y with
  | non => cases r; rfl
  | bl b => cases r; rfl
  | int i => obtain ⟨t, rfl⟩ := r; rfl
  | str z => obtain ⟨t, rfl⟩ := r; rfl
  | _ => exact absurd (show false = true from f) Bool.false_ne_true
theorem any_eqU {x : V} : ∀ {xs : List V} {us : List Value}, Vals xs us → xs.all flatV = true → us.any (eqU x) = xs.any fun y => eqV y x
  | _, _, .nil, _ => rfl
  | y :: xs, u :: us, .cons r t, f => by
    rw [List.all_cons, Bool.and_eq_true] at f
    rw [List.any_cons, List.any_cons, eqU_of r f.1, any_eqU t f.2]
theorem mem_eqAt {A : Around} {s : Shared} {x : V} {v : Value} (rx : RelV x v) (fx : flatV x = true) : ∀ {xs : List V} {us : List Value}, Vals xs us → xs.all flatV = true → ∀ u ∈ us, SeqAt.EqAt A s u v (eqU x u)
  | _, _, .nil, _ => fun u hu => by cases hu
  | y :: xs, u :: us, .cons r t, f => fun u' hu => by
    rw [List.all_cons, Bool.and_eq_true] at f
    rcases List.mem_cons.mp hu with rfl | hu
    · rw [eqU_of r f.1]; exact eqAt_V r rx f.1 fx
    · exact mem_eqAt rx fx t f.2 u' hu
def inV (x : V) (xs : List V) : Bool := xs.any fun y => eqV y x
/-- x in a list or tuple of flat items -/
def rIn (K : PySem.W.Frag) (neg : Bool) : R2 := fun x y H Q => ∃ p xs, y = .ref p ∧ (SqL K H p xs ∨ SqT K H p xs) ∧ flatV x = true ∧ xs.all flatV = true ∧ Q (.bl (if neg then !inV x xs else inV x xs)) H
theorem op_in_seq : OpR X (compareOp .In) (rIn X.K false) := by
  intro pins s σ H x y v u Q I rx ry h
  obtain ⟨p, xs, rfl, hq, fx, fs, q⟩ := h
  cases ry
  rcases hq with hq | hq
  · obtain ⟨its, r, pl, hz⟩ := I.list hq
    refine SeqAt.in_listAt (eqU x) pl.isList (fun w hw => mem_eqAt rx fx r fs w (by simpa using hw)) ⟨.bl _, H, I, rfl, ?_⟩
    rw [show its.toArray.any (eqU x) = its.any (eqU x) by simp, any_eqU r fs]
    exact q
  · obtain ⟨its, r, pl, hz⟩ := I.tuple hq
    refine SeqAt.in_tupleAt (eqU x) pl (fun w hw => mem_eqAt rx fx r fs w (by simpa using hw)) ⟨.bl _, H, I, rfl, ?_⟩
    rw [show its.toArray.any (eqU x) = its.any (eqU x) by simp, any_eqU r fs]
    exact q
/-! ### len, list(x), tuple(x) of any list or tuple that is read -/
/-! ### the call of a builtin's method: o.m(..) -/
/-- the value is of that builtin type -/
def tyV (K : PySem.W.Frag) (T : String) (x : V) (H : Hp) : Prop := match x with
  | .str _ => T = "str"
  | .int _ => T = "int"
  | .ref p => (T = "list" ∧ ∃ xs, SqL K H p xs) ∨ (T = "tuple" ∧ ∃ o, K.lookup p = some o ∧ o.cls = .type "tuple" ∧ o.dict = none) ∨
      (T = "dict" ∧ ((∃ kvs, H p = some (.dK kvs)) ∨ ∃ kvs, H p = some (.dT kvs))) ∨ (T = "set" ∧ ∃ S n, H p = some (.set S n))
  | _ => False
theorem tyV_is {pins : List (Addr × Obj)} {σ : St} {H : Hp} {s : Shared} {T : String} {x : V} {v : Value} (I : Inv X pins σ H s) (r : RelV x v) (ty : tyV X.K T x H) :
    s.TypeIs v T ∧ ∀ a, v = .ref a → ∃ ob, s.heap.get? a = some ob ∧ ob.dict = none := by
  cases x with
  | str z =>
    obtain ⟨t, rfl⟩ := r
    cases (show T = "str" from ty)
    exact ⟨typeIs_str s z t, fun _ e => nomatch e⟩
  | int i =>
    obtain ⟨t, rfl⟩ := r
    cases (show T = "int" from ty)
    exact ⟨typeIs_int s i t, fun _ e => nomatch e⟩
  | ref p =>
    cases r
    rcases ty with ⟨rfl, xs, hq⟩ | ⟨rfl, o, hk, hc, hd⟩ | ⟨rfl, hk⟩ | ⟨rfl, S, n, hk⟩
    · obtain ⟨its, _, pl, _⟩ := I.list hq
      refine ⟨pl.isList.typeIs, fun a e => ?_⟩
      cases e
      obtain ⟨o, n, e, c, hd, _⟩ := pl
      exact ⟨o, e, hd⟩
    · refine ⟨⟨o, I.kIn p o hk, hc⟩, fun a e => ?_⟩
      cases e
      exact ⟨o, I.kIn _ o hk, hd⟩
    · have z : ∃ o, s.heap.get? p = some o ∧ o.ExactDict := by
        rcases hk with ⟨kvs, hk⟩ | ⟨kvs, hk⟩
        · obtain ⟨_, _, _, _, o, _, _, e, ex, _⟩ := I.hok p _ hk
          exact ⟨o, e, ex⟩
        · obtain ⟨_, _, _, _, o, _, _, e, ex, _⟩ := I.hok p _ hk
          exact ⟨o, e, ex⟩
      obtain ⟨o, e, ex⟩ := z
      refine ⟨⟨o, e, ex.1⟩, fun a e2 => ?_⟩
      cases e2
      exact ⟨o, e, ex.2.1⟩
    · obtain ⟨o, _, _, _, e, ex, _⟩ := I.hok p _ hk
      refine ⟨⟨o, e, ex.1⟩, fun a e2 => ?_⟩
      cases e2
      exact ⟨o, e, ex.2.1⟩
  | _ => exact False.elim ty
def tBM0 (K : PySem.W.Frag) (T : String) (r : V → List V → Hp → VK → Prop) (to : TE) : TE := fun σ H Q => to σ H fun x H1 => tyV K T x H1 ∧ r x [] H1 Q
def tBM (K : PySem.W.Frag) (T : String) (r : V → List V → Hp → VK → Prop) (to : TE) (t : TA) : TE := fun σ H Q => to σ H fun x H1 => tyV K T x H1 ∧ t σ H1 fun xs H2 => r x xs H2 Q
variable {o e : Expr} {es : List Expr} {to : TE} {t : TA} {name : Str} {apos cpos : Pos} {T id : String} {r : V → List V → Hp → VK → Prop}
theorem pe_bm0 (pa : PlainAttrs T) (slot : Slot T name id) (hty : typeOf (.builtin id) = pure (.type "method_descriptor")) (hm : MtR X id r) (ho : PE X o to)
    (hbase : attributeBase o name X.env (eval o X.env) = eval o X.env := by rfl) (hline : (apos.endLine == cpos.line) = true := by rfl) : PE X (.Call (.Attribute o name apos) [] [] cpos) (tBM0 X.K T r to) := by
  intro pins s σ H Q I h
  refine wpAny_Call_method0_late hbase hline (thn (ho pins s σ H _ I h) fun v s1 ⟨x, H1, I1, r1, ty, q1⟩ => ?_)
  obtain ⟨h1, h2⟩ := tyV_is I1 r1 ty
  exact ⟨T, id, pa, slot, hty, h1, h2, Calls.callWith_builtin rfl (PySem.evalArgs_none (hm pins s1 σ H1 x [] v [] Q I1 r1 .nil q1))⟩
theorem pe_bm (pa : PlainAttrs T) (slot : Slot T name id) (hty : typeOf (.builtin id) = pure (.type "method_descriptor")) (hm : MtR X id r) (ho : PE X o to) (ha : PA X (e :: es) t)
    (hbase : attributeBase o name X.env (eval o X.env) = eval o X.env := by rfl)
    (hfew : ((backTo cpos (starEach (e :: es) X.env)).all (fun x => !x.1) && (backToKw cpos (keywordEach [] X.env)).all (fun x => x.1.isSome)
      && decide ((e :: es).length + ([] : List Keyword).length + (if ([] : List Keyword).isEmpty then 0 else 1) < 30)) = true := by rfl)
    (hline : (apos.endLine == cpos.line) = true := by rfl) (hs : starEach (e :: es) X.env = (false, eval e X.env) :: starEach es X.env := by rfl) (hplain : (backTo cpos (starEach es X.env)).any (·.1) = false := by rfl) :
    PE X (.Call (.Attribute o name apos) (e :: es) [] cpos) (tBM X.K T r to t) := by
  intro pins s σ H Q I h
  refine wpAny_Call_method_late hbase hfew hline rfl (thn (ho pins s σ H _ I h) fun v s1 ⟨x, H1, I1, r1, ty, q1⟩ => ?_)
  obtain ⟨h1, h2⟩ := tyV_is I1 r1 ty
  refine ⟨T, id, pa, slot, hty, h1, h2, ?_⟩
  have hA := ha cpos pins s1 σ H1 _ I1 q1
  rw [hs] at hA ⊢
  refine Calls.callWith_builtin (by show (false || (backTo cpos (starEach es X.env)).any (·.1)) = false; rw [hplain] <;> rfl) (Calls.evalArgs_plain ?_)
  exact thn hA fun us s2 ⟨vs, H2, I2, r2, q2⟩ => hm pins s2 σ H2 x vs v us Q I2 r1 r2 q2
/- xs.append(e), list.index on a module's tuple .. are MtR facts of 06m -/
end
end L2
namespace L2
open PySem PySem.Spec PyProof.Rows
def MtM (X : Cx) (id : String) (r : V → List V → Hp → VK → Prop) : Prop :=
  ∀ (pins : List (Addr × Obj)) (s : Shared) (σ : St) (H : Hp) (x : V) (xs : List V) (v : Value) (us : List Value) (Q : VK), Inv X pins σ H s → RelV x v → Vals xs us → r x xs H Q →
    wpAny (model X.prog X.w) X.A (call (.builtin id) (v :: us)) (EP X pins σ Q) X.xe s
/-! ### lists of values -/
theorem Vals.one : ∀ {x : V} {us : List Value}, Vals [x] us → ∃ u, us = [u] ∧ RelV x u
  | _, _, .cons r .nil => ⟨_, rfl, r⟩
theorem Vals.zero : ∀ {us : List Value}, Vals [] us → us = []
  | _, .nil => rfl
theorem Vals.dropLast {xs : List V} {us : List Value} (h : Vals xs us) : Vals xs.dropLast us.dropLast := by
  induction h with
  | nil => exact .nil
  | cons r t ih =>
    cases t with
    | nil => exact .nil
    | cons q t' => exact .cons r ih
theorem erase_last {α : Type} (l : List α) : l.eraseIdx (l.length - 1) = l.dropLast := by
  induction l with
  | nil => rfl
  | cons a r ih =>
    cases r with
    | nil => rfl
    | cons b r =>
      have e : (a :: b :: r).length - 1 = ((b :: r).length - 1) + 1 := by
        have h1 : (a :: b :: r).length = r.length + 2 := rfl
        have h2 : (b :: r).length = r.length + 1 := rfl
        omega
      rw [e, List.eraseIdx_cons_succ, ih]
      all_goals rfl
section
variable {X : Cx} {pins : List (Addr × Obj)} {σ : St} {H : Hp} {s : Shared} {l b : Addr} {xs ys zs : List V}
/-! ### the two steps: a tracked list is rewritten, a new list is laid -/
theorem Inv.lset {its its' : List Value} {n : Nat} {f : Array Value → Array Value} {t' : Nat} (I : Inv X pins σ H s) (hH : H l = some (.lst xs))
    (e : s.heap.get? l = some { cls := .type "list", data := .seq its.toArray n }) (hf : f its.toArray = its'.toArray) (hv : Vals ys its') (hz : ys.length ≤ sizeLine) :
    Inv X pins σ (upd H l (.lst ys)) { s with heap := s.heap.update l (Obj.mapSeq f), toks := t' } := by
  have q := PySem.IsL.update e f
  rw [hf] at q
  refine I.write (x := l) (e := l) (by rw [hH]; exact trivial) (.inl rfl) (fun b' u hb hu => (Heap.get?_update_other s.heap (Obj.mapSeq f) (Ne.symm hb)).trans hu) ⟨_, q⟩ ?_
  exact ⟨hz, its', _, hv, q⟩
theorem Inv.lnew {its : List Value} {t' : Nat} (I : Inv X pins σ H s) (hv : Vals ys its) (hz : ys.length ≤ sizeLine) :
    Inv X pins σ (upd H s.heap.objs.size (.lst ys)) { s with heap := s.heap.push { cls := .type "list", data := .seq its.toArray }, toks := t' } :=
  I.laid (fun _ _ q => Heap.get?_push_of_some _ q) (Nat.le_refl _) ⟨hz, its, 0, hv, Heap.get?_push_size _ rfl⟩
theorem Inv.fresh (I : Inv X pins σ H s) : H s.heap.objs.size = none := I.hok.fresh (Nat.le_refl _)
theorem Inv.lstM (I : Inv X pins σ H s) (hH : H l = some (.lst xs)) : xs.length ≤ sizeLine ∧ ∃ (its : List Value) (n : Nat), Vals xs its ∧ xs.length = its.length ∧ s.heap.get? l = some { cls := .type "list", data := .seq its.toArray n } := by
  obtain ⟨z, its, n, r, e⟩ := I.hok l _ hH
  exact ⟨z, its, n, r, r.length, e⟩
theorem notLongL {n : Nat} (h : n ≤ sizeLine) : Builtin.List.listTooLong n = false := by
  unfold Builtin.List.listTooLong
  exact decide_eq_false (by omega)
end
section
variable {X : Cx}
/-! ### methods -/
def rAppend : V → List V → Hp → VK → Prop := fun x vs H Q => ∃ l xs y, x = .ref l ∧ vs = [y] ∧ H l = some (.lst xs) ∧ xs.length < sizeLine ∧ Q .non (upd H l (.lst (xs ++ [y])))
theorem mt_append : MtM X "list.append" rAppend := by
  intro pins s σ H x vs v us Q I rx rv h
  obtain ⟨l, xs, y, rfl, rfl, hH, hz, q⟩ := h
  cases rx
  obtain ⟨u, rfl, ru⟩ := rv.one
  obtain ⟨z, its, n, r, hl, e⟩ := I.lstM hH
  refine call_meets F.slot_list_append ⟨_, e, rfl⟩ F.entry_list_append (F.args_list_append_2 _ _) (PySem.list_append l its.toArray n u (by rw [List.size_toArray]; omega)) ⟨e, ?_⟩
  refine ⟨.non, _, I.lset (its' := its ++ [u]) hH e (by simp) (r.append (.cons ru .nil)) ?_, rfl, q⟩
  rw [List.length_append, List.length_singleton]
  omega
def rExtend : V → List V → Hp → VK → Prop := fun x vs H Q => ∃ l b xs zs, x = .ref l ∧ vs = [.ref b] ∧ H l = some (.lst xs) ∧ H b = some (.lst zs) ∧ xs.length + zs.length ≤ sizeLine ∧ Q .non (upd H l (.lst (xs ++ zs)))
theorem mt_extend : MtM X "list.extend" rExtend := by
  intro pins s σ H x vs v us Q I rx rv h
  obtain ⟨l, b, xs, zs, rfl, rfl, hH, hB, hz, q⟩ := h
  cases rx
  obtain ⟨u, rfl, ru⟩ := rv.one
  cases ru
  obtain ⟨z, its, n, r, hl, e⟩ := I.lstM hH
  obtain ⟨z2, its2, n2, r2, hl2, e2⟩ := I.lstM hB
  have hsz : its.toArray.size + its2.toArray.size ≤ sizeLine := by rw [List.size_toArray, List.size_toArray]; omega
  have hlong : ¬ (!its.toArray.isEmpty && Builtin.List.listTooLong (its.toArray.size + its2.toArray.size)) = true := by
    rw [notLongL hsz, Bool.and_false]
    exact Bool.false_ne_true
  refine call_meets F.slot_list_extend ⟨_, e, rfl⟩ F.entry_list_extend (F.args_list_extend_2 _ _)
    (AutoSeq1.list_extend_list_list_0 l its.toArray n b its2.toArray n2 hlong (by rw [List.size_toArray]; omega) (by omega)) ⟨e, e2, ?_⟩
  refine ⟨.non, _, I.lset (its' := its ++ its2) hH e (by simp) (r.append r2) ?_, rfl, q⟩
  rw [List.length_append]
  omega
def rPop : V → List V → Hp → VK → Prop := fun x vs H Q => ∃ l xs y, x = .ref l ∧ vs = [] ∧ H l = some (.lst xs) ∧ xs[xs.length - 1]? = some y ∧ Q y (upd H l (.lst xs.dropLast))
theorem mt_pop : MtM X "list.pop" rPop := by
  intro pins s σ H x vs v us Q I rx rv h
  obtain ⟨l, xs, y, rfl, rfl, hH, hy, q⟩ := h
  cases rx
  have hus := rv.zero
  subst hus
  obtain ⟨z, its, n, r, hl, e⟩ := I.lstM hH
  obtain ⟨u, hu, ru⟩ := r.get hy
  have hy' : its.toArray[its.toArray.size - 1]? = some u := by
    show its.toArray[its.length - 1]? = some u
    rw [← Array.getElem?_toList, ← hl]
    exact hu
  refine call_meets F.slot_list_pop ⟨_, e, rfl⟩ F.entry_list_pop (F.args_list_pop_1 _) (MeetsSeq.list_pop_last l its.toArray n u hy' (by rw [List.size_toArray]; omega)) ⟨e, ?_⟩
  refine ⟨y, _, I.lset (its' := its.dropLast) hH e ?_ r.dropLast ?_, ru, q⟩
  · show its.toArray.eraseIdxIfInBounds (its.toArray.size - 1) = its.dropLast.toArray
    rw [List.size_toArray, List.eraseIdxIfInBounds_toArray, erase_last]
  · rw [List.length_dropLast]
    omega
/-! ### list + list, list += list, list * int -/
def rCat : R2 := fun x y H Q => ∃ l b xs zs, x = .ref l ∧ y = .ref b ∧ H l = some (.lst xs) ∧ H b = some (.lst zs) ∧ xs.length + zs.length ≤ sizeLine ∧ ∀ p, H p = none → Q (.ref p) (upd H p (.lst (xs ++ zs)))
theorem op_cat : OpR X (binaryOp .Add) rCat := by
  intro pins s σ H x y v u Q I rx ry h
  obtain ⟨l, b, xs, zs, rfl, rfl, hH, hB, hz, q⟩ := h
  cases rx
  cases ry
  obtain ⟨z, its, n, r, hl, e⟩ := I.lstM hH
  obtain ⟨z2, its2, n2, r2, hl2, e2⟩ := I.lstM hB
  refine PySem.P.add_list e e2 ?_ (by rw [List.size_toArray, List.size_toArray]; omega)
  have ea : its.toArray ++ its2.toArray = (its ++ its2).toArray := by simp
  rw [ea]
  exact ⟨.ref _, _, I.lnew (t' := s.toks) (r.append r2) (by rw [List.length_append]; omega), rfl, q _ I.fresh⟩
/-! ### del xs[i] -/
end
/-! ### xs[a:b] = ys -/
section
variable {prog : Program} {w : World} {A : Around} {E : Value → Shared → Prop} {s : Shared}
set_option maxRecDepth 100000 in
end
section
variable {X : Cx}
end
end L2
namespace L2
open PySem PySem.Spec PyProof.Rows
/-! ### lists of pairs as tables -/
section
variable {κ : Type} [DecidableEq κ]
def valV (kvs : List (κ × V)) (k : κ) : Option V := (kvs.find? fun kv => decide (kv.1 = k)).map (·.2)
/-- in its place, or at the end -/
def putK (kvs : List (κ × V)) (k : κ) (v : V) : List (κ × V) :=
  if (kvs.any fun kv => decide (kv.1 = k)) = true then kvs.map (fun kv => if kv.1 = k then (kv.1, v) else kv) else kvs ++ [(k, v)]
theorem valV_pos {p : κ × V} {r : List (κ × V)} {k : κ} (e : p.1 = k) : valV (p :: r) k = some p.2 := by simp [valV, List.find?_cons, e]
theorem valV_neg {p : κ × V} {r : List (κ × V)} {k : κ} (e : ¬ p.1 = k) : valV (p :: r) k = valV r k := by simp [valV, List.find?_cons, e]
theorem length_putK (kvs : List (κ × V)) (k : κ) (v : V) : (putK kvs k v).length ≤ kvs.length + 1 := by
  unfold putK
  split
  · rw [List.length_map]; omega
  · rw [List.length_append, List.length_cons, List.length_nil]; omega
theorem RelO.getD {o : Option V} {u : Option Value} {d : V} {d' : Value} (r : RelO o u) (rd : RelV d d') : RelV (o.getD d) (u.getD d') := by
  cases o with
  | none => cases u with
    | none => exact rd
    | some _ => exact (show False from r).elim
  | some _ => cases u with
    | none => exact (show False from r).elim
    | some _ => exact r
/-- raw tables of the same keys -/
theorem KV.val {kvs : List (κ × V)} {vs : List (κ × Value)} (r : KV kvs vs) (k : κ) : RelO (valV kvs k) (valueAt vs k) := by
  unfold KV at r
  induction r with
  | nil => exact True.intro
  | @cons p q ps qs h t ih =>
    obtain ⟨h1, h2⟩ := h
    by_cases e : p.1 = k
    · have e' : q.1 = k := h1.symm.trans e
      have b : valueAt (q :: qs) k = some q.2 := by simp [valueAt, List.find?_cons, e']
      rw [valV_pos e, b]; exact h2
    · have e' : ¬ q.1 = k := fun z => e (h1.trans z)
      have b : valueAt (q :: qs) k = valueAt qs k := by simp [valueAt, List.find?_cons, e']
      rw [valV_neg e, b]; exact ih
theorem KV.any {kvs : List (κ × V)} {vs : List (κ × Value)} (r : KV kvs vs) (k : κ) : (kvs.any fun kv => decide (kv.1 = k)) = vs.any fun kv => decide (kv.1 = k) := by
  unfold KV at r
  induction r with
  | nil => rfl
  | cons h t ih => rw [List.any_cons, List.any_cons, ih, h.1]
theorem KV.repl {kvs : List (κ × V)} {vs : List (κ × Value)} (r : KV kvs vs) (k : κ) {y : V} {u : Value} (ry : RelV y u) :
    KV (kvs.map fun kv => if kv.1 = k then (kv.1, y) else kv) (vs.map fun kv => if kv.1 = k then (kv.1, u) else kv) := by
  unfold KV at r ⊢
  induction r with
  | nil => exact .nil
  | @cons p q ps qs h t ih =>
    rw [List.map_cons, List.map_cons]
    refine .cons ?_ ih
    obtain ⟨h1, h2⟩ := h
    by_cases e : p.1 = k
    · rw [if_pos e, if_pos (h1.symm.trans e)]; exact ⟨h1, ry⟩
    · rw [if_neg e, if_neg (fun z => e (h1.trans z))]; exact ⟨h1, h2⟩
theorem KV.put {kvs : List (κ × V)} {vs : List (κ × Value)} (r : KV kvs vs) (k : κ) {y : V} {u : Value} (ry : RelV y u) : KV (putK kvs k y) (stored vs k u) := by
  unfold putK stored
  rw [r.any k]
  by_cases e : (vs.any fun kv => decide (kv.1 = k)) = true
  · rw [if_pos e, if_pos e]; exact r.repl k ry
  · rw [if_neg e, if_neg e]; exact Paired.snoc r ⟨rfl, ry⟩
end
/-! ### a tracked dict, its keys ints and texts or tuples of these -/
theorem kV_is {P : Program} {w : World} {k : Key} {u : Value} (r : RelV (kV k) u) : (mixKind P w).is k u = true := by
  cases k with
  | inl i => obtain ⟨t, e⟩ := (show ∃ t, u = Value.int i t from r); subst e; exact mixKind_int P w i t
  | inr x => obtain ⟨t, e⟩ := (show ∃ t, u = Value.str x t from r); subst e; exact mixKind_str P w x t
theorem items_are {P : Program} {w : World} : ∀ {ks : List Key} {us : List Value}, Vals (ks.map kV) us → ItemsAre (mixKind P w) ks us
  | [], _, r => by rw [List.map_nil] at r; cases r; exact .nil
  | k :: ks, _, r => by
    rw [List.map_cons] at r
    cases r with
    | cons h t => exact .cons (kV_is h) (items_are t)
/-- raw entries of a dict with tuple keys -/
abbrev KT (H : Hp) : List (List Key × V) → List (List Key × Addr × Value) → Prop := Paired fun p q => p.1 = q.1 ∧ H q.2.1 = some (.tup (p.1.map kV)) ∧ RelV p.2 q.2.2
theorem KT.val {H : Hp} {kvs : List (List Key × V)} {xs : List (List Key × Addr × Value)} (r : KT H kvs xs) (k : List Key) : RelO (valV kvs k) ((atKey xs k).map (·.2)) := by
  induction r with
  | nil => exact True.intro
  | @cons p q ps qs h t ih =>
    obtain ⟨h1, _, h2⟩ := h
    by_cases e : p.1 = k
    · have e' : q.1 = k := h1.symm.trans e
      have b : atKey (q :: qs) k = some q.2 := by simp [atKey, List.find?_cons, e']
      rw [valV_pos e, b]; exact h2
    · have e' : ¬ q.1 = k := fun z => e (h1.trans z)
      have b : atKey (q :: qs) k = atKey qs k := by simp [atKey, List.find?_cons, e']
      rw [valV_neg e, b]; exact ih
section
variable {P : Program} {w : World} {H : Hp} {h : Heap} {a : Addr}
theorem rd_of {u : HO} (ok : HOk P w H h) (e : Rd H a u) : ObjOk P w H h a u := e.ok ok
theorem dk_rd {kvs : List (Key × V)} (ok : HOk P w H h) (e : Rd H a (.dK kvs)) : kvs.length ≤ sizeLine ∧ (a == sysModules) = false ∧ ∃ vs, KV kvs vs ∧ h.DictOf (mixKind P w) a vs :=
  show ObjOk P w H h a (.dK kvs) from rd_of ok e
theorem dk_of {kvs : List (Key × V)} (ok : HOk P w H h) (e : H a = some (.dK kvs)) : kvs.length ≤ sizeLine ∧ (a == sysModules) = false ∧ ∃ vs, KV kvs vs ∧ h.DictOf (mixKind P w) a vs := dk_rd ok (.inl e)
/-- a tracked tuple of ints and texts is a key -/
theorem key_of {ks : List Key} (ok : HOk P w H h) (e : H a = some (.tup (ks.map kV))) : (tupleKind (mixKind P w)).is h ks a := by
  obtain ⟨_, its, r, o, h1, h2, n, h3⟩ := (show ObjOk P w H h a (.tup (ks.map kV)) from ok a _ e)
  exact ⟨o, its.toArray, n, h1, h2, h3, by simpa using items_are r⟩
theorem dt_rd {kvs : List (List Key × V)} (ok : HOk P w H h) (e : Rd H a (.dT kvs)) : kvs.length ≤ sizeLine ∧ (a == sysModules) = false ∧
    ∃ xs, KT H kvs xs ∧ h.DictOfH (tupleKind (mixKind P w)) a xs := by
  obtain ⟨z, y, xs, r, o, es, ep, h1, h2, h3, h4, h5⟩ := (show ObjOk P w H h a (.dT kvs) from rd_of ok e)
  refine ⟨z, y, xs, r, o, es, ep, h1, h2, h3, h4, fun x hx => ?_, h5⟩
  have all : ∀ {l : List (List Key × V)} {m : List (List Key × Addr × Value)}, KT H l m → ∀ x ∈ m, (tupleKind (mixKind P w)).is h x.1 x.2.1 := by
    intro l m q
    induction q with
    | nil => intro x hx; exact nomatch hx
    | @cons p q ps qs hq t ih =>
      intro x hx
      rcases List.mem_cons.mp hx with e | hx
      · subst e
        exact key_of ok (by rw [← hq.1]; exact hq.2.1)
      · exact ih x hx
  exact all r x hx
end
/-- what the dict at a holds at the key y -/
def DGet (H : Hp) (a : Addr) (y : V) (r : Option V) : Prop :=
  (∃ kvs k, Rd H a (.dK kvs) ∧ y = kV k ∧ r = valV kvs k) ∨ ∃ kvs k b, Rd H a (.dT kvs) ∧ y = .ref b ∧ H b = some (.tup (k.map kV)) ∧ r = valV kvs k
theorem DGet.k {H : Hp} {a : Addr} {kvs : List (Key × V)} {k : Key} (e : H a = some (.dK kvs)) : DGet H a (kV k) (valV kvs k) := .inl ⟨kvs, k, .inl e, rfl, rfl⟩
section
variable {X : Cx} {pins : List (Addr × Obj)} {σ : St} {H : Hp} {s : Shared} {a : Addr} {y v : V} {u r : Value} {o : Option V} {A : Around} {E : Value → Shared → Prop}
theorem Inv.big (I : Inv X pins σ H s) : sysModules < s.heap.objs.size := by
  have h : mainGlobals < s.heap.objs.size := (I.mod.glob.keeps I.bk).lt
  exact Nat.lt_trans (by decide) h
/-- a dict's object is replaced -/
theorem d_write {h' : Heap} {t' : Nat} {ob : HO} (I : Inv X pins σ H s) (mu : Mut (H a)) (hs : Heap.SameBut a s.heap h') (he : ∃ q, h'.get? a = some q) (new : ObjOk X.prog X.w (upd H a ob) h' a ob) :
    Inv X pins σ (upd H a ob) { s with heap := h', toks := t' } :=
  I.write (x := a) (e := a) mu (.inl rfl) (fun b q hb z => (hs.2 b hb).trans z) he new
theorem dk_new {P : Program} {w : World} {H' : Hp} {h' : Heap} {kvs : List (Key × V)} {vs : List (Key × Value)} (z : kvs.length ≤ sizeLine) (hd : (a == sysModules) = false) (rel : KV kvs vs) (dd : h'.DictOf (mixKind P w) a vs) :
    ObjOk P w H' h' a (.dK kvs) := ⟨z, hd, vs, rel, dd⟩
end
section
variable {X : Cx} {pins : List (Addr × Obj)} {σ : St} {H : Hp} {s : Shared} {a : Addr} {kvs : List (Key × V)} {k : Key} {u : Value} {A : Around} {E : Value → Shared → Prop}
end
/-! ### readings and rules -/
section
variable {X : Cx} {o i e value : Expr} {pos pos' tpos : Pos} {td ty tv : TE}
end
/-! ### displays -/
theorem dk_empty {P : Program} {w : World} {H : Hp} (h : Heap) (hb : sysModules < h.objs.size) : ObjOk P w H (h.push { cls := .type "dict", data := .dict #[] }) h.objs.size (.dK []) :=
  ⟨Nat.zero_le _, beq_eq_false_iff_ne.mpr (Ne.symm (Nat.ne_of_lt hb)), [], .nil, Heap.DictOf.new h⟩
section
variable {X : Cx} {pos : Pos}
end
/-- the pairs of a display, from the left -/
def tPairs : List (TE × TE) → St → Hp → (List (V × V) → Hp → Prop) → Prop
  | [], _, H, Q => Q [] H
  | (tk, tv) :: r, σ, H, Q => tk σ H fun x H1 => tv σ H1 fun y H2 => tPairs r σ H2 fun ps H3 => Q ((x, y) :: ps) H3
abbrev VV : List (V × V) → List (Value × Value) → Prop := Paired fun p q => RelV p.1 q.1 ∧ RelV p.2 q.2
def PPs (X : Cx) (pos : Pos) (keys : List (Option Expr)) (values : List Expr) (trs : List (TE × TE)) : Prop :=
  ∀ (pins : List (Addr × Obj)) (s : Shared) (σ : St) (H : Hp) (Q : List (V × V) → Hp → Prop), Inv X pins σ H s → tPairs trs σ H Q →
    wpAny (model X.prog X.w) X.A (evalPairs (pairTrees keys values X.env pos)) (fun vs s' => ∃ ps H', Inv X pins σ H' s' ∧ VV ps vs ∧ Q ps H') X.xe s
theorem pps_nil {X : Cx} {pos : Pos} : PPs X pos [] [] [] := fun pins s σ H Q I h => pairTrees_nil_walk ⟨[], H, I, .nil, h⟩
theorem pps_cons {X : Cx} {pos : Pos} {k v : Expr} {ks : List (Option Expr)} {vs : List Expr} {tk tv : TE} {trs : List (TE × TE)} (hk : PE X k tk) (hv : PE X v tv) (hr : PPs X pos ks vs trs) :
    PPs X pos (some k :: ks) (v :: vs) ((tk, tv) :: trs) := fun pins s σ H Q I h =>
  pairTrees_cons_walk (thn (hk pins s σ H _ I h) fun u s1 ⟨x, H1, I1, rx, q1⟩ => thn (hv pins s1 σ H1 _ I1 q1) fun w2 s2 ⟨y, H2, I2, ry, q2⟩ =>
    thn (hr pins s2 σ H2 _ I2 q2) fun ws s3 ⟨ps, H3, I3, rel, q3⟩ => ⟨(x, y) :: ps, H3, I3, .cons ⟨rx, ry⟩ rel, q3⟩)
def mergeK (kvs more : List (Key × V)) : List (Key × V) := more.foldl (fun acc kv => putK acc kv.1 kv.2) kvs
theorem KV.merge : ∀ {more : List (Key × V)} {rs : List (Key × Value)} {kvs : List (Key × V)} {vs : List (Key × Value)}, KV more rs → KV kvs vs → KV (mergeK kvs more) (merged vs rs) := by
  intro more rs kvs vs r
  unfold KV at r
  induction r generalizing kvs vs with
  | nil => intro q; exact q
  | @cons p q ps qs h t ih =>
    intro r0
    have e : KV (putK kvs p.1 p.2) (stored vs q.1 q.2) := by
      have := r0.put p.1 h.2
      rw [← h.1]; exact this
    exact ih e
theorem length_mergeK : ∀ (more kvs : List (Key × V)), (mergeK kvs more).length ≤ kvs.length + more.length
  | [], kvs => by show kvs.length ≤ kvs.length + 0; omega
  | p :: r, kvs => by
    have h1 := length_mergeK r (putK kvs p.1 p.2)
    have h2 := length_putK kvs p.1 p.2
    show (mergeK (putK kvs p.1 p.2) r).length ≤ _
    rw [List.length_cons]; omega
theorem carries_of {P : Program} {w : World} : ∀ {kvs : List (Key × V)} {ws : List (Value × Value)}, VV (kvs.map fun kv => (kV kv.1, kv.2)) ws → ∃ rs, Carries (mixKind P w) ws rs ∧ KV kvs rs
  | [], _, r => by rw [List.map_nil] at r; cases r; exact ⟨[], True.intro, .nil⟩
  | p :: kvs, _, r => by
    rw [List.map_cons] at r
    cases r with
    | @cons a b as bs h t =>
      obtain ⟨rs, c, q⟩ := carries_of (P := P) (w := w) t
      obtain ⟨b1, b2⟩ := b
      exact ⟨(p.1, b2) :: rs, ⟨kV_is h.1, rfl, c⟩, .cons ⟨rfl, h.2⟩ q⟩
/-- {k: v, ..} with keys ints and texts; the new dict stands empty while the pairs are made -/
def tDisp (trs : List (TE × TE)) : TE := fun σ H Q => ∀ p, H p = none → tPairs trs σ (upd H p (.dK [])) fun ps H2 => H2 p = some (.dK []) ∧ ∃ kvs : List (Key × V), ps = kvs.map (fun kv => (kV kv.1, kv.2)) ∧ kvs.length ≤ 15 ∧ Q (.ref p) (upd H2 p (.dK (mergeK [] kvs)))
theorem pe_disp {X : Cx} {pos : Pos} {keys : List (Option Expr)} {values : List Expr} {trs : List (TE × TE)} (h : PPs X pos keys values trs) (hall : keys.all (·.isSome) = true) (hl : keys.length = values.length) (h0 : keys ≠ [])
    (h15 : keys.length ≤ 15) : PE X (.Dict keys values pos) (tDisp trs) := by
  intro pins s σ H Q I q
  have hn := I.hok.fresh (Nat.le_refl s.heap.objs.size)
  have I1 := I.laid (a := s.heap.objs.size) (o := .dK []) (h' := s.heap.push { cls := .type "dict", data := .dict #[] }) (t' := s.toks) (fun _ _ q => Heap.get?_push_of_some _ q) (Nat.le_refl _) (dk_empty s.heap I.big)
  refine wpAny_Dict_walk (knd := mixKind X.prog X.w) hall hl h0 h15 (thn (h pins _ σ _ _ I1 (q _ hn)) fun ws s2 ⟨ps, H2, I2, rel, e, kvs, ep, lk, q2⟩ => ?_)
  subst ep
  obtain ⟨rs, c, rk⟩ := carries_of (P := X.prog) (w := X.w) rel
  obtain ⟨z, hd, vs0, r0, dd⟩ := dk_of I2.hok e
  cases r0
  refine ⟨rs, c, dd, fun h' dd' hs => ⟨.ref s.heap.objs.size, _, ?_, rfl, q2⟩⟩
  have hz : (mergeK [] kvs).length ≤ sizeLine := by
    have h1 := length_mergeK kvs []
    rw [List.length_nil] at h1
    rw [sizeLine_eq]; omega
  have he : ∃ q, h'.get? s.heap.objs.size = some q := let ⟨q, _, _, hq, _⟩ := dd'; ⟨q, hq⟩
  exact d_write I2 (by rw [e]; exact True.intro) hs he (dk_new hz hd (rk.merge .nil) dd')
/-! ### methods -/
structure M2 (X : Cx) (o : Expr) (m : Str) (apos : Pos) (e f : Expr) (cpos : Pos) : Prop where
  base : attributeBase o m X.env (eval o X.env) = eval o X.env
  few : ((backTo cpos (starEach [e, f] X.env)).all (fun x => !x.1) && (backToKw cpos (keywordEach [] X.env)).all (fun x => x.1.isSome)
    && decide (([e, f] : List Expr).length + ([] : List Keyword).length + (if ([] : List Keyword).isEmpty then 0 else 1) < 30)) = true
  line : (apos.endLine == cpos.line) = true
  trees : backTo cpos (starEach [e, f] X.env) = [(false, eval e X.env), (false, eval f X.env)]
/-- a is a dict, whatever its keys -/
def IsD (H : Hp) (a : Addr) : Prop := (∃ kvs, Rd H a (.dK kvs)) ∨ ∃ kvs, Rd H a (.dT kvs)
theorem isD_at {X : Cx} {pins : List (Addr × Obj)} {σ : St} {H : Hp} {s : Shared} {a : Addr} (I : Inv X pins σ H s) (d : IsD H a) :
    s.TypeIs (.ref a) "dict" ∧ (∀ b, Value.ref a = .ref b → ∃ ob, s.heap.get? b = some ob ∧ ob.dict = none) ∧ (a == sysModules) = false := by
  rcases d with ⟨kvs, e⟩ | ⟨kvs, e⟩
  · obtain ⟨_, hd, vs, _, dd⟩ := dk_rd I.hok e
    refine ⟨dd.typeIs, fun b q => ?_, hd⟩
    cases q
    obtain ⟨ob, _, _, h1, h2, _⟩ := dd
    exact ⟨ob, h1, h2.2.1⟩
  · obtain ⟨_, hd, xs, _, dd⟩ := dt_rd I.hok e
    refine ⟨dd.typeIs, fun b q => ?_, hd⟩
    cases q
    obtain ⟨ob, _, _, h1, h2, _⟩ := dd
    exact ⟨ob, h1, h2.2.1⟩
section
variable {X : Cx} {pins : List (Addr × Obj)} {σ : St} {H : Hp} {s : Shared} {a : Addr} {y d : V} {u r : Value} {o : Option V} {A : Around} {E : Value → Shared → Prop}
/-- d.get(y, x) -/
theorem d_get2 {Q : Value → Shared → Prop} (hu : A.units + 1 < cLine) (I : Inv X pins σ H s) (g : DGet H a y o) (ry : RelV y u) (rd : RelV d r) (h : ∀ w' s', Inv X pins σ H s' → RelV (o.getD d) w' → Q w' s') :
    wpAny (model X.prog X.w) A (call (.builtin "dict.get") [.ref a, u, r]) Q E s := by
  rcases g with ⟨kvs, k, e, ey, l⟩ | ⟨kvs, k, b, e, ey, eb, l⟩
  · subst ey
    obtain ⟨z, hd, vs, rel, dd⟩ := dk_rd I.hok e
    refine call_meetsIn PySem.F.slot_dict_get dd.typeIs PySem.F.entry_dict_get (PySem.F.args_dict_get_3 _ _ _) (meets_dict_get_default (mixKind X.prog X.w) a (kV_is ry) hd r) ⟨_, dd.mapOf, h _ _ (I.tok _) ?_⟩
    rw [l]
    exact (rel.val k).getD rd
  · subst ey
    cases (show u = Value.ref b from ry)
    obtain ⟨z, hd, xs, rel, dd⟩ := dt_rd I.hok e
    refine call_meetsIn PySem.F.slot_dict_get dd.typeIs PySem.F.entry_dict_get (PySem.F.args_dict_get_3 _ _ _) (meetsH_dict_get_default (tupleKind (mixKind X.prog X.w)) a b hd r) ⟨tupleKind_room_in1 hu, k, xs, key_of I.hok eb, dd, h _ _ (I.tok _) ?_⟩
    rw [l]
    exact (rel.val k).getD rd
end
def tDGet2 (td ty tx : TE) : TE := fun σ H Q => td σ H fun x H1 => ∃ a, x = .ref a ∧ IsD H1 a ∧ ty σ H1 fun y H2 => tx σ H2 fun z H3 => ∃ o, DGet H3 a y o ∧ Q (o.getD z) H3
section
variable {X : Cx} {o e f : Expr} {apos cpos : Pos} {td ty tx : TE}
theorem pe_dget2 (hu : X.A.units + 1 < cLine) (ho : PE X o td) (he : PE X e ty) (hf : PE X f tx) (m : M2 X o "get" apos e f cpos) : PE X (.Call (.Attribute o "get" apos) [e, f] [] cpos) (tDGet2 td ty tx) := by
  intro pins s σ H Q I h
  refine wpAny_Call_method m.base m.few m.line PySem.F.plainAttrs_dict PySem.F.slot_dict_get PySem.F.type_dict_get (thn (ho pins s σ H _ I h) fun u s1 ⟨x, H1, I1, rx, a, ex, d, q1⟩ => ?_)
  subst ex
  obtain rfl : u = Value.ref a := rx
  obtain ⟨t1, t2, _⟩ := isD_at I1 d
  refine ⟨t1, t2, ?_⟩
  rw [m.trees]
  refine Calls.callWith_builtin rfl (Calls.evalArgs_plain (Calls.spliced_cons (thn (he pins s1 σ H1 _ I1 q1) fun iv s2 ⟨y, H2, I2, ry, q2⟩ =>
    Calls.spliced_cons (thn (hf pins s2 σ H2 _ I2 q2) fun fv s3 ⟨z, H3, I3, rz, ov, g, q3⟩ => Calls.spliced_nil ?_))))
  exact d_get2 hu I3 g ry rz fun w' s4 I4 rw' => ⟨_, H3, I4, rw', q3⟩
end
/-! ### dict(d): a copy -/
section
variable {X : Cx} {pins : List (Addr × Obj)} {σ : St} {H : Hp} {s : Shared} {a : Addr} {kvs : List (Key × V)} {A : Around} {E : Value → Shared → Prop}
end
section
variable {X : Cx} {pins : List (Addr × Obj)} {σ : St} {H : Hp} {s : Shared} {a : Addr} {y : V} {u : Value} {A : Around} {E : Value → Shared → Prop}
end
end L2
namespace Att
open PySem PySem.W PySem.Calls PyProof.Rows
/-! ### the script -/
theorem ints_of_wellAll {P : Params} {h : Heap} : ∀ (ns : List Int) (vs : List Value), WellAll P h vs (ns.map WData.int) → IntsAre vs ns := by
  intro ns
  induction ns with
  | nil =>
    intro vs w
    rw [List.map_nil] at w
    cases w
    exact .nil
  | cons n ns ih =>
    intro vs w
    rw [List.map_cons] at w
    cases w with
    | cons a b =>
      cases a
      exact .cons _ _ (ih _ b)
theorem script_of {l : OpenLaw} {n : Nat} (hn : l.most = some n) {P : Params} {h : Heap} {args : List WData} {vals : List Value}
    (hpre : l.row.toRowW.claim.pre args = true) (hwl : WellAll P h vals args) :
    ∃ a vs ns, vals = [Value.ref a] ∧ args = [WData.list (ns.map WData.int)] ∧ h.get? a = some { cls := .type "list", data := .seq vs.toArray } ∧ IntsAre vs ns ∧ ns.length ≤ n := by
  have hsh : WShape.hasAll [] args [.list .int] = true := (pre_splitW hpre).1
  have hc : l.pre.holds [] { args := args } = true := (pre_splitW hpre).2
  obtain ⟨d, r, rfl, h1, h2⟩ := hasAllW_cons hsh
  obtain rfl := hasAllW_nil h2
  obtain ⟨xs, rfl, h3⟩ := hasW_list h1
  obtain ⟨ns, rfl⟩ := items_int h3
  have hlen : ns.length ≤ n := by
    unfold OpenLaw.pre at hc
    have h4 : (WTm.not (.lt (.lit (.int (n : Int))) (.len (.arg 0)))).holds [] { args := [.list (ns.map .int)] } = true := by
      have h4 := (holds_andW hc).1
      rw [hn] at h4
      exact h4
    have h5 := condW_of h4 (w_not (w_lt w_lit (w_len_list (w_arg rfl))))
    rw [List.length_map] at h5
    refine Nat.le_of_not_lt fun q => ?_
    have q' : (n : Int) < ((ns.length : Nat) : Int) := by omega
    first
      | (rw [decide_eq_true q'] at h5; exact absurd h5 (by decide))
      | (simp at h5; omega)
  cases hwl with
  | cons w1 w2 =>
    cases w2
    cases w1 with
    | list ho hall => exact ⟨_, _, ns, rfl, rfl, ho, ints_of_wellAll ns _ hall, hlen⟩
theorem post_true (l : OpenLaw) (args : List WData) : l.row.toRowW.claim.post args (.bool true) args = true :=
  postW_of (r := l.row.toRowW) (X := (true == true))
    (show WShape.has [] (.bool true) .bool = true by first | rfl | decide | simp [WShape.has, WShape.arms, WShape.armsAll])
    (show (WTm.eq .res (.lit (.bool true))).value [] { args := args, res := some (.bool true), after := args } = some (.bool (true == true)) from w_eq_bool (w_res rfl) w_lit) rfl
/-! ### the attachment: holds_open's last premise (the goal 'hc' behind k_head) from a wpAny of the law's body -/
/-- the same from a codeAny of the CALL (for a layer whose function contracts speak of calls) -/
theorem attach_call {l : OpenLaw} {n : Nat} {q : Program} {loose : List Str} {XP : (Str → Option Value) → Heap → Prop} {YP : World → Heap → Prop} {d : DefRec}
    (hn : l.most = some n) (hdf : d.params.defaults = [])
    (call : ∀ (w : World) (s₀ s₁ : Shared) (mg mb : Str → Option Value) (fa : Addr) (o : Obj) (pm cd doc : Value) (a : Addr) (vs : List Value) (ns : List Int),
      Ground q loose [] XP w s₀ mg mb s₁.heap → YP w s₁.heap →
      s₁.heap.get? fa = some o → o.data = .func (docDef d.name d.params d.body d.scope pm cd doc) → s₁.heap.CodeRec cd d.name → mg d.name = some (.ref fa) →
      s₁.heap.get? a = some { cls := .type "list", data := .seq vs.toArray } → IntsAre vs ns → ns.length ≤ n → s₁.gens = #[] →
      codeAny (model l.prog w) callerA (.call (.ref fa) ⟨[.ref a], []⟩) (fun r s' => r = .ok (.ret (.bool true)) ∧ OldK s₁.heap s'.heap ∧ s'.os = s₁.os ∧ AllBare s'.gens) s₁) :
    WalkO q loose XP YP l.row.toRowW d [] (fun f vs => PySem.call f vs) := by
  intro w s₀ s₁ mg mb G Y fa o pm cd doc dV kV ho hd hcd hD hmg hg args vals as hpre hlay hrd hwl hlo
  obtain rfl : dV = .none := Dflts.none hD hdf
  obtain rfl : kV = .none := Dflts.noKw hD
  obtain ⟨a, vs, ns, rfl, rfl, hobj, hints, hlen⟩ := script_of hn hpre hwl
  refine enter_call (codeAny_mono (call w s₀ s₁ mg mb fa o pm cd doc a vs ns G Y ho (fd_plain hd) hcd hmg hobj hints hlen hg) fun r s' hq => ?_)
  obtain ⟨rfl, h2, h3, h4⟩ := hq
  exact ⟨.inl ⟨.bool true, .bool true, [], rfl, fun _ => rfl, .bool true, post_true l _, fun _ => ⟨List.Pairwise.nil, fun _ hm => (nomatch hm)⟩⟩, h2, h3, h4⟩
/-! ### rules over ANY heap (no ledger) from facts about the written part K: the library's own take a ledger (News) for what they write -/
section
variable {prog : Program} {w : World} {A : Around} {E : Value → Shared → Prop} {s : Shared} {K : Frag}
/-! the whole heap as the ledger: makes every rule that writes through a ledger a rule over any heap -/
end
end Att
namespace L2
open PySem PySem.Spec PyProof.Rows
theorem vals_ints : ∀ {vs : List Value} {ns : List Int}, IntsAre vs ns → Vals (ns.map V.int) vs
  | _, _, .nil => .nil
  | _, _, .cons n t h => .cons ⟨t, rfl⟩ (vals_ints h)
/-- nothing is tracked but the script, known to the object (or it is an object of the module) -/
def Only (H : Hp) : Prop := ∀ b, H b = none ∨ ∃ o xs, H b = some (.frz o (.lst xs))
/-- THE HEAD: the law's promise, at the heap behind the top. F, the promise of the law's def, may use that base is part of the heap (so K.In base, base.Ns mainGlobals mg stand in Mod) -/
theorem law_call {P : Program} {w : World} {K : PySem.W.Frag} {mg mb : Str → Option Value} {CX : CXT} {k : Nat} {fa a : Addr} {fd : FuncData} {x : Str} {sp : Sp} {s₁ : Shared} {vs : List Value} {ns : List Int}
    (KX : K.In s₁.heap) (hns : s₁.heap.Ns mainGlobals mg) (hb : s₁.heap.Ns builtinsNs mb) (hbb : ∀ x : Str, x ≠ "__name__" → mb x = bootBuiltins x) (hlim : s₁.heap.NoLimit) (hg : s₁.gens = #[])
    (ha : s₁.heap.get? a = some { cls := .type "list", data := .seq vs.toArray }) (hi : IntsAre vs ns) (hl : ns.length ≤ sizeLine) (hr : Room k callerA)
    (F : ∀ base : Heap, K.In base → base.Ns mainGlobals mg → FnOk P w K mg base CX k fa fd [x] sp) (hbind : ∀ (s : Shared) (u : Value), BindsTo s fd ⟨[u], []⟩ [(x, u)])
    (hsp : ∀ H : Hp, Only H → SqL K H a (ns.map V.int) → sp [.ref a] H (fun v _ => v = .bl true) fun _ _ _ => False)
    (hCX : ∀ H e s', CX [] H s₁ (fun _ _ _ => False) e s' → False) :
    codeAny (model P w) callerA (.call (.ref fa) ⟨[.ref a], []⟩) (fun r s' => r = .ok (.ret (.bool true)) ∧ OldK s₁.heap s'.heap ∧ s'.os = s₁.os ∧ AllBare s'.gens) s₁ := by
  have rv := vals_ints hi
  have lenV := hi.length
  -- from an abstract heap in which nothing but the script may be tracked
  have core : ∀ H : Hp, Only H → SqL K H a (ns.map V.int) → HOk P w H s₁.heap → (∀ b, H b ≠ none → b = a) → (H a ≠ none → K.lookup a = none) →
      codeAny (model P w) callerA (.call (.ref fa) ⟨[.ref a], []⟩) (fun r s' => r = .ok (.ret (.bool true)) ∧ OldK s₁.heap s'.heap ∧ s'.os = s₁.os ∧ AllBare s'.gens) s₁ := by
    intro H hO hS hok hA hK
    have base_of : ∀ {b : Addr} {o : Obj}, s₁.heap.get? b = some o → H b = none → (hidT s₁.heap H).get? b = some o := fun e n => hidT_get e n
    have noA : ∀ {b : Addr} {o : Obj} {es : Array DictEntry} {ep : Nat}, s₁.heap.get? b = some o → o.data = .dict es ep → H b = none := fun {b o es ep} e d => by
      cases q : H b with
      | none => rfl
      | some u =>
        have e' : b = a := hA b (by rw [q]; simp)
        subst e'
        rw [ha] at e; cases e
        have d' : Data.seq vs.toArray _ = Data.dict es ep := d
        cases d'
    have nsK : ∀ {b : Addr} {m : Str → Option Value}, s₁.heap.Ns b m → (hidT s₁.heap H).Ns b m := fun {b m} ⟨o, es, ep, e, d, r⟩ => ⟨o, es, ep, base_of e (noA e d), d, r⟩
    have hKb : K.In (hidT s₁.heap H) := fun b o e => base_of (KX b o e) (by
      cases q : H b with
      | none => rfl
      | some u =>
        have e' : b = a := hA b (by rw [q]; simp)
        subst e'
        rw [hK (by rw [q]; simp)] at e; cases e)
    have hM : Mod K mg (hidT s₁.heap H) := ⟨hKb, nsK hns, ⟨mb, nsK hb, hbb⟩, let ⟨mc, h1, h2⟩ := hlim; ⟨mc, nsK h1, h2⟩⟩
    have e0 : Env0 P w K mg (hidT s₁.heap H) callerA [] s₁ H := ⟨rfl, hM, fun b o e => of_hidT e, Nat.le_of_eq (hidT_size _ _), trivial, fun b hb => absurd (show b ∈ ([] : List Addr) from hb) (by simp), hok, .of_eq hg⟩
    refine codeAny_mono ((F _ hKb (nsK hns)).run callerA [] s₁ H ⟨[.ref a], []⟩ [.ref a] [.ref a] _ _ hr e0 (hbind s₁ (.ref a)) (.cons rfl .nil) (hsp H hO hS)) fun r s' h => ?_
    cases r with
    | error e => exact (hCX H e s' h).elim
    | ok fl =>
      cases fl with
      | next => exact False.elim h
      | brk => exact False.elim h
      | cont => exact False.elim h
      | ret u =>
        obtain ⟨v, H', os, bare, un, hok', r', q⟩ := h
        have q' : v = .bl true := q
        subst q'
        obtain rfl : u = Value.bool true := r'
        refine ⟨rfl, OldK.of_keep fun b o e => ?_, os, bare⟩
        cases q : H b with
        | none => exact un.keep b o e q (by intro z; exact absurd (show b ∈ ([] : List Addr) from z) (by simp)) (by simp)
        | some u =>
          rcases hO b with z | ⟨ob, xs, z⟩
          · rw [q] at z; cases z
          · have z2 := un.frzs b ob _ z
            obtain ⟨e1, _⟩ := hok b _ z
            obtain ⟨e2, _⟩ := hok' b _ z2
            rw [e] at e1; cases e1
            exact e2
  cases hk : K.lookup a with
  | some o =>
    -- the script is one of the module's own objects
    have e := KX a o hk
    rw [ha] at e
    cases e
    refine core (fun _ => none) (fun _ => .inl rfl) (.inr ⟨_, vs.toArray, _, hk, rfl, rfl, rfl, by rw [List.size_toArray, lenV]; exact hl, by simpa using rv⟩) (fun b u z => by have z' : (none : Option HO) = some u := z; cases z') (fun b z => absurd rfl z) fun z => absurd rfl z
  | none =>
    refine core (fun b => if b = a then some (.frz { cls := .type "list", data := .seq vs.toArray } (.lst (ns.map V.int))) else none) (fun b => ?_) (.inl (.inr ⟨{ cls := .type "list", data := .seq vs.toArray }, if_pos rfl⟩)) (fun b u z => ?_) (fun b z => ?_) fun _ => hk
    · by_cases hb : b = a
      · exact .inr ⟨_, _, if_pos hb⟩
      · exact .inl (if_neg hb)
    · by_cases hb : b = a
      · have z' := (if_pos hb).symm.trans z
        cases z'
        subst hb
        exact ⟨ha, by rw [List.length_map]; exact hl, vs, _, rv, ha⟩
      · have z' := (if_neg hb).symm.trans z
        cases z'
    · by_cases hb : b = a
      · exact hb
      · exact absurd (if_neg hb) z
end L2
namespace L2
open PySem PySem.Spec PyProof.Rows
/-- the goal that k_head leaves (case hc), from the law's promise. F gives the function object fd (K's own) once, then the promise over every base -/
theorem walk_of {l : PySem.W.OpenLaw} {n k : Nat} {q : Program} {loose : List Str} {XP : (Str → Option Value) → Heap → Prop} {YP : World → Heap → Prop} {d : DefRec} {K : Params → PySem.W.Frag} {CX : World → CXT} {sp : World → Sp} {x : Str}
    (hn : l.most = some n) (hn2 : n ≤ sizeLine) (hdf : d.params.defaults = []) (hr : Room k callerA)
    (hY : ∀ (w : World) (h : Heap), YP w h → (K w.params).In h)
    (F : ∀ (w : World) (mg : Str → Option Value) (fa : Addr) (h : Heap), (K w.params).In h → h.Ns mainGlobals mg → mg d.name = some (.ref fa) →
      ∃ fd : FuncData, (∀ (s : Shared) (u : Value), BindsTo s fd ⟨[u], []⟩ [(x, u)]) ∧
        ∀ base : Heap, (K w.params).In base → base.Ns mainGlobals mg → FnOk l.prog w (K w.params) mg base (CX w) k fa fd [x] (sp w))
    (hsp : ∀ (w : World) (H : Hp) (a : Addr) (ns : List Int), ns.length ≤ n → Only H → SqL (K w.params) H a (ns.map V.int) → sp w [.ref a] H (fun v _ => v = .bl true) fun _ _ _ => False)
    (hCX : ∀ (w : World) (H : Hp) (s : Shared) (e : Value) (s' : Shared), CX w [] H s (fun _ _ _ => False) e s' → False) :
    PySem.W.WalkO q loose XP YP l.row.toRowW d [] (fun f vs => PySem.call f vs) := by
  refine Att.attach_call hn hdf fun w s₀ s₁ mg mb fa o pm cd doc a vs ns G Y ho hd hcd hmg hobj hints hlen hg => ?_
  have KX := hY w _ Y
  obtain ⟨fd, hb, hF⟩ := F w mg fa _ KX G.T.g hmg
  exact law_call KX G.T.g G.T.b G.T.builtins G.T.nolimit hg hobj hints (Nat.le_trans hlen hn2) hr hF hb (fun H hO hS => hsp w H a ns hlen hO hS) fun H e s' => hCX w H s₁ e s'
end L2
/- THE LAST THEOREM (shape; LID, My.* are yours):
   My.Adr: a structure of the addresses that your layer names (classes, functions); My.Txt K t: a structure (Prop) of the equations over K;
   My.txt_mk : {K} {implicit addresses ..} (e1 : nsIn K mainGlobals "law" = some (some (.ref f))) (e2 : K.lookup f = some ⟨oc, od, .func (fnOf "law" "law" params body scope dV kV doc pm an cdv ct), sl⟩) (e3 : codeIn K cdv "law" = true) .. : ∃ t, My.Txt K t
set_option maxRecDepth 100000 in
set_option maxHeartbeats 0 in
theorem PySem.Challenge.cw_LID_holds : PySem.Challenge.rw_LID.Holds := by
  w_on; o_law; k_head; (case hw => w_witness2)
  k_fill
  refine L2.walk_of (l := PySem.Challenge.rw_LID) (n := 63) (k := 40) (x := "script") (CX := fun w => ..) (sp := fun _ => My.sp_law) rfl (by decide) rfl ⟨rfl, by decide, by decide⟩ (fun w h Y => PySem.W.kIn_of Y) ?F ?S ?C
  case F =>
    intro w mg fa h KX G hmg
    have T : ∃ t, My.Txt (L2.KOf KX) t := by
      dsimp only [L2.KOf]                          -- K must stand as «<heap const> w.params» for k_is
      refine' My.txt_mk ?e1 ?e2 ?e3 ..
      (case e1 => PySem.W.k_is)                    -- in the order: a name -> its address -> its object -> its parts
      (case e2 => PySem.W.k_is)
      ..
    obtain ⟨t, T⟩ := T
    have e0 := hmg.symm.trans (PySem.W.mg_of KX G T.law)
    cases e0                                       -- fa is the law's own address
    exact ⟨_, fun s u => .of_eq rfl, fun base kb nb => My.law_fn T kb nb⟩     -- if «.of_eq rfl» comes too early: refine' ⟨_, ?b, fun base kb nb => My.law_fn T kb nb⟩; exact fun s u => .of_eq rfl
  case S => exact fun w H a ns hl hO hS => ..
  case C => exact ..
(the tactic k_is has no namespace: write k_is) -/
/-! SHORT WORDS over the layer: a def of the text, its body, what a loop and a test want. -/
namespace L2
open PySem PySem.Spec PyProof.Rows
/-! ### the text by places -/
def defArgs (s : Stmt) : Arguments := match s with
  | .FunctionDef _ a _ _ _ _ _ _ _ _ => a
  | _ => { posonlyargs := [], args := [], vararg := none, kwonlyargs := [], kw_defaults := [], kwarg := none, defaults := [] }
def defBody (s : Stmt) : List Stmt := match s with
  | .FunctionDef _ _ b _ _ _ _ _ _ _ => b
  | _ => []
def defScope (s : Stmt) : Scope := match s with
  | .FunctionDef _ _ _ _ _ _ sc _ _ _ => sc
  | _ => { kind := .function, names := [], isGenerator := false, isCoroutine := false }
/-! ### no exception leaves a def -/
abbrev CX0 : CXT := fun _ _ _ _ _ _ => False
abbrev E0 : XK := fun _ _ _ => False
/-! ### a def (or method) of the text as it stands behind the top -/
structure Fun (K : PySem.W.Frag) (x qual : Str) (st : Stmt) (f : Addr) (fd : FuncData) : Prop where
  ex : ∃ (oc : Value) (od : Option Addr) (kV doc pm : Value) (an : Option Addr) (cdv ct : Value) (osl : Array (Option Value)),
    fd = PySem.W.fnOf x qual (defArgs st) (defBody st) (defScope st) .none kV doc pm an cdv ct ∧ K.lookup f = some ⟨oc, od, .func fd, osl⟩ ∧ PySem.W.codeIn K cdv qual = true
  kp : PySem.W.keepIn K (.ref f) = true
section
variable {P : Program} {w : World} {K : PySem.W.Frag} {mg : Str → Option Value} {base : Heap}
/-- THE RULE for a def: its body as a term of rules, and the reading of that term -/
theorem Fun.ok {x qual : Str} {st : Stmt} {f : Addr} {fd : FuncData} {N ps : List Str} {k : Nat} {sp : Sp} (F : Fun K x qual st f fd) (S : FnScope N ps (defScope st)) (len : ∀ vs H Q E, sp vs H Q E → vs.length = ps.length)
    (hbody : ∀ (cdv : Value) (A : Around) (outer : List Env) (s : Shared) (H : Hp) (vs : List V) (Q : VK) (E : XK), Room k (A.deeper (envOfC qual (defScope st) s.heap.objs.size f cdv)) → sp vs H Q E →
      ∃ t, PSs (cxOf CX0 P w K mg base N qual (defScope st) f cdv A outer s H E).nox (defBody st) t ∧ t { nx := fun _ H' => Q .non H', rt := Q } (start N vs) H) : FnOk P w K mg base CX0 (k + 1) f fd ps sp := by
  obtain ⟨oc, od, kV, doc, pm, an, cdv, ct, osl, rfl, lk, hcd⟩ := F.ex
  refine fn_of lk hcd S len fun A outer s H vs Q E hr hsp => ?_
  obtain ⟨t, h, q⟩ := hbody cdv A outer s H vs Q E hr hsp
  exact ⟨t, h.nox, q⟩
/-- how its arguments bind (no defaults): h is «fun _ _ _ _ _ _ us hl => match us, hl with | [_, _], _ => rfl», one _ a parameter -/
theorem Fun.binds {x qual : Str} {st : Stmt} {f : Addr} {fd : FuncData} {ps : List Str} (F : Fun K x qual st f fd)
    (h : ∀ (kV doc pm : Value) (an : Option Addr) (cdv ct : Value) (us : List Value), us.length = ps.length → bindArgs (PySem.W.fnOf x qual (defArgs st) (defBody st) (defScope st) .none kV doc pm an cdv ct) ⟨us, []⟩ = pure (ps.zip us)) : Binds K fd ps [] := by
  obtain ⟨oc, od, kV, doc, pm, an, cdv, ct, osl, rfl, lk, hcd⟩ := F.ex
  exact .all (h kV doc pm an cdv ct)
theorem fun_mk {x qual : Str} {st : Stmt} {f : Addr} {oc : Value} {od an : Option Addr} {osl : Array (Option Value)} {kV doc pm cdv ct : Value} (l : K.lookup f = some ⟨oc, od, .func (PySem.W.fnOf x qual (defArgs st) (defBody st) (defScope st) .none kV doc pm an cdv ct), osl⟩)
    (c : PySem.W.codeIn K cdv qual = true) (k : PySem.W.keepIn K (.ref f) = true) : Fun K x qual st f (PySem.W.fnOf x qual (defArgs st) (defBody st) (defScope st) .none kV doc pm an cdv ct) := ⟨⟨oc, od, kV, doc, pm, an, cdv, ct, osl, rfl, l, c⟩, k⟩
end
theorem hu_of {A : Around} {k : Nat} (hr : Room k A) : A.units + 1 < cLine := Nat.lt_of_le_of_lt (Nat.add_le_add_left (by decide : 1 ≤ 64) _) hr.units
theorem small1000 {n : Nat} (h : n ≤ 1000) : n < sizeLine := Nat.lt_of_le_of_lt h (by decide)
/-! ### expressions in short: the name that stands in the i-th slot -/
section
variable {X : Cx}
theorem pv (i : Nat) {x : Str} {pos : Pos} (hN : X.N[i]? = some x := by rfl) (hv : Vis X.env.scope x := by first | exact Or.inl rfl | exact Or.inr (Or.inl rfl) | exact Or.inr (Or.inr rfl)) (hd : (x == ("__debug__" : Str)) = false := by decide)
    (hcd : (x == ("__classdict__" : Str)) = false := by decide) : PE X (.Name x pos) (tVar i) := pe_var hN hv hd hcd
end
/-! ### tests -/
theorem iteF {A B : Prop} (h : B) : if false = true then A else B := by
  rw [if_neg Bool.false_ne_true]
  exact h
theorem iteT {A B : Prop} (h : A) : if true = true then A else B := by
  rw [if_pos rfl]
  exact h
theorem ite2 {c A B : Prop} [Decidable c] (h1 : c → A) (h2 : ¬ c → B) : if c then A else B := by
  by_cases h : c
  · rw [if_pos h]
    exact h1 h
  · rw [if_neg h]
    exact h2 h
/-! ### heaps -/
/-- all that was tracked is as it was -/
def Same (H H' : Hp) : Prop := ∀ b o, H b = some o → H' b = some o
theorem Same.refl (H : Hp) : Same H H := fun _ _ h => h
theorem Same.trans {H H1 H2 : Hp} (a : Same H H1) (b : Same H1 H2) : Same H H2 := fun c o h => b c o (a c o h)
/-! ### a dict's pairs: keys that differ -/
section
variable {κ : Type} [DecidableEq κ]
end
end L2

set_option Elab.async false
set_option linter.all false
set_option maxRecDepth 100000
set_option maxHeartbeats 4000000
namespace PySem
open Sem (wp)
namespace RV
theorem mro : mroOf (.type "reversed") = pure [.type "reversed", .type "object"] := by rw [mroOf_type]; kernel_rfl
theorem lookup_new : typeLookup (.type "reversed") "__new__" = pure (some (.builtin "reversed.__new__")) := by rw [typeLookup_type, builtinLookup_eq_fast]; kernel_rfl
theorem made : Bind.madeBy (.type "reversed") = pure (some "reversed.__new__") := madeBy_type mro lookup_new (by decide +kernel)
theorem typeCall_1 (a : Value) : checkTypeCall "reversed" ⟨[a], []⟩ = pure () := by kernel_rfl
theorem newCall_1 (a : Value) : checkBuiltinCall "reversed.__new__" ⟨[.type "reversed", a], []⟩ = pure () := by kernel_rfl
theorem entry_new : entryFor table "reversed.__new__" = some Builtin.«reversed.__new__» := entryFor_of_tree (by kernel_rfl)
theorem sub_self : isSubtype (.type "reversed") (.type "reversed") = pure true := by rw [isSubtype_type]; kernel_rfl
theorem slot_init : Slot "reversed" "__init__" "object.__init__" :=
  .of (owner := "object") (n := "__init__") (by rw [typeLookup_type, builtinLookup_eq_fast]; kernel_rfl) (by decide +kernel) (by decide +kernel) (by decide +kernel)
    (by first | exact .inl (by decide +kernel) | exact .inr (by decide +kernel)) (by rw [isSubtype_type]; kernel_rfl)
theorem called : TypeCalled "reversed" "reversed.__new__" "object.__init__" :=
  ⟨by decide +kernel, by decide +kernel, ⟨_, _, mro⟩, made, by decide +kernel, sub_self, slot_init⟩
theorem owner : Manifest.owners.lookup (String.ofList ['d', 'e', 's', 'r', 'e', 'v', 'e', 'r'].reverse) = some Manifest.sig_reversed := by kernel_rfl
theorem slot_next : Slot "reversed" "__next__" "reversed.__next__" :=
  .of (owner := "reversed") (n := "__next__") (by rw [typeLookup_type, builtinLookup_eq_fast]; kernel_rfl) (by decide +kernel) (by decide +kernel) (by decide +kernel)
    (by first | exact .inl (by decide +kernel) | exact .inr (by decide +kernel)) (by rw [isSubtype_type]; kernel_rfl)
theorem entry_next : entryFor table "reversed.__next__" = some Builtin.«reversed.__next__» := entryFor_of_tree (by kernel_rfl)
theorem args_next_1 (a : Value) : argsOk "reversed.__next__" ⟨[a], []⟩ := by
  unfold argsOk; rw [signature?_of (id := "reversed.__next__") (n := ['_', '_', 't', 'x', 'e', 'n', '_', '_']) (o := ['d', 'e', 's', 'r', 'e', 'v', 'e', 'r']) (by kernel_rfl) owner]; kernel_rfl
theorem slot_iter : Slot "reversed" "__iter__" "reversed.__iter__" :=
  .of (owner := "reversed") (n := "__iter__") (by rw [typeLookup_type, builtinLookup_eq_fast]; kernel_rfl) (by decide +kernel) (by decide +kernel) (by decide +kernel)
    (by first | exact .inl (by decide +kernel) | exact .inr (by decide +kernel)) (by rw [isSubtype_type]; kernel_rfl)
theorem args_iter_1 (a : Value) : argsOk "reversed.__iter__" ⟨[a], []⟩ := by
  unfold argsOk; rw [signature?_of (id := "reversed.__iter__") (n := ['_', '_', 'r', 'e', 't', 'i', '_', '_']) (o := ['d', 'e', 's', 'r', 'e', 'v', 'e', 'r']) (by kernel_rfl) owner]; kernel_rfl
theorem entry_iter : entryFor table "reversed.__iter__" = some Builtin.«dict_keyiterator.__iter__» :=
  entryFor_alias (id' := "dict_keyiterator.__iter__") (by kernel_rfl) (by first | rfl | decide +kernel | (unfold String.splitOn; simp +decide [String.splitOnAux])) (by decide +kernel) (by kernel_rfl)
theorem no_rev : typeLookup (.type "str") "__reversed__" = pure none := by rw [typeLookup_type, builtinLookup_eq_fast]; kernel_rfl
theorem sub_str_dict : isSubtype (.type "str") (.type "dict") = pure false := by rw [isSubtype_type]; kernel_rfl
theorem newClass (a : Value) : Builtin.SmallTypes.newClass "reversed" ⟨[.type "reversed", a], []⟩ = pure (.type "reversed", [a]) := by
  unfold Builtin.SmallTypes.newClass
  simp only [isType, sub_self, pure_bind, Bool.not_true, Bool.false_eq_true, if_false]
end RV
def Heap.IsRevStr (h : Heap) (a : Addr) (x : Str) (t : Tok) (i : Int) : Prop := ∃ o, h.get? a = some o ∧ o.cls = .type "reversed" ∧ o.data = .fields #[.str x t, rawInt i]
theorem Heap.IsRevStr.typeIs {s : Shared} {a : Addr} {x : Str} {t : Tok} {i : Int} (y : s.heap.IsRevStr a x t i) : s.TypeIs (.ref a) "reversed" := let ⟨o, ho, hc, _⟩ := y; ⟨o, ho, hc⟩
section
variable {prog : Program} {w : World} {A : Around} {E : Value → Shared → Prop} {s : Shared}
theorem meets_rev_new (x : Str) (t : Tok) (hx : x.length ≤ sizeLine) : Meets (Builtin.«reversed.__new__» ⟨[.type "reversed", .str x t], []⟩)
    (fun _ R s => ∀ tk, R (.ok (.ret (.ref s.heap.objs.size))) { s with heap := s.heap.push { cls := .type "reversed", data := .fields #[.str x t, rawInt ((x.length : Int) - 1)] }, toks := tk }) := by
  intro prog w A R s h
  unfold Builtin.«reversed.__new__»
  refine wpAny_bind (wpAny_of_eq (RV.newClass _) ?_)
  try dsimp only
  refine wpAny_bind (wpAny_of_eq (a := ()) (by first | rfl | kernel_rfl) ?_)
  refine wpAny_bind (wpAny_of_eq (a := ()) (by first | rfl | kernel_rfl) ?_)
  try dsimp only
  refine wpAny_bind (wpAny_specialOf (typeIs_str _ _ _) RV.no_rev ?_)
  try dsimp only
  refine wpAny_bind ?_
  show wpAny _ _ (isInstance (Value.str x t) (.type "dict") >>= _) _ _ _
  refine wpAny_bind (wpAny_isInstance (T := "str") (b := false) (typeIs_str _ _ _) RV.sub_str_dict ?_)
  simp only [Bool.false_eq_true, if_false]
  refine wpAny_bind (wpAny_specialOf (typeIs_str _ _ _) F.slot_str_getitem.lookup ?_)
  dsimp only
  rw [if_pos (by decide)]
  refine wpAny_pure ?_
  simp only [Bool.not_true, Bool.false_eq_true, if_false]
  have hs : sizeLine = 16777216 := sizeLine_eq
  refine wpAny_bind (PySem.P.len_str (by omega) ?_)
  refine wpAny_bind (wpAny_of_eq (a := some (x.length : Int)) rfl ?_)
  dsimp only
  refine wpAny_bind ?_
  show wpAny _ _ (newObj (Value.type "reversed") (.fields [Value.str x t, rawInt ((x.length : Int) - 1)].toArray)) _ _ _
  refine wpAny_newObj_type (wpAny_pure (h _)) (by size_fits)
theorem call_rev_str {x : Str} {t : Tok} {Q : Value → Shared → Prop} (hx : x.length ≤ sizeLine)
    (h : ∀ tk, Q (.ref s.heap.objs.size) { s with heap := s.heap.push { cls := .type "reversed", data := .fields #[.str x t, rawInt ((x.length : Int) - 1)] }, toks := tk }) :
    wpAny (model prog w) A (call (.type "reversed") [.str x t]) Q E s :=
  callType_new RV.called (by decide) (RV.typeCall_1 _) (RV.newCall_1 _) (fun obj => F.args_object_init_2 obj _) RV.entry_new (meets_rev_new x t hx) fun tk => ⟨⟨_, Heap.get?_push_size _ rfl, rfl⟩, h tk⟩
theorem next_rev_item {it : Addr} {x : Str} {t : Tok} {i c : Nat} {Q : Option Value → Shared → Prop} (hx : x.length ≤ sizeLine) (hit : s.heap.IsRevStr it x t (i : Int)) (hc : x.cps[i]? = some c)
    (hQ : ∀ h' tk tk', h'.IsRevStr it x t ((i : Int) - 1) → Heap.SameBut it s.heap h' → Q (some (.str ⟨#[c]⟩ tk')) { s with heap := h', toks := tk }) :
    wpAny (model prog w) A (pyNext (.ref it)) Q E s := by
  obtain ⟨o, ho, hcl, hd⟩ := id hit
  have hs : sizeLine = 16777216 := sizeLine_eq
  have hi : i < x.cps.size := (Array.getElem?_eq_some_iff.mp hc).1
  have hi' : i < x.length := hi
  unfold pyNext
  refine wpAny_bind (wpAny_attempt (wpAny_callSpecial?_slot (name := Str.ofString "__next__") hit.typeIs RV.slot_next
    (wpAny_call_entry RV.slot_next hit.typeIs RV.entry_next ?_ (RV.args_next_1 _))))
  unfold Builtin.«reversed.__next__»
  refine wpAny_bind (wpAny_of_eq (a := (Value.ref it, [])) rfl ?_)
  try dsimp only
  refine wpAny_bind (wpAny_field ho hd (x := .str x t) rfl ?_)
  refine wpAny_bind (wpAny_field ho hd (x := rawInt (i : Int)) rfl ?_)
  show wpAny _ _ (if (i : Int) < 0 then _ else _) _ _ s
  rw [if_neg (by omega)]
  refine wpAny_bind (wpAny_specialOf (typeIs_str _ _ _) F.slot_str_getitem.lookup ?_)
  simp only [Option.isNone_some, Bool.false_eq_true, if_false]
  refine wpAny_bind (wpAny_mkInt ?_)
  have e1 : (seqIndex? (i : Int) x.length).bind (x.cps[·]?) = some c := by
    have e2 : seqIndex? (i : Int) x.length = some i := by
      unfold seqIndex?
      have h0 : ¬ (i : Int) < 0 := by omega
      simp only [h0, if_false]
      simp
      omega
    rw [e2]
    exact hc
  refine wpAny_bind (wpAny_attempt (PySem.P.getItem_str (c := c) (by simp; omega) e1 ?_))
  dsimp only
  refine wpAny_bind (wpAny_field ho hd (x := rawInt (i : Int)) rfl ?_)
  show wpAny _ _ (setField (.ref it) 1 (rawInt ((i : Int) - 1)) >>= _) _ _ _
  refine wpAny_bind (wpAny_setField ho hd (by simp) ?_)
  refine wpAny_pure ⟨_, rfl, wpAny_pure (hQ _ _ _ ?_ (Heap.SameBut.update ..))⟩
  exact ⟨_, Heap.get?_update_self _ ho (Obj.isFreed_of_fields (Obj.data_mapFields hd _)), (Obj.cls_mapFields ..).trans hcl, by
    rw [Obj.data_mapFields hd]; simp⟩
theorem next_rev_end {it : Addr} {x : Str} {t : Tok} {Q : Option Value → Shared → Prop} (hh : A.handled = none) (hit : s.heap.IsRevStr it x t (-1))
    (hQ : ∀ h', Heap.ExtBut it s.heap h' → Q none { s with heap := h' }) : wpAny (model prog w) A (pyNext (.ref it)) Q E s := by
  obtain ⟨o, ho, hcl, hd⟩ := id hit
  unfold pyNext
  refine wpAny_bind (wpAny_attempt (wpAny_callSpecial?_slot (name := Str.ofString "__next__") hit.typeIs RV.slot_next
    (wpAny_call_entry RV.slot_next hit.typeIs RV.entry_next ?_ (RV.args_next_1 _))))
  unfold Builtin.«reversed.__next__»
  refine wpAny_bind (wpAny_of_eq (a := (Value.ref it, [])) rfl ?_)
  try dsimp only
  refine wpAny_bind (wpAny_field ho hd (x := .str x t) rfl ?_)
  refine wpAny_bind (wpAny_field ho hd (x := rawInt (-1)) rfl ?_)
  show wpAny _ _ (if (-1 : Int) < 0 then _ else _) _ _ s
  rw [if_pos (by decide)]
  refine wpAny_bind (wpAny_rule ?_)
  refine wpAny_bind ?_
  show wpAny _ _ (setField (.ref it) 1 (rawInt (-1)) >>= fun _ => setField (.ref it) 0 .none) _ _ _
  refine wpAny_bind (wpAny_setField ho hd (by simp) ?_)
  refine wpAny_setField (Heap.get?_update_self _ ho (Obj.isFreed_of_fields (Obj.data_mapFields hd _))) (Obj.data_mapFields hd _) (by simp) ?_
  refine wpAny_bind ?_
  show wpAny _ _ (newExc (.type "StopIteration") [] >>= _) _ _ _
  refine wpAny_bind ?_
  simp only [newExc, newTuple]
  refine wpAny_bind (wpAny_newObj_type ?_ (by size_fits))
  refine wpAny_bind (m := firstArgMember _ _) (wpAny_of_eq (a := Value.none) (by first | rfl | (simp only [firstArgMember]; rfl)) ?_)
  refine wpAny_newObj_type ?_ (by size_fits)
  simp only [raiseNew]
  refine wpAny_bind (wpAny_handled ?_)
  first | rw [show A.in1.handled = none from hh] | rw [hh]
  refine wpAny_bind (wpAny_pure (wpAny_throw ?_))
  refine wpAny_bind (wpAny_isInstance (T := "StopIteration") (b := true) ⟨_, Heap.get?_push_size _ rfl, rfl⟩ isSubtype_stop ?_)
  refine wpAny_pure (hQ _ ((Heap.ExtBut.push ?_ _).push _))
  exact ((Heap.SameBut.update ..).trans (Heap.SameBut.update ..)).extBut
theorem iter_rev {it : Addr} {x : Str} {t : Tok} {i : Int} {Q : Value → Shared → Prop} (hit : s.heap.IsRevStr it x t i) (h : Q (.ref it) s) : wpAny (model prog w) A (pyIter (.ref it)) Q E s := by
  refine wpAny_pyIter_slot hit.typeIs RV.slot_iter (wpAny_call_entry RV.slot_iter hit.typeIs RV.entry_iter ?_ (RV.args_iter_1 _))
  show wpAny _ _ (ret (.ref it)) _ _ s
  exact wpAny_pure ⟨_, rfl, "reversed", _, hit.typeIs, RV.slot_next.lookup, h⟩
end
end PySem

/-! fractions, letters, walks: plain mathematics -/
namespace TW
abbrev Fr := Int × Int
/-- what one letter leads a fraction to -/
def mv (c : Nat) (f : Fr) : Fr :=
  if c = 116 then (f.1 + f.2, f.2) else if c = 117 then (f.1 - f.2, f.2)
  else if 0 < f.1 then (-f.2, f.1) else if f.1 < 0 then (f.2, -f.1) else (1, 0)
def walk (w : List Nat) (f : Fr) : Fr := w.foldl (fun f c => mv c f) f
def exch (c : Nat) : Nat := if c = 116 then 117 else if c = 117 then 116 else 114
def bk (w : List Nat) : List Nat := w.reverse.map exch
def IsL (c : Nat) : Prop := c = 116 ∨ c = 117 ∨ c = 114
def IsW (w : List Nat) : Prop := ∀ c ∈ w, IsL c
def IsF (f : Fr) : Prop := (f.1 = 1 ∧ f.2 = 0) ∨ (0 < f.2 ∧ Int.gcd f.1 f.2 = 1)

theorem walk_nil (f : Fr) : walk [] f = f := rfl
theorem walk_cons (c : Nat) (w : List Nat) (f : Fr) : walk (c :: w) f = walk w (mv c f) := rfl
theorem walk_append (a b : List Nat) (f : Fr) : walk (a ++ b) f = walk b (walk a f) := by
  unfold walk; rw [List.foldl_append]
theorem walk_snoc (a : List Nat) (c : Nat) (f : Fr) : walk (a ++ [c]) f = mv c (walk a f) := by
  rw [walk_append]; rfl
theorem IsW.nil : IsW [] := fun _ h => nomatch h
theorem IsW.cons {c : Nat} {w : List Nat} (h : IsL c) (hw : IsW w) : IsW (c :: w) := fun d hd => by
  rcases List.mem_cons.mp hd with rfl | hd
  · exact h
  · exact hw d hd
theorem IsW.append {a b : List Nat} (ha : IsW a) (hb : IsW b) : IsW (a ++ b) := fun d hd => by
  rcases List.mem_append.mp hd with hd | hd
  · exact ha d hd
  · exact hb d hd
theorem IsW.tail {c : Nat} {w : List Nat} (h : IsW (c :: w)) : IsW w := fun d hd => h d (List.mem_cons_of_mem _ hd)
theorem IsW.head {c : Nat} {w : List Nat} (h : IsW (c :: w)) : IsL c := h c List.mem_cons_self
theorem exch_L (c : Nat) : IsL (exch c) := by
  unfold exch IsL
  by_cases h1 : c = 116
  · rw [if_pos h1]; exact .inr (.inl rfl)
  · rw [if_neg h1]
    by_cases h2 : c = 117
    · rw [if_pos h2]; exact .inl rfl
    · rw [if_neg h2]; exact .inr (.inr rfl)
theorem bk_W (w : List Nat) : IsW (bk w) := fun d hd => by
  unfold bk at hd
  obtain ⟨c, _, rfl⟩ := List.mem_map.mp hd
  exact exch_L c
theorem exch_exch {c : Nat} (h : IsL c) : exch (exch c) = c := by
  rcases h with rfl | rfl | rfl <;> rfl
theorem bk_cons (c : Nat) (w : List Nat) : bk (c :: w) = bk w ++ [exch c] := by
  unfold bk; rw [List.reverse_cons, List.map_append]; rfl
theorem bk_snoc (c : Nat) (w : List Nat) : bk (w ++ [c]) = exch c :: bk w := by
  unfold bk; rw [List.reverse_append]; rfl
theorem bk_append (a b : List Nat) : bk (a ++ b) = bk b ++ bk a := by
  unfold bk; rw [List.reverse_append, List.map_append]
theorem bk_bk : ∀ {w : List Nat}, IsW w → bk (bk w) = w
  | [], _ => rfl
  | c :: w, h => by rw [bk_cons, bk_snoc, exch_exch h.head, bk_bk h.tail]
theorem bk_length (w : List Nat) : (bk w).length = w.length := by unfold bk; simp

theorem gcd_add (a b : Int) : Int.gcd (a + b) b = Int.gcd a b := by simp
theorem gcd_sub (a b : Int) : Int.gcd (a - b) b = Int.gcd a b := by simp
theorem mv_F {c : Nat} {f : Fr} (h : IsF f) : IsF (mv c f) := by
  obtain ⟨a, b⟩ := f
  unfold mv IsF at *
  dsimp only at h ⊢
  rcases h with ⟨rfl, rfl⟩ | ⟨hb, hg⟩
  · repeat' split <;> simp
  · by_cases h1 : c = 116
    · rw [if_pos h1]; right; exact ⟨hb, by rw [gcd_add]; exact hg⟩
    · rw [if_neg h1]
      by_cases h2 : c = 117
      · rw [if_pos h2]; right; exact ⟨hb, by rw [gcd_sub]; exact hg⟩
      · rw [if_neg h2]
        by_cases h3 : 0 < a
        · rw [if_pos h3]; right; refine ⟨h3, ?_⟩
          show Int.gcd (-b) a = 1
          rw [Int.neg_gcd, Int.gcd_comm]; exact hg
        · rw [if_neg h3]
          by_cases h4 : a < 0
          · rw [if_pos h4]; right
            refine ⟨by show 0 < -a; omega, ?_⟩
            show Int.gcd b (-a) = 1
            rw [Int.gcd_neg, Int.gcd_comm]; exact hg
          · rw [if_neg h4]; left; exact ⟨rfl, rfl⟩
theorem walk_F : ∀ {w : List Nat} {f : Fr}, IsF f → IsF (walk w f)
  | [], _, h => h
  | _ :: w, _, h => by rw [walk_cons]; exact walk_F (w := w) (mv_F h)
theorem mv_exch {c : Nat} {f : Fr} (hc : IsL c) (h : IsF f) : mv (exch c) (mv c f) = f := by
  obtain ⟨a, b⟩ := f
  rcases hc with rfl | rfl | rfl
  · show ((a + b) - b, b) = (a, b); congr 1; omega
  · show ((a - b) + b, b) = (a, b); congr 1; omega
  · show mv 114 (mv 114 (a, b)) = (a, b)
    unfold mv IsF at *
    dsimp only at h ⊢
    rcases h with ⟨rfl, rfl⟩ | ⟨hb, hg⟩
    · decide
    · by_cases h3 : 0 < a
      · have hb' : ¬ (0 < -b) := by omega
        have hb2 : -b < 0 := by omega
        simp [h3, hb]; omega
      · by_cases h4 : a < 0
        · simp [h3, h4, hb]
        · have e : a = 0 := by omega
          subst e
          have : b = 1 := by simp at hg; omega
          subst this; decide
theorem walk_bk : ∀ {w : List Nat} {f : Fr}, IsW w → IsF f → walk (bk w) (walk w f) = f
  | [], _, _, _ => rfl
  | c :: w, f, hw, hf => by
    rw [bk_cons, walk_snoc, walk_cons, walk_bk hw.tail (mv_F hf), mv_exch hw.head hf]
theorem F_nought : IsF (0, 1) := Or.inr ⟨by decide, by decide⟩
theorem F_end : IsF (1, 0) := Or.inl ⟨rfl, rfl⟩
theorem F_one : IsF (1, 1) := Or.inr ⟨by decide, by decide⟩
end TW

set_option Elab.async false
/-! the quiet pieces, and steps -/
namespace TW
theorem mv_t (a b : Int) : mv 116 (a, b) = (a + b, b) := rfl
theorem mv_u (a b : Int) : mv 117 (a, b) = (a - b, b) := rfl
theorem mvr_pos {a : Int} (b : Int) (h : 0 < a) : mv 114 (a, b) = (-b, a) := by
  show (if 0 < a then _ else _) = _
  rw [if_pos h]
theorem mvr_neg {a : Int} (b : Int) (h : a < 0) : mv 114 (a, b) = (b, -a) := by
  show (if 0 < a then _ else if a < 0 then _ else _) = _
  rw [if_neg (by omega), if_pos h]
def pcs : List (List Nat) := [[116, 117], [117, 116], [114, 114], [116, 114, 116, 114, 116, 114]]
theorem quiet_tr {a b : Int} (hb : 0 < b) (hg : Int.gcd a b = 1) : walk [116, 114, 116, 114, 116, 114] (a, b) = (a, b) := by
  show mv 114 (mv 116 (mv 114 (mv 116 (mv 114 (mv 116 (a, b)))))) = (a, b)
  rw [mv_t a b]
  rcases Int.lt_trichotomy (a + b) 0 with h | h | h
  · rw [mvr_neg _ h, mv_t b (-(a + b)), show b + -(a + b) = -a by omega, mvr_pos _ (show 0 < -a by omega), mv_t (- -(a + b)) (-a), show - -(a + b) + -a = b by omega, mvr_pos _ hb, Int.neg_neg]
  · have hb1 : b = 1 := by
      have e : a = -b := by omega
      rw [e, Int.neg_gcd, Int.gcd_self] at hg
      omega
    subst hb1
    have ha : a = -1 := by omega
    subst ha
    rfl
  · rw [mvr_pos _ h, mv_t (-b) (a + b), show -b + (a + b) = a by omega]
    rcases Int.lt_trichotomy a 0 with k | k | k
    · rw [mvr_neg _ k, mv_t (a + b) (-a), show a + b + -a = b by omega, mvr_pos _ hb, Int.neg_neg]
    · subst k
      have hb1 : b = 1 := by
        rw [Int.gcd_comm, Int.gcd_zero_right] at hg
        omega
      subst hb1
      rfl
    · rw [mvr_pos _ k, mv_t (-(a + b)) a, show -(a + b) + a = -b by omega, mvr_neg _ (show -b < 0 by omega), Int.neg_neg]
theorem quiet_pc {p : List Nat} {f : Fr} (hp : p ∈ pcs) (hf : IsF f) : walk p f = f := by
  obtain ⟨a, b⟩ := f
  have e : p = [116, 117] ∨ p = [117, 116] ∨ p = [114, 114] ∨ p = [116, 114, 116, 114, 116, 114] := by simpa [pcs] using hp
  rcases e with rfl | rfl | rfl | rfl
  · exact mv_exch (c := 116) (.inl rfl) hf
  · exact mv_exch (c := 117) (.inr (.inl rfl)) hf
  · exact mv_exch (c := 114) (.inr (.inr rfl)) hf
  · rcases hf with ⟨h1, h2⟩ | ⟨h1, h2⟩
    · cases (show a = 1 from h1)
      cases (show b = 0 from h2)
      rfl
    · exact quiet_tr h1 h2
/-- the word behind a step -/
def due (u : List Nat) (isIn : Bool) (i : Int) (p : List Nat) : Option (List Nat) :=
  if i < 0 ∨ (u.length : Int) < i then none
  else if isIn = true then some (u.take i.toNat ++ p ++ u.drop i.toNat)
  else if (u.drop i.toNat).take p.length = p then some (u.take i.toNat ++ u.drop (i.toNat + p.length)) else none
theorem due_in {u p : List Nat} {i : Int} (h0 : 0 ≤ i) (h1 : i ≤ u.length) : due u true i p = some (u.take i.toNat ++ p ++ u.drop i.toNat) := by
  unfold due
  rw [if_neg (by omega), if_pos rfl]
theorem due_out {u p : List Nat} {i : Int} (h0 : 0 ≤ i) (h1 : i ≤ u.length) : due u false i p = if (u.drop i.toNat).take p.length = p then some (u.take i.toNat ++ u.drop (i.toNat + p.length)) else none := by
  unfold due
  rw [if_neg (by omega), if_neg (by decide)]
theorem due_walk {u v p : List Nat} {b : Bool} {i : Int} {f : Fr} (hf : IsF f) (hp : p ∈ pcs) (h : due u b i p = some v) : walk v f = walk u f := by
  unfold due at h
  split at h
  · cases h
  · split at h
    · cases h
      rw [walk_append, walk_append, quiet_pc hp (walk_F hf), ← walk_append, List.take_append_drop]
    · split at h
      · rename_i e
        cases h
        have e1 : u = u.take i.toNat ++ (p ++ u.drop (i.toNat + p.length)) := by
          have z := List.take_append_drop i.toNat u
          have z2 := List.take_append_drop p.length (u.drop i.toNat)
          rw [e, List.drop_drop] at z2
          rw [z2]
          exact z.symm
        have e2 : walk u f = walk (u.take i.toNat ++ (p ++ u.drop (i.toNat + p.length))) f := congrArg (fun x => walk x f) e1
        rw [e2, walk_append, walk_append, walk_append, quiet_pc hp (walk_F hf)]
      · cases h
end TW

set_option Elab.async false
/-! words as matrices; three fractions tell all; what comes back does so within three -/
namespace TW
end TW

set_option Elab.async false
/-! what comes back does so within three times -/
namespace TW
end TW
set_option Elab.async false
/-! words by syllables r, s = tr, z = ru: what acts alike has one and the same plain row of them -/
namespace TW
inductive Syl | r | s | z
  deriving DecidableEq
namespace Syl
def wd : Syl → List Nat
  | r => [114]
  | s => [116, 114]
  | z => [114, 117]
def isR : Syl → Bool
  | r => true
  | _ => false
def inv : Syl → Syl
  | r => r
  | s => z
  | z => s
end Syl
open Syl
def tw (l : List Syl) : List Nat := l.flatMap wd
theorem tw_nil : tw [] = [] := rfl
theorem tw_cons (x : Syl) (l : List Syl) : tw (x :: l) = wd x ++ tw l := rfl
theorem tw_append (a b : List Syl) : tw (a ++ b) = tw a ++ tw b := by unfold tw; simp
def alt : List Syl → Prop
  | [] => True
  | [_] => True
  | x :: y :: l => x.isR ≠ y.isR ∧ alt (y :: l)
theorem alt_tail {x : Syl} {l : List Syl} (h : alt (x :: l)) : alt l := by
  cases l with
  | nil => trivial
  | cons y l => exact h.2
def Ps (f : Fr) : Prop := 0 < f.1 ∧ 0 < f.2
def Ne (f : Fr) : Prop := f.1 < 0 ∧ 0 < f.2
theorem r_ne {f : Fr} (h : Ne f) : Ps (walk (wd r) f) := by
  obtain ⟨a, b⟩ := f
  obtain ⟨h1, h2⟩ := h
  show Ps (mv 114 (a, b))
  rw [mvr_neg b h1]
  exact ⟨h2, by show 0 < -a; have : a < 0 := h1; omega⟩
theorem s_ps {f : Fr} (h : Ps f) : Ne (walk (wd s) f) := by
  obtain ⟨a, b⟩ := f
  have h1 : 0 < a := h.1
  have h2 : 0 < b := h.2
  show Ne (mv 114 (mv 116 (a, b)))
  rw [mv_t, mvr_pos b (show 0 < a + b by omega)]
  exact ⟨by show -b < 0; omega, by show 0 < a + b; omega⟩
theorem z_ps {f : Fr} (h : Ps f) : Ne (walk (wd z) f) := by
  obtain ⟨a, b⟩ := f
  have h1 : 0 < a := h.1
  have h2 : 0 < b := h.2
  show Ne (mv 117 (mv 114 (a, b)))
  rw [mvr_pos b h1, mv_u]
  exact ⟨by show -b - a < 0; omega, h1⟩
/-- where a plain row leads: by its first and last syllable -/
theorem run : ∀ (l : List Syl) (x : Syl) (f : Fr), alt (x :: l) → (if x.isR = true then Ne f else Ps f) → (if ((x :: l).getLast (by simp)).isR = true then Ps (walk (tw (x :: l)) f) else Ne (walk (tw (x :: l)) f))
  | [], x, f, _, hf => by
    have e : tw [x] = wd x := by rw [tw_cons, tw_nil, List.append_nil]
    rw [e]
    cases x with
    | r => exact r_ne hf
    | s => exact s_ps hf
    | z => exact z_ps hf
  | y :: l, x, f, h, hf => by
    rw [tw_cons, walk_append, List.getLast_cons (by simp)]
    refine run l y (walk (wd x) f) h.2 ?_
    have h1 := h.1
    cases x <;> cases y <;> simp [isR] at h1 hf ⊢
    · exact r_ne hf
    · exact r_ne hf
    · exact s_ps hf
    · exact z_ps hf
theorem wd_W (x : Syl) : IsW (wd x) := by
  intro c hc
  unfold IsL
  cases x <;> simp [wd] at hc <;> omega
theorem tw_W (l : List Syl) : IsW (tw l) := by
  induction l with
  | nil => exact IsW.nil
  | cons x l ih => exact (wd_W x).append ih
theorem wd_inv (x : Syl) {f : Fr} (hf : IsF f) : walk (wd x.inv) (walk (wd x) f) = f := by
  cases x with
  | r => exact mv_exch (c := 114) (.inr (.inr rfl)) hf
  | s =>
    show mv 117 (mv 114 (mv 114 (mv 116 f))) = f
    have e1 : mv 114 (mv 114 (mv 116 f)) = mv 116 f := mv_exch (c := 114) (.inr (.inr rfl)) (mv_F hf)
    rw [e1]
    exact mv_exch (c := 116) (.inl rfl) hf
  | z =>
    show mv 114 (mv 116 (mv 117 (mv 114 f))) = f
    have e1 : mv 116 (mv 117 (mv 114 f)) = mv 114 f := mv_exch (c := 117) (.inr (.inl rfl)) (mv_F hf)
    rw [e1]
    exact mv_exch (c := 114) (.inr (.inr rfl)) hf
theorem wd_inv' (x : Syl) {f : Fr} (hf : IsF f) : walk (wd x) (walk (wd x.inv) f) = f := by
  have h := wd_inv x.inv hf
  cases x <;> exact h
/-- two of a kind are the third -/
theorem wd_two {x : Syl} (hx : x.isR = false) {f : Fr} (hf : IsF f) : walk (wd x) (walk (wd x) f) = walk (wd x.inv) f := by
  have q : walk [116, 114, 116, 114, 116, 114] f = f := quiet_pc (by simp [pcs]) hf
  cases x with
  | r => cases hx
  | s =>
    have e : walk (wd s) (walk (wd s) (walk (wd s) f)) = f := q
    have g := wd_inv s (f := walk (wd s) (walk (wd s) f)) (walk_F (walk_F hf))
    rw [e] at g
    exact g.symm
  | z =>
    have q2 : ∀ g, IsF g → walk (wd s) (walk (wd s) (walk (wd s) g)) = g := fun g hg => quiet_pc (p := [116, 114, 116, 114, 116, 114]) (by simp [pcs]) hg
    have i : ∀ g, IsF g → walk (wd s) (walk (wd z) g) = g := fun g hg => wd_inv z hg
    have e := q2 (walk (wd z) (walk (wd z) f)) (walk_F (walk_F hf))
    rw [i _ (walk_F hf), i _ hf] at e
    exact e.symm
def Same3 (u v : List Nat) : Prop := ∀ f, IsF f → walk u f = walk v f
theorem F_m1 : IsF (-1, 1) := Or.inr ⟨by decide, by decide⟩
theorem last_snoc (k : Syl) (l : List Syl) (x : Syl) (h : k :: (l ++ [x]) ≠ []) : (k :: (l ++ [x])).getLast h = x := by
  rw [List.getLast_cons (by simp)]
  simp
/-- both ends of one kind: it leads elsewhere -/
theorem odd_ends {x : Syl} {l : List Syl} (h : alt (x :: l)) (e : ((x :: l).getLast (by simp)).isR = x.isR) : ¬ Same3 (tw (x :: l)) [] := by
  intro q
  cases hx : x.isR with
  | true =>
    have g := run l x (-1, 1) h (by rw [hx, if_pos rfl]; exact ⟨by decide, by decide⟩)
    rw [e, hx, if_pos rfl, q _ F_m1] at g
    exact absurd g.1 (by decide)
  | false =>
    have g := run l x (1, 1) h (by rw [hx, if_neg (by decide)]; exact ⟨by decide, by decide⟩)
    rw [e, hx, if_neg (by decide), q _ F_one] at g
    exact absurd g.1 (by decide)
theorem alt_append : ∀ {a b : List Syl}, alt a → alt b → (∀ x y, a.getLast? = some x → b.head? = some y → x.isR ≠ y.isR) → alt (a ++ b)
  | [], _, _, hb, _ => hb
  | [x], [], h, _, _ => h
  | [x], y :: b, _, hb, j => ⟨j x y rfl rfl, hb⟩
  | x :: y :: a, b, h, hb, j => ⟨h.1, alt_append (a := y :: a) h.2 hb (fun p q e1 e2 => j p q (by rw [List.getLast?_cons_cons]; exact e1) e2)⟩
theorem alt_prefix : ∀ {a b : List Syl}, alt (a ++ b) → alt a
  | [], _, _ => trivial
  | [x], _, _ => trivial
  | x :: y :: a, b, h => ⟨h.1, alt_prefix (a := y :: a) (b := b) h.2⟩
/-- a plain row that is not empty leads something elsewhere -/
theorem not_still {l : List Syl} (h : alt l) (hn : l ≠ []) : ¬ Same3 (tw l) [] := by
  cases l with
  | nil => exact absurd rfl hn
  | cons x l =>
    by_cases e : ((x :: l).getLast (by simp)).isR = x.isR
    · exact odd_ends h e
    · intro q
      -- an even row: split off the last
      have hl : l ≠ [] := fun z => by subst z; exact e rfl
      obtain ⟨m, y, rfl⟩ : ∃ m y, l = m ++ [y] := ⟨l.dropLast, l.getLast hl, (List.dropLast_concat_getLast hl).symm⟩
      have ey : ((x :: (m ++ [y])).getLast (by simp)) = y := last_snoc x m y _
      rw [ey] at e
      cases hx : x.isR with
      | false =>
        -- x m r  ->  x x m r x' : ends of one kind
        have hy : y.isR = true := by
          cases hyy : y.isR with
          | true => rfl
          | false => rw [hx, hyy] at e; exact absurd rfl e
        have a1 : alt (x.inv :: (m ++ [y])) := by
          cases m with
          | nil =>
            refine ⟨?_, trivial⟩
            cases x <;> simp [inv, isR] at hx hy ⊢ <;> simp [hy]
          | cons k m =>
            refine ⟨?_, h.2⟩
            have := h.1
            cases x <;> cases k <;> simp [inv, isR] at hx this ⊢
        have a2 : alt (x.inv :: (m ++ [y]) ++ [x.inv]) := by
          refine alt_append a1 trivial fun p q0 e1 e2 => ?_
          have ep : p = y := by
            have z : (x.inv :: (m ++ [y])).getLast? = some y := by
              have : x.inv :: (m ++ [y]) = (x.inv :: m) ++ [y] := rfl
              rw [this, List.getLast?_concat]
            rw [z] at e1
            exact (Option.some.inj e1).symm
          have eq : q0 = x.inv := (Option.some.inj e2).symm
          subst ep eq
          rw [hy]
          cases x <;> simp [inv, isR] at hx ⊢
        refine odd_ends (x := x.inv) (l := m ++ [y] ++ [x.inv]) (by simpa using a2) (by rw [last_snoc]) ?_
        intro f hf
        have t1 : tw (x.inv :: (m ++ [y] ++ [x.inv])) = wd x.inv ++ tw (m ++ [y]) ++ wd x.inv := by
          rw [tw_cons, tw_append, tw_cons, tw_nil, List.append_nil, List.append_assoc]
        rw [t1, walk_append, walk_append, ← wd_two hx hf]
        have q1 := q (walk (wd x) f) (walk_F hf)
        rw [tw_cons, walk_append] at q1
        rw [q1, walk_nil, walk_nil]
        exact wd_inv x hf
      | true =>
        -- r m y : turned by r it is m y r
        have hy : y.isR = false := by
          cases hyy : y.isR with
          | false => rfl
          | true => rw [hx, hyy] at e; exact absurd rfl e
        cases x with
        | s => cases hx
        | z => cases hx
        | r =>
          -- m y r begins and ends unlike; go on with y' (m y r) y ..: ends of one kind
          -- the row y' r m y y = y' r m y'
          have a0 : alt (r :: (m ++ [y.inv])) := by
            have hm : alt (r :: m) := alt_prefix (a := r :: m) (b := [y]) h
            refine alt_append (a := r :: m) hm trivial fun p q0 e1 e2 => ?_
            have eq : q0 = y.inv := (Option.some.inj e2).symm
            subst eq
            have j : p.isR ≠ y.isR := by
              have hh : alt ((r :: m) ++ [y]) := h
              clear q ey e hl
              revert hh e1
              generalize r :: m = k
              induction k with
              | nil => intro e1 _; cases e1
              | cons c k ih =>
                intro e1 hh
                cases k with
                | nil =>
                  cases e1
                  exact hh.1
                | cons d k => exact ih (by rw [List.getLast?_cons_cons] at e1; exact e1) hh.2
            cases y <;> simp [inv, isR] at hy j ⊢ <;> exact j
          have a2 : alt (y.inv :: r :: (m ++ [y.inv])) := ⟨by cases y <;> simp [inv, isR] at hy ⊢, a0⟩
          refine odd_ends a2 (by rw [List.getLast_cons (by simp), last_snoc]) ?_
          intro f hf
          have t1 : tw (y.inv :: r :: (m ++ [y.inv])) = wd y.inv ++ (tw (r :: m) ++ wd y.inv) := by
            have : r :: (m ++ [y.inv]) = (r :: m) ++ [y.inv] := rfl
            rw [tw_cons, this, tw_append, tw_cons y.inv, tw_nil, List.append_nil]
          have q1 := q (walk (wd y.inv) f) (walk_F hf)
          have t2 : tw (r :: (m ++ [y])) = tw (r :: m) ++ wd y := by
            have : r :: (m ++ [y]) = (r :: m) ++ [y] := rfl
            rw [this, tw_append, tw_cons y, tw_nil, List.append_nil]
          rw [t2, walk_append, walk_nil] at q1
          rw [t1, walk_append, walk_append, walk_nil]
          -- y' = y y
          have two := wd_two (x := y) hy (f := walk (tw (r :: m)) (walk (wd y.inv) f)) (walk_F (walk_F hf))
          rw [← two, q1]
          exact wd_inv' y hf
/-! ### one row alone -/
theorem inv_isR (x : Syl) : x.inv.isR = x.isR := by cases x <;> rfl
def binv (l : List Syl) : List Syl := l.reverse.map inv
theorem binv_cons (x : Syl) (l : List Syl) : binv (x :: l) = binv l ++ [x.inv] := by unfold binv; simp
theorem walk_binv : ∀ (l : List Syl) {f : Fr}, IsF f → walk (tw (binv l)) (walk (tw l) f) = f
  | [], _, _ => rfl
  | x :: l, f, hf => by
    rw [binv_cons, tw_append, tw_cons x l, walk_append, walk_append, walk_binv l (walk_F hf), tw_cons, tw_nil, List.append_nil, wd_inv x hf]
theorem alt_map : ∀ {l : List Syl}, alt l → alt (l.map inv)
  | [], _ => trivial
  | [_], _ => trivial
  | x :: y :: l, h => ⟨by rw [inv_isR, inv_isR]; exact h.1, alt_map (l := y :: l) h.2⟩
theorem alt_rev : ∀ {l : List Syl}, alt l → alt l.reverse
  | [], _ => trivial
  | x :: l, h => by
    rw [List.reverse_cons]
    refine alt_append (alt_rev (alt_tail h)) trivial fun p q e1 e2 => ?_
    rw [List.getLast?_reverse] at e1
    cases l with
    | nil => cases e1
    | cons y l =>
      cases e1
      cases e2
      exact fun z => h.1 z.symm
theorem alt_binv {l : List Syl} (h : alt l) : alt (binv l) := alt_map (alt_rev h)
theorem head_binv {x : Syl} {l : List Syl} {p : Syl} (e : (binv (x :: l)).getLast? = some p) : p = x.inv := by
  rw [binv_cons, List.getLast?_concat] at e
  exact (Option.some.inj e).symm
/-- rows that lead alike are one row -/
theorem row_unique : ∀ {a b : List Syl}, alt a → alt b → Same3 (tw a) (tw b) → a = b
  | [], [], _, _, _ => rfl
  | [], y :: b, _, hb, q => absurd (fun f hf => (q f hf).symm) (not_still hb (by simp))
  | x :: a, [], ha, _, q => absurd q (not_still ha (by simp))
  | x :: a, y :: b, ha, hb, q => by
    by_cases e : x = y
    · subst e
      have q' : Same3 (tw a) (tw b) := fun f hf => by
        have z := q (walk (wd x.inv) f) (walk_F hf)
        rw [tw_cons, tw_cons, walk_append, walk_append, wd_inv' x hf] at z
        exact z
      rw [row_unique (alt_tail ha) (alt_tail hb) q']
    · exfalso
      -- back over a, then over b
      by_cases k : x.isR = y.isR
      · -- s and z: what stands between is one of them
        have hx : x.isR = false := by cases x <;> cases y <;> simp_all [isR]
        have hy : y = x.inv := by cases x <;> cases y <;> simp_all [isR, inv]
        subst hy
        have a1 : alt (binv a ++ x :: b) := by
          refine alt_append (alt_binv (alt_tail ha)) ?_ fun p q0 e1 e2 => ?_
          · cases b with
            | nil => trivial
            | cons c b => exact ⟨by rw [← inv_isR x]; exact hb.1, hb.2⟩
          · cases e2
            cases a with
            | nil => cases e1
            | cons c a =>
              rw [head_binv e1, inv_isR]
              exact fun z => ha.1 z.symm
        refine not_still a1 (by simp) fun f hf => ?_
        rw [tw_append, tw_cons, walk_append, walk_append, walk_nil]
        -- f = a x g with g behind
        have g1 := walk_F (w := tw (binv a)) hf
        have st : walk (wd x) (walk (tw (binv a)) f) = walk (wd x.inv) (walk (wd x.inv) (walk (tw (binv a)) f)) := by
          have := wd_two (x := x.inv) (by rw [inv_isR]; exact hx) g1
          rw [this]
          cases x <;> rfl
        rw [st]
        have z := q (walk (wd x.inv) (walk (tw (binv a)) f)) (walk_F g1)
        rw [tw_cons, tw_cons, walk_append, walk_append, wd_inv' x g1] at z
        rw [← z]
        have w0 := walk_binv (binv a) hf
        have bb : binv (binv a) = a := by
          unfold binv
          rw [← List.map_reverse, List.reverse_reverse, List.map_map]
          have : (inv ∘ inv) = id := by funext c; cases c <;> rfl
          rw [this, List.map_id]
        rw [bb] at w0
        exact w0
      · have a1 : alt (binv (x :: a) ++ y :: b) := by
          refine alt_append (alt_binv ha) hb fun p q0 e1 e2 => ?_
          cases e2
          rw [head_binv e1, inv_isR]
          exact k
        refine not_still a1 (by simp) fun f hf => ?_
        rw [tw_append, walk_append, walk_nil, ← q _ (walk_F hf)]
        have w0 := walk_binv (binv (x :: a)) hf
        have bb : binv (binv (x :: a)) = x :: a := by
          unfold binv
          rw [← List.map_reverse, List.reverse_reverse, List.map_map]
          have : (inv ∘ inv) = id := by funext c; cases c <;> rfl
          rw [this, List.map_id]
        rw [bb] at w0
        exact w0
/-! ### the row of a word, the last syllable first -/
def psh : Syl → List Syl → List Syl
  | r, r :: l => l
  | s, s :: l => z :: l
  | s, z :: l => l
  | z, z :: l => s :: l
  | z, s :: l => l
  | x, l => x :: l
theorem psh_alt {x : Syl} {l : List Syl} (h : alt l) : alt (psh x l) := by
  cases x <;> cases l with
  | nil => trivial
  | cons y l =>
    cases y <;> first
      | exact alt_tail h
      | exact ⟨by simp [isR], h⟩
      | (cases l with
          | nil => trivial
          | cons c l => exact ⟨by have := h.1; simpa [isR] using this, h.2⟩)
theorem walk_snoc_row (l : List Syl) (x : Syl) (f : Fr) : walk (tw ((x :: l).reverse)) f = walk (wd x) (walk (tw l.reverse) f) := by
  rw [List.reverse_cons, tw_append, walk_append, tw_cons, tw_nil, List.append_nil]
theorem psh_walk (x : Syl) (l : List Syl) {f : Fr} (hf : IsF f) : walk (tw (psh x l).reverse) f = walk (wd x) (walk (tw l.reverse) f) := by
  cases x <;> cases l with
  | nil => exact walk_snoc_row _ _ _
  | cons y l =>
    cases y <;> first
      | exact walk_snoc_row _ _ _
      | (rw [walk_snoc_row l]
         exact (wd_inv _ (walk_F hf)).symm)
      | (rw [walk_snoc_row l]
         show walk (tw (_ :: l).reverse) f = _
         rw [walk_snoc_row l]
         first | exact (wd_two (x := s) rfl (walk_F hf)).symm | exact (wd_two (x := z) rfl (walk_F hf)).symm)
def stp (l : List Syl) (c : Nat) : List Syl := if c = 116 then psh r (psh s l) else if c = 117 then psh z (psh r l) else psh r l
def row (w : List Nat) : List Syl := w.foldl stp []
theorem stp_alt {l : List Syl} {c : Nat} (h : alt l) : alt (stp l c) := by
  unfold stp
  split
  · exact psh_alt (psh_alt h)
  · split
    · exact psh_alt (psh_alt h)
    · exact psh_alt h
theorem stp_walk (l : List Syl) {c : Nat} (hc : IsL c) {f : Fr} (hf : IsF f) : walk (tw (stp l c).reverse) f = mv c (walk (tw l.reverse) f) := by
  have rr : ∀ g, IsF g → mv 114 (mv 114 g) = g := fun g hg => mv_exch (c := 114) (.inr (.inr rfl)) hg
  rcases hc with rfl | rfl | rfl
  · show walk (tw (psh r (psh s l)).reverse) f = _
    rw [psh_walk r _ hf, psh_walk s l hf]
    exact rr _ (mv_F (walk_F hf))
  · show walk (tw (psh z (psh r l)).reverse) f = _
    rw [psh_walk z _ hf, psh_walk r l hf]
    show mv 117 (mv 114 (mv 114 _)) = _
    rw [rr _ (walk_F hf)]
  · show walk (tw (psh r l).reverse) f = _
    rw [psh_walk r l hf]
    rfl
theorem foldl_alt : ∀ (w : List Nat) {l : List Syl}, alt l → alt (w.foldl stp l)
  | [], _, h => h
  | _ :: w, _, h => foldl_alt w (stp_alt h)
theorem foldl_walk : ∀ (w : List Nat) (l : List Syl), IsW w → ∀ {f : Fr}, IsF f → walk (tw (w.foldl stp l).reverse) f = walk w (walk (tw l.reverse) f)
  | [], _, _, _, _ => rfl
  | c :: w, l, h, f, hf => by
    rw [List.foldl_cons, foldl_walk w _ h.tail hf, stp_walk l h.head hf, walk_cons]
theorem row_alt (w : List Nat) : alt (row w) := foldl_alt w trivial
theorem row_walk {w : List Nat} (h : IsW w) {f : Fr} (hf : IsF f) : walk (tw (row w).reverse) f = walk w f := foldl_walk w [] h hf
end TW
set_option Elab.async false
set_option linter.all false
/-! rows begun elsewhere: rows without loose ends are one another's, from another place -/
namespace TW
open Syl
inductive Rot : List Syl → List Syl → Prop
  | refl (l : List Syl) : Rot l l
  | left {a : Syl} {m l' : List Syl} : Rot (m ++ [a]) l' → Rot (a :: m) l'
  | right {b : Syl} {k l' : List Syl} : Rot (b :: k) l' → Rot (k ++ [b]) l'
theorem Rot.parts {l l' : List Syl} (h : Rot l l') : ∃ p q, l = p ++ q ∧ l' = q ++ p := by
  induction h with
  | refl l => exact ⟨l, [], by simp, by simp⟩
  | @left a m l' _ ih =>
    obtain ⟨p, q, e1, e2⟩ := ih
    rcases List.eq_nil_or_concat q with rfl | ⟨q', c, rfl⟩
    · refine ⟨[a], m, rfl, ?_⟩
      simp at e1 e2
      rw [e2, ← e1]
    · rw [List.concat_eq_append] at e1 e2
      rw [← List.append_assoc] at e1
      obtain ⟨h1, h2⟩ := List.append_inj' e1 rfl
      cases h2
      exact ⟨a :: p, q', by rw [h1]; rfl, by rw [e2]; simp⟩
  | @right b k l' _ ih =>
    obtain ⟨p, q, e1, e2⟩ := ih
    cases p with
    | nil =>
      simp at e1 e2
      exact ⟨k, [b], rfl, by rw [e2, ← e1]; rfl⟩
    | cons c p =>
      cases e1
      exact ⟨p, q ++ [b], by simp, by rw [e2]; simp⟩
def CRed (l : List Syl) : Prop := alt l ∧ (l.length ≤ 1 ∨ l.head?.map isR ≠ l.getLast?.map isR)
theorem wd_inj {x : Syl} {f g : Fr} (hf : IsF f) (hg : IsF g) (h : walk (wd x) f = walk (wd x) g) : f = g := by
  rw [← wd_inv x hf, h, wd_inv x hg]
theorem tw_inj (l : List Syl) {f g : Fr} (hf : IsF f) (hg : IsF g) (h : walk (tw l) f = walk (tw l) g) : f = g := by
  rw [← walk_binv l hf, h, walk_binv l hg]
theorem binv_head {c : List Syl} {p : Syl} (h : (binv c).head? = some p) : ∃ y, c.getLast? = some y ∧ p.isR = y.isR := by
  unfold binv at h
  rw [List.head?_map, List.head?_reverse] at h
  obtain ⟨y, h1, h2⟩ := Option.map_eq_some_iff.mp h
  exact ⟨y, h1, by rw [← h2, inv_isR]⟩
/-- a row with both ends of one kind, begun elsewhere, has loose ends -/
theorem loose {c V : List Syl} (hV : V ≠ []) (e : V.head?.map isR = V.getLast?.map isR) (hz : 2 ≤ (c ++ V ++ binv c).length) : ¬ CRed (c ++ V ++ binv c) := by
  intro h
  rcases h.2 with h2 | h2
  · omega
  · refine h2 ?_
    cases c with
    | nil => simpa [binv] using e
    | cons x c =>
      rw [binv_cons, ← List.append_assoc, List.getLast?_concat]
      simp [inv_isR]
/-- the way of a row that nothing is merged in -/
theorem wrapped {c V l' : List Syl} (hc : alt c) (hV : alt V) (hn : V ≠ []) (j1 : ∀ x y, c.getLast? = some x → V.head? = some y → x.isR ≠ y.isR) (j2 : ∀ x y, V.getLast? = some x → c.getLast? = some y → x.isR ≠ y.isR)
    (e : V.head?.map isR = V.getLast?.map isR) (hz : c = [] → 2 ≤ V.length) (hl' : CRed l') (q : ∀ f, IsF f → walk (tw V) (walk (tw c) f) = walk (tw c) (walk (tw l') f)) : False := by
  have a1 : alt (c ++ V) := alt_append hc hV j1
  have a2 : alt (c ++ V ++ binv c) := by
    refine alt_append a1 (alt_binv hc) fun x y e1 e2 => ?_
    obtain ⟨y', e3, e4⟩ := binv_head e2
    rw [e4]
    refine j2 x y' ?_ e3
    rw [List.getLast?_append] at e1
    cases hv : V.getLast? with
    | none => rw [List.getLast?_eq_none_iff] at hv; exact absurd hv hn
    | some v => rw [hv] at e1; exact e1
  have u : c ++ V ++ binv c = l' := row_unique a2 hl'.1 fun f hf => by
    rw [tw_append, tw_append, walk_append, walk_append, q f hf, walk_binv c (walk_F hf)]
  rw [← u] at hl'
  refine loose hn e ?_ hl'
  have hv : 1 ≤ V.length := List.length_pos_iff.mpr hn
  cases c with
  | nil => have := hz rfl; simp; omega
  | cons x c => simp; omega
theorem wd_comm {x y : Syl} (h : x.isR = y.isR) {f : Fr} (hf : IsF f) : walk (wd y) (walk (wd x) f) = walk (wd x) (walk (wd y) f) := by
  cases x <;> cases y <;> simp [isR] at h <;> try rfl
  · exact (wd_inv s hf).trans (wd_inv z hf).symm
  · exact (wd_inv z hf).trans (wd_inv s hf).symm
theorem cyc_rot : ∀ (k l l' : List Syl), alt k.reverse → CRed l → CRed l' → (∀ f, IsF f → walk (tw l) (walk (tw k.reverse) f) = walk (tw k.reverse) (walk (tw l') f)) → Rot l l'
  | [], l, l', _, hl, hl', q => by
    rw [row_unique hl.1 hl'.1 fun f hf => q f hf]
    exact .refl _
  | x :: k, l, l', hk, hl, hl', q => by
    have hk' : alt k.reverse := by
      rw [List.reverse_cons] at hk
      exact alt_prefix hk
    have lastk : ∀ y, k.reverse.getLast? = some y → y.isR ≠ x.isR := fun y hy => by
      rw [List.getLast?_reverse] at hy
      cases k with
      | nil => cases hy
      | cons c k =>
        cases hy
        have z := alt_rev hk
        rw [List.reverse_reverse] at z
        exact fun w => z.1 w.symm
    have q' : ∀ f, IsF f → walk (tw l) (walk (wd x) (walk (tw k.reverse) f)) = walk (wd x) (walk (tw k.reverse) (walk (tw l') f)) := fun f hf => by
      have z := q f hf
      rw [List.reverse_cons, tw_append, walk_append, walk_append, tw_cons, tw_nil, List.append_nil] at z
      exact z
    match l, hl, q' with
    | [], hl, q' =>
      have e : l' = [] := by
        by_cases h : l' = []
        · exact h
        · refine absurd (fun f hf => ?_) (not_still hl'.1 h)
          have z := wd_inj (walk_F hf) (walk_F (walk_F hf)) (q' f hf)
          exact (tw_inj _ hf (walk_F hf) z).symm
      rw [e]
      exact .refl _
    | [y], hl, q' =>
      by_cases hxy : x.isR = y.isR
      · refine cyc_rot k [y] l' hk' hl hl' fun f hf => ?_
        have z := q' f hf
        rw [tw_cons, tw_nil, List.append_nil, wd_comm hxy (walk_F hf)] at z
        rw [tw_cons, tw_nil, List.append_nil]
        exact wd_inj (walk_F (walk_F hf)) (walk_F (walk_F hf)) z
      · exfalso
        refine wrapped (c := (x :: k).reverse) (V := [y]) hk trivial (by simp) ?_ ?_ rfl (fun z => by simp at z) hl' q
        · intro p p' e1 e2
          rw [List.getLast?_reverse] at e1
          cases e1
          cases e2
          exact hxy
        · intro p p' e1 e2
          rw [List.getLast?_reverse] at e2
          cases e2
          cases e1
          exact fun z => hxy z.symm
    | a :: a2 :: m0, hl, q' =>
      obtain ⟨kk, b, hb⟩ : ∃ kk b, a :: a2 :: m0 = kk ++ [b] := ⟨_, _, (List.dropLast_concat_getLast (by simp : a :: a2 :: m0 ≠ [])).symm⟩
      have kab : a.isR ≠ b.isR := by
        rcases hl.2 with h | h
        · simp at h
        · intro z
          refine h ?_
          have e2 : (a :: a2 :: m0).getLast? = some b := by rw [hb, List.getLast?_concat]
          rw [e2]
          simp [z]
      have rot_ok : ∀ {p p' : List Syl} {c d : Syl}, alt p' → p'.length = (a :: a2 :: m0).length → p'.head? = some c → p'.getLast? = some d → c.isR ≠ d.isR → CRed p' := fun h1 _ h3 h4 h5 => ⟨h1, .inr (by rw [h3, h4]; simpa using h5)⟩
      by_cases c1 : x = a.inv
      · refine .left (cyc_rot k (a2 :: m0 ++ [a]) l' hk' ⟨?_, .inr ?_⟩ hl' fun f hf => ?_)
        · refine alt_append (a := a2 :: m0) (alt_tail hl.1) trivial fun p p' e1 e2 => ?_
          cases e2
          have e3 : (a :: a2 :: m0).getLast? = some p := by rw [List.getLast?_cons_cons]; exact e1
          rw [hb, List.getLast?_concat] at e3
          cases e3
          exact fun z => kab z.symm
        · rw [List.getLast?_concat]
          have := hl.1.1
          simp
          exact fun z => this z.symm
        · have z := q' f hf
          rw [tw_cons, walk_append, c1, wd_inv' a (walk_F hf)] at z
          rw [tw_append, walk_append, z, tw_cons a, tw_nil, List.append_nil, wd_inv' a (walk_F (walk_F hf))]
      · by_cases c2 : x = b
        · rw [hb]
          refine .right (cyc_rot k (b :: kk) l' hk' ⟨?_, .inr ?_⟩ hl' fun f hf => ?_)
          · have h1 : alt kk := by have z := hl.1; rw [hb] at z; exact alt_prefix z
            cases kk with
            | nil => trivial
            | cons c kk =>
              have e0 : a = c := (List.cons.inj hb).1
              subst e0
              exact ⟨fun z => kab z.symm, h1⟩
          · cases kk with
            | nil => cases hb
            | cons c kk =>
              have e0 : c = a := (List.cons.inj hb).1.symm
              subst e0
              have e1 : alt (c :: kk ++ [b]) := by rw [← hb]; exact hl.1
              have lastc : ∀ d, (c :: kk).getLast? = some d → d.isR ≠ b.isR := fun d hd => by
                clear q q' c1 c2 hb kab hl rot_ok
                revert hd e1
                generalize c :: kk = w
                induction w with
                | nil => intro _ hd; cases hd
                | cons g w ih =>
                  intro e1 hd
                  cases w with
                  | nil => cases hd; exact e1.1
                  | cons h w => exact ih e1.2 (by rw [List.getLast?_cons_cons] at hd; exact hd)
              cases hd : (c :: kk).getLast? with
              | none => simp at hd
              | some d =>
                rw [List.getLast?_cons_cons, hd]
                have := lastc d hd
                simp
                exact fun z => this z.symm
          · have z := q' f hf
            rw [hb, tw_append, walk_append, tw_cons b [], tw_nil, List.append_nil, c2] at z
            have z2 := wd_inj (walk_F (walk_F (walk_F hf))) (walk_F (walk_F hf)) z
            rw [tw_cons, walk_append]
            exact z2
        · exfalso
          have hx : x.isR = false := by
            cases x with
            | r =>
              cases a with
              | r => exact absurd rfl c1
              | s => cases b <;> simp_all [isR]
              | z => cases b <;> simp_all [isR]
            | s => rfl
            | z => rfl
          by_cases ha : a.isR = false
          · -- x = a
            have xa : x = a := by cases x <;> cases a <;> simp_all [isR, inv]
            subst xa
            have hbR : b.isR = true := by
              cases hbb : b.isR with
              | true => rfl
              | false => rw [ha, hbb] at kab; exact absurd rfl kab
            refine wrapped (c := k.reverse) (V := x.inv :: a2 :: m0 ++ [x.inv]) hk' ?_ (by simp) ?_ ?_ ?_ (fun _ => by simp) hl' fun f hf => ?_
            · refine alt_append (a := x.inv :: a2 :: m0) ⟨by rw [inv_isR]; exact hl.1.1, hl.1.2⟩ trivial fun p p' e1 e2 => ?_
              cases e2
              have e3 : (x :: a2 :: m0).getLast? = some p := by rw [List.getLast?_cons_cons] at e1 ⊢; exact e1
              rw [hb, List.getLast?_concat] at e3
              cases e3
              rw [inv_isR, ha, hbR]
              decide
            · intro p p' e1 e2
              cases e2
              rw [inv_isR]
              exact lastk p e1
            · intro p p' e1 e2
              rw [List.getLast?_concat] at e1
              cases e1
              rw [inv_isR]
              exact fun z => lastk p' e2 z.symm
            · rw [List.getLast?_concat]; rfl
            · have z := q' f hf
              rw [tw_cons, walk_append, wd_two ha (walk_F hf)] at z
              have t1 : tw (x.inv :: a2 :: m0 ++ [x.inv]) = wd x.inv ++ tw (a2 :: m0) ++ wd x.inv := by
                have : x.inv :: a2 :: m0 ++ [x.inv] = x.inv :: ((a2 :: m0) ++ [x.inv]) := rfl
                rw [this, tw_cons, tw_append, tw_cons x.inv [], tw_nil, List.append_nil, List.append_assoc]
              rw [t1, walk_append, walk_append, z, wd_inv x (walk_F (walk_F hf))]
          · -- a = r, x = b'
            have haR : a.isR = true := by cases h : a.isR with
              | true => rfl
              | false => exact absurd h ha
            have hbR : b.isR = false := by
              cases hbb : b.isR with
              | false => rfl
              | true => rw [haR, hbb] at kab; exact absurd rfl kab
            have xb : b = x.inv := by cases x <;> cases b <;> simp_all [isR, inv]
            subst xb
            refine wrapped (c := k.reverse) (V := x :: kk ++ [x]) hk' ?_ (by simp) ?_ ?_ ?_ (fun _ => by simp) hl' fun f hf => ?_
            · cases kk with
              | nil => cases hb
              | cons c kk =>
                have e0 : c = a := (List.cons.inj hb).1.symm
                subst e0
                have e1 : alt (c :: kk ++ [x.inv]) := by rw [← hb]; exact hl.1
                have swap : ∀ (w : List Syl), alt (w ++ [x.inv]) → alt (w ++ [x]) := fun w => by
                  induction w with
                  | nil => exact fun _ => trivial
                  | cons g w ih =>
                    intro h
                    cases w with
                    | nil => exact ⟨by have := h.1; rw [inv_isR] at this; exact this, trivial⟩
                    | cons h2 w => exact ⟨h.1, ih h.2⟩
                exact ⟨by rw [hx, haR]; decide, swap (c :: kk) e1⟩
            · intro p p' e1 e2
              cases e2
              exact lastk p e1
            · intro p p' e1 e2
              rw [List.getLast?_concat] at e1
              cases e1
              exact fun z => lastk p' e2 z.symm
            · rw [List.getLast?_concat]; rfl
            · have z := q' f hf
              rw [hb, tw_append, walk_append, tw_cons x.inv [], tw_nil, List.append_nil] at z
              have t1 : tw (x :: kk ++ [x]) = wd x ++ tw kk ++ wd x := by
                have : x :: kk ++ [x] = x :: (kk ++ [x]) := rfl
                rw [this, tw_cons, tw_append, tw_cons x [], tw_nil, List.append_nil, List.append_assoc]
              have z2 := congrArg (walk (wd x.inv)) z
              rw [wd_inv x (walk_F (walk_F hf)), wd_two (x := x.inv) (by rw [inv_isR]; exact hx) (walk_F (walk_F (walk_F hf)))] at z2
              rw [t1, walk_append, walk_append]
              have ii : x.inv.inv = x := by cases x <;> rfl
              rw [ii] at z2
              exact z2
end TW
set_option Elab.async false
set_option linter.all false
/-! rounds -/
namespace TW
open Syl
def sy (y : Bool) : Syl := if y = true then s else z
def rnd (ys : List Bool) : List Syl := ys.flatMap fun y => [r, sy y]
theorem rnd_cons (y : Bool) (ys : List Bool) : rnd (y :: ys) = r :: sy y :: rnd ys := rfl
theorem sy_isR (y : Bool) : (sy y).isR = false := by cases y <;> rfl
theorem rnd_alt : ∀ ys : List Bool, alt (rnd ys)
  | [] => trivial
  | [y] => ⟨by rw [sy_isR]; decide, trivial⟩
  | y :: y2 :: ys => by
    have ih := rnd_alt (y2 :: ys)
    rw [rnd_cons] at ih ⊢
    rw [rnd_cons]
    exact ⟨by rw [sy_isR]; decide, by rw [sy_isR]; decide, ih⟩
theorem rnd_last : ∀ (ys : List Bool) {x : Syl}, (rnd ys).getLast? = some x → x.isR = false
  | [], _, h => by cases h
  | [y], _, h => by cases h; exact sy_isR y
  | y :: y2 :: ys, x, h => by
    rw [rnd_cons, rnd_cons, List.getLast?_cons_cons, List.getLast?_cons_cons] at h
    exact rnd_last (y2 :: ys) h
theorem rnd_CRed (ys : List Bool) : CRed (rnd ys) := by
  refine ⟨rnd_alt ys, ?_⟩
  cases ys with
  | nil => exact .inl (by decide)
  | cons y ys =>
    refine .inr ?_
    cases h : (rnd (y :: ys)).getLast? with
    | none => rw [List.getLast?_eq_none_iff] at h; cases h
    | some x =>
      have e := rnd_last _ h
      rw [rnd_cons]
      show some true ≠ some x.isR
      rw [e]
      decide
theorem lone_CRed (x : Syl) : CRed [x] := ⟨trivial, .inl (Nat.le_refl 1)⟩
/-- the rows of rounds -/
inductive Rd : List Syl → Prop
  | none : Rd []
  | lone (x : Syl) : Rd [x]
  | many (ys : List Bool) : Rd (rnd ys)
theorem Rd.cred {l : List Syl} (h : Rd l) : CRed l := by
  cases h with
  | none => exact ⟨trivial, .inl (by decide)⟩
  | lone x => exact lone_CRed x
  | many ys => exact rnd_CRed ys
/-- two rounds that are one another's, begun elsewhere by a word -/
theorem rounds_conj {l l' : List Syl} {c : List Nat} (hl : Rd l) (hl' : Rd l') (hc : IsW c) (q : ∀ f, IsF f → walk (tw l) (walk c f) = walk c (walk (tw l') f)) : Rot l l' := by
  refine cyc_rot (row c) l l' (alt_rev (row_alt c)) hl.cred hl'.cred fun f hf => ?_
  rw [row_walk hc hf, q f hf, row_walk hc (walk_F hf)]
end TW
/-! runs: words as whole numbers with a turn between each two -/
namespace TW
/-! ### how many letters it takes -/
end TW

/-! one run towards the end -/
namespace TW
end TW

set_option Elab.async false
set_option linter.all false
/-! beats: the row of a dance, made a round by putting beats from the front behind the others -/
namespace TW
open Syl
def pushB (B : List Syl) (x : Syl) : List Syl := (psh x B.reverse).reverse
/-- what two beats come to: nothing known, none, one -/
def tog : Syl → Syl → Option (Option Syl)
  | r, r => some none
  | s, s => some (some z)
  | z, z => some (some s)
  | s, z => some none
  | z, s => some none
  | _, _ => none
theorem pushB_nil (x : Syl) : pushB [] x = [x] := by cases x <;> rfl
theorem pushB_snoc (B : List Syl) (y x : Syl) : pushB (B ++ [y]) x = (match tog y x with | none => B ++ [y, x] | some none => B | some (some w) => B ++ [w]) := by
  unfold pushB
  rw [List.reverse_append]
  show (psh x (y :: B.reverse)).reverse = _
  cases y <;> cases x <;> simp [psh, tog]
theorem snoc_of {α : Type} {l : List α} (h : l ≠ []) : ∃ a b, l = a ++ [b] := ⟨l.dropLast, l.getLast h, (List.dropLast_concat_getLast h).symm⟩
theorem pushB_app (P : List Syl) {C : List Syl} (x : Syl) (h : C ≠ []) : pushB (P ++ C) x = P ++ pushB C x := by
  obtain ⟨D, y, rfl⟩ := snoc_of h
  rw [← List.append_assoc, pushB_snoc, pushB_snoc]
  cases tog y x with
  | none => simp
  | some w => cases w <;> simp
theorem pushB_walk (C : List Syl) (x : Syl) {f : Fr} (hf : IsF f) : walk (tw (pushB C x)) f = walk (wd x) (walk (tw C) f) := by
  unfold pushB
  rw [psh_walk x C.reverse hf, List.reverse_reverse]
theorem pushB_alt {C : List Syl} {x : Syl} (h : alt C) : alt (pushB C x) := alt_rev (psh_alt (alt_rev h))
theorem pushB_len (C : List Syl) (x : Syl) : (pushB C x).length ≤ C.length + 1 := by
  by_cases h : C = []
  · subst h; rw [pushB_nil]; simp
  · obtain ⟨D, y, rfl⟩ := snoc_of h
    rw [pushB_snoc]
    cases tog y x with
    | none => simp
    | some w => cases w <;> simp <;> omega
/-- the row told from the first beat on -/
def beatsOf (u : List Nat) : List Syl := (row u).reverse
def bts (c : Nat) : List Syl := if c = 116 then [s, r] else if c = 117 then [r, z] else [r]
theorem beats_snoc (u : List Nat) (c : Nat) : beatsOf (u ++ [c]) = (bts c).foldl pushB (beatsOf u) := by
  unfold beatsOf row bts
  rw [List.foldl_append]
  show (stp (u.foldl stp []) c).reverse = _
  unfold stp
  split
  · simp [pushB]
  split
  · simp [pushB]
  · simp [pushB]
theorem beats_alt (u : List Nat) : alt (beatsOf u) := alt_rev (row_alt u)
theorem beats_walk {u : List Nat} (h : IsW u) {f : Fr} (hf : IsF f) : walk (tw (beatsOf u)) f = walk u f := row_walk h hf
theorem stp_len (l : List Syl) (c : Nat) : (stp l c).length ≤ l.length + 2 := by
  have h : ∀ (x : Syl) (m : List Syl), (psh x m).length ≤ m.length + 1 := fun x m => by
    have := pushB_len m.reverse x
    unfold pushB at this
    simpa using this
  unfold stp
  split
  · have := h r (psh s l); have := h s l; omega
  split
  · have := h z (psh r l); have := h r l; omega
  · have := h r l; omega
theorem beats_len (u : List Nat) : (beatsOf u).length ≤ 2 * u.length := by
  unfold beatsOf row
  rw [List.length_reverse]
  have h : ∀ (w : List Nat) (l : List Syl), (w.foldl stp l).length ≤ l.length + 2 * w.length := by
    intro w
    induction w with
    | nil => intro l; simp
    | cons c r ih =>
      intro l
      rw [List.foldl_cons, List.length_cons]
      have := ih (stp l c)
      have := stp_len l c
      omega
  have := h u []
  simpa using this
theorem tw_len (l : List Syl) : (tw l).length ≤ 2 * l.length := by
  induction l with
  | nil => simp [tw]
  | cons x r ih =>
    rw [tw_cons, List.length_append, List.length_cons]
    have : (wd x).length ≤ 2 := by cases x <;> simp [wd]
    omega
/-! ### the round -/
def mu (B : List Syl) : Nat := 2 * B.length + (if B.head? = some r then 0 else 1)
theorem mu_le (B : List Syl) : mu B ≤ 2 * B.length + 1 := by unfold mu; split <;> omega
theorem mu_ge (B : List Syl) : 2 * B.length ≤ mu B := by unfold mu; omega
theorem isR_iff (x : Syl) : x.isR = true ↔ x = r := by cases x <;> simp [isR]
theorem turn_mu {b : Syl} {C : List Syl} (hC : C ≠ []) (ha : alt (b :: C)) (h : b ≠ r ∨ C.getLast? = some r) : mu (pushB C b) < mu (b :: C) := by
  obtain ⟨D, y, rfl⟩ := snoc_of hC
  have hl : (b :: (D ++ [y])).length = D.length + 2 := by simp
  have g := mu_ge (b :: (D ++ [y]))
  rw [hl] at g
  rw [pushB_snoc]
  have hy : (D ++ [y]).getLast? = some y := by simp
  rw [hy] at h
  cases e : tog y b with
  | none =>
    have hbr : b ≠ r := by
      rcases h with h | h
      · exact h
      · have e2 : y = r := Option.some.inj h
        subst e2
        intro z
        subst z
        cases e
    have hmu : mu (b :: (D ++ [y])) = 2 * (D.length + 2) + 1 := by
      unfold mu
      rw [hl, if_neg (by simpa using hbr)]
    rw [hmu]
    show mu (D ++ [y, b]) < _
    have hh : (D ++ [y, b]).head? = some r := by
      cases D with
      | nil =>
        have := ha.1
        have hb : b.isR = false := by rw [Bool.eq_false_iff]; intro z; exact hbr ((isR_iff b).mp z)
        rw [hb] at this
        have : y.isR = true := by cases q : y.isR with | true => rfl | false => rw [q] at this; exact absurd rfl this
        simp [(isR_iff y).mp this]
      | cons c D =>
        have := ha.1
        have hb : b.isR = false := by rw [Bool.eq_false_iff]; intro z; exact hbr ((isR_iff b).mp z)
        rw [hb] at this
        have : c.isR = true := by cases q : c.isR with | true => rfl | false => rw [q] at this; exact absurd rfl this
        simp [(isR_iff c).mp this]
    unfold mu
    rw [if_pos hh]
    simp
  | some w =>
    cases w with
    | none =>
      show mu D < _
      have := mu_le D
      omega
    | some w =>
      show mu (D ++ [w]) < _
      have := mu_le (D ++ [w])
      have hd : (D ++ [w]).length = D.length + 1 := by simp
      rw [hd] at this
      omega
theorem rnd_of : ∀ (n : Nat) (B : List Syl), B.length ≤ n → alt B → B.head? = some r → B.getLast? ≠ some r → ∃ ys, B = rnd ys := by
  intro n
  induction n with
  | zero =>
    intro B hl _ hh _
    have : B = [] := List.eq_nil_of_length_eq_zero (by omega)
    subst this; cases hh
  | succ n ih =>
    intro B hl ha hh hg
    match B, hh with
    | [x], hh =>
      have : x = r := Option.some.inj hh
      subst this
      exact absurd rfl hg
    | [x, y], hh =>
      have : x = r := Option.some.inj hh
      subst this
      have h1 : y.isR = false := by
        cases q : y.isR with
        | false => rfl
        | true => exact absurd q.symm ha.1
      cases y with
      | r => cases h1
      | s => exact ⟨[true], rfl⟩
      | z => exact ⟨[false], rfl⟩
    | x :: y :: c :: R, hh =>
      have : x = r := Option.some.inj hh
      subst this
      have h1 : y.isR = false := by
        cases q : y.isR with
        | false => rfl
        | true => exact absurd q.symm ha.1
      have h2 : c.isR = true := by
        have := ha.2.1
        rw [h1] at this
        cases q : c.isR with
        | true => rfl
        | false => rw [q] at this; exact absurd rfl this
      have hc : c = r := (isR_iff c).mp h2
      subst hc
      obtain ⟨ys, e⟩ := ih (r :: R) (by simp at hl ⊢; omega) ha.2.2 rfl (by
        rw [List.getLast?_cons_cons, List.getLast?_cons_cons] at hg
        exact hg)
      cases y with
      | r => cases h1
      | s => exact ⟨true :: ys, by rw [rnd_cons, ← e]; rfl⟩
      | z => exact ⟨false :: ys, by rw [rnd_cons, ← e]; rfl⟩
theorem exit_Rd {B : List Syl} (ha : alt B) (h : B.length ≤ 1 ∨ (B.head? = some r ∧ B.getLast? ≠ some r)) : Rd B := by
  rcases h with h | ⟨h1, h2⟩
  · match B, h with
    | [], _ => exact .none
    | [x], _ => exact .lone x
  · obtain ⟨ys, rfl⟩ := rnd_of _ B (Nat.le_refl _) ha h1 h2
    exact .many ys
/-! ### a round told from another place -/
theorem infix_rot {u v : List Nat} {i : Nat} (hl : u.length = v.length) (hi : i + u.length ≤ (v ++ v).length) (h : ((v ++ v).drop i).take u.length = u) : i ≤ v.length ∧ u = v.drop i ++ v.take i := by
  have h1 : i ≤ v.length := by rw [List.length_append] at hi; omega
  refine ⟨h1, ?_⟩
  rw [List.drop_append_of_le_length h1, List.take_append, List.take_of_length_le (by rw [List.length_drop]; omega)] at h
  rw [List.length_drop] at h
  have e : u.length - (v.length - i) = i := by omega
  rw [e] at h
  exact h.symm
theorem rot_infix {u v p q : List Nat} (hu : u = p ++ q) (hv : v = q ++ p) : u.length = v.length ∧ p.length + v.length ≤ (u ++ u).length ∧ ((u ++ u).drop p.length).take v.length = v := by
  subst hu hv
  refine ⟨by simp; omega, by simp, ?_⟩
  rw [List.append_assoc p q (p ++ q), List.drop_left' rfl]
  have : q ++ (p ++ q) = (q ++ p) ++ q := by simp
  rw [this, List.take_left' rfl]
theorem tw_Rot {l l' : List Syl} (h : Rot l l') : ∃ p q, tw l = p ++ q ∧ tw l' = q ++ p := by
  obtain ⟨p, q, rfl, rfl⟩ := h.parts
  exact ⟨tw p, tw q, tw_append _ _, tw_append _ _⟩
/-! ### begun elsewhere -/
def Cj (u a b : List Nat) : Prop := ∀ f, IsF f → walk a (walk u f) = walk b (walk a f)
theorem Cj.turn {u : List Nat} {A C : List Syl} {b : Syl} (h : Cj u (tw A) (tw (b :: C))) : Cj u (tw (A ++ [b])) (tw (pushB C b)) := fun f hf => by
  have e : tw (A ++ [b]) = tw A ++ wd b := by rw [tw_append, tw_cons, tw_nil, List.append_nil]
  rw [e, walk_append, walk_append, h f hf, pushB_walk C b (walk_F (walk_F hf)), tw_cons, walk_append]
theorem Cj.begun {u a b : List Nat} (ha : IsW a) (h : Cj u a b) {f : Fr} (hf : IsF f) : walk (a ++ b ++ bk a) f = walk u f := by
  rw [walk_append, walk_append, ← h f hf, walk_bk ha (walk_F hf)]
theorem Cj.alike {u a a' b : List Nat} (h : Cj u a b) (e : Same3 a a') : Cj u a' b := fun f hf => by rw [← e _ (walk_F hf), ← e f hf, h f hf]
theorem conj_rounds {x y c : List Nat} {a1 a2 : List Nat} {l l' : List Syl} (hx : Cj x a1 (tw l)) (hy : Cj y a2 (tw l')) (h1 : IsW a1) (h2 : IsW a2) (hc : IsW c) (hl : Rd l) (hl' : Rd l') (q : ∀ f, IsF f → walk x (walk c f) = walk c (walk y f)) : Rot l l' := by
  refine rounds_conj (c := bk a2 ++ c ++ a1) hl hl' (((bk_W a2).append hc).append h1) fun f hf => ?_
  have b2 : ∀ g, IsF g → walk a2 (walk (bk a2) g) = g := fun g hg => by
    have e := walk_bk (w := bk a2) (bk_W a2) hg
    rwa [bk_bk h2] at e
  rw [walk_append, walk_append, walk_append, walk_append, ← hx _ (walk_F (walk_F hf)), q _ (walk_F hf)]
  congr 2
  have e := hy (walk (bk a2) f) (walk_F hf)
  rw [b2 f hf] at e
  rw [← e, walk_bk h2 (walk_F (walk_F hf))]
theorem else_word {x y a1 a2 p q : List Nat} (hx : Cj x a1 (q ++ p)) (hy : Cj y a2 (p ++ q)) (h1 : IsW a1) (h2 : IsW a2) (hp : IsW p) {f : Fr} (hf : IsF f) : walk ((a1 ++ bk p ++ bk a2) ++ y ++ bk (a1 ++ bk p ++ bk a2)) f = walk x f := by
  have inv : ∀ {w : List Nat} {g : Fr}, IsW w → IsF g → walk w (walk (bk w) g) = g := fun {w g} hw hg => by
    have e := walk_bk (w := bk w) (bk_W w) hg
    rwa [bk_bk hw] at e
  have eb : bk (a1 ++ bk p ++ bk a2) = a2 ++ (p ++ bk a1) := by rw [bk_append, bk_append, bk_bk h2, bk_bk hp]
  rw [eb]
  simp only [walk_append]
  have F1 : IsF (walk a1 f) := walk_F hf
  have F2 : IsF (walk (bk p) (walk a1 f)) := walk_F F1
  have F3 : IsF (walk (bk a2) (walk (bk p) (walk a1 f))) := walk_F F2
  rw [hy _ F3, inv h2 F2, walk_append, inv hp F1]
  have e := hx f hf
  rw [walk_append] at e
  rw [← e, walk_bk h1 (walk_F hf)]
theorem bk_same {a b : List Nat} (ha : IsW a) (hb : IsW b) (h : Same3 a b) : Same3 (bk a) (bk b) := fun f hf => by
  have e := walk_bk (w := bk b) (bk_W b) hf
  rw [bk_bk hb] at e
  have h2 := h (walk (bk b) f) (walk_F hf)
  rw [e] at h2
  rw [← h2, walk_bk ha (walk_F hf)]
  rw [h2]
theorem begun_same {a b y : List Nat} (ha : IsW a) (hb : IsW b) (h : Same3 a b) : Same3 (a ++ y ++ bk a) (b ++ y ++ bk b) := fun f hf => by
  simp only [walk_append]
  rw [h f hf, bk_same ha hb h _ (walk_F (walk_F hf))]
end TW

set_option Elab.async false
set_option linter.all false
/-! the plainest word: pairs go, trt and uru are turned over; the steps that do it. Words here from the last letter on -/
namespace TW
abbrev Stp := Bool × Int × List Nat
def prs : List (List Nat) := [[116, 117], [117, 116], [114, 114]]
def pr (x : List Nat) : List Nat := if x.take 1 = [114] then x.drop 1 else 114 :: x
def sett (x : List Nat) : List Nat :=
  if (x.take 2).reverse ∈ prs then x.drop 2
  else if x.take 3 = [116, 114, 116] then 114 :: 117 :: pr (x.drop 3)
  else if x.take 3 = [117, 114, 117] then 114 :: 116 :: pr (x.drop 3) else x
def ovT (n : Nat) : List Stp := [(true, (n : Int) + 3, [114, 114]), (true, (n : Int) + 4, [116, 117]), (true, (n : Int) + 5, [114, 114]), (false, (n : Int) + 0, [116, 114, 116, 114, 116, 114])]
def ovU (n : Nat) : List Stp := [(true, (n : Int) + 1, [116, 114, 116, 114, 116, 114]), (false, (n : Int) + 0, [117, 116]), (false, (n : Int) + 4, [114, 114]), (false, (n : Int) + 3, [116, 117])]
def prS (x : List Nat) : List Stp := if x.take 1 = [114] then [(false, ((x.length - 1 : Nat) : Int), [114, 114])] else []
def stepsOf (x : List Nat) : List Stp :=
  if (x.take 2).reverse ∈ prs then [(false, ((x.length - 2 : Nat) : Int), (x.take 2).reverse)]
  else if x.take 3 = [116, 114, 116] then ovT (x.length - 3) ++ prS (x.drop 3)
  else if x.take 3 = [117, 114, 117] then ovU (x.length - 3) ++ prS (x.drop 3) else []
def rns : List Stp → List Nat → Option (List Nat)
  | [], u => some u
  | (b, i, p) :: r, u => (due u b i p).bind (rns r)
theorem rns_append (a b : List Stp) (u : List Nat) : rns (a ++ b) u = (rns a u).bind (rns b) := by
  induction a generalizing u with
  | nil => rfl
  | cons t a ih =>
    obtain ⟨x, i, p⟩ := t
    show (due u x i p).bind (rns (a ++ b)) = ((due u x i p).bind (rns a)).bind (rns b)
    cases due u x i p with
    | none => rfl
    | some v => exact ih v
theorem at_in (a b p : List Nat) {i : Int} (hi : i = a.length) : due (a ++ b) true i p = some (a ++ p ++ b) := by
  subst hi
  rw [due_in (by omega) (by simp; omega)]
  simp
theorem at_out (a p b : List Nat) {i : Int} (hi : i = a.length) : due (a ++ p ++ b) false i p = some (a ++ b) := by
  subst hi
  rw [due_out (by omega) (by simp; omega)]
  have e1 : ((a.length : Int)).toNat = a.length := by omega
  rw [e1, List.append_assoc, List.drop_left' rfl, List.take_left' rfl, if_pos rfl, List.take_left' rfl]
  congr 2
  rw [← List.append_assoc, List.drop_left' (by simp)]
theorem ovT_run (L rest : List Nat) : rns (ovT L.length) (L ++ [116, 114, 116] ++ rest) = some (L ++ [114, 117, 114] ++ rest) := by
  unfold ovT
  have e1 := at_in (L ++ [116, 114, 116]) rest [114, 114] (i := (L.length : Int) + 3) (by simp)
  have e2 := at_in (L ++ [116, 114, 116, 114]) ([114] ++ rest) [116, 117] (i := (L.length : Int) + 4) (by simp)
  have e3 := at_in (L ++ [116, 114, 116, 114, 116]) ([117, 114] ++ rest) [114, 114] (i := (L.length : Int) + 5) (by simp)
  have e4 := at_out L [116, 114, 116, 114, 116, 114] ([114, 117, 114] ++ rest) (i := (L.length : Int) + 0) (by simp)
  simp only [List.append_assoc, List.cons_append, List.nil_append] at e1 e2 e3 e4 ⊢
  unfold rns
  rw [e1]
  show (due _ _ _ _).bind _ = _
  rw [e2]
  show (due _ _ _ _).bind _ = _
  rw [e3]
  show (due _ _ _ _).bind _ = _
  rw [e4]
  rfl
theorem ovU_run (L rest : List Nat) : rns (ovU L.length) (L ++ [117, 114, 117] ++ rest) = some (L ++ [114, 116, 114] ++ rest) := by
  unfold ovU
  have e1 := at_in (L ++ [117]) ([114, 117] ++ rest) [116, 114, 116, 114, 116, 114] (i := (L.length : Int) + 1) (by simp)
  have e2 := at_out L [117, 116] ([114, 116, 114, 116, 114, 114, 117] ++ rest) (i := (L.length : Int) + 0) (by simp)
  have e3 := at_out (L ++ [114, 116, 114, 116]) [114, 114] ([117] ++ rest) (i := (L.length : Int) + 4) (by simp)
  have e4 := at_out (L ++ [114, 116, 114]) [116, 117] rest (i := (L.length : Int) + 3) (by simp)
  simp only [List.append_assoc, List.cons_append, List.nil_append] at e1 e2 e3 e4 ⊢
  unfold rns
  rw [e1]
  show (due _ _ _ _).bind _ = _
  rw [e2]
  show (due _ _ _ _).bind _ = _
  rw [e3]
  show (due _ _ _ _).bind _ = _
  rw [e4]
  rfl
theorem take1_cons {x : List Nat} {a : Nat} (h : x.take 1 = [a]) : x = a :: x.drop 1 := by
  have := List.take_append_drop 1 x
  rw [h] at this
  exact this.symm
theorem prS_run (x rest : List Nat) : rns (prS x) (x.reverse ++ [114] ++ rest) = some ((pr x).reverse ++ rest) := by
  unfold prS pr
  split
  · rename_i h
    have e := take1_cons h
    have e2 : x.reverse = (x.drop 1).reverse ++ [114] := by
      have z := congrArg List.reverse e
      rw [List.reverse_cons] at z
      exact z
    have hl : (x.length - 1 : Nat) = (x.drop 1).reverse.length := by simp
    rw [hl]
    have e3 := at_out (x.drop 1).reverse [114, 114] rest (i := (((x.drop 1).reverse.length : Nat) : Int)) rfl
    rw [e2]
    simp only [List.append_assoc, List.cons_append, List.nil_append] at e3 ⊢
    unfold rns
    rw [e3]
    rfl
  · show some _ = some _
    rw [List.reverse_cons]
theorem rev_take3 {x : List Nat} {a b c : Nat} (h : x.take 3 = [a, b, c]) : x.reverse = (x.drop 3).reverse ++ [c, b, a] ∧ (x.length - 3 : Nat) = (x.drop 3).reverse.length := by
  have := List.take_append_drop 3 x
  rw [h] at this
  refine ⟨?_, by simp⟩
  conv => lhs; rw [← this]
  simp
theorem stepsOf_run (x rest : List Nat) : rns (stepsOf x) (x.reverse ++ rest) = some ((sett x).reverse ++ rest) := by
  unfold stepsOf sett
  split
  · have e : x.reverse = (x.drop 2).reverse ++ (x.take 2).reverse := by
      rw [← List.reverse_append, List.take_append_drop]
    have hl : (x.length - 2 : Nat) = (x.drop 2).reverse.length := by simp
    rw [hl]
    have e3 := at_out (x.drop 2).reverse (x.take 2).reverse rest (i := (((x.drop 2).reverse.length : Nat) : Int)) rfl
    rw [← e] at e3
    unfold rns
    rw [e3]
    rfl
  split
  · rename_i h
    obtain ⟨e, hl⟩ := rev_take3 h
    rw [rns_append, e, hl, ovT_run]
    show rns (prS (x.drop 3)) ((x.drop 3).reverse ++ [114, 117, 114] ++ rest) = _
    have := prS_run (x.drop 3) ([117, 114] ++ rest)
    simp only [List.append_assoc, List.cons_append, List.nil_append, List.reverse_cons] at this ⊢
    exact this
  split
  · rename_i h
    obtain ⟨e, hl⟩ := rev_take3 h
    rw [rns_append, e, hl, ovU_run]
    show rns (prS (x.drop 3)) ((x.drop 3).reverse ++ [114, 116, 114] ++ rest) = _
    have := prS_run (x.drop 3) ([116, 114] ++ rest)
    simp only [List.append_assoc, List.cons_append, List.nil_append, List.reverse_cons] at this ⊢
    exact this
  · rfl
theorem rns_walk {sts : List Stp} {u v : List Nat} (hp : ∀ t ∈ sts, t.2.2 ∈ pcs) (h : rns sts u = some v) : Same3 u v := by
  induction sts generalizing u with
  | nil => cases h; exact fun _ _ => rfl
  | cons t r ih =>
    obtain ⟨b, i, p⟩ := t
    have h' : (due u b i p).bind (rns r) = some v := h
    cases e : due u b i p with
    | none => rw [e] at h'; cases h'
    | some w =>
      rw [e] at h'
      have := ih (fun t ht => hp t (List.mem_cons_of_mem _ ht)) h'
      exact fun f hf => by rw [← this f hf]; exact (due_walk hf (hp _ List.mem_cons_self) e).symm
theorem prs_pcs {p : List Nat} (h : p ∈ prs) : p ∈ pcs := by
  unfold prs at h
  unfold pcs
  simp only [List.mem_cons, List.not_mem_nil, or_false] at h ⊢
  rcases h with h | h | h
  · exact .inl h
  · exact .inr (.inl h)
  · exact .inr (.inr (.inl h))
theorem prS_pcs {x : List Nat} : ∀ t ∈ prS x, t.2.2 ∈ pcs := by
  intro t ht
  unfold prS at ht
  split at ht
  · have := List.mem_singleton.mp ht
    subst this
    simp [pcs]
  · cases ht
theorem stepsOf_pcs {x : List Nat} : ∀ t ∈ stepsOf x, t.2.2 ∈ pcs := by
  intro t ht
  unfold stepsOf at ht
  split at ht
  · rename_i h
    have := List.mem_singleton.mp ht
    subst this
    exact prs_pcs h
  split at ht
  · rcases List.mem_append.mp ht with ht | ht
    · unfold ovT at ht
      simp only [List.mem_cons, List.not_mem_nil, or_false] at ht
      rcases ht with rfl | rfl | rfl | rfl <;> simp [pcs]
    · exact prS_pcs t ht
  split at ht
  · rcases List.mem_append.mp ht with ht | ht
    · unfold ovU at ht
      simp only [List.mem_cons, List.not_mem_nil, or_false] at ht
      rcases ht with rfl | rfl | rfl | rfl <;> simp [pcs]
    · exact prS_pcs t ht
  · cases ht
theorem stepsOf_len (x : List Nat) : (stepsOf x).length ≤ 5 := by
  have h : ∀ y, (prS y).length ≤ 1 := fun y => by unfold prS; split <;> simp
  unfold stepsOf
  split
  · simp
  split
  · rw [List.length_append]; have := h (x.drop 3); simp [ovT]; omega
  split
  · rw [List.length_append]; have := h (x.drop 3); simp [ovU]; omega
  · simp
theorem pr_len (x : List Nat) : (pr x).length ≤ x.length + 1 := by
  unfold pr
  split
  · rw [List.length_drop]; omega
  · simp
theorem sett_len (x : List Nat) : (sett x).length ≤ x.length := by
  unfold sett
  split
  · rw [List.length_drop]; omega
  split
  · rename_i h
    have l := congrArg List.length h
    rw [List.length_take] at l
    have := pr_len (x.drop 3)
    rw [List.length_drop] at this
    simp only [List.length_cons, List.length_nil] at l ⊢
    omega
  split
  · rename_i h
    have l := congrArg List.length h
    rw [List.length_take] at l
    have := pr_len (x.drop 3)
    rw [List.length_drop] at this
    simp only [List.length_cons, List.length_nil] at l ⊢
    omega
  · exact Nat.le_refl _
theorem pr_W {x : List Nat} (h : IsW x) : IsW (pr x) := by
  unfold pr
  split
  · exact fun c hc => h c (List.mem_of_mem_drop hc)
  · exact IsW.cons (.inr (.inr rfl)) h
theorem sett_W {x : List Nat} (h : IsW x) : IsW (sett x) := by
  have hd : ∀ n, IsW (x.drop n) := fun n c hc => h c (List.mem_of_mem_drop hc)
  unfold sett
  split
  · exact hd 2
  split
  · exact IsW.cons (.inr (.inr rfl)) (IsW.cons (.inr (.inl rfl)) (pr_W (hd 3)))
  split
  · exact IsW.cons (.inr (.inr rfl)) (IsW.cons (.inl rfl) (pr_W (hd 3)))
  · exact h
def mps (u : List Nat) : List Stp × List Nat := u.foldl (fun a c => (a.1 ++ stepsOf (c :: a.2), sett (c :: a.2))) ([], [])
theorem mps_snoc (u : List Nat) (c : Nat) : mps (u ++ [c]) = ((mps u).1 ++ stepsOf (c :: (mps u).2), sett (c :: (mps u).2)) := by
  unfold mps; rw [List.foldl_append]; rfl
def plainW (u : List Nat) : List Nat := (mps u).2.reverse
theorem snoc_ind {P : List Nat → Prop} (h0 : P []) (h1 : ∀ u c, P u → P (u ++ [c])) (u : List Nat) : P u := by
  have : ∀ n (u : List Nat), u.length = n → P u := by
    intro n
    induction n with
    | zero => intro u h; rw [List.eq_nil_of_length_eq_zero h]; exact h0
    | succ n ih =>
      intro u h
      obtain ⟨a, b, rfl⟩ := snoc_of (l := u) (fun e => by subst e; cases h)
      exact h1 a b (ih a (by simpa using h))
  exact this _ u rfl
theorem mps_run (u : List Nat) : ∀ rest, rns (mps u).1 (u ++ rest) = some ((mps u).2.reverse ++ rest) := by
  refine snoc_ind (P := fun u => ∀ rest, rns (mps u).1 (u ++ rest) = some ((mps u).2.reverse ++ rest)) (fun rest => rfl) (fun u c ih rest => ?_) u
  rw [mps_snoc, rns_append, List.append_assoc, ih]
  show rns (stepsOf (c :: (mps u).2)) ((mps u).2.reverse ++ ([c] ++ rest)) = _
  have := stepsOf_run (c :: (mps u).2) rest
  rw [List.reverse_cons, List.append_assoc] at this
  exact this
theorem mps_pcs (u : List Nat) : ∀ t ∈ (mps u).1, t.2.2 ∈ pcs := by
  refine snoc_ind (P := fun u => ∀ t ∈ (mps u).1, t.2.2 ∈ pcs) (fun t ht => by cases ht) (fun u c ih t ht => ?_) u
  rw [mps_snoc] at ht
  rcases List.mem_append.mp ht with ht | ht
  · exact ih t ht
  · exact stepsOf_pcs t ht
theorem mps_len (u : List Nat) : (mps u).1.length ≤ 5 * u.length ∧ (mps u).2.length ≤ u.length := by
  refine snoc_ind (P := fun u => (mps u).1.length ≤ 5 * u.length ∧ (mps u).2.length ≤ u.length) ⟨Nat.le_refl _, Nat.le_refl _⟩ (fun u c ih => ?_) u
  rw [mps_snoc]
  have h1 := stepsOf_len (c :: (mps u).2)
  have h2 := sett_len (c :: (mps u).2)
  simp only [List.length_append, List.length_cons, List.length_nil] at h2 ⊢
  omega
theorem mps_W {u : List Nat} (h : IsW u) : IsW (mps u).2 := by
  refine snoc_ind (P := fun u => IsW u → IsW (mps u).2) (fun _ => IsW.nil) (fun u c ih hw => ?_) u h
  rw [mps_snoc]
  exact sett_W (IsW.cons (hw c (by simp)) (ih fun d hd => hw d (List.mem_append_left _ hd)))
theorem plain_same (u : List Nat) : Same3 u (plainW u) := by
  have := mps_run u []
  rw [List.append_nil, List.append_nil] at this
  exact rns_walk (mps_pcs u) this
theorem plain_W {u : List Nat} (h : IsW u) : IsW (plainW u) := fun c hc => mps_W h c (List.mem_reverse.mp hc)
theorem plain_len (u : List Nat) : (plainW u).length ≤ u.length := by
  unfold plainW
  rw [List.length_reverse]
  exact (mps_len u).2
end TW

set_option Elab.async false
set_option linter.all false
set_option maxRecDepth 100000
set_option maxHeartbeats 4000000
/-! more rules over the layer: sgV of a text, comprehensions, all, any, isinstance, tuples compared, join -/
namespace L2
open PySem PySem.Spec PyProof.Rows

/-! ### an iterator that walks a list of values, as long as the heap keeps Ok -/
structure ItOn (J : It) (xs : List V) (Ok : Hp → Prop) : Prop where
  go : ∀ i H, Ok H → i < xs.length → J.go i H
  yld : ∀ i H x H', Ok H → i < xs.length → J.yld i H x H' → H' = H ∧ xs[i]? = some x
  stop : ∀ i H, Ok H → xs.length ≤ i → J.stop i H
theorem ItOn.list {K : PySem.W.Frag} {a : Addr} {xs : List V} : ItOn (Itl K a) xs (fun H => SqL K H a xs) :=
  ⟨fun i H h hi => ⟨xs, xs[i], h, by simp [hi]⟩, fun i H x H' h _ y => ⟨y.1, y.2 xs h⟩, fun i H h hi => ⟨xs, h, hi⟩⟩
theorem ItOn.tup {K : PySem.W.Frag} {a : Addr} {xs : List V} : ItOn (Itt K a) xs (fun H => SqT K H a xs) :=
  ⟨fun i H h hi => ⟨xs, xs[i], h, by simp [hi]⟩, fun i H x H' h _ y => ⟨y.1, y.2 xs h⟩, fun i H h hi => ⟨xs, h, hi⟩⟩
/-- lo, lo + 1, .. -/
def rngV (lo : Int) (n : Nat) : List V := (List.range n).map fun i : Nat => V.int (lo + i)
theorem rngV_length (lo : Int) (n : Nat) : (rngV lo n).length = n := by unfold rngV; simp
theorem ItOn.rng {lo : Int} {n : Nat} : ItOn (Itr lo n) (rngV lo n) (fun _ => True) :=
  ⟨fun i H _ hi => by rw [rngV_length] at hi; exact hi, fun i H x H' _ hi y => by
    obtain ⟨e, rfl⟩ := y
    rw [rngV_length] at hi
    refine ⟨e, ?_⟩
    unfold rngV
    rw [List.getElem?_map, List.getElem?_range hi]
    rfl, fun i H _ hi => by rw [rngV_length] at hi; exact hi⟩

/-- a for loop over such an iterator: Pv what holds ahead of turn i -/
theorem for_on {J : It} {xs : List V} {Ok : Hp → Prop} (hJ : ItOn J xs Ok) {g : TG} {tb : TS} {D : Ends} {σ : St} {H : Hp} (Pv : Nat → St → Hp → Prop) (h0 : Pv 0 σ H) (hl : ∀ i σ H, i ≤ xs.length → Pv i σ H → Ok H)
    (hs : ∀ i x σ H, xs[i]? = some x → Pv i σ H → g x σ H fun σ2 H2 => tb { D with nx := Pv (i + 1), ct := Pv (i + 1), bk := D.nx } σ2 H2) (hd : ∀ σ H, Pv xs.length σ H → D.nx σ H) :
    ∃ W : Nat → Nat → St → Hp → Prop, (∃ m, W 0 m σ H) ∧ ∀ i m σ H, W i m σ H →
      (J.stop i H ∧ D.nx σ H) ∨ (J.go i H ∧ ∃ N : St → Hp → Prop, (∀ σ' H', N σ' H' → ∃ m', m' < m ∧ W (i + 1) m' σ' H') ∧ ∀ x H', J.yld i H x H' → g x σ H' fun σ2 H2 => tb { D with nx := N, ct := N, bk := D.nx } σ2 H2) := by
  refine ⟨fun i m σ H => m = xs.length - i ∧ i ≤ xs.length ∧ Pv i σ H, ⟨xs.length, by simp, Nat.zero_le _, h0⟩, ?_⟩
  rintro i m σ H ⟨rfl, hi, p⟩
  have q := hl i σ H hi p
  by_cases hlt : i < xs.length
  · refine .inr ⟨hJ.go i H q hlt, Pv (i + 1), fun σ' H' p' => ⟨xs.length - (i + 1), by omega, rfl, hlt, p'⟩, fun x H' y => ?_⟩
    obtain ⟨e, hy⟩ := hJ.yld i H x H' q hlt y
    subst e
    exact hs i x σ _ hy p
  · have e : i = xs.length := by omega
    subst e
    exact .inl ⟨hJ.stop _ H q (Nat.le_refl _), hd σ H p⟩

/-! ### the sgV of a text -/
def Its (x : Str) : It := ⟨fun i _ => i < x.cps.size, fun i H v H' => H' = H ∧ ∃ c, x.cps[i]? = some c ∧ v = .str ⟨#[c]⟩, fun i _ => x.cps.size ≤ i⟩
def sgV (x : Str) : List V := x.cps.toList.map fun c => V.str ⟨#[c]⟩
theorem sgV_length (x : Str) : (sgV x).length = x.cps.size := by unfold sgV; simp
theorem ItOn.str {x : Str} : ItOn (Its x) (sgV x) (fun _ => True) :=
  ⟨fun i H _ hi => by rw [sgV_length] at hi; exact hi, fun i H v H' _ _ y => by
    obtain ⟨e, c, hc, rfl⟩ := y
    refine ⟨e, ?_⟩
    unfold sgV
    rw [List.getElem?_map, Array.getElem?_toList, hc]
    rfl, fun i H _ hi => by rw [sgV_length] at hi; exact hi⟩
theorem turn_str {P : Program} {w : World} {K : PySem.W.Frag} {tg : Expr} {ty : String} (hty : ty = "str_ascii_iterator" ∨ ty = "str_iterator") (it : Addr) (x : Str) (t : Tok) :
    Turn P w K tg (Its x) [it] it (fun i h => h.IsStrIter it ty x t i) where
  mem := by simp
  obj := fun i h st b hb => by
    have e : b = it := by simpa using hb
    subst e
    obtain ⟨o, e, c, d⟩ := st
    exact ⟨o, e, fun v z => by rw [d] at z; cases z⟩
  keep := fun i h h' st k => let ⟨o, e, c, d⟩ := st; ⟨o, k it (by simp) o e, c, d⟩
  item := by
    intro X hP hw hK hc i pins s σ H E I hf st hg
    subst hP hw hK
    obtain ⟨f0, f1, f2, f3, f4, f5⟩ := hf it (by simp)
    have hlt : i < x.cps.size := hg
    rcases hty with rfl | rfl
    · refine wpAny_pyNext_ascii_item st (c := x.cps[i]) (by simp [hlt]) fun h' st' sb => ?_
      have I1 : Inv X pins σ H { s with heap := h', toks := s.toks + 1 } := I.turned (fun b o hb e => (sb.2 b hb).trans e) f0 f1 f3 f4 f5
      obtain ⟨o, e, c, d⟩ := id st'
      exact ⟨_, rfl, go_of (s := { s with heap := h', toks := s.toks + 1 }) e c d (by decide) ⟨.str ⟨#[x.cps[i]]⟩, H, I1, ⟨_, rfl⟩, ⟨rfl, _, by simp [hlt], rfl⟩, st', fun b hb => (hf b hb).1⟩⟩
    · refine wpAny_pyNext_wide_item st (c := x.cps[i]) (by simp [hlt]) fun h' st' sb => ?_
      have I1 : Inv X pins σ H { s with heap := h', toks := s.toks + 1 } := I.turned (fun b o hb e => (sb.2 b hb).trans e) f0 f1 f3 f4 f5
      obtain ⟨o, e, c, d⟩ := id st'
      exact ⟨_, rfl, go_of (s := { s with heap := h', toks := s.toks + 1 }) e c d (by decide) ⟨.str ⟨#[x.cps[i]]⟩, H, I1, ⟨_, rfl⟩, ⟨rfl, _, by simp [hlt], rfl⟩, st', fun b hb => (hf b hb).1⟩⟩
  done := by
    intro X hP hw hK hc i pins s σ H E I hf st hg
    subst hP hw hK
    obtain ⟨f0, f1, f2, f3, f4, f5⟩ := hf it (by simp)
    have hle : x.cps.size ≤ i := hg
    rcases hty with rfl | rfl
    · exact wpAny_pyNext_ascii_end (I.ok.hd hc) st (by simp; omega) fun h' eb => ⟨rfl, I.turned (t' := s.toks) (fun b o hb e => eb b o hb e) f0 f1 f3 f4 f5⟩
    · exact wpAny_pyNext_wide_end (I.ok.hd hc) st (by simp; omega) fun h' eb => ⟨rfl, I.turned (t' := s.toks) (fun b o hb e => eb b o hb e) f0 f1 f3 f4 f5⟩
  self := fun _ _ _ _ _ st h => by
    rcases hty with rfl | rfl
    · exact wpAny_pyIter_striter_ascii st h
    · exact wpAny_pyIter_striter_wide st h
section
variable {X : Cx} {tg : Expr}
def iStr (tl : TE) : TI := fun σ H R => tl σ H fun v H1 => ∃ x, v = .str x ∧ R (Its x) H1
theorem pi_str {l : Expr} {tl : TE} (hl : PE X l tl) : PI X tg l (iStr tl) := by
  intro pins s σ H R I h
  refine thn (hl pins s σ H _ I h) fun v s1 ⟨y, H1, I1, r1, q1⟩ => ?_
  obtain ⟨x, e, q⟩ := q1
  subst e
  obtain ⟨t, rfl⟩ := r1
  have fin : ∀ b ∈ [s1.heap.objs.size], FpOk X pins H1 b := fun b hb => by
    have e : b = s1.heap.objs.size := by simpa using hb
    subst e
    exact I1.fpOk (Nat.le_refl _) (I1.hok.fresh (Nat.le_refl _))
  cases ha : x.cps.all (· < 128)
  · refine wpAny_pyIter_wide ha ?_
    exact ⟨s1.heap.objs.size, [s1.heap.objs.size], _, _, H1, rfl, I1.kept (t' := s1.toks) fun b o e => Heap.get?_push_of_some _ e, turn_str (.inr rfl) _ x t, ⟨_, Heap.get?_push_size _ rfl, rfl, rfl⟩, fin, q⟩
  · refine wpAny_pyIter_ascii ha ?_
    exact ⟨s1.heap.objs.size, [s1.heap.objs.size], _, _, H1, rfl, I1.kept (t' := s1.toks) fun b o e => Heap.get?_push_of_some _ e, turn_str (.inl rfl) _ x t, ⟨_, Heap.get?_push_size _ rfl, rfl, rfl⟩, fin, q⟩
end
end L2

set_option Elab.async false
set_option linter.all false
set_option maxRecDepth 100000
set_option maxHeartbeats 4000000
/-! a list comprehension: one clause, at most one test -/
namespace L2
open PySem PySem.Spec PyProof.Rows

/-! ### the cells that a block sees -/
def clOf (env : Env) : List (Str × NameKind) → List (Str × Addr) → List (Str × Addr)
  | [], cs => cs
  | (n, k) :: r, cs => clOf env r (if k == .free then (match env.cells.lookup n with | some a => (n, a) :: cs | none => cs) else cs)
theorem forIn_fold {α β : Type} (f : α → β → Sem (ForInStep β)) (g : α → β → β) : ∀ (l : List α) (b : β), (∀ x ∈ l, ∀ r, f x r = pure (ForInStep.yield (g x r))) → forIn l b f = pure (l.foldl (fun r x => g x r) b)
  | [], b, _ => rfl
  | x :: l, b, h => by
    rw [List.forIn_cons, h x List.mem_cons_self, pure_bind]
    exact forIn_fold f g l _ fun y hy => h y (List.mem_cons_of_mem _ hy)
theorem clOf_fold {env : Env} : ∀ (names : List (Str × NameKind)) (cs : List (Str × Addr)), names.foldl (fun r x => if x.2 == .free then (match env.cells.lookup x.1 with | some a => (x.1, a) :: r | none => r) else r) cs = clOf env names cs
  | [], _ => rfl
  | (n, k) :: r, cs => by
    rw [List.foldl_cons]
    exact clOf_fold r _
theorem closure_of {env : Env} {scope : Scope} (h : ∀ x ∈ scope.names, x.2 = .free → ∃ a, env.cells.lookup x.1 = some a) : closureFor scope env = pure (clOf env scope.names []) := by
  simp only [closureFor]
  rw [forIn_fold _ (fun x r => if x.2 == .free then (match env.cells.lookup x.1 with | some a => (x.1, a) :: r | none => r) else r) scope.names [] (fun x hx r => by
    obtain ⟨n, k⟩ := x
    by_cases hk : k = .free
    · subst hk
      obtain ⟨a, ha⟩ := h (n, .free) hx rfl
      have ha' : env.cells.lookup n = some a := ha
      have e : cellOf env n = pure a := by unfold cellOf; rw [ha']
      simp only [beq_self_eq_true, if_true, e, pure_bind, ha']
    · have hb : (k == NameKind.free) = false := by simpa using hk
      simp only [hb, Bool.false_eq_true, if_false])]
  rw [clOf_fold]
  rfl
theorem clOf_mem {env : Env} : ∀ (names : List (Str × NameKind)) (cs : List (Str × Addr)) (x : Str) (c : Addr), (x, c) ∈ clOf env names cs → (x, c) ∈ cs ∨ ((x, NameKind.free) ∈ names ∧ env.cells.lookup x = some c)
  | [], cs, x, c, h => .inl h
  | (n, k) :: r, cs, x, c, h => by
    unfold clOf at h
    rcases clOf_mem r _ x c h with h1 | ⟨h1, h2⟩
    · by_cases hk : (k == NameKind.free) = true
      · rw [if_pos hk] at h1
        have hk' : k = .free := by simpa using hk
        subst hk'
        cases q : env.cells.lookup n with
        | none => rw [q] at h1; exact .inl h1
        | some a =>
          rw [q] at h1
          rcases List.mem_cons.mp h1 with e | h1
          · injection e with e1 e2
            subst e1 e2
            exact .inr ⟨List.mem_cons_self, q⟩
          · exact .inl h1
      · rw [if_neg hk] at h1; exact .inl h1
    · exact .inr ⟨List.mem_cons_of_mem _ h1, h2⟩
theorem clOf_keep {env : Env} : ∀ (names : List (Str × NameKind)) (cs : List (Str × Addr)) (x : Str), (∃ c, (x, c) ∈ cs) ∨ (x, NameKind.free) ∈ names → (∀ y ∈ names, y.2 = .free → ∃ a, env.cells.lookup y.1 = some a) → ∃ c, (x, c) ∈ clOf env names cs
  | [], cs, x, h, _ => by
    rcases h with h | h
    · exact h
    · exact nomatch h
  | (n, k) :: r, cs, x, h, hf => by
    unfold clOf
    refine clOf_keep r _ x ?_ fun y hy => hf y (List.mem_cons_of_mem _ hy)
    rcases h with ⟨c, h⟩ | h
    · refine .inl ⟨c, ?_⟩
      split
      · cases env.cells.lookup n with
        | none => exact h
        | some a => exact List.mem_cons_of_mem _ h
      · exact h
    · rcases List.mem_cons.mp h with e | h
      · injection e with e1 e2
        subst e1 e2
        obtain ⟨a, ha⟩ := hf (x, .free) List.mem_cons_self rfl
        refine .inl ⟨a, ?_⟩
        simp only [beq_self_eq_true, if_true, show env.cells.lookup x = some a from ha]
        exact List.mem_cons_self
      · exact .inr h
theorem lookup_of_mem {α β : Type} [BEq α] [LawfulBEq α] {x : α} : ∀ {l : List (α × β)} {c : β}, (x, c) ∈ l → ∃ d, l.lookup x = some d
  | (y, d) :: r, c, h => by
    by_cases e : x = y
    · subst e; exact ⟨d, by simp [List.lookup_cons]⟩
    · have hb : (x == y) = false := by simpa using e
      rcases List.mem_cons.mp h with h | h
      · injection h with h1 _; exact absurd h1 e
      · obtain ⟨d', q⟩ := lookup_of_mem h
        exact ⟨d', by simp [List.lookup_cons, hb, q]⟩

/-! ### the names of a block as they are relabelled -/
theorem relabel_seen {env : Env} {x : Str} : ∀ {names : List (Str × NameKind)}, (∀ y ∈ names, y.2 ≠ .cell) →
    ((names.map fun (n, k) => if (k == NameKind.free && env.scope.kind == .function && env.kindOf n == some .cell) then (n, NameKind.cell) else (n, k)).lookup x = some .cell ∨
     (names.map fun (n, k) => if (k == NameKind.free && env.scope.kind == .function && env.kindOf n == some .cell) then (n, NameKind.cell) else (n, k)).lookup x = some .free) → (x, NameKind.free) ∈ names
  | [], _, h => by simp at h
  | (n, k) :: r, hc, h => by
    have ih := relabel_seen (env := env) (x := x) (names := r) fun y hy => hc y (List.mem_cons_of_mem _ hy)
    have hk : k ≠ .cell := hc (n, k) List.mem_cons_self
    rw [List.map_cons] at h
    by_cases e : x = n
    · subst e
      by_cases hf : k = .free
      · subst hf; exact List.mem_cons_self
      · have hb : (k == NameKind.free) = false := by simpa using hf
        simp [List.lookup_cons, hb] at h
        rcases h with h | h
        · exact absurd h hk
        · exact absurd h hf
    · have hb : (x == n) = false := by simpa using e
      refine List.mem_cons_of_mem _ (ih ?_)
      by_cases c : (k == NameKind.free && env.scope.kind == .function && env.kindOf n == some .cell) = true
      · simpa [List.lookup_cons, hb, c] using h
      · simpa [List.lookup_cons, hb, c] using h
theorem relabel_free {env : Env} {x : Str} (he : env.kindOf x = some .cell ∨ env.kindOf x = some .free) (hk : env.scope.kind = .function) : ∀ {names : List (Str × NameKind)}, names.lookup x = some .free →
    ((names.map fun (n, k) => if (k == NameKind.free && env.scope.kind == .function && env.kindOf n == some .cell) then (n, NameKind.cell) else (n, k)).lookup x = some .cell ∨
     (names.map fun (n, k) => if (k == NameKind.free && env.scope.kind == .function && env.kindOf n == some .cell) then (n, NameKind.cell) else (n, k)).lookup x = some .free)
  | [], h => by simp at h
  | (n, k) :: r, h => by
    rw [List.map_cons]
    dsimp only
    by_cases e : x = n
    · subst e
      simp only [List.lookup_cons, beq_self_eq_true] at h
      have h' : k = .free := Option.some.inj h
      subst h'
      by_cases c : (NameKind.free == NameKind.free && env.scope.kind == .function && env.kindOf x == some .cell) = true
      · rw [if_pos c]; left; simp [List.lookup_cons]
      · rw [if_neg c]; right; simp [List.lookup_cons]
    · have hb : (x == n) = false := by simpa using e
      simp only [List.lookup_cons, hb] at h
      have ih := relabel_free he hk h
      by_cases c : (k == NameKind.free && env.scope.kind == .function && env.kindOf n == some .cell) = true
      · rw [if_pos c]; simp only [List.lookup_cons, hb]; exact ih
      · rw [if_neg c]; simp only [List.lookup_cons, hb]; exact ih

/-- the context of a block: s₀, H₀ the state at its entry (the iterator stands), C its own names, cl the cells that it sees, fp the iterator's records -/
def cxLc (X : Cx) (N : List Str) (scope : Scope) (C : Addr) (s₀ : Shared) (H₀ : Hp) (fp : List Addr) : Cx where
  prog := X.prog
  w := X.w
  K := X.K
  mg := X.mg
  base := X.base
  A := X.A
  N := N
  s₀ := s₀
  H₀ := H₀
  env := compEnvC scope (clOf X.env scope.names []) C X.env
  outer := X.stack
  stack := X.stack
  ex := fp
  fn := fun _ => false
  calm := X.calm
  pn := []
  xe := fun _ _ => False
/-- what a block's scope must be: its own name x, then the seen names ys, which stand at the places js of the def -/
structure LcScope (X : Cx) (scope : Scope) (x : Str) (ys : List Str) (js : List Nat) : Prop where
  kind : scope.kind = .function
  nocell : ∀ y ∈ scope.names, y.2 ≠ .cell
  locs : ∀ y ∈ scope.names, y.2 = .local → scope.names.lookup y.1 = some .local
  own : scope.names.lookup x = some .local
  seen : ∀ y ∈ ys, scope.names.lookup y = some .free
  out : ∀ y ∈ scope.names, y.2 = .free → X.env.kindOf y.1 = some .cell ∨ X.env.kindOf y.1 = some .free
  places : js.map (fun j => X.N[j]?) = ys.map some
  nd : (x :: ys).Nodup
/-- the values of the seen names -/
def seenV (σ : St) (js : List Nat) : St := js.map fun j => (σ[j]?).join

section
variable {X : Cx} {pins : List (Addr × Obj)} {σ : St} {H : Hp} {s : Shared} {scope : Scope} {x : Str} {ys : List Str} {js : List Nat} {fp : List Addr} {C D : Addr} {h1 : Heap}

theorem LcScope.cells (L : LcScope X scope x ys js) (I : Inv X pins σ H s) : ∀ y ∈ scope.names, y.2 = .free → ∃ a, X.env.cells.lookup y.1 = some a := fun y hy hf => I.ok.has y.1 (L.out y hy hf)
theorem LcScope.sub (L : LcScope X scope x ys js) {y : Str} {c : Addr} (h : (clOf X.env scope.names []).lookup y = some c) : X.env.cells.lookup y = some c ∧ (y, NameKind.free) ∈ scope.names := by
  rcases clOf_mem scope.names [] y c (PySem.mem_of_lookup h) with z | ⟨z1, z2⟩
  · exact nomatch z
  · exact ⟨z2, z1⟩
theorem LcScope.has (L : LcScope X scope x ys js) (I : Inv X pins σ H s) {y : Str} (h : (y, NameKind.free) ∈ scope.names) : ∃ c, (clOf X.env scope.names []).lookup y = some c := by
  obtain ⟨c, q⟩ := clOf_keep scope.names [] y (.inr h) (L.cells I)
  exact lookup_of_mem q

/-- the block's entry -/
theorem Inv.block (L : LcScope X scope x ys js) (I : Inv X pins σ H s) (hf : ∀ b ∈ fp, FpOk X pins H b) (ho : ∀ b ∈ fp, ∃ o, s.heap.get? b = some o) (hC : s.heap.objs.size ≤ C) (old : ∀ b o, s.heap.get? b = some o → h1.get? b = some o) {m : Str → Option Value} (hn : h1.Ns C m) {t' : Nat} :
    Inv (cxLc X (x :: ys) scope C s H fp) [] (none :: seenV σ js) H { s with heap := h1, toks := t' } := by
  have fpC : ∀ b ∈ fp, b ≠ C := fun b hb z => by
    obtain ⟨o, e⟩ := ho b hb
    exact absurd (Nat.lt_of_lt_of_le (Heap.lt_size e) (by rw [z]; exact hC)) (Nat.lt_irrefl _)
  refine ⟨⟨I.ok.mod, L.kind, I.ok.glob, I.ok.blt, hC, fun y z c h1 h2 => ?_, fun y hy => ?_, fun y c h => (nomatch h), I.ok.hd, I.ok.frames, .inl rfl, fun b hb => ⟨fpC b hb, fun y c e => ?_⟩, I.bs, Nat.le_trans I.ok.bsz I.sz, fun b o e hb => ?_, fun b hb z => ?_, I.stack, I.stkFree⟩,
    rfl, I.bare, Un.kept old, ⟨m, hn, fun i y v e1 e2 e3 => ?_⟩, fun y c e => ?_, I.hok.fresh hC, fun y c e => ?_, fun p hp => (nomatch hp), I.hok.kept old, ?_⟩
  · exact I.ok.inj y z c (L.sub h1).1 (L.sub h2).1
  · have hy' : (y, NameKind.free) ∈ scope.names := relabel_seen (env := X.env) L.nocell hy
    exact L.has I hy'
  · exact (hf b hb).2.2.2.2.1 y c (L.sub e).1
  · rcases (hf b hb).2.2.2.1 with z | z
    · exact I.ok.noex b o e z
    · exact absurd (Nat.lt_of_lt_of_le (Heap.lt_size e) (Nat.le_trans I.ok.bsz z)) (Nat.lt_irrefl _)
  · rcases List.mem_cons.mp (I.stkSub b z) with z | z
    · exact (hf b hb).2.1 z
    · exact (hf b hb).2.2.1 z
  · cases i with
    | zero => exact absurd e2 (by simp)
    | succ i =>
      have e1' : ys[i]? = some y := by simpa [cxLc] using e1
      have e2' : (seenV σ js)[i]? = some (some v) := by simpa using e2
      have hj : ∃ j, js[i]? = some j := by
        unfold seenV at e2'
        rw [List.getElem?_map] at e2'
        cases q : js[i]? with
        | none => rw [q] at e2'; cases e2'
        | some j => exact ⟨j, rfl⟩
      obtain ⟨j, hj⟩ := hj
      have pj : X.N[j]? = some y := by
        have q := congrArg (fun l => l[i]?) L.places
        simp only [List.getElem?_map, hj, e1', Option.map_some] at q
        exact Option.some.inj q
      have vj : σ[j]? = some (some v) := by
        unfold seenV at e2'
        rw [List.getElem?_map, hj, Option.map_some] at e2'
        have e3' := Option.some.inj e2'
        cases q : σ[j]? with
        | none => rw [q] at e3'; cases e3'
        | some o => rw [q] at e3'; exact congrArg some e3'
      have ym : y ∈ ys := List.mem_of_getElem? e1'
      have yl := L.seen y ym
      have yf : (y, NameKind.free) ∈ scope.names := PySem.mem_of_lookup yl
      have yo := L.out _ yf rfl
      obtain ⟨m0, hn0, hl0⟩ := I.loc
      have vis : Vis X.env.scope y := .inr yo
      obtain ⟨u, r, l⟩ := hl0 j y v pj vj vis
      refine ⟨u, r, ?_⟩
      rcases l with ⟨k, _⟩ | ⟨k, c, ec, z⟩
      · rcases yo with q | q <;> (rw [k] at q; cases q)
      · obtain ⟨c', ec'⟩ := L.has I yf
        have ecc := (L.sub ec').1
        rw [ec] at ecc
        cases ecc
        obtain ⟨oc, hoc, hd⟩ := z
        exact .inr ⟨relabel_free yo I.ok.kind yl, c, ec', ⟨oc, old _ _ hoc, hd⟩⟩
  · obtain ⟨v, oc, hoc, hd⟩ := I.cell y c (L.sub e).1
    exact ⟨v, oc, old _ _ hoc, hd⟩
  · exact I.freeC y c (L.sub e).1
  · show (none :: seenV σ js).length = (x :: ys).length
    have q := congrArg List.length L.places
    rw [List.length_map, List.length_map] at q
    unfold seenV
    rw [List.length_cons, List.length_cons, List.length_map, q]

/-- behind the block: D, which was laid in it, holds the list -/
theorem Inv.unblock {pc : List (Addr × Obj)} {σc : St} {H' : Hp} {s' : Shared} {N : List Str} {acc : List V} {its : List Value} {n : Nat} {h' : Heap} (I : Inv X pins σ H s) (hf : ∀ b ∈ fp, FpOk X pins H b) (hD : s.heap.objs.size ≤ D) (hC : s.heap.objs.size ≤ C) (hDC : D ≠ C)
    (J : Inv (cxLc X N scope C s H fp) pc σc H' s') (hHD : H' D = none) (rv : Vals acc its) (hz : acc.length ≤ sizeLine) (hd : s'.heap.get? D = some { cls := .type "list", data := .seq its.toArray n }) (sb : Heap.SameBut C s'.heap h') :
    Inv X pins σ (upd H' D (.lst acc)) { s' with heap := h' } := by
  have lt : ∀ b o, s.heap.get? b = some o → b ≠ C ∧ b ≠ D := fun b o e => ⟨Nat.ne_of_lt (Nat.lt_of_lt_of_le (Heap.lt_size e) hC), Nat.ne_of_lt (Nat.lt_of_lt_of_le (Heap.lt_size e) hD)⟩
  have B : Un (frs X.stack) fp H H' s.heap s'.heap := J.base
  refine I.call' (ch := fp) (s' := { s' with heap := h' }) J.os ⟨fun b o e n hb hx => ?_, fun b o e n hb hx => ?_, fun b o e n hx => ?_, fun b o e hx => ?_, fun b xs e => ?_, fun b o u e => ?_, fun b ps e => ?_⟩ ?_ J.bare ?_
  · exact (sb.2 b (lt b o e).1).trans (B.keep b o e n hb hx)
  · obtain ⟨sl, q⟩ := B.slot b o e n hb hx
    exact ⟨sl, (sb.2 b (lt b o e).1).trans q⟩
  · rw [upd_ne (lt b o e).2]; exact B.free b o e n hx
  · obtain ⟨o', q⟩ := B.there b o e hx
    exact ⟨o', (sb.2 b (lt b o e).1).trans q⟩
  · have q := B.tups b xs e
    rw [upd_ne (ne_of_none q hHD)]; exact q
  · have q := B.frzs b o u e
    rw [upd_ne (ne_of_none q hHD)]; exact q
  · obtain ⟨more, q⟩ := B.tbls b ps e
    exact ⟨more, by rw [upd_ne (ne_of_none q hHD)]; exact q⟩
  · intro b u e
    by_cases hb : b = D
    · subst hb
      rw [upd_same] at e
      cases e
      exact ⟨hz, its, n, rv, (sb.2 _ hDC).trans hd⟩
    · rw [upd_ne hb] at e
      have hCn : H' C = none := J.free
      refine (J.hok b u e).stay (fun c v hc q => (sb.2 c ?_).trans q) (fun c q => by rw [upd_ne (ne_of_none q hHD)]; exact q) fun c xs q => by rw [upd_ne (ne_of_none q hHD)]; exact q
      rcases hc with z | z
      · rw [z]; exact ne_of_none e hCn
      · exact ne_of_none z hCn
  · intro b hb
    obtain ⟨_, f1, _, f3, f4, f5⟩ := hf b hb
    exact ⟨f3, f1, f4, f5⟩
end

/-- a turn of the block, the step ahead of the store kept -/
theorem compLoop_tests {prog : Program} {w : World} {A : Around} {R : Result → Shared → Prop} {s : Shared} {elt target iter : Expr} {ifs : List Expr} {scope : Scope} {pos : Pos} {it acc : Value} {env : Env} (I : Nat → Shared → Prop)
    (turn : ∀ n s, I n s → wpAny (model prog w) A (pyNext it) (fun r s₁ => match r with
      | none => R (.ok .next) s₁
      | some v => wpAny (model prog w) A (letOwnedTupleGo target it v) (fun _ s₁' => wpAny (model prog w) A (assign target env v) (fun _ s₂ =>
          wpAny (model prog w) A (forIn ifs true fun c r => if r = true then do let ok ← isTrue c env (eval c env); pure (ForInStep.yield ok) else pure (ForInStep.yield r)) (fun ok s₃ =>
            if ok = true then wpAny (model prog w) A (eval elt env) (fun x s₄ =>
              wpAny (model prog w) A (call (.builtin "list.append") [acc, x]) (fun _ s₅ => ∃ m, m < n ∧ I m s₅) (notedBy (model prog w) A env fun e s' => R (.error e) s') s₄) (notedBy (model prog w) A env fun e s' => R (.error e) s') s₃
            else ∃ m, m < n ∧ I m s₃) (notedBy (model prog w) A env fun e s' => R (.error e) s') s₂) (notedBy (model prog w) A env fun e s' => R (.error e) s') s₁') (notedBy (model prog w) A env fun e s' => R (.error e) s') s₁) (notedBy (model prog w) A env fun e s' => R (.error e) s') s)
    (n : Nat) (h : I n s) :
    codeAny (model prog w) A (.compLoop (.ListComp elt [⟨target, iter, ifs, 0⟩] scope pos) 0 it acc env) R s := by
  refine codeAny_loop rfl I (fun n s hI => ?_) n h
  show wpAny _ A ((compTurn (.ListComp elt [⟨target, iter, ifs, 0⟩] scope pos) 0 it acc env).onRaise (fun x => do noteFrame x env; theTreesLotGoes x)) _ _ s
  refine wpAny_noted ?_
  rw [compTurn_list]
  refine wpAny_bind (wpAny_standAt (wpAny_bind (wpAny_mono (turn n s hI) (fun r s₁ h₁ => ?_) fun _ _ h' => h')))
  cases r with
  | none => exact wpAny_pure h₁
  | some v =>
    refine wpAny_bind (wpAny_mono h₁ (fun _ s₁' h₁' => ?_) fun _ _ h' => h')
    refine wpAny_bind (wpAny_mono h₁' (fun _ s₂ h₂ => wpAny_bind (wpAny_mono h₂ (fun ok s₃ h₃ => ?_) fun _ _ h' => h')) fun _ _ h' => h')
    cases ok with
    | false => exact wpAny_pure ⟨rfl, h₃⟩
    | true =>
      exact wpAny_bind (wpAny_bind (wpAny_mono h₃ (fun x s₄ h₄ => wpAny_bind (wpAny_mono h₄ (fun _ s₅ h₅ => wpAny_pure (wpAny_pure ⟨rfl, h₅⟩)) fun _ _ h' => h')) fun _ _ h' => h'))

/-- the reading: W by the turn, a measure, the list so far -/
def LcW (J : It) (tc : TT) (te : TE) (js : List Nat) (σ : St) (Q : VK) (H1 : Hp) : Prop := ∃ W : Nat → Nat → List V → Hp → Prop, (∃ m, W 0 m [] H1) ∧ ∀ i m acc H, W i m acc H → acc.length ≤ sizeLine ∧
  ((J.stop i H ∧ ∀ p, H p = none → Q (.ref p) (upd H p (.lst acc))) ∨
   (J.go i H ∧ acc.length < sizeLine ∧ ∀ x H', J.yld i H x H' → tc (some x :: seenV σ js) H' fun b H3 => if b = true then te (some x :: seenV σ js) H3 fun v H4 => ∃ m', m' < m ∧ W (i + 1) m' (acc ++ [v]) H4 else ∃ m', m' < m ∧ W (i + 1) m' acc H3))
def tLc (wi : TI) (tc : TT) (te : TE) (js : List Nat) : TE := fun σ H Q => wi σ H fun J H1 => LcW J tc te js σ Q H1
/-- no test -/
def tYes : TT := fun _ H Q => Q true H
/-- a list of tests, at most one -/
def PTs (X : Cx) (ifs : List Expr) (tc : TT) : Prop := (ifs = [] ∧ tc = tYes) ∨ ∃ c, ifs = [c] ∧ PT X c tc
theorem pts_none {X : Cx} : PTs X [] tYes := .inl ⟨rfl, rfl⟩
theorem PTs.run {X : Cx} {ifs : List Expr} {tc : TT} (h : PTs X ifs tc) {pins : List (Addr × Obj)} {s : Shared} {σ : St} {H : Hp} {Q : Bool → Hp → Prop} (I : Inv X pins σ H s) (q : tc σ H Q) :
    wpAny (model X.prog X.w) X.A (forIn ifs true fun c r => if r = true then do let ok ← isTrue c X.env (eval c X.env); pure (ForInStep.yield ok) else pure (ForInStep.yield r)) (TP X pins σ Q) X.xe s := by
  rcases h with ⟨rfl, rfl⟩ | ⟨c, rfl, h⟩
  · exact wpAny_tests_nil ⟨H, I, q⟩
  · exact wpAny_tests_one (h pins s σ H Q I q)

theorem pe_lc {X : Cx} {elt iter : Expr} {ifs : List Expr} {scope : Scope} {pos px : Pos} {x : Str} {ys : List Str} {js : List Nat} {wi : TI} {tc : TT} {te : TE} (hc : X.calm = true) (L : LcScope X scope x ys js) (hi : PI X (.Name x px) iter wi)
    (ht : ∀ C s₀ H₀ fp, PTs (cxLc X (x :: ys) scope C s₀ H₀ fp) ifs tc) (he : ∀ C s₀ H₀ fp, PE (cxLc X (x :: ys) scope C s₀ H₀ fp) elt te)
    (hs : ∀ z, foldedSetIterable iter X.env z = pure z := by intro _; rfl) :
    PE X (.ListComp elt [⟨.Name x px, iter, ifs, 0⟩] scope pos) (tLc wi tc te js) := by
  intro pins s σ H Q I h
  rw [eval_ListComp]
  refine wpAny_comprehension_free (use := none) rfl hs (closure_of (L.cells I)) L.kind L.locs (thn (hi pins s σ H _ I h) fun v s1 h1 => thn h1 fun itv s2 h2 => ?_)
  obtain ⟨it, fp, tn, J, H2, e, I2, T, st2, f2, W, ⟨m0, w0⟩, turn⟩ := h2
  subst e
  have ho2 : ∀ b ∈ fp, ∃ o, s2.heap.get? b = some o := fun b hb => let ⟨o, e, _⟩ := T.obj _ _ st2 b hb; ⟨o, e⟩
  refine wpAny_newObj_type (wpAny_newFunctionEnv L.nocell (by intro y hy; simp at hy) (fun h1 hns1 hsb1 => ?_) L.kind)
  dsimp only at hns1 hsb1 ⊢
  generalize hH2 : s2.heap.push { cls := .type "list", dict := none, data := .seq ([] : List Value).toArray } = G2 at hns1 hsb1 ⊢
  have hC : G2.objs.size = s2.heap.objs.size + 1 := by rw [← hH2, Heap.size_push]
  have hCle : s2.heap.objs.size ≤ G2.objs.size := by rw [hC]; exact Nat.le_succ _
  have hDC : s2.heap.objs.size ≠ G2.objs.size := by rw [hC]; exact Nat.ne_of_lt (Nat.lt_succ_self _)
  have old : ∀ b o, s2.heap.get? b = some o → h1.get? b = some o := fun b o e => hsb1.extBut b o (by rw [hC]; exact Nat.ne_of_lt (Nat.lt_succ_of_lt (Heap.lt_size e))) (Heap.get?_push_of_some _ (hH2 ▸ Heap.get?_push_of_some _ e))
  have hacc : h1.PlainList s2.heap.objs.size #[] := ⟨_, hsb1.extBut _ _ hDC (Heap.get?_push_of_some _ (hH2 ▸ Heap.get?_push_size _ rfl))⟩
  generalize hCe : G2.objs.size = C at *
  generalize hDe : s2.heap.objs.size = D at *
  have hDle : s2.heap.objs.size ≤ D := by rw [hDe]; exact Nat.le_refl _
  have hCle' : s2.heap.objs.size ≤ C := by rw [hDe]; exact hCle
  have fpD : ∀ b ∈ fp, b ≠ D := fun b hb z => by
    obtain ⟨o, e⟩ := ho2 b hb
    have := Heap.lt_size e
    rw [z, ← hDe] at this
    exact Nat.lt_irrefl _ this
  have fpC : ∀ b ∈ fp, b ≠ C := fun b hb z => by
    obtain ⟨o, e⟩ := ho2 b hb
    have := Nat.lt_of_lt_of_le (Heap.lt_size e) hCle'
    rw [z] at this
    exact Nat.lt_irrefl _ this
  have I3 : Inv (cxLc X (x :: ys) scope C s2 H2 fp) [] (none :: seenV σ js) H2 { s2 with heap := h1, toks := s2.toks + ([] : List (Str × Value)).length } := I2.block L f2 ho2 hCle' old hns1
  have cellD : ∀ y c, (cxLc X (x :: ys) scope C s2 H2 fp).env.cells.lookup y = some c → c ≠ D := fun y c e z => by
    obtain ⟨v, q⟩ := I2.cell y c (L.sub e).1
    have := q.lt
    rw [z, ← hDe] at this
    exact Nat.lt_irrefl _ this
  -- what stays true of the iterator's records through the block
  have stat : ∀ {H' : Hp} {pc : List (Addr × Obj)}, (∀ b ∈ fp, H' b = none) → (∀ p ∈ pc, p.1 = D) → ∀ b ∈ fp, FpOk (cxLc X (x :: ys) scope C s2 H2 fp) pc H' b := fun {H' pc} hn hp b hb =>
    ⟨hn b hb, fpC b hb, fun z => by
      rcases List.mem_cons.mp (I2.stkSub b z) with z | z
      · exact (f2 b hb).2.1 z
      · exact (f2 b hb).2.2.1 z, .inl hb, fun y c e => (f2 b hb).2.2.2.2.1 y c (L.sub e).1, fun p hq => by
      have hq' : p ∈ pc := hq
      rw [hp p hq']; exact Ne.symm (fpD b hb)⟩
  have loop : ∀ s3 : Shared, s3 = { s2 with heap := h1, toks := s2.toks + ([] : List (Str × Value)).length } →
      codeAny (model X.prog X.w) X.A (.compLoop (.ListComp elt [⟨.Name x px, iter, ifs, 0⟩] scope pos) 0 (.ref it) (.ref D) (compEnvC scope (clOf X.env scope.names []) C X.env))
        (compPost (model X.prog X.w) X.A X.xe none (EP X pins σ Q) (.ref D) C) s3 := by
    rintro s3 rfl
    refine compLoop_tests (fun n s' => ∃ i acc its H' k, Inv (cxLc X (x :: ys) scope C s2 H2 fp) [] (none :: seenV σ js) H' s' ∧ tn i s'.heap ∧ (∀ b ∈ fp, H' b = none) ∧ H' D = none ∧ s'.heap.get? D = some { cls := .type "list", data := .seq its k } ∧ Vals acc its.toList ∧ W i n acc H') ?_ m0 ?_
    · rintro n s4 ⟨i, acc, its, H4, k, I4, st4, fr4, hD4, ob4, rv4, w4⟩
      obtain ⟨hz, w4⟩ := turn i n acc H4 w4
      have I4' : Inv (cxLc X (x :: ys) scope C s2 H2 fp) [(D, { cls := .type "list", data := .seq its k })] (none :: seenV σ js) H4 s4 := I4.pins_of fun p hp => by
        have e : p = (D, { cls := .type "list", data := .seq its k }) := by simpa using hp
        subst e
        refine ⟨ob4, hD4, hDC, fun z => ?_, fun v z => (nomatch z)⟩
        obtain ⟨_, o, ho, _⟩ := I2.stack.mem (show D ∈ frs X.stack from z)
        have := Heap.lt_size ho
        rw [← hDe] at this
        exact Nat.lt_irrefl _ this
      have one : ∀ p ∈ ([(D, { cls := .type "list", data := .seq its k })] : List (Addr × Obj)), p.1 = D := fun p hp => by
        have e : p = (D, { cls := .type "list", data := .seq its k }) := by simpa using hp
        rw [e]
      rcases w4 with ⟨stop, qn⟩ | ⟨go, hlt, step⟩
      · refine thn (T.done (cxLc X (x :: ys) scope C s2 H2 fp) rfl rfl rfl hc i _ s4 _ H4 _ I4' (stat fr4 one) st4 stop) fun r s5 ⟨hr, I5⟩ => ?_
        subst hr
        obtain ⟨m, hn, _⟩ := I5.loc
        refine ⟨m, hn, fun h' sb => ⟨.ref D, _, ?_, rfl, qn D hD4⟩⟩
        exact I2.unblock (its := its.toList) f2 hDle hCle' hDC I5 hD4 rv4 hz (by
          have q := (I5.pin (D, { cls := .type "list", data := .seq its k }) (by simp)).1
          simpa using q) sb
      · refine thn (T.item (cxLc X (x :: ys) scope C s2 H2 fp) rfl rfl rfl hc i _ s4 _ H4 _ I4' (stat fr4 one) st4 go) fun r s5 ⟨u, hr, h5⟩ => ?_
        subst hr
        refine thn h5 fun _ s6 ⟨xv, H6, I6, r6, y6, st6, fr6⟩ => ?_
        have I6' := I6.pinned (stat fr6 one) (T.obj _ _ st6)
        have ownL : (cxLc X (x :: ys) scope C s2 H2 fp).env.scope.names.lookup x = some .local := lookup_relabel_local L.own
        have hg : PG (cxLc X (x :: ys) scope C s2 H2 fp) (.Name x px) (gName 0) := pg_name (i := 0) L.nd rfl (.inl ownL) (.inr ownL)
        refine wpAny_mono (hg _ s6 _ H6 xv u (fun σ2 H2' => σ2 = some xv :: seenV σ js ∧ H2' = H6) I6' r6 ⟨rfl, rfl⟩) (fun _ s7 ⟨σ7, H7, I7, e7, e7'⟩ => ?_) fun _ _ z => z.elim
        subst e7 e7'
        have q7 := step xv _ y6
        refine wpAny_mono ((ht C s2 H2 fp).run I7 q7) (fun ok s8 ⟨H8, I8, q8⟩ => ?_) fun _ _ z => z.elim
        -- the block's own names are forgotten behind a turn
        have hσ : ∀ {pc : List (Addr × Obj)} {Hc : Hp} {sc : Shared}, Inv (cxLc X (x :: ys) scope C s2 H2 fp) pc (some xv :: seenV σ js) Hc sc → Inv (cxLc X (x :: ys) scope C s2 H2 fp) pc (none :: seenV σ js) Hc sc := fun Ic => Ic.weak rfl fun i v e => by
          cases i with
          | zero => exact absurd e (by simp)
          | succ i => simpa using e
        have keepT : ∀ {Hc : Hp} {sc : Shared}, Inv (cxLc X (x :: ys) scope C s2 H2 fp) ([(D, { cls := .type "list", data := .seq its k })] ++ pinsAt fp s6.heap) (some xv :: seenV σ js) Hc sc → tn (i + 1) sc.heap ∧ (∀ b ∈ fp, Hc b = none) ∧ Hc D = none ∧ sc.heap.get? D = some { cls := .type "list", data := .seq its k } := fun {Hc sc} Ic => by
          refine ⟨T.keep _ _ _ st6 fun b hb o e => (Ic.pin (b, o) (List.mem_append_right _ (List.mem_append_right _ (mem_pinsAt hb e)))).1, fun b hb => ?_, (Ic.pin (D, { cls := .type "list", data := .seq its k }) (List.mem_append_right _ (List.mem_append_left _ List.mem_cons_self))).2.1, (Ic.pin (D, { cls := .type "list", data := .seq its k }) (List.mem_append_right _ (List.mem_append_left _ List.mem_cons_self))).1⟩
          obtain ⟨o, e, d⟩ := T.obj _ _ st6 b hb
          exact (Ic.pin (b, o) (List.mem_append_right _ (List.mem_append_right _ (mem_pinsAt hb e)))).2.1
        cases ok with
        | false =>
          obtain ⟨m', hm, w8⟩ := q8
          obtain ⟨a1, a2, a3, a4⟩ := keepT I8
          exact ⟨m', hm, i + 1, acc, its, H8, k, (hσ I8).pins_of (fun p hp => (nomatch hp)), a1, a2, a3, a4, rv4, w8⟩
        | true =>
          refine wpAny_mono (he C s2 H2 fp _ s8 _ H8 _ I8 q8) (fun ev s9 ⟨v9, H9, I9, r9, m', hm, w9⟩ => ?_) fun _ _ z => z.elim
          obtain ⟨a1, a2, a3, a4⟩ := keepT I9
          have hlen : its.size ≤ sizeLine := by
            have e1 := rv4.length
            have e2 : its.toList.length = its.size := by simp
            omega
          refine wpAny_list_append_plain (hsz := hlen) ⟨k, a4⟩ fun h10 pl sb => ?_
          obtain ⟨k', e10⟩ := pl
          have I10 : Inv (cxLc X (x :: ys) scope C s2 H2 fp) (pinsAt fp s6.heap) (none :: seenV σ js) H9 s9 := (hσ I9).pins_of fun p hp => I9.pin p (List.mem_append_right _ (List.mem_append_right _ hp))
          have I11 : Inv (cxLc X (x :: ys) scope C s2 H2 fp) (pinsAt fp s6.heap) (none :: seenV σ js) H9 { s9 with heap := h10 } :=
            I10.turned (t' := s9.toks) (it := D) (fun b o hb e => (sb.2 b hb).trans e) a3 hDC (.inr hDle) cellD fun p hp z => by
              have hp' : p ∈ pinsAt fp s6.heap := hp
              exact fpD p.1 (of_pinsAt hp').1 z
          refine ⟨m', hm, i + 1, acc ++ [v9], its.push ev, H9, k', I11.pins_of (fun p hp => (nomatch hp)), T.keep _ _ _ a1 (fun b hb o e => (sb.2 b (fpD b hb)).trans e), a2, a3, e10, ?_, w9⟩
          rw [Array.toList_push]
          exact rv4.append (.cons r9 .nil)
    · exact ⟨0, [], #[], H2, _, I3, T.keep _ _ _ st2 fun b hb o e => old b o e, fun b hb => (f2 b hb).1, I2.hok.fresh hDle, hacc.choose_spec, .nil, w0⟩
  exact codeAny_compStart_list (loop _ rfl) (T.self _ 0 _ _ _ (T.keep _ _ _ st2 fun b hb o e => old b o e) (loop _ rfl))
end L2

set_option Elab.async false
set_option linter.all false
set_option maxRecDepth 100000
set_option maxHeartbeats 4000000
/-! all, any, isinstance, == of data, join, a module's dict -/
namespace L2
open PySem PySem.Spec PyProof.Rows

/-! ### data: what a value reads as -/
mutual
def RdD (K : PySem.W.Frag) (H : Hp) : V → PyData → Prop
  | v, .none => v = .non
  | v, .bool b => v = .bl b
  | v, .int i => v = .int i
  | v, .str x => v = .str x ∧ PyData.strOk x = true
  | v, .list ds => ∃ a xs, v = .ref a ∧ SqL K H a xs ∧ RdDs K H xs ds
  | v, .tuple ds => ∃ a xs, v = .ref a ∧ SqT K H a xs ∧ RdDs K H xs ds
  | _, .dict _ => False
def RdDs (K : PySem.W.Frag) (H : Hp) : List V → List PyData → Prop
  | xs, [] => xs = []
  | xs, d :: ds => ∃ x r, xs = x :: r ∧ RdD K H x d ∧ RdDs K H r ds
end
section
variable {X : Cx} {pins : List (Addr × Obj)} {σ : St} {H : Hp} {s : Shared}
mutual
theorem RdD.reads (I : Inv X pins σ H s) : ∀ {v : V} {d : PyData} {u : Value}, RdD X.K H v d → RelV v u → ∃ as, Reads s.heap u d as
  | _, .none, _, h, r => by cases (show _ = _ from h); cases r; exact ⟨_, .none⟩
  | _, .bool b, _, h, r => by cases (show _ = _ from h); cases r; exact ⟨_, .bool b⟩
  | _, .int i, _, h, r => by cases (show _ = _ from h); obtain ⟨t, rfl⟩ := r; exact ⟨_, .int i t⟩
  | _, .str x, _, h, r => by cases h.1; obtain ⟨t, rfl⟩ := r; exact ⟨_, .str x t⟩
  | _, .list ds, _, h, r => by
    obtain ⟨a, xs, rfl, hq, hd⟩ := h
    cases r
    obtain ⟨its, rv, pl, _⟩ := I.list hq
    obtain ⟨as, ra⟩ := RdDs.reads I hd rv
    obtain ⟨o, n, e, c, _, dd⟩ := pl
    exact ⟨_, .list e c dd (by simpa using ra)⟩
  | _, .tuple ds, _, h, r => by
    obtain ⟨a, xs, rfl, hq, hd⟩ := h
    cases r
    obtain ⟨its, rv, pl, _⟩ := I.tuple hq
    obtain ⟨as, ra⟩ := RdDs.reads I hd rv
    obtain ⟨o, e, c, n, dd⟩ := pl
    exact ⟨_, .tuple e c dd (by simpa using ra)⟩
  | _, .dict _, _, h, _ => h.elim
theorem RdDs.reads (I : Inv X pins σ H s) : ∀ {xs : List V} {ds : List PyData} {us : List Value}, RdDs X.K H xs ds → Vals xs us → ∃ as, ReadsAll s.heap us ds as
  | _, [], _, h, r => by cases (show _ = _ from h); cases r; exact ⟨_, .nil⟩
  | _, d :: ds, _, h, r => by
    obtain ⟨x, rr, rfl, h1, h2⟩ := h
    cases r with
    | cons r1 r2 =>
      obtain ⟨as, a1⟩ := RdD.reads I h1 r1
      obtain ⟨bs, a2⟩ := RdDs.reads I h2 r2
      exact ⟨_, .cons a1 a2⟩
end
mutual
theorem RdD.lay : ∀ {v : V} {d : PyData}, RdD X.K H v d → d.canLay0 = true
  | _, .none, _ => rfl
  | _, .bool b, _ => rfl
  | _, .int i, _ => rfl
  | _, .str x, h => h.2
  | _, .list ds, h => by obtain ⟨a, xs, _, _, hd⟩ := h; exact RdDs.lay hd
  | _, .tuple ds, h => by obtain ⟨a, xs, _, _, hd⟩ := h; exact RdDs.lay hd
  | _, .dict _, h => h.elim
theorem RdDs.lay : ∀ {xs : List V} {ds : List PyData}, RdDs X.K H xs ds → PyData.canLayAll0 ds = true
  | _, [], _ => rfl
  | _, d :: ds, h => by
    obtain ⟨x, r, _, h1, h2⟩ := h
    show (d.canLay0 && PyData.canLayAll0 ds) = true
    rw [RdD.lay h1, RdDs.lay h2]
    rfl
end
/-- == and != of two data -/
def rEqD (K : PySem.W.Frag) (neg : Bool) : R2 := fun x y H Q => ∃ dx dy, RdD K H x dx ∧ RdD K H y dy ∧ dx.depth ≤ 60 ∧ Q (.bl (if neg then !PyData.eqv dx dy else PyData.eqv dx dy)) H
theorem op_eqD (hu : X.A.units + 64 < cLine) : OpR X (compareOp .Eq) (rEqD X.K false) := by
  intro pins s σ H x y v u Q I rx ry h
  obtain ⟨dx, dy, h1, h2, hd, q⟩ := h
  obtain ⟨as, r1⟩ := h1.reads I rx
  obtain ⟨bs, r2⟩ := h2.reads I ry
  exact SeqAt.compareEq_reads r1 r2 h1.lay h2.lay (by omega) ⟨.bl (PyData.eqv dx dy), H, I, rfl, q⟩
theorem op_neD (hu : X.A.units + 64 < cLine) : OpR X (compareOp .NotEq) (rEqD X.K true) := by
  intro pins s σ H x y v u Q I rx ry h
  obtain ⟨dx, dy, h1, h2, hd, q⟩ := h
  obtain ⟨as, r1⟩ := h1.reads I rx
  obtain ⟨bs, r2⟩ := h2.reads I ry
  exact SeqAt.compareNe_reads r1 r2 h1.lay h2.lay (by omega) ⟨.bl (!PyData.eqv dx dy), H, I, rfl, q⟩

/-! ### all, any over a list of truths -/
theorem range_all (bs : List Bool) : (List.range bs.length).all (fun i => (bs[i]?).getD false) = bs.all id := by
  rw [Bool.eq_iff_iff, List.all_eq_true, List.all_eq_true]
  constructor
  · intro h b hb
    obtain ⟨i, hi, rfl⟩ := List.mem_iff_getElem.mp hb
    have := h i (by simp [hi])
    simpa [hi] using this
  · intro h i hi
    have hi' : i < bs.length := by simpa using hi
    simpa [hi'] using h bs[i] (List.getElem_mem hi')
def rTruths (K : PySem.W.Frag) (f : List Bool → Bool) : List V → Hp → VK → Prop := fun xs H Q => ∃ p bs, xs = [V.ref p] ∧ SqL K H p (bs.map V.bl) ∧ Q (.bl (f bs)) H
theorem truths_of {bs : List Bool} : ∀ {its : List Value}, Vals (bs.map V.bl) its → its = bs.map Value.bool := by
  induction bs with
  | nil => intro its r; cases r; rfl
  | cons b r ih =>
    intro its h
    cases h with
    | cons h1 h2 => cases h1; rw [ih h2]; rfl
theorem truth_bools {prog : Program} {w : World} {A : Around} (bs : List Bool) : TruthOf prog w A (fun i v => (bs.map Value.bool).toArray[i]? = some v) (fun i => (bs[i]?).getD false) := by
  intro i v s Q E hP hQ
  have e : (bs[i]?).map Value.bool = some v := by simpa using hP
  cases q : bs[i]? with
  | none => rw [q] at e; cases e
  | some b =>
    rw [q] at e
    cases e
    have hQ' : Q ((bs[i]?).getD false) s := hQ
    rw [q] at hQ'
    exact wpAny_truthy_bool hQ'
theorem call_all (hc : X.calm = true) : CallR X (.builtin "all") (rTruths X.K fun bs => bs.all id) := by
  intro pins s σ H xs us Q I r h
  obtain ⟨p, bs, rfl, hq, q⟩ := h
  obtain ⟨u, rfl, ru⟩ := vals1 r
  cases ru
  obtain ⟨its, rv, pl, hz⟩ := I.list hq
  have ei := truths_of rv
  subst ei
  have hl := pl.isList
  have hp : p < s.heap.objs.size := let ⟨o, n, e, _⟩ := pl; Heap.lt_size e
  refine call_all_walk (wpAny_pyIter_list hl ?_)
  refine ⟨s.heap.objs.size, _, _, _, _, _, _, rfl, Walks.list (show X.A.in1.handled = none from I.ok.hd hc) s.heap.objs.size p (Nat.ne_of_lt hp) (bs.map Value.bool).toArray, ⟨⟨_, Heap.get?_push_size _ rfl, rfl, rfl⟩, hl.push _⟩, truth_bools bs, fun h' tk hk => ⟨.bl _, H, I.kept (fun b o e => hk b o (fun z => ?_) (Heap.get?_push_of_some _ e)), rfl, ?_⟩⟩
  · have z' : b = s.heap.objs.size := by simpa using z
    exact absurd (Heap.lt_size e) (by rw [z']; exact Nat.lt_irrefl _)
  · have e : (bs.map Value.bool).toArray.size = bs.length := by simp
    rw [e, range_all]
    exact q
/-! ### isinstance against a built-in class -/
def rIsi (K : PySem.W.Frag) : List V → Hp → VK → Prop := fun xs H Q => ∃ x n t b, xs = [x, V.ty n] ∧ TyOf K H x t ∧ PySem.W.kitOne K t (.type n) = some b ∧ Q (.bl b) H
theorem call_isi : CallR X (.builtin "isinstance") (rIsi X.K) := by
  intro pins s σ H xs us Q I r h
  obtain ⟨x, n, t, b, rfl, ty, e, q⟩ := h
  obtain ⟨u, w', rfl, ru, rw'⟩ := vals2 r
  cases (show w' = Value.type n from rw')
  exact isinst_ok I ru ty e fun tk => ⟨.bl b, H, I.tok tk, rfl, q⟩
theorem kit_same {K : PySem.W.Frag} (n : String) : PySem.W.kitOne K (.type n) (.type n) = some true := by
  unfold PySem.W.kitOne
  rw [if_pos (by simp)]

/-! ### join -/
theorem texts_are {ys : List Str} : ∀ {us : List Value}, Vals (ys.map V.str) us → StrsAre us ys := by
  induction ys with
  | nil => intro us r; cases r; exact .nil
  | cons y r ih =>
    intro us h
    cases h with
    | cons h1 h2 => obtain ⟨t, rfl⟩ := h1; exact .cons y t (ih h2)
def rJoin (K : PySem.W.Frag) : V → List V → Hp → VK → Prop := fun x vs H Q => ∃ sep p ys, x = .str sep ∧ vs = [.ref p] ∧ SqL K H p (ys.map V.str) ∧ (ys.map (·.length)).sum + ys.length * sep.length ≤ 16777216 ∧ Q (.str (Str.join sep ys)) H
theorem mt_join : MtR X "str.join" (rJoin X.K) := by
  intro pins s σ H x xs v us Q I rx r h
  obtain ⟨sep, p, ys, rfl, rfl, hq, hz, q⟩ := h
  obtain ⟨u, rfl, ru⟩ := vals1 r
  cases ru
  obtain ⟨t, rfl⟩ := rx
  obtain ⟨its, rv, pl, _⟩ := I.list hq
  refine join_list pl.isList (by simpa using texts_are rv) hz fun t' k => ⟨.str (Txt.join sep ys), H, I.tok k, ⟨t', rfl⟩, ?_⟩
  have e : Txt.join sep ys = Str.join sep ys := by
    have := join_closes (sep := sep) (sep' := sep) (ys := ys) rfl
    exact eq_of_beq this
  rw [e]
  exact q

/-! ### an item of a module's dict whose keys are texts -/
def rIxM (K : PySem.W.Frag) (P : Params) : R2 := fun x y H Q => ∃ a es n k v u, x = .ref a ∧ y = .str k ∧ K.lookup a = some ⟨.type "dict", none, .dict es n, #[]⟩ ∧ PySem.W.KeysLit P es.toList ∧ PySem.W.nsIn K a k = some (some u) ∧ RelV v u ∧ Q v H
theorem ix_mod : IxR X (rIxM X.K X.w.params) := by
  intro value slice pins s σ H x y v u Q I rx ry h hs
  obtain ⟨a, es, n, k, z, uz, rfl, rfl, lk, kl, ns, rz, q⟩ := h
  cases rx
  obtain ⟨t, rfl⟩ := ry
  obtain ⟨m, F⟩ := I.fr
  exact PySem.W.topItem_K F I.ok.mod.kin lk kl ns ⟨_, H, I.tok _, rz, q⟩ hs
end
end L2

set_option Elab.async false
set_option linter.all false
set_option maxRecDepth 100000
set_option maxHeartbeats 4000000
/-! reversed(text); rules by alternatives; callees in short -/
namespace L2
open PySem PySem.Spec PyProof.Rows

/-! ### reversed(text) -/
def Itv (x : Str) : It := ⟨fun i _ => i < x.cps.size, fun i H v H' => H' = H ∧ ∃ c, x.cps[x.cps.size - 1 - i]? = some c ∧ v = .str ⟨#[c]⟩, fun i _ => x.cps.size ≤ i⟩
theorem ItOn.rev {x : Str} : ItOn (Itv x) (sgV x).reverse (fun _ => True) :=
  ⟨fun i H _ hi => by rw [List.length_reverse, sgV_length] at hi; exact hi, fun i H v H' _ hi y => by
    obtain ⟨e, c, hc, rfl⟩ := y
    refine ⟨e, ?_⟩
    rw [List.length_reverse] at hi
    rw [List.getElem?_reverse hi, sgV_length]
    unfold sgV
    rw [List.getElem?_map, Array.getElem?_toList, hc]
    rfl, fun i H _ hi => by rw [List.length_reverse, sgV_length] at hi; exact hi⟩
theorem turn_rev {P : Program} {w : World} {K : PySem.W.Frag} {tg : Expr} (it : Addr) (x : Str) (t : Tok) (hx : x.length ≤ sizeLine) :
    Turn P w K tg (Itv x) [it] it (fun i h => i ≤ x.cps.size ∧ h.IsRevStr it x t ((x.cps.size : Int) - 1 - (i : Int))) where
  mem := by simp
  obj := fun i h st b hb => by
    have e : b = it := by simpa using hb
    subst e
    obtain ⟨_, o, e, c, d⟩ := st
    exact ⟨o, e, fun v z => by rw [d] at z; cases z⟩
  keep := fun i h h' st k => let ⟨l, o, e, c, d⟩ := st; ⟨l, o, k it (by simp) o e, c, d⟩
  item := by
    intro X hP hw hK hc i pins s σ H E I hf st hg
    subst hP hw hK
    obtain ⟨f0, f1, f2, f3, f4, f5⟩ := hf it (by simp)
    have hlt : i < x.cps.size := hg
    obtain ⟨_, st⟩ := st
    have e : (x.cps.size : Int) - 1 - (i : Int) = ((x.cps.size - 1 - i : Nat) : Int) := by omega
    rw [e] at st
    have hx2 : x.cps[x.cps.size - 1 - i]? = some (x.cps[x.cps.size - 1 - i]'(by omega)) := Array.getElem?_eq_getElem (by omega)
    refine next_rev_item hx st hx2 fun h' tk tk' st' sb => ?_
    have I1 : Inv X pins σ H { s with heap := h', toks := tk } := I.turned (fun b o hb e => (sb.2 b hb).trans e) f0 f1 f3 f4 f5
    have e2 : ((x.cps.size - 1 - i : Nat) : Int) - 1 = (x.cps.size : Int) - 1 - ((i + 1 : Nat) : Int) := by omega
    rw [e2] at st'
    obtain ⟨o, eo, c, d⟩ := id st'
    exact ⟨_, rfl, go_of (s := { s with heap := h', toks := tk }) eo c d (by decide) ⟨.str ⟨#[_]⟩, H, I1, ⟨_, rfl⟩, ⟨rfl, _, hx2, rfl⟩, ⟨hlt, st'⟩, fun b hb => (hf b hb).1⟩⟩
  done := by
    intro X hP hw hK hc i pins s σ H E I hf st hg
    subst hP hw hK
    obtain ⟨f0, f1, f2, f3, f4, f5⟩ := hf it (by simp)
    have hle : x.cps.size ≤ i := hg
    obtain ⟨hi, st⟩ := st
    have e : (x.cps.size : Int) - 1 - (i : Int) = -1 := by omega
    rw [e] at st
    exact next_rev_end (I.ok.hd hc) st fun h' eb => ⟨rfl, I.turned (t' := s.toks) (fun b o hb e => eb b o hb e) f0 f1 f3 f4 f5⟩
  self := fun _ _ _ _ _ st h => iter_rev st.2 h
def iRev (ta : TA) : TI := fun σ H R => ta σ H fun vs H1 => ∃ x, vs = [.str x] ∧ x.length ≤ sizeLine ∧ R (Itv x) H1
theorem pi_rev {X : Cx} {tg a : Expr} {ta : TA} {p pos : Pos} (hg : Gl X "reversed") (hm : X.mg "reversed" = none) (ha : PA X [a] ta) (hs : starEach [a] X.env = [(false, eval a X.env)] := by rfl) : PI X tg (.Call (.Name "reversed" p) [a] [] pos) (iRev ta) := by
  intro pins s σ H R I h
  refine Call_ (ld_blt I hg hm boot_reversed (PyProof.Rows.callWith_type1 (thn (ha pos pins s σ H _ I h) fun us s1 ⟨vs, H1, I1, r1, q1⟩ => ?_) hs rfl))
  obtain ⟨x, e, hx, q⟩ := q1
  subst e
  obtain ⟨u, rfl, ru⟩ := vals1 r1
  obtain ⟨t, rfl⟩ := ru
  refine call_rev_str hx fun tk => ?_
  have st : ({ s1 with heap := s1.heap.push { cls := .type "reversed", data := .fields #[.str x t, rawInt ((x.length : Int) - 1)] }, toks := tk } : Shared).heap.IsRevStr s1.heap.objs.size x t ((x.length : Int) - 1) := ⟨_, Heap.get?_push_size _ rfl, rfl, rfl⟩
  refine iter_rev st ?_
  refine ⟨s1.heap.objs.size, [s1.heap.objs.size], _, _, H1, rfl, I1.kept (t' := tk) fun b o e => Heap.get?_push_of_some _ e, turn_rev _ x t hx, ⟨Nat.zero_le _, ?_⟩, fun b hb => ?_, q⟩
  · have e : (x.cps.size : Int) - 1 - ((0 : Nat) : Int) = (x.length : Int) - 1 := by show (x.cps.size : Int) - 1 - ((0 : Nat) : Int) = (x.cps.size : Int) - 1; omega
    rw [e]; exact st
  · have e : b = s1.heap.objs.size := by simpa using hb
    subst e
    exact I1.fpOk (Nat.le_refl _) (I1.hok.fresh (Nat.le_refl _))

/-! ### a block's scope, over written scopes alone -/
structure LcS (os scope : Scope) (x : Str) (ys : List Str) : Prop where
  kind : scope.kind = .function
  nocell : ∀ y ∈ scope.names, y.2 ≠ .cell
  locs : ∀ y ∈ scope.names, y.2 = .local → scope.names.lookup y.1 = some .local
  own : scope.names.lookup x = some .local
  seen : ∀ y ∈ ys, scope.names.lookup y = some .free
  out : ∀ y ∈ scope.names, y.2 = .free → os.names.lookup y.1 = some .cell ∨ os.names.lookup y.1 = some .free
  nd : (x :: ys).Nodup
theorem LcS.to {X : Cx} {os scope : Scope} {x : Str} {ys : List Str} {js : List Nat} (h : LcS os scope x ys) (e : X.env.scope = os) (p : js.map (fun j => X.N[j]?) = ys.map some) : LcScope X scope x ys js :=
  ⟨h.kind, h.nocell, h.locs, h.own, h.seen, fun y hy hf => by
    have q := h.out y hy hf
    rw [← e] at q
    exact q, p, h.nd⟩

/-! ### a list made by a comprehension whose element leaves the heap as it is -/
theorem lc_on {J : It} {xs : List V} {Ok : Hp → Prop} (hJ : ItOn J xs Ok) {tc : TT} {te : TE} {js : List Nat} {σ : St} {H : Hp} {Q : VK} (f : V → V) (hok : Ok H) (hz : xs.length ≤ sizeLine)
    (he : ∀ (i : Nat) x Q', xs[i]? = some x → Q' (f x) H → tc (some x :: seenV σ js) H fun b H3 => if b = true then te (some x :: seenV σ js) H3 Q' else False)
    (mono : ∀ σ' H' (R R' : Bool → Hp → Prop), (∀ b h, R b h → R' b h) → tc σ' H' R → tc σ' H' R')
    (q : ∀ p, H p = none → Q (.ref p) (upd H p (.lst (xs.map f)))) : LcW J tc te js σ Q H := by
  refine ⟨fun i m acc H' => H' = H ∧ i ≤ xs.length ∧ m = xs.length - i ∧ acc = (xs.take i).map f, ⟨xs.length, rfl, Nat.zero_le _, by simp, by simp⟩, ?_⟩
  rintro i m acc H' ⟨rfl, hi, rfl, rfl⟩
  have hlen : ((xs.take i).map f).length = i := by simp; omega
  refine ⟨by omega, ?_⟩
  by_cases hlt : i < xs.length
  · refine .inr ⟨hJ.go i _ hok hlt, by omega, fun x H'' y => ?_⟩
    obtain ⟨e, hx⟩ := hJ.yld i _ x H'' hok hlt y
    subst e
    refine mono _ _ _ _ (fun b h z => ?_) (he i x (fun v H4 => ∃ m', m' < xs.length - i ∧ (H4 = H'' ∧ i + 1 ≤ xs.length ∧ m' = xs.length - (i + 1) ∧ (xs.take i).map f ++ [v] = (xs.take (i + 1)).map f)) hx ⟨xs.length - (i + 1), by omega, rfl, hlt, rfl, ?_⟩)
    · cases b with
      | true => exact z
      | false => exact z.elim
    · have e : xs.take (i + 1) = xs.take i ++ [x] := by
        rw [List.take_add_one, hx]
        rfl
      rw [e, List.map_append]
      rfl
  · have e : i = xs.length := by omega
    subst e
    refine .inl ⟨hJ.stop _ _ hok (Nat.le_refl _), fun p hp => ?_⟩
    rw [List.take_length]
    exact q p hp

/-- the same without a test -/
theorem lc_y {J : It} {xs : List V} {Ok : Hp → Prop} (hJ : ItOn J xs Ok) {te : TE} {js : List Nat} {σ : St} {H : Hp} {Q : VK} (f : V → V) (hok : Ok H) (hz : xs.length ≤ sizeLine)
    (he : ∀ (i : Nat) x Q', xs[i]? = some x → Q' (f x) H → te (some x :: seenV σ js) H Q') (q : ∀ p, H p = none → Q (.ref p) (upd H p (.lst (xs.map f)))) : LcW J tYes te js σ Q H :=
  lc_on hJ f hok hz (fun i x Q' hx hq => by
    show if true = true then te (some x :: seenV σ js) H Q' else False
    rw [if_pos rfl]
    exact he i x Q' hx hq) (fun _ _ _ _ hR z => hR _ _ z) q

/-! ### the names of built-ins -/
theorem bt_str : bootBuiltins "str" = some (.type "str") := by decide +kernel
theorem bt_len : bootBuiltins "len" = some (.builtin "len") := by decide +kernel
theorem bt_all : bootBuiltins "all" = some (.builtin "all") := by decide +kernel
theorem bt_isinstance : bootBuiltins "isinstance" = some (.builtin "isinstance") := by decide +kernel
/-! ### operators by alternatives -/
section
variable {X : Cx}
def rAddS : R2 := fun x y H Q => ∃ i j, x = .str i ∧ y = .str j ∧ i.length + j.length ≤ sizeLine ∧ Q (.str (i ++ j)) H
def rPlus : R2 := fun x y H Q => rI0 (fun i j => .int (i + j)) x y H Q ∨ rAddS x y H Q
theorem op_plus : OpR X (binaryOp .Add) rPlus := OpR.or op_add op_add_str
def rEqq (K : PySem.W.Frag) : R2 := fun x y H Q => rEq x y H Q ∨ rEqD K false x y H Q
theorem op_eqq (hu : X.A.units + 64 < cLine) : OpR X (compareOp .Eq) (rEqq X.K) := OpR.or op_eq (op_eqD hu)
def rInS : R2 := fun x y H Q => ∃ i j, x = .str i ∧ y = .str j ∧ Q (.bl (!(Builtin.Str.occurrences j i 0 j.length 1).isEmpty)) H
def rInn (K : PySem.W.Frag) : R2 := fun x y H Q => rIn K false x y H Q ∨ rInS x y H Q
theorem op_inn : OpR X (compareOp .In) (rInn X.K) := OpR.or op_in_seq op_in_str
def rIxA (K : PySem.W.Frag) (P : Params) : R2 := fun x y H Q => rIx K x y H Q ∨ rIxM K P x y H Q
theorem ix_any : IxR X (rIxA X.K X.w.params) := IxR.or ix_seq ix_mod
end

/-! ### the same with the written part named: within a block's element the reading may not hang on the block -/
section
variable {X : Cx} {K : PySem.W.Frag} {Pm : Params}
theorem op_eqqK (hu : X.A.units + 64 < cLine) (e : X.K = K) : OpR X (compareOp .Eq) (rEqq K) := e ▸ op_eqq hu
theorem op_innK (e : X.K = K) : OpR X (compareOp .In) (rInn K) := e ▸ op_inn
theorem ix_anyK (e : X.K = K) (e2 : X.w.params = Pm) : IxR X (rIxA K Pm) := e ▸ e2 ▸ ix_any
theorem call_isiK (e : X.K = K) : CallR X (.builtin "isinstance") (rIsi K) := e ▸ call_isi
def rLen (K : PySem.W.Frag) : List V → Hp → VK → Prop := fun xs H Q => ∃ x n, xs = [x] ∧ LenV K x H n ∧ Q (.int n) H
theorem call_lenK (e : X.K = K) : CallR X (.builtin "len") (rLen K) := e ▸ call_len
theorem call_allK (hc : X.calm = true) (e : X.K = K) : CallR X (.builtin "all") (rTruths K fun bs => bs.all id) := e ▸ call_all hc
end

/-! ### a callee in short -/
structure Callee (P : Program) (w : World) (K : PySem.W.Frag) (mg : Str → Option Value) (base : Heap) (k : Nat) (x : Str) (ps : List Str) (sp : Sp) : Prop where
  ex : ∃ f fd, FnOk P w K mg base CX0 k f fd ps sp ∧ mg x = some (.ref f) ∧ PySem.W.keepIn K (.ref f) = true ∧ Binds K fd ps []
theorem Callee.mono {P : Program} {w : World} {K : PySem.W.Frag} {mg : Str → Option Value} {base : Heap} {j k : Nat} {x : Str} {ps : List Str} {sp : Sp} (c : Callee P w K mg base j x ps sp) (h : j ≤ k) : Callee P w K mg base k x ps sp := by
  obtain ⟨f, fd, F, m, kp, b⟩ := c.ex
  exact ⟨f, fd, F.mono h, m, kp, b⟩
theorem pe_calls {X : Cx} {k : Nat} {x : Str} {ps : List Str} {sp : Sp} {e : Expr} {es : List Expr} {t : TA} {p pos : Pos} (c : Callee X.prog X.w X.K X.mg X.base k x ps sp) (hr : Room k X.A) (hg : Gl X x) (ha : PA X (e :: es) t)
    (hdb : (x == ("__debug__" : Str)) = false := by decide) (he : starEach (e :: es) X.env = (false, eval e X.env) :: starEach es X.env := by rfl) (hpl : (backTo pos (starEach es X.env)).any (·.1) = false := by rfl) :
    PE X (.Call (.Name x p) (e :: es) [] pos) (tCall sp [] E0 t) := by
  obtain ⟨f, fd, F, m, kp, b⟩ := c.ex
  exact pe_call F hr hg m kp b .nil (fun _ _ _ _ _ _ _ h => h.elim) ha hdb he hpl
theorem callee_of {P : Program} {w : World} {K : PySem.W.Frag} {mg : Str → Option Value} {base : Heap} {k : Nat} {x qual : Str} {st : Stmt} {f : Addr} {fd : FuncData} {ps : List Str} {sp : Sp} (F : Fun K x qual st f fd) (G : FnOk P w K mg base CX0 k f fd ps sp) (m : mg x = some (.ref f))
    (h : ∀ (kV doc pm : Value) (an : Option Addr) (cdv ct : Value) (us : List Value), us.length = ps.length → bindArgs (PySem.W.fnOf x qual (defArgs st) (defBody st) (defScope st) .none kV doc pm an cdv ct) ⟨us, []⟩ = pure (ps.zip us)) : Callee P w K mg base k x ps sp :=
  ⟨f, fd, G, m, F.kp, F.binds h⟩
end L2

set_option Elab.async false
set_option linter.all false
set_option maxRecDepth 100000
set_option maxHeartbeats 4000000
/-! an exception of an own class: raised, left, caught -/
namespace L2
open PySem PySem.Spec PyProof.Rows

section
variable {M : Model} {A : Around} {E : Value → Shared → Prop} {s : Shared} {env : Env} {outer : List Env} {base : Heap} {L e : Addr} {oe : Obj} {vs : Array Value}

end
end L2

namespace L2
open PySem PySem.Spec PyProof.Rows
section
variable {CX : CXT} {P : Program} {w : World} {K : PySem.W.Frag} {mg : Str → Option Value} {base : Heap} {N : List Str} {qual : Str} {scope : Scope} {f : Addr} {cd : Value} {A : Around} {outer : List Env} {s s1 : Shared} {H H1 : Hp} {E : XK}
  {pins : List (Addr × Obj)} {σ : St} {e : Addr} {C : Value} {T0 : Option Addr}
/-! ### raise C(..), C a class of the text over ValueError -/
end
end L2

set_option Elab.async false
set_option linter.all false
set_option maxRecDepth 100000
set_option maxHeartbeats 4000000
namespace L2
open PySem PySem.Spec PyProof.Rows
section
variable {P : Program} {w : World} {K : PySem.W.Frag} {mg : Str → Option Value} {base : Heap} {N : List Str} {qual : Str} {scope : Scope} {f : Addr} {cd : Value} {A : Around} {outer : List Env} {s : Shared} {H : Hp} {E : XK}
end

/-! ### try, except -/
section
variable {X : Cx} {pins : List (Addr × Obj)} {σ : St} {H : Hp} {s : Shared}
end
end L2

set_option Elab.async false
set_option linter.all false
set_option maxRecDepth 100000
set_option maxHeartbeats 4000000
namespace L2
open PySem PySem.Spec PyProof.Rows

/-! ### __class__ of a caught exception of an own class -/
section
variable {prog : Program} {w : World} {A : Around} {E : Value → Shared → Prop} {s : Shared} {K : PySem.W.Frag} {x C : Addr} {ox : Obj} {tk : Tok}
end

/-! isinstance(error, own class) -/
section
variable {X : Cx}
end
end L2

/-! ### any in a handler's suite: the end of the list is told by an exception that is chained to the one at hand -/
namespace L2
open PySem PySem.Spec PyProof.Rows
section
variable {prog : Program} {w : World} {A : Around} {E : Value → Shared → Prop} {s : Shared}
end
end L2

set_option Elab.async false
set_option linter.all false
set_option maxRecDepth 100000
set_option maxHeartbeats 4000000
/-! slices of texts, index; callees that may raise -/
namespace L2
open PySem PySem.Spec PyProof.Rows
def rSlS : V → Option Int → Option Int → Hp → VK → Prop := fun x lo hi H Q => ∃ y, x = .str y ∧ y.length ≤ sizeLine ∧ Q (.str (Txt.slice y lo hi)) H
theorem part_of {v : Value} {o : Option Int} (h : IsPart v o) : ∃ l : Option (Int × Tok), v = partValue l ∧ l.map (·.1) = o := by
  cases h with
  | none => exact ⟨none, rfl, rfl⟩
  | int i t => exact ⟨some (i, t), rfl, rfl⟩
theorem sl_str {X : Cx} : SlR X rSlS := by
  intro pins s σ H x v vl vu lo hi sl Q I rx hs pl pu h
  obtain ⟨y, rfl, hz, q⟩ := h
  obtain ⟨t, rfl⟩ := rx
  obtain ⟨l, rfl, rfl⟩ := part_of pl
  obtain ⟨u, rfl, rfl⟩ := part_of pu
  obtain ⟨o, ho, hc, hd⟩ := hs
  refine ⟨"str", _, F.slot_str_getitem.lookup, typeIs_str _ _ _, wpAny_getItem_str_slice (l := l) (u := u) (st := none) ⟨o, ho, hc, hd⟩ rfl ?_⟩
  exact post_val_or_str ⟨Nat.le_trans (Txt.slice_le y _ _) hz, fun t' k => ⟨.str (Txt.slice y (l.map (·.1)) (u.map (·.1))), H, I.tok k, ⟨t', rfl⟩, q⟩⟩
/-! ### the letters of a slice -/
open Builtin Builtin.Str in
theorem cut_hi (l : Option Int) {b len : Nat} (h : len ≤ b) : strSliceIndices l (some (b : Int)) 1 len = strSliceIndices l (some (len : Int)) 1 len := by
  have a : ¬ ((len : Int) < 0) := by omega
  have c : ¬ ((b : Int) < 0) := by omega
  have e : min (b : Int) (len : Int) = min (len : Int) (len : Int) := by omega
  simp only [strSliceIndices, a, c, if_false, e, show ((1 : Int) > 0) = True from by simp, if_true]
theorem cut_mid (x : Str) {a m : Nat} (ha : a ≤ x.length) : Txt.slice x (some (a : Int)) (some ((a : Int) + (m : Int))) = ⟨((x.cps.toList.drop a).take m).toArray⟩ := by
  have e0 : (a : Int) + (m : Int) = ((a + m : Nat) : Int) := by omega
  rw [e0]
  by_cases h : a + m ≤ x.length
  · have z := StrLaws.sliceText_nat x (a := a) (b := a + m) (by omega) h
    rw [show a + m - a = m by omega] at z
    exact z
  · have z := StrLaws.sliceText_nat x (a := a) (b := x.length) ha (Nat.le_refl _)
    have e : Txt.slice x (some (a : Int)) (some ((a + m : Nat) : Int)) = Txt.slice x (some (a : Int)) (some (x.length : Int)) := by
      unfold Txt.slice
      rw [cut_hi _ (show x.length ≤ a + m by omega)]
    rw [e]
    refine Eq.trans z ?_
    have l : (x.cps.toList.drop a).length ≤ x.length - a := by rw [List.length_drop]; show x.cps.toList.length - a ≤ x.cps.size - a; rw [Array.length_toList]; exact Nat.le_refl _
    rw [List.take_of_length_le l, List.take_of_length_le (Nat.le_trans l (by omega))]
theorem cut_to (x : Str) {a : Nat} (ha : a ≤ x.length) : Txt.slice x none (some (a : Int)) = ⟨(x.cps.toList.take a).toArray⟩ := by
  have z := StrLaws.sliceText_nat x (a := 0) (b := a) (Nat.zero_le _) ha
  have e : Txt.slice x none (some (a : Int)) = Txt.slice x (some ((0 : Nat) : Int)) (some (a : Int)) := by
    unfold Txt.slice
    rw [StrLaws.sliceIdx_none_lo]
    rfl
  rw [e]
  exact z
theorem cut_from (x : Str) {a : Nat} (ha : a ≤ x.length) : Txt.slice x (some (a : Int)) none = ⟨(x.cps.toList.drop a).toArray⟩ := by
  have z := StrLaws.sliceText_nat x (a := a) (b := x.length) ha (Nat.le_refl _)
  have e : Txt.slice x (some (a : Int)) none = Txt.slice x (some (a : Int)) (some (x.length : Int)) := by
    unfold Txt.slice
    rw [StrLaws.sliceIdx_none_hi]
  rw [e]
  refine Eq.trans z ?_
  have l : (x.cps.toList.drop a).length ≤ x.length - a := by rw [List.length_drop]; show x.cps.toList.length - a ≤ x.cps.size - a; rw [Array.length_toList]; exact Nat.le_refl _
  rw [List.take_of_length_le l]

/-! ### index of a text -/
/-! ### a callee that may raise -/
end L2
namespace L2
open PySem PySem.Spec PyProof.Rows
end L2
namespace L2
open PySem PySem.Spec PyProof.Rows
/-- a comprehension whose element makes new things -/
theorem lc_grow {J : It} {xs : List V} {Ok : Hp → Prop} (hJ : ItOn J xs Ok) {te : TE} {js : List Nat} {σ : St} {H : Hp} {Q : VK} (f : V → V) (hok : ∀ H', Same H H' → Ok H') (hz : xs.length ≤ sizeLine)
    (he : ∀ (i : Nat) x H' Q', xs[i]? = some x → Same H H' → (∀ H'', Same H' H'' → Q' (f x) H'') → te (some x :: seenV σ js) H' Q')
    (q : ∀ H' p, Same H H' → H' p = none → Q (.ref p) (upd H' p (.lst (xs.map f)))) : LcW J tYes te js σ Q H := by
  refine ⟨fun i m acc H' => Same H H' ∧ i ≤ xs.length ∧ m = xs.length - i ∧ acc = (xs.take i).map f, ⟨xs.length, Same.refl _, Nat.zero_le _, by simp, by simp⟩, ?_⟩
  rintro i m acc H' ⟨hs, hi, rfl, rfl⟩
  have hlen : ((xs.take i).map f).length = i := by simp; omega
  refine ⟨by omega, ?_⟩
  by_cases hlt : i < xs.length
  · refine .inr ⟨hJ.go i _ (hok _ hs) hlt, by omega, fun x H'' y => ?_⟩
    obtain ⟨e, hx⟩ := hJ.yld i _ x H'' (hok _ hs) hlt y
    subst e
    unfold tYes
    dsimp only
    rw [if_pos rfl]
    refine he i x H'' _ hx hs fun H4 s4 => ⟨xs.length - (i + 1), by omega, hs.trans s4, hlt, rfl, ?_⟩
    have e : xs.take (i + 1) = xs.take i ++ [x] := by
      rw [List.take_add_one, hx]
      rfl
    rw [e, List.map_append]
    rfl
  · have e : i = xs.length := by omega
    subst e
    refine .inl ⟨hJ.stop _ _ (hok _ hs) (Nat.le_refl _), fun p hp => ?_⟩
    rw [List.take_length]
    exact q H' p hs hp
end L2

set_option Elab.async false
set_option linter.all false
set_option maxRecDepth 100000
set_option maxHeartbeats 4000000
/-! is True, is not True; a text some times -/
namespace L2
open PySem PySem.Spec PyProof.Rows
section
variable {X : Cx}
def rIsB (neg : Bool) : R2 := fun x y H Q => ∃ c d, x = .bl c ∧ y = .bl d ∧ Q (.bl (if neg = true then c != d else c == d)) H
theorem op_isntB : OpR X (compareOp .IsNot) (rIsB true) := by
  intro pins s σ H x y v u Q I rx ry h
  obtain ⟨c, d, rfl, rfl, q⟩ := h
  cases rx
  cases ry
  exact isnot_bool ⟨.bl (c != d), H, I, rfl, q⟩
def rIsN (neg : Bool) : R2 := fun x y H Q => y = .non ∧ Q (.bl (if neg = true then !decide (x = .non) else decide (x = .non))) H
theorem op_isntA : OpR X (compareOp .IsNot) (fun x y H Q => rIsN true x y H Q ∨ rIsB true x y H Q) := OpR.or op_notN op_isntB
end
end L2

set_option Elab.async false
set_option linter.all false
set_option maxRecDepth 100000
set_option maxHeartbeats 4000000
/-! range with a step -/
namespace L2
open PySem PySem.Spec PyProof.Rows
def Itr3 (lo c : Int) (n : Nat) : It := ⟨fun i _ => i < n, fun i H x H' => H' = H ∧ x = .int (lo + i * c), fun i _ => n ≤ i⟩
def rngV3 (lo c : Int) (n : Nat) : List V := (List.range n).map fun i => V.int (lo + (i : Nat) * c)
theorem ItOn.rng3 {lo c : Int} {n : Nat} : ItOn (Itr3 lo c n) (rngV3 lo c n) (fun _ => True) :=
  ⟨fun i H _ hi => by unfold rngV3 at hi; show i < n; simpa using hi, fun i H v H' _ hi y => by
    obtain ⟨e, rfl⟩ := y
    refine ⟨e, ?_⟩
    unfold rngV3 at hi ⊢
    have hi' : i < n := by simpa using hi
    simp [hi'], fun i H _ hi => by unfold rngV3 at hi; show n ≤ i; simpa using hi⟩
theorem turn_range3 {P : Program} {w : World} {K : PySem.W.Frag} {tg : Expr} (it : Addr) (lo c : Int) (n : Nat) : Turn P w K tg (Itr3 lo c n) [it] it (fun i h => IsRangeIter h it (lo + (i : Nat) * c) ((n : Int) - (i : Nat)) c) where
  mem := by simp
  obj := fun i h st b hb => by
    have e : b = it := by simpa using hb
    subst e
    exact ⟨_, st, fun v z => by cases (show Data.fields _ = Data.cell v from z)⟩
  keep := fun i h h' st k => k it (by simp) _ st
  item := by
    intro X hP hw hK hc i pins s σ H E I hf st hg
    subst hP hw hK
    obtain ⟨f0, f1, f2, f3, f4, f5⟩ := hf it (by simp)
    have W := Walks.range (prog := X.prog) (w := X.w) (I.ok.hd hc) it lo c n
    refine W.item i s _ _ hg st fun v h' tk hv st' kk => ?_
    obtain ⟨t, rfl⟩ := hv
    have I1 : Inv X pins σ H { s with heap := h', toks := tk } := I.turned (fun b o hb e => kk b o (by simpa using hb) e) f0 f1 f3 f4 f5
    exact ⟨_, rfl, go_of (s := { s with heap := h', toks := tk }) (n := "range_iterator") st' rfl rfl (by decide) ⟨.int (lo + i * c), H, I1, ⟨t, rfl⟩, ⟨rfl, rfl⟩, st', fun b hb => (hf b hb).1⟩⟩
  done := by
    intro X hP hw hK hc i pins s σ H E I hf st hg
    subst hP hw hK
    obtain ⟨f0, f1, f2, f3, f4, f5⟩ := hf it (by simp)
    exact wpAny_pyNext_range_end (I.ok.hd hc) st (by have : n ≤ i := hg; omega) fun h' eb => ⟨rfl, I.turned (t' := s.toks) (fun b o hb e => eb b o hb e) f0 f1 f3 f4 f5⟩
  self := fun _ _ _ _ _ st h => wpAny_pyIter_rangeiter st h
def cnt3 (i j c : Int) : Nat := (Builtin.Range.rangeSize i j c).toNat
def iRng3 (ta : TA) : TI := fun σ H R => ta σ H fun vs H1 => ∃ i j c : Int, vs = [.int i, .int j, .int c] ∧ (-1000000 ≤ i ∧ i ≤ 1000000 ∧ -1000000 ≤ j ∧ j ≤ 1000000 ∧ 0 < c ∧ c ≤ 1000000) ∧ R (Itr3 i c (cnt3 i j c)) H1
theorem size3 {i j c : Int} (hc : 0 < c) (h1 : -1000000 ≤ i) (h2 : j ≤ 1000000) : 0 ≤ Builtin.Range.rangeSize i j c ∧ Builtin.Range.rangeSize i j c ≤ 2000001 := by
  unfold Builtin.Range.rangeSize
  rw [if_pos hc]
  split
  · have e : 0 ≤ (j - i - 1) / c := Int.ediv_nonneg (by omega) (by omega)
    have e2 : (j - i - 1) / c ≤ j - i - 1 := Int.ediv_le_self _ (by omega)
    omega
  · omega
theorem fits {x : Int} (h1 : -10000000 ≤ x) (h2 : x ≤ 10000000) : Builtin.Range.rangeFitsLong x = true := by
  unfold Builtin.Range.rangeFitsLong
  simp
  omega
section
variable {X : Cx} {tg : Expr}
theorem pi_range3 {a b d : Expr} {ta : TA} {p pos : Pos} (hg : Gl X "range") (hm : X.mg "range" = none) (ha : PA X [a, b, d] ta) (hs : starEach [a, b, d] X.env = (false, eval a X.env) :: starEach [b, d] X.env := by rfl) (hs2 : (backTo pos (starEach [b, d] X.env)).any (·.1) = false := by rfl) :
    PI X tg (.Call (.Name "range" p) [a, b, d] [] pos) (iRng3 ta) := by
  intro pins s σ H R I h
  refine Call_ (ld_blt I hg hm boot_range (PyProof.Rows.callWith_type1 (thn (ha pos pins s σ H _ I h) fun us s1 ⟨vs, H1, I1, r1, q1⟩ => ?_) hs hs2))
  obtain ⟨i, j, c, e, ⟨h1, h2, h3, h4, h5, h6⟩, q⟩ := q1
  subst e
  cases r1 with
  | cons r rr =>
    cases rr with
    | cons r' rr =>
      cases rr with
      | cons r'' rr =>
        cases rr
        obtain ⟨t, rfl⟩ := r
        obtain ⟨t', rfl⟩ := r'
        obtain ⟨t'', rfl⟩ := r''
        obtain ⟨z0, z1⟩ := size3 (i := i) (j := j) h5 h1 h4
        refine call_range_3 (by omega) ?_ (.inl (PyProof.noPylong_small (by omega)))
        have sm : Builtin.Range.small i j c = true := by
          unfold Builtin.Range.small
          rw [fits (x := i) (by omega) (by omega), fits (x := j) (by omega) (by omega), fits (x := c) (by omega) (by omega), fits (by omega) (by omega), if_pos h5, fits (x := j + (c - 1)) (by omega) (by omega)]
          simp
        refine wpAny_pyIter_range (IsRange.new ..) sm ?_
        generalize hob : ({ cls := .type "range", data := .fields #[.int i t, .int j t', .int c t''] } : Obj) = ob
        have I2 : Inv X pins σ H1 { s1 with heap := s1.heap.push ob } := I1.kept (t' := s1.toks) fun b o e => Heap.get?_push_of_some _ e
        refine ⟨(s1.heap.push ob).objs.size, [(s1.heap.push ob).objs.size], _, _, H1, rfl, I2.kept (t' := s1.toks) fun b o e => Heap.get?_push_of_some _ e, turn_range3 _ i c (cnt3 i j c), ?_, fun b hb => ?_, q⟩
        · have e1 : i + ((0 : Nat) : Int) * c = i := by simp
          have e2 : ((cnt3 i j c : Nat) : Int) - ((0 : Nat) : Int) = Builtin.Range.rangeSize i j c := by unfold cnt3; omega
          show IsRangeIter _ _ (i + ((0 : Nat) : Int) * c) (((cnt3 i j c : Nat) : Int) - ((0 : Nat) : Int)) c
          rw [e1, e2]
          exact Heap.get?_push_size _ rfl
        · have e : b = (s1.heap.push ob).objs.size := by simpa using hb
          subst e
          exact I2.fpOk (Nat.le_refl _) (I2.hok.fresh (Nat.le_refl _))
end
end L2

set_option Elab.async false
set_option linter.all false
set_option maxRecDepth 100000
set_option maxHeartbeats 4000000
/-! reversed(list), division of large numbers, lists joined, own classes -/
namespace L2
open PySem PySem.Spec PyProof.Rows
/-! ### reversed(list), the list left as it is -/
section
variable {X : Cx}
/-! ### // of numbers of any size that occurs -/
def CDivL (_ j : Int) : Prop := 0 < j ∧ j.natAbs.log2 < 9000
theorem op_fdivL : OpR X (binaryOp .FloorDiv) (rI CDivL fun i j => .int (i / j)) := opI fun i j _ _ _ _ _ hc q => by
  refine floordiv_int (by have := hc.1; omega) ?_ (.inl (PyProof.noPylong_of_log2 hc.2))
  rw [Int.fdiv_eq_ediv_of_nonneg _ (by have := hc.1; omega)]
  exact q
/-! ### + also of lists -/
/-! ### isinstance, also of own classes -/
def rIsiA (K : PySem.W.Frag) : List V → Hp → VK → Prop := fun xs H Q => rIsi K xs H Q ∨ ∃ x C t b, xs = [x, V.ref C] ∧ TyOf K H x t ∧ PySem.W.kitOne K t (.ref C) = some b ∧ Q (.bl b) H
theorem call_isiA : CallR X (.builtin "isinstance") (rIsiA X.K) := by
  intro pins s σ H xs us Q I r h
  rcases h with h | ⟨x, C, t, b, rfl, ty, e, q⟩
  · exact call_isi pins s σ H xs us Q I r h
  obtain ⟨u, w', rfl, ru, rw'⟩ := vals2 r
  cases (show w' = Value.ref C from rw')
  exact isinst_ok I ru ty e fun tk => ⟨.bl b, H, I.tok tk, rfl, q⟩
theorem call_isiAK {K : PySem.W.Frag} (e : X.K = K) : CallR X (.builtin "isinstance") (rIsiA K) := e ▸ call_isiA
theorem PE.or {e : Expr} {t t' : TE} (h : PE X e t) (h' : PE X e t') : PE X e (fun σ H Q => t σ H Q ∨ t' σ H Q) := fun pins s σ H Q I q => by
  rcases q with q | q
  · exact h pins s σ H Q I q
  · exact h' pins s σ H Q I q
/-- an own class as an object is asked by -/
structure KCls (K : PySem.W.Frag) (C : Addr) : Prop where
  cl : Cls K C
  ha : PySem.W.findIn K (.ref C) "__class__" = some (some (.builtin "object.__class__"))
  hn : PySem.W.specialIn K (.builtin "object.__class__") "__get__" = some (some (.builtin "getset_descriptor.__get__"))
  htk : PySem.W.takesIn K (.builtin "object.__class__") = some true
  hm : PySem.W.mroIn K C (.type "object") = some true
theorem KCls.ty {K : PySem.W.Frag} {C : Addr} (c : KCls K C) {H : Hp} {a dx : Addr} {fs : List (Str × V)} (e : H a = some (.ins C dx fs)) : TyOf K H (.ref a) (.ref C) := .ins e c.cl c.ha c.hn c.htk c.hm
end
/-- C(..) in short -/
structure Maker (P : Program) (w : World) (K : PySem.W.Frag) (mg : Str → Option Value) (base : Heap) (k : Nat) (x : Str) (C : Addr) (ps : List Str) (sp : Sp) : Prop where
  ex : ∃ f fd, Mk K C f ∧ FnOk P w K mg base CX0 k f fd ps sp ∧ mg x = some (.ref C) ∧ Binds K fd ps []
theorem Maker.mono {P : Program} {w : World} {K : PySem.W.Frag} {mg : Str → Option Value} {base : Heap} {j k : Nat} {x : Str} {C : Addr} {ps : List Str} {sp : Sp} (c : Maker P w K mg base j x C ps sp) (h : j ≤ k) : Maker P w K mg base k x C ps sp := by
  obtain ⟨f, fd, M, F, m, b⟩ := c.ex
  exact ⟨f, fd, M, F.mono h, m, b⟩
theorem pe_makes {X : Cx} {k : Nat} {x : Str} {C : Addr} {ps : List Str} {sp : Sp} {e : Expr} {es : List Expr} {t : TA} {p pos : Pos} (c : Maker X.prog X.w X.K X.mg X.base k x C ps sp) (hr : Room (k + 1) X.A) (hg : Gl X x) (ha : PA X (e :: es) t)
    (hdb : (x == ("__debug__" : Str)) = false := by decide) (he : starEach (e :: es) X.env = (false, eval e X.env) :: starEach es X.env := by rfl) (hpl : (backTo pos (starEach es X.env)).any (·.1) = false := by rfl) :
    PE X (.Call (.Name x p) (e :: es) [] pos) (tMake C sp [] E0 t) := by
  obtain ⟨f, fd, M, F, m, b⟩ := c.ex
  exact pe_make M F hr hg m b .nil (fun _ _ _ _ _ _ _ h => h.elim) ha hdb he hpl
/-- o.m(..) in short -/
structure Method (P : Program) (w : World) (K : PySem.W.Frag) (mg : Str → Option Value) (base : Heap) (k : Nat) (C : Addr) (m : Str) (ps : List Str) (sp : Sp) : Prop where
  ex : ∃ f fd, Meth K C m f ∧ FnOk P w K mg base CX0 k f fd ps sp ∧ Binds K fd ps []
theorem Method.mono {P : Program} {w : World} {K : PySem.W.Frag} {mg : Str → Option Value} {base : Heap} {j k : Nat} {C : Addr} {m : Str} {ps : List Str} {sp : Sp} (c : Method P w K mg base j C m ps sp) (h : j ≤ k) : Method P w K mg base k C m ps sp := by
  obtain ⟨f, fd, M, F, b⟩ := c.ex
  exact ⟨f, fd, M, F.mono h, b⟩
theorem pe_meths {X : Cx} {pl : Sem Bool} {k : Nat} {C : Addr} {m : Str} {ps : List Str} {sp : Sp} {o e : Expr} {es : List Expr} {ta : TE} {t : TA} {pos apos : Pos} (he : PE X o ta) (c : Cls X.K C) (hm : Method X.prog X.w X.K X.mg X.base k C m ps sp) (hr : Room k X.A) (ha : PA X (e :: es) t)
    (hst : starEach (e :: es) X.env = (false, eval e X.env) :: starEach es X.env := by rfl) (hpl : (backTo pos (starEach es X.env)).any (·.1) = false := by rfl)
    (ht : eval (.Call (.Attribute o m apos) (e :: es) [] pos) X.env = (do
      let ov ← eval o X.env
      standAt apos.atName
      let (f, first) ← holding [ov] (getMethod ov m pl)
      callWith pos f first (backTo pos (starEach (e :: es) X.env)) (backToKw pos (keywordEach [] X.env))) := by rfl) :
    PE X (.Call (.Attribute o m apos) (e :: es) [] pos) (tMeth C m sp [] E0 ta t) := by
  obtain ⟨f, fd, M, F, b⟩ := hm.ex
  exact pe_meth (pl := pl) he c M F hr b .nil (fun _ _ _ _ _ _ _ h => h.elim) ha hst hpl ht
theorem maker_of {P : Program} {w : World} {K : PySem.W.Frag} {mg : Str → Option Value} {base : Heap} {k : Nat} {x nm qual : Str} {C : Addr} {st : Stmt} {f : Addr} {fd : FuncData} {ps : List Str} {sp : Sp} (M : Mk K C f) (F : Fun K nm qual st f fd) (G : FnOk P w K mg base CX0 k f fd ps sp) (m : mg x = some (.ref C))
    (h : ∀ (kV doc pm : Value) (an : Option Addr) (cdv ct : Value) (us : List Value), us.length = ps.length → bindArgs (PySem.W.fnOf nm qual (defArgs st) (defBody st) (defScope st) .none kV doc pm an cdv ct) ⟨us, []⟩ = pure (ps.zip us)) : Maker P w K mg base k x C ps sp :=
  ⟨f, fd, M, G, m, F.binds h⟩
theorem method_of {P : Program} {w : World} {K : PySem.W.Frag} {mg : Str → Option Value} {base : Heap} {k : Nat} {nm qual : Str} {C : Addr} {st : Stmt} {f : Addr} {fd : FuncData} {ps : List Str} {sp : Sp} (M : Meth K C nm f) (F : Fun K nm qual st f fd) (G : FnOk P w K mg base CX0 k f fd ps sp)
    (h : ∀ (kV doc pm : Value) (an : Option Addr) (cdv ct : Value) (us : List Value), us.length = ps.length → bindArgs (PySem.W.fnOf nm qual (defArgs st) (defBody st) (defScope st) .none kV doc pm an cdv ct) ⟨us, []⟩ = pure (ps.zip us)) : Method P w K mg base k C nm ps sp :=
  ⟨f, fd, M, G, F.binds h⟩
end L2
namespace L2
open PySem PySem.Spec PyProof.Rows
/-! ### readings that keep what they are asked for -/
def MoE (t : TE) : Prop := ∀ σ H (Q Q' : VK), (∀ v h, Q v h → Q' v h) → t σ H Q → t σ H Q'
def MoT (t : TT) : Prop := ∀ σ H (Q Q' : Bool → Hp → Prop), (∀ v h, Q v h → Q' v h) → t σ H Q → t σ H Q'
def MoR (r : R2) : Prop := ∀ x y H (Q Q' : VK), (∀ v h, Q v h → Q' v h) → r x y H Q → r x y H Q'
def MoA (t : TA) : Prop := ∀ σ H (Q Q' : List V → Hp → Prop), (∀ v h, Q v h → Q' v h) → t σ H Q → t σ H Q'
theorem mo_var {i : Nat} : MoE (tVar i) := fun _ _ _ _ h ⟨v, e, z⟩ => ⟨v, e, h _ _ z⟩
theorem mo_c {v : V} : MoE (tC v) := fun _ _ _ _ h z => h _ _ z
theorem mo_nil : MoA tNil := fun _ _ _ _ h z => h _ _ z
theorem mo_cons {ta : TE} {tr : TA} (ha : MoE ta) (hr : MoA tr) : MoA (tCons ta tr) := fun _ _ _ _ h z => ha _ _ _ _ (fun _ _ z1 => hr _ _ _ _ (fun _ _ z2 => h _ _ z2) z1) z
theorem mo_op {r : R2} {ta tb : TE} (hr : MoR r) (ha : MoE ta) (hb : MoE tb) : MoE (tOp r ta tb) := fun _ _ _ _ h z => ha _ _ _ _ (fun _ _ z1 => hb _ _ _ _ (fun _ _ z2 => hr _ _ _ _ _ h z2) z1) z
theorem mo_test {t : TE} (ht : MoE t) : MoT (tTest t) := fun _ _ _ _ h z => ht _ _ _ _ (fun _ _ ⟨k, e, z⟩ => ⟨k, e, h _ _ z⟩) z
theorem mo_and {t u : TT} (ht : MoT t) (hu : MoT u) : MoT (tAnd t u) := fun _ _ _ _ h z => ht _ _ _ _ (fun c _ z1 => by
  by_cases e : c = true
  · rw [if_pos e] at z1 ⊢; exact hu _ _ _ _ h z1
  · rw [if_neg e] at z1 ⊢; exact h _ _ z1) z
theorem mo_or {t u : TT} (ht : MoT t) (hu : MoT u) : MoT (tOr t u) := fun _ _ _ _ h z => ht _ _ _ _ (fun c _ z1 => by
  by_cases e : c = true
  · rw [if_pos e] at z1 ⊢; exact h _ _ z1
  · rw [if_neg e] at z1 ⊢; exact hu _ _ _ _ h z1) z
theorem mo_rI0 {g : Int → Int → V} : MoR (rI0 g) := fun _ _ _ _ _ h ⟨i, j, a, b, z⟩ => ⟨i, j, a, b, h _ _ z⟩
theorem mo_len {K : PySem.W.Frag} {t : TA} (ht : MoA t) : MoE (tCB (rLen K) t) := fun _ _ _ _ h z => ht _ _ _ _ (fun _ _ ⟨x, n, a, b, z⟩ => ⟨x, n, a, b, h _ _ z⟩) z
/-- a test that answers b, the heap as it was -/
def EvT (t : TT) (σ : St) (H : Hp) (b : Bool) : Prop := ∀ R : Bool → Hp → Prop, R b H → t σ H R
theorem ev_and {t u : TT} {σ : St} {H : Hp} {b c : Bool} (ht : EvT t σ H b) (hu : b = true → EvT u σ H c) : EvT (tAnd t u) σ H (b && c) := fun R r => ht _ (by
  by_cases e : b = true
  · subst e; rw [if_pos rfl]; exact hu rfl _ r
  · rw [if_neg e]
    have : b = false := Bool.eq_false_iff.mpr e
    subst this; exact r)
theorem ev_or {t u : TT} {σ : St} {H : Hp} {b c : Bool} (ht : EvT t σ H b) (hu : b = false → EvT u σ H c) : EvT (tOr t u) σ H (b || c) := fun R r => ht _ (by
  by_cases e : b = true
  · subst e; rw [if_pos rfl]; exact r
  · rw [if_neg e]
    have : b = false := Bool.eq_false_iff.mpr e
    subst this; exact hu rfl _ r)
end L2

set_option Elab.async false
set_option linter.all false
set_option maxRecDepth 100000
set_option maxHeartbeats 4000000
/-! comprehensions by the place, with a test, that make new things -/
namespace L2
open PySem PySem.Spec PyProof.Rows
def keepI (b : Nat → Bool) (f : Nat → V) (n : Nat) : List V := (List.range n).filterMap fun i => if b i = true then some (f i) else none
theorem keepI_succ (b : Nat → Bool) (f : Nat → V) (n : Nat) : keepI b f (n + 1) = if b n = true then keepI b f n ++ [f n] else keepI b f n := by
  unfold keepI
  rw [List.range_succ, List.filterMap_append]
  by_cases h : b n = true
  · simp [h]
  · simp [h]
theorem keepI_len (b : Nat → Bool) (f : Nat → V) (n : Nat) : (keepI b f n).length ≤ n := by
  unfold keepI
  have := List.length_filterMap_le (fun i => if b i = true then some (f i) else none) (List.range n)
  rw [List.length_range] at this
  exact this
theorem keepI_all (f : Nat → V) (n : Nat) : keepI (fun _ => true) f n = (List.range n).map f := by
  induction n with
  | zero => rfl
  | succ n ih => rw [keepI_succ, if_pos rfl, ih, List.range_succ, List.map_append]; rfl
theorem lc_gen {J : It} {xs : List V} {Ok : Hp → Prop} (hJ : ItOn J xs Ok) {tc : TT} {te : TE} {js : List Nat} {σ : St} {H : Hp} {Q : VK} (b : Nat → Bool) (f : Nat → V) (hok : ∀ H', Same H H' → Ok H') (hz : xs.length ≤ sizeLine)
    (ht : ∀ (i : Nat) x H' (R : Bool → Hp → Prop), xs[i]? = some x → Same H H' → (∀ H'', Same H' H'' → R (b i) H'') → tc (some x :: seenV σ js) H' R)
    (he : ∀ (i : Nat) x H' Q', xs[i]? = some x → b i = true → Same H H' → (∀ H'', Same H' H'' → Q' (f i) H'') → te (some x :: seenV σ js) H' Q')
    (q : ∀ H' p, Same H H' → H' p = none → Q (.ref p) (upd H' p (.lst (keepI b f xs.length)))) : LcW J tc te js σ Q H := by
  refine ⟨fun i m acc H' => Same H H' ∧ i ≤ xs.length ∧ m = xs.length - i ∧ acc = keepI b f i, ⟨xs.length, Same.refl _, Nat.zero_le _, by simp, rfl⟩, ?_⟩
  rintro i m acc H' ⟨hs, hi, rfl, rfl⟩
  have hlen := keepI_len b f i
  refine ⟨by omega, ?_⟩
  by_cases hlt : i < xs.length
  · refine .inr ⟨hJ.go i _ (hok _ hs) hlt, by omega, fun x H'' y => ?_⟩
    obtain ⟨e, hx⟩ := hJ.yld i _ x H'' (hok _ hs) hlt y
    subst e
    refine ht i x H'' _ hx hs fun H3 s3 => ?_
    by_cases hb : b i = true
    · rw [if_pos hb]
      refine he i x H3 _ hx hb (hs.trans s3) fun H4 s4 => ⟨xs.length - (i + 1), by omega, (hs.trans s3).trans s4, hlt, rfl, ?_⟩
      rw [keepI_succ, if_pos hb]
    · rw [if_neg hb]
      refine ⟨xs.length - (i + 1), by omega, hs.trans s3, hlt, rfl, ?_⟩
      rw [keepI_succ, if_neg hb]
  · have e : i = xs.length := by omega
    subst e
    exact .inl ⟨hJ.stop _ _ (hok _ hs) (Nat.le_refl _), fun p hp => q H' p hs hp⟩
/-- without a test -/
theorem lc_growI {J : It} {xs : List V} {Ok : Hp → Prop} (hJ : ItOn J xs Ok) {te : TE} {js : List Nat} {σ : St} {H : Hp} {Q : VK} (f : Nat → V) (hok : ∀ H', Same H H' → Ok H') (hz : xs.length ≤ sizeLine)
    (he : ∀ (i : Nat) x H' Q', xs[i]? = some x → Same H H' → (∀ H'', Same H' H'' → Q' (f i) H'') → te (some x :: seenV σ js) H' Q')
    (q : ∀ H' p, Same H H' → H' p = none → Q (.ref p) (upd H' p (.lst ((List.range xs.length).map f)))) : LcW J tYes te js σ Q H :=
  lc_gen hJ (fun _ => true) f hok hz (fun i x H' R hx hs hr => hr _ (Same.refl _)) (fun i x H' Q' hx _ hs hq => he i x H' Q' hx hs hq) (fun H' p hs hp => by rw [keepI_all]; exact q H' p hs hp)
end L2

set_option Elab.async false
set_option linter.all false
set_option maxRecDepth 100000
set_option maxHeartbeats 4000000
/-! a pair turned round by [::-1]; a short text many times -/
namespace HT
open PySem PySem.Spec PyProof.Rows
section
variable {prog : Program} {w : World} {A : Around} {E : Value → Shared → Prop} {s : Shared}
end
end HT
namespace L2
open PySem PySem.Spec PyProof.Rows
section
variable {X : Cx} {e st : Expr} {te ts : TE} {pos p2 : Pos}
end
end L2
namespace L2
open PySem PySem.Spec PyProof.Rows
/-! ### a cut between two statements -/
theorem mo_un {r : V → Hp → VK → Prop} {ta : TE} (hr : ∀ x H (Q Q' : VK), (∀ v h, Q v h → Q' v h) → r x H Q → r x H Q') (ha : MoE ta) : MoE (tUn r ta) := fun _ _ _ _ h z => ha _ _ _ _ (fun _ _ z1 => hr _ _ _ _ h z1) z
theorem mo_rU {g : Int → V} : ∀ x H (Q Q' : VK), (∀ v h, Q v h → Q' v h) → rU g x H Q → rU g x H Q' := fun _ _ _ _ h ⟨i, e, z⟩ => ⟨i, e, h _ _ z⟩
end L2
namespace L2
open PySem PySem.Spec PyProof.Rows
section
variable {X : Cx} {K : PySem.W.Frag}
theorem ix_tupK (e : X.K = K) : IxR X (rIxT K) := e ▸ ix_tup
theorem op_neDK (hu : X.A.units + 64 < cLine) (e : X.K = K) : OpR X (compareOp .NotEq) (rEqD K true) := e ▸ op_neD hu
end
theorem mo_ne : MoR rNe := fun _ _ _ _ _ h ⟨a, z⟩ => ⟨a, h _ _ z⟩
theorem mo_eq : MoR rEq := fun _ _ _ _ _ h ⟨a, z⟩ => ⟨a, h _ _ z⟩
end L2

set_option Elab.async false
set_option linter.all false
set_option maxRecDepth 100000
set_option maxHeartbeats 4000000
/-! a list made by a comprehension and given a name at once: the name is stored ahead of the block's own ones going -/
namespace L2
open PySem PySem.Spec PyProof.Rows
theorem ps_setlc {X : Cx} {elt iter : Expr} {ifs : List Expr} {scope : Scope} {pos px py spos : Pos} {x y : Str} {i0 : Nat} {ys : List Str} {js : List Nat} {wi : TI} {tc : TT} {te : TE} (hN : X.N.Nodup) (hiy : X.N[i0]? = some y) (hxy : Loc X.env.scope y) (hc : X.calm = true) (L : LcScope X scope x ys js) (hi : PI X (.Name x px) iter wi)
    (ht : ∀ C s₀ H₀ fp, PTs (cxLc X (x :: ys) scope C s₀ H₀ fp) ifs tc) (he : ∀ C s₀ H₀ fp, PE (cxLc X (x :: ys) scope C s₀ H₀ fp) elt te)
    (hsw : swapsWith (.ListComp elt [⟨.Name x px, iter, ifs, 0⟩] scope pos) (some (.Name y py)) spos.line X.env = pure true := by rfl)
    (hs : ∀ z, foldedSetIterable iter X.env z = pure z := by intro _; rfl) (hf : X.fn y = true ∨ X.env.scope.names.lookup y = some .local := by first | exact .inl rfl | exact .inr rfl | assumption) :
    PS X (.Assign [.Name y py] (.ListComp elt [⟨.Name x px, iter, ifs, 0⟩] scope pos) spos) (tAsg (tLc wi tc te js) (gName i0)) := by
  intro pins s σ H Dn I h
  have hgy : PG X (.Name y py) (gName i0) := pg_name (i := i0) hN hiy hxy hf
  rw [exec_Assign_Name_used _ _ _ _ hsw]
  refine wpAny_bind (wpAny_standAt (wpAny_bind ?_))
  show wpAny _ X.A (do let _ ← comprehension (.ListComp elt [⟨.Name x px, iter, ifs, 0⟩] scope pos) scope X.env _ (newList []) false (eval iter X.env) (some (assign (.Name y py) X.env))) _ _ s
  refine wpAny_bind (wpAny_mono (wpAny_comprehension_free (use := some (assign (.Name y py) X.env)) (Q := fun _ s' => SP X pins Dn .next s') rfl hs (closure_of (L.cells I)) L.kind L.locs (thn (hi pins s σ H _ I h) fun v s1 h1 => thn h1 fun itv s2 h2 => ?_)) (fun _ s' hq => wpAny_pure (wpAny_pure hq)) fun _ _ e => e)
  obtain ⟨it, fp, tn, J, H2, e, I2, T, st2, f2, W, ⟨m0, w0⟩, turn⟩ := h2
  subst e
  have ho2 : ∀ b ∈ fp, ∃ o, s2.heap.get? b = some o := fun b hb => let ⟨o, e, _⟩ := T.obj _ _ st2 b hb; ⟨o, e⟩
  refine wpAny_newObj_type (wpAny_newFunctionEnv L.nocell (by intro y hy; simp at hy) (fun h1 hns1 hsb1 => ?_) L.kind)
  dsimp only at hns1 hsb1 ⊢
  generalize hH2 : s2.heap.push { cls := .type "list", dict := none, data := .seq ([] : List Value).toArray } = G2 at hns1 hsb1 ⊢
  have hC : G2.objs.size = s2.heap.objs.size + 1 := by rw [← hH2, Heap.size_push]
  have hCle : s2.heap.objs.size ≤ G2.objs.size := by rw [hC]; exact Nat.le_succ _
  have hDC : s2.heap.objs.size ≠ G2.objs.size := by rw [hC]; exact Nat.ne_of_lt (Nat.lt_succ_self _)
  have old : ∀ b o, s2.heap.get? b = some o → h1.get? b = some o := fun b o e => hsb1.extBut b o (by rw [hC]; exact Nat.ne_of_lt (Nat.lt_succ_of_lt (Heap.lt_size e))) (Heap.get?_push_of_some _ (hH2 ▸ Heap.get?_push_of_some _ e))
  have hacc : h1.PlainList s2.heap.objs.size #[] := ⟨_, hsb1.extBut _ _ hDC (Heap.get?_push_of_some _ (hH2 ▸ Heap.get?_push_size _ rfl))⟩
  generalize hCe : G2.objs.size = C at *
  generalize hDe : s2.heap.objs.size = D at *
  have hDle : s2.heap.objs.size ≤ D := by rw [hDe]; exact Nat.le_refl _
  have hCle' : s2.heap.objs.size ≤ C := by rw [hDe]; exact hCle
  have fpD : ∀ b ∈ fp, b ≠ D := fun b hb z => by
    obtain ⟨o, e⟩ := ho2 b hb
    have := Heap.lt_size e
    rw [z, ← hDe] at this
    exact Nat.lt_irrefl _ this
  have fpC : ∀ b ∈ fp, b ≠ C := fun b hb z => by
    obtain ⟨o, e⟩ := ho2 b hb
    have := Nat.lt_of_lt_of_le (Heap.lt_size e) hCle'
    rw [z] at this
    exact Nat.lt_irrefl _ this
  have I3 : Inv (cxLc X (x :: ys) scope C s2 H2 fp) [] (none :: seenV σ js) H2 { s2 with heap := h1, toks := s2.toks + ([] : List (Str × Value)).length } := I2.block L f2 ho2 hCle' old hns1
  have cellD : ∀ y c, (cxLc X (x :: ys) scope C s2 H2 fp).env.cells.lookup y = some c → c ≠ D := fun y c e z => by
    obtain ⟨v, q⟩ := I2.cell y c (L.sub e).1
    have := q.lt
    rw [z, ← hDe] at this
    exact Nat.lt_irrefl _ this
  -- what stays true of the iterator's records through the block
  have stat : ∀ {H' : Hp} {pc : List (Addr × Obj)}, (∀ b ∈ fp, H' b = none) → (∀ p ∈ pc, p.1 = D) → ∀ b ∈ fp, FpOk (cxLc X (x :: ys) scope C s2 H2 fp) pc H' b := fun {H' pc} hn hp b hb =>
    ⟨hn b hb, fpC b hb, fun z => by
      rcases List.mem_cons.mp (I2.stkSub b z) with z | z
      · exact (f2 b hb).2.1 z
      · exact (f2 b hb).2.2.1 z, .inl hb, fun y c e => (f2 b hb).2.2.2.2.1 y c (L.sub e).1, fun p hq => by
      have hq' : p ∈ pc := hq
      rw [hp p hq']; exact Ne.symm (fpD b hb)⟩
  have loop : ∀ s3 : Shared, s3 = { s2 with heap := h1, toks := s2.toks + ([] : List (Str × Value)).length } →
      codeAny (model X.prog X.w) X.A (.compLoop (.ListComp elt [⟨.Name x px, iter, ifs, 0⟩] scope pos) 0 (.ref it) (.ref D) (compEnvC scope (clOf X.env scope.names []) C X.env))
        (compPost (model X.prog X.w) X.A X.xe (some (assign (.Name y py) X.env)) (fun _ s' => SP X pins Dn .next s') (.ref D) C) s3 := by
    rintro s3 rfl
    refine compLoop_tests (fun n s' => ∃ i acc its H' k, Inv (cxLc X (x :: ys) scope C s2 H2 fp) [] (none :: seenV σ js) H' s' ∧ tn i s'.heap ∧ (∀ b ∈ fp, H' b = none) ∧ H' D = none ∧ s'.heap.get? D = some { cls := .type "list", data := .seq its k } ∧ Vals acc its.toList ∧ W i n acc H') ?_ m0 ?_
    · rintro n s4 ⟨i, acc, its, H4, k, I4, st4, fr4, hD4, ob4, rv4, w4⟩
      obtain ⟨hz, w4⟩ := turn i n acc H4 w4
      have I4' : Inv (cxLc X (x :: ys) scope C s2 H2 fp) [(D, { cls := .type "list", data := .seq its k })] (none :: seenV σ js) H4 s4 := I4.pins_of fun p hp => by
        have e : p = (D, { cls := .type "list", data := .seq its k }) := by simpa using hp
        subst e
        refine ⟨ob4, hD4, hDC, fun z => ?_, fun v z => (nomatch z)⟩
        obtain ⟨_, o, ho, _⟩ := I2.stack.mem (show D ∈ frs X.stack from z)
        have := Heap.lt_size ho
        rw [← hDe] at this
        exact Nat.lt_irrefl _ this
      have one : ∀ p ∈ ([(D, { cls := .type "list", data := .seq its k })] : List (Addr × Obj)), p.1 = D := fun p hp => by
        have e : p = (D, { cls := .type "list", data := .seq its k }) := by simpa using hp
        rw [e]
      rcases w4 with ⟨stop, qn⟩ | ⟨go, hlt, step⟩
      · refine thn (T.done (cxLc X (x :: ys) scope C s2 H2 fp) rfl rfl rfl hc i _ s4 _ H4 _ I4' (stat fr4 one) st4 stop) fun r s5 ⟨hr, I5⟩ => ?_
        subst hr
        obtain ⟨m, hn, _⟩ := I5.loc
        have hCn : upd H4 D (.lst acc) C = none := by rw [upd_ne (Ne.symm hDC)]; exact I5.free
        have IX : Inv X pins σ (upd H4 D (.lst acc)) s5 := I2.unblock (its := its.toList) (h' := s5.heap) f2 hDle hCle' hDC I5 hD4 rv4 hz (by
          have q := (I5.pin (D, { cls := .type "list", data := .seq its k }) (by simp)).1
          simpa using q) ⟨rfl, fun _ _ => rfl⟩
        have fC : FpOk X pins (upd H4 D (.lst acc)) C := I2.fpOk hCle' hCn
        obtain ⟨oC, es, ep, hoC, hdC, rest⟩ := id hn
        have IP : Inv X (pins ++ pinsAt [C] s5.heap) σ (upd H4 D (.lst acc)) s5 := IX.pinned (fp := [C]) (fun b hb => by
          have e : b = C := by simpa using hb
          subst e; exact fC) (fun b hb => by
          have e : b = C := by simpa using hb
          subst e
          exact ⟨oC, hoC, fun v z => by rw [hdC] at z; cases z⟩)
        refine thn (hgy (pins ++ pinsAt [C] s5.heap) s5 σ (upd H4 D (.lst acc)) (.ref D) (.ref D) Dn.nx IP rfl (qn D hD4)) fun _ s6 ⟨σ6, H6, I6, q6⟩ => ?_
        have pC := I6.pin (C, oC) (List.mem_append_right _ (List.mem_append_right _ (mem_pinsAt (by simp) hoC)))
        refine ⟨m, hn.at' fun o e => ?_, fun h' sb => ⟨σ6, H6, ?_, q6⟩⟩
        · have e' : s5.heap.get? C = some o := e
          have hoC' : s5.heap.get? C = some oC := hoC
          rw [hoC'] at e'
          cases e'
          exact pC.1
        · exact I6.unpinned.turned (t' := s6.toks) (it := C) (fun b o hb e => (sb.2 b hb).trans e) pC.2.1 fC.2.1 fC.2.2.2.1 fC.2.2.2.2.1 fC.2.2.2.2.2
      · refine thn (T.item (cxLc X (x :: ys) scope C s2 H2 fp) rfl rfl rfl hc i _ s4 _ H4 _ I4' (stat fr4 one) st4 go) fun r s5 ⟨u, hr, h5⟩ => ?_
        subst hr
        refine thn h5 fun _ s6 ⟨xv, H6, I6, r6, y6, st6, fr6⟩ => ?_
        have I6' := I6.pinned (stat fr6 one) (T.obj _ _ st6)
        have ownL : (cxLc X (x :: ys) scope C s2 H2 fp).env.scope.names.lookup x = some .local := lookup_relabel_local L.own
        have hg : PG (cxLc X (x :: ys) scope C s2 H2 fp) (.Name x px) (gName 0) := pg_name (i := 0) L.nd rfl (.inl ownL) (.inr ownL)
        refine wpAny_mono (hg _ s6 _ H6 xv u (fun σ2 H2' => σ2 = some xv :: seenV σ js ∧ H2' = H6) I6' r6 ⟨rfl, rfl⟩) (fun _ s7 ⟨σ7, H7, I7, e7, e7'⟩ => ?_) fun _ _ z => z.elim
        subst e7 e7'
        have q7 := step xv _ y6
        refine wpAny_mono ((ht C s2 H2 fp).run I7 q7) (fun ok s8 ⟨H8, I8, q8⟩ => ?_) fun _ _ z => z.elim
        -- the block's own names are forgotten behind a turn
        have hσ : ∀ {pc : List (Addr × Obj)} {Hc : Hp} {sc : Shared}, Inv (cxLc X (x :: ys) scope C s2 H2 fp) pc (some xv :: seenV σ js) Hc sc → Inv (cxLc X (x :: ys) scope C s2 H2 fp) pc (none :: seenV σ js) Hc sc := fun Ic => Ic.weak rfl fun i v e => by
          cases i with
          | zero => exact absurd e (by simp)
          | succ i => simpa using e
        have keepT : ∀ {Hc : Hp} {sc : Shared}, Inv (cxLc X (x :: ys) scope C s2 H2 fp) ([(D, { cls := .type "list", data := .seq its k })] ++ pinsAt fp s6.heap) (some xv :: seenV σ js) Hc sc → tn (i + 1) sc.heap ∧ (∀ b ∈ fp, Hc b = none) ∧ Hc D = none ∧ sc.heap.get? D = some { cls := .type "list", data := .seq its k } := fun {Hc sc} Ic => by
          refine ⟨T.keep _ _ _ st6 fun b hb o e => (Ic.pin (b, o) (List.mem_append_right _ (List.mem_append_right _ (mem_pinsAt hb e)))).1, fun b hb => ?_, (Ic.pin (D, { cls := .type "list", data := .seq its k }) (List.mem_append_right _ (List.mem_append_left _ List.mem_cons_self))).2.1, (Ic.pin (D, { cls := .type "list", data := .seq its k }) (List.mem_append_right _ (List.mem_append_left _ List.mem_cons_self))).1⟩
          obtain ⟨o, e, d⟩ := T.obj _ _ st6 b hb
          exact (Ic.pin (b, o) (List.mem_append_right _ (List.mem_append_right _ (mem_pinsAt hb e)))).2.1
        cases ok with
        | false =>
          obtain ⟨m', hm, w8⟩ := q8
          obtain ⟨a1, a2, a3, a4⟩ := keepT I8
          exact ⟨m', hm, i + 1, acc, its, H8, k, (hσ I8).pins_of (fun p hp => (nomatch hp)), a1, a2, a3, a4, rv4, w8⟩
        | true =>
          refine wpAny_mono (he C s2 H2 fp _ s8 _ H8 _ I8 q8) (fun ev s9 ⟨v9, H9, I9, r9, m', hm, w9⟩ => ?_) fun _ _ z => z.elim
          obtain ⟨a1, a2, a3, a4⟩ := keepT I9
          have hlen : its.size ≤ sizeLine := by
            have e1 := rv4.length
            have e2 : its.toList.length = its.size := by simp
            omega
          refine wpAny_list_append_plain (hsz := hlen) ⟨k, a4⟩ fun h10 pl sb => ?_
          obtain ⟨k', e10⟩ := pl
          have I10 : Inv (cxLc X (x :: ys) scope C s2 H2 fp) (pinsAt fp s6.heap) (none :: seenV σ js) H9 s9 := (hσ I9).pins_of fun p hp => I9.pin p (List.mem_append_right _ (List.mem_append_right _ hp))
          have I11 : Inv (cxLc X (x :: ys) scope C s2 H2 fp) (pinsAt fp s6.heap) (none :: seenV σ js) H9 { s9 with heap := h10 } :=
            I10.turned (t' := s9.toks) (it := D) (fun b o hb e => (sb.2 b hb).trans e) a3 hDC (.inr hDle) cellD fun p hp z => by
              have hp' : p ∈ pinsAt fp s6.heap := hp
              exact fpD p.1 (of_pinsAt hp').1 z
          refine ⟨m', hm, i + 1, acc ++ [v9], its.push ev, H9, k', I11.pins_of (fun p hp => (nomatch hp)), T.keep _ _ _ a1 (fun b hb o e => (sb.2 b (fpD b hb)).trans e), a2, a3, e10, ?_, w9⟩
          rw [Array.toList_push]
          exact rv4.append (.cons r9 .nil)
    · exact ⟨0, [], #[], H2, _, I3, T.keep _ _ _ st2 fun b hb o e => old b o e, fun b hb => (f2 b hb).1, I2.hok.fresh hDle, hacc.choose_spec, .nil, w0⟩
  exact codeAny_compStart_list (loop _ rfl) (T.self _ 0 _ _ _ (T.keep _ _ _ st2 fun b hb o e => old b o e) (loop _ rfl))
end L2

set_option Elab.async false
set_option linter.all false
set_option maxRecDepth 100000
set_option maxHeartbeats 4000000
/-! in a module's dict; find; lists that are changed by a callee -/
namespace L2
open PySem PySem.Spec PyProof.Rows
section
variable {X : Cx}
def rInM (K : PySem.W.Frag) (P : Params) (neg : Bool) : R2 := fun x y H Q => ∃ a es n k r, y = .ref a ∧ x = .str k ∧ K.lookup a = some ⟨.type "dict", none, .dict es n, #[]⟩ ∧ PySem.W.KeysLit P es.toList ∧ PySem.W.nsIn K a k = some r ∧ (a == sysModules) = false ∧
  Q (.bl (if neg = true then !r.isSome else r.isSome)) H
theorem op_inM : OpR X (compareOp .In) (rInM X.K X.w.params false) := by
  intro pins s σ H x y v u Q I rx ry h
  obtain ⟨a, es, n, k, r, rfl, rfl, lk, kl, ns, lo, q⟩ := h
  cases ry
  obtain ⟨t, rfl⟩ := rx
  obtain ⟨m, F⟩ := I.fr
  exact PySem.W.topIn_K F I.ok.mod.kin lk kl ns lo ⟨.bl r.isSome, H, I.tok _, rfl, q⟩
theorem op_notInM : OpR X (compareOp .NotIn) (rInM X.K X.w.params true) := by
  intro pins s σ H x y v u Q I rx ry h
  obtain ⟨a, es, n, k, r, rfl, rfl, lk, kl, ns, lo, q⟩ := h
  cases ry
  obtain ⟨t, rfl⟩ := rx
  obtain ⟨m, F⟩ := I.fr
  refine wpAny_notIn_of (strKind_is X.prog X.w k t) lo (PySem.W.mapOf_K (prog := X.prog) (I.ok.mod.kin.keeps F.keep) lk kl) ?_
  rw [PySem.W.find_K lk ns]
  exact ⟨.bl (!r.isSome), H, I.tok _, rfl, q⟩
theorem op_inMK {K : PySem.W.Frag} {Pm : Params} (e : X.K = K) (e2 : X.w.params = Pm) : OpR X (compareOp .In) (rInM K Pm false) := e ▸ e2 ▸ op_inM
theorem op_notInMK {K : PySem.W.Frag} {Pm : Params} (e : X.K = K) (e2 : X.w.params = Pm) : OpR X (compareOp .NotIn) (rInM K Pm true) := e ▸ e2 ▸ op_notInM
def rFind : V → List V → Hp → VK → Prop := fun x vs H Q => ∃ a b, x = .str a ∧ vs = [.str b] ∧ Q (.int (match Builtin.Str.occurrences a b 0 a.length 1 with | i :: _ => (i : Int) | [] => -1)) H
theorem mt_find : MtR X "str.find" rFind := by
  intro pins s σ H x xs v us Q I rx r h
  obtain ⟨a, b, rfl, rfl, q⟩ := h
  obtain ⟨u, rfl, ru⟩ := vals1 r
  obtain ⟨t, rfl⟩ := rx
  obtain ⟨t2, rfl⟩ := ru
  exact SC.find ⟨.int _, H, I.tok _, ⟨_, rfl⟩, q⟩
end
/-- all is as it was but the two lists -/
def But (l m : Addr) (H H' : Hp) : Prop := ∀ b o, b ≠ l → b ≠ m → H b = some o → H' b = some o
theorem But.refl (l m : Addr) (H : Hp) : But l m H H := fun _ _ _ _ h => h
theorem But.trans {l m : Addr} {H H1 H2 : Hp} (a : But l m H H1) (b : But l m H1 H2) : But l m H H2 := fun c o h1 h2 h => b c o h1 h2 (a c o h1 h2 h)
theorem But.updL {l m : Addr} {H H' : Hp} {o : HO} (a : But l m H H') : But l m H (upd H' l o) := fun c u h1 h2 h => by rw [upd_ne h1]; exact a c u h1 h2 h
theorem But.updM {l m : Addr} {H H' : Hp} {o : HO} (a : But l m H H') : But l m H (upd H' m o) := fun c u h1 h2 h => by rw [upd_ne h2]; exact a c u h1 h2 h
theorem But.same {l m : Addr} {H H1 H2 : Hp} (a : But l m H H1) (b : Same H1 H2) : But l m H H2 := fun c o h1 h2 h => b c o (a c o h1 h2 h)
theorem But.out {l m : Addr} {H0 H H' : Hp} (a : But l m H H') (s : Same H0 H) (hl : H0 l = none) (hm : H0 m = none) : Same H0 H' := fun c o h => a c o (ne_of_none h hl) (ne_of_none h hm) (s c o h)
end L2

set_option Elab.async false
set_option linter.all false
set_option maxRecDepth 100000
set_option maxHeartbeats 4000000
/-! texts as lists of codes, fractions as pairs: what the laws' proofs share -/
namespace TX
open PySem L2 TW
/-! ### texts as lists of codes -/
def S (w : List Nat) : Str := ⟨w.toArray⟩
theorem S_app (a b : List Nat) : S a ++ S b = S (a ++ b) := by
  show (⟨a.toArray ++ b.toArray⟩ : Str) = ⟨(a ++ b).toArray⟩
  simp
theorem S_len (w : List Nat) : (S w).length = w.length := by show w.toArray.size = w.length; simp
theorem S_inj {a b : List Nat} (h : S a = S b) : a = b := by
  have q := congrArg (fun x : Str => x.cps.toList) h
  simpa [S] using q
theorem S_eq (a b : List Nat) : (S a = S b) ↔ a = b := ⟨S_inj, fun h => by rw [h]⟩
theorem sg_S (w : List Nat) : sgV (S w) = w.map fun c => V.str (S [c]) := by unfold sgV S; simp
theorem small {n : Nat} (h : n ≤ 1000) : n ≤ sizeLine := Nat.le_of_lt (small1000 h)
/-! ### fractions -/
def fT (f : Fr) : HO := .tup [.int f.1, .int f.2]
def fD (f : Fr) : PyData := .tuple [.int f.1, .int f.2]
theorem fD_rd {K : PySem.W.Frag} {H : Hp} {p : Addr} {f : Fr} (h : H p = some (fT f)) : RdD K H (.ref p) (fD f) := by
  unfold fD RdD
  refine ⟨p, _, rfl, SqT.of h, ?_⟩
  unfold RdDs
  refine ⟨_, _, rfl, by unfold RdD; rfl, ?_⟩
  unfold RdDs
  refine ⟨_, _, rfl, by unfold RdD; rfl, ?_⟩
  unfold RdDs
  rfl
theorem fD_depth (f : Fr) : (fD f).depth ≤ 60 := by
  unfold fD
  simp [PyData.depth, PyData.depthAll]
theorem fD_eqv (f g : Fr) : PyData.eqv (fD f) (fD g) = decide (f = g) := by
  obtain ⟨a, b⟩ := f
  obtain ⟨c, d⟩ := g
  unfold fD
  simp only [PyData.eqv, PyData.eqvAll, Bool.and_true]
  rw [Bool.eq_iff_iff]
  simp
theorem same_new {H : Hp} {p : Addr} (h : H p = none) (o : HO) : Same H (upd H p o) := fun b u q => by rw [upd_ne (ne_of_none q h)]; exact q
theorem mv_r (f : Fr) : mv 114 f = if 0 < f.1 then (-f.2, f.1) else if f.1 < 0 then (f.2, -f.1) else (1, 0) := rfl

theorem in_tur {c : Nat} (h : IsL c) : inV (.str (S [c])) [.str (S [116]), .str (S [117]), .str (S [114])] = true := by
  rcases h with rfl | rfl | rfl <;> decide
theorem word_signs {u : List Nat} (h : IsW u) : (sgV (S u)).map (fun x => V.bl (inV x [.str (S [116]), .str (S [117]), .str (S [114])])) = (List.replicate u.length true).map V.bl := by
  rw [sg_S, List.map_map]
  induction u with
  | nil => rfl
  | cons c r ih =>
    rw [List.map_cons, List.length_cons, List.replicate_succ, List.map_cons, ih h.tail]
    show V.bl (inV (.str (S [c])) _) :: _ = _
    rw [in_tur h.head]
theorem all_true (n : Nat) : (List.replicate n true).all id = true := by simp
theorem two_ok : 2 ≤ sizeLine := by decide
theorem eq_sign (c d : Nat) (x : Str) (hx : x = S [d]) : (decide (V.str (S [c]) = V.str x)) = decide (c = d) := by
  subst hx
  rw [Bool.eq_iff_iff]
  simp only [decide_eq_true_eq, V.str.injEq, S_eq, List.cons.injEq, and_true]
theorem lit_t : ("t" : Str) = S [116] := by decide +kernel
theorem lit_u : ("u" : Str) = S [117] := by decide +kernel
theorem lit_r : ("r" : Str) = S [114] := by decide +kernel
theorem sg_at {u : List Nat} {i : Nat} {x : V} (h : (sgV (S u))[i]? = some x) : ∃ c, u[i]? = some c ∧ x = .str (S [c]) := by
  rw [sg_S, List.getElem?_map] at h
  cases e : u[i]? with
  | none => rw [e] at h; cases h
  | some c => rw [e] at h; cases h; exact ⟨c, rfl, rfl⟩
theorem take_snoc {u : List Nat} {i c : Nat} (h : u[i]? = some c) : u.take (i + 1) = u.take i ++ [c] := by
  rw [List.take_add_one, h]
  rfl
def letr (i : Int) : Nat := if i = 0 then 116 else if i = 1 then 117 else 114
theorem letr_L (i : Int) : IsL (letr i) := by
  unfold letr TW.IsL
  by_cases h1 : i = 0
  · rw [if_pos h1]; exact .inl rfl
  · rw [if_neg h1]
    by_cases h2 : i = 1
    · rw [if_pos h2]; exact .inr (.inl rfl)
    · rw [if_neg h2]; exact .inr (.inr rfl)
theorem three_ok : 3 ≤ sizeLine := by decide
theorem four_ok : 4 ≤ sizeLine := by decide
theorem S_tu : ("tu" : Str) = S [116, 117] := by decide +kernel
theorem S_ut : ("ut" : Str) = S [117, 116] := by decide +kernel
theorem S_rr : ("rr" : Str) = S [114, 114] := by decide +kernel
theorem S_tr : ("trtrtr" : Str) = S [116, 114, 116, 114, 116, 114] := by decide +kernel
theorem S_list (u : List Nat) : (S u).cps.toList = u := by simp [S]
/-! slices of a text that is written as a list -/
theorem S_to {u : List Nat} {i : Int} (h0 : 0 ≤ i) (h : i ≤ u.length) : Txt.slice (S u) none (some i) = S (u.take i.toNat) := by
  have e : i = ((i.toNat : Nat) : Int) := by omega
  rw [e, cut_to (S u) (by rw [S_len]; omega), S_list]
  rfl
theorem S_from {u : List Nat} {i : Int} (h0 : 0 ≤ i) (h : i ≤ u.length) : Txt.slice (S u) (some i) none = S (u.drop i.toNat) := by
  have e : i = ((i.toNat : Nat) : Int) := by omega
  rw [e, cut_from (S u) (by rw [S_len]; omega), S_list]
  rfl
theorem S_mid {u : List Nat} {i : Int} {m : Nat} (h0 : 0 ≤ i) (h : i ≤ u.length) : Txt.slice (S u) (some i) (some (i + (m : Int))) = S ((u.drop i.toNat).take m) := by
  have e : i = ((i.toNat : Nat) : Int) := by omega
  rw [e, cut_mid (S u) (by rw [S_len]; omega), S_list]
  rfl
theorem inV_str (x : Str) (ts : List Str) : inV (.str x) (ts.map V.str) = ts.contains x := by
  unfold inV
  rw [List.any_map, Bool.eq_iff_iff, List.any_eq_true, List.contains_iff_mem]
  constructor
  · rintro ⟨y, hy, e⟩
    have e' : (y == x) = true := e
    rw [← eq_of_beq e']
    exact hy
  · intro h
    exact ⟨x, h, (show (x == x) = true from beq_self_eq_true x)⟩
end TX

set_option Elab.async false
set_option linter.all false
set_option maxRecDepth 100000
set_option maxHeartbeats 4000000
/-! what the laws of stage 2 share: names of built-ins, constants, promises -/
namespace TX
open PySem L2 TW
structure Glo (mg : Str → Option Value) : Prop where
  n_len : mg "len" = none
  n_all : mg "all" = none
  n_any : mg "any" = none
  n_isinstance : mg "isinstance" = none
  n_abs : mg "abs" = none
  n_int : mg "int" = none
  n_bool : mg "bool" = none
  n_str : mg "str" = none
  n_tuple : mg "tuple" = none
  n_list : mg "list" = none
  n_reversed : mg "reversed" = none
  n_range : mg "range" = none
  n_max : mg "max" = none
def Letters (K : PySem.W.Frag) (mg : Str → Option Value) : Prop := ∃ a, mg "LETTERS" = some (.ref a) ∧ ∀ H, SqT K H a [.str (S [116]), .str (S [117]), .str (S [114])]
def Exch (K : PySem.W.Frag) (mg : Str → Option Value) (P : Params) : Prop := ∃ a es n, mg "EXCHANGED" = some (.ref a) ∧ K.lookup a = some ⟨.type "dict", none, .dict es n, #[]⟩ ∧ PySem.W.KeysLit P es.toList ∧
    ∀ c, IsL c → ∃ t, PySem.W.nsIn K a (S [c]) = some (some (.str (S [TW.exch c]) t))
theorem big {n : Nat} (h : n ≤ 1000000) : n ≤ sizeLine := by have := sizeLine_eq; omega
theorem len1 {α : Type} {us : List α} (h : us.length = 1) : ∃ a, us = [a] := List.length_eq_one_iff.mp h
theorem lenS {α : Type} {us : List α} {n : Nat} (h : us.length = n + 1) : ∃ a r, us = a :: r ∧ r.length = n := by
  cases us with
  | nil => cases h
  | cons a r => exact ⟨a, r, rfl, Nat.succ.inj h⟩
theorem len2 {α : Type} {us : List α} (h : us.length = 2) : ∃ a b, us = [a, b] := by
  obtain ⟨a, r, rfl, h'⟩ := lenS h
  obtain ⟨b, rfl⟩ := len1 h'
  exact ⟨a, b, rfl⟩
theorem len3 {α : Type} {us : List α} (h : us.length = 3) : ∃ a b c, us = [a, b, c] := by
  obtain ⟨a, r, rfl, h'⟩ := lenS h
  obtain ⟨b, c, rfl⟩ := len2 h'
  exact ⟨a, b, c, rfl⟩
theorem len4 {α : Type} {us : List α} (h : us.length = 4) : ∃ a b c d, us = [a, b, c, d] := by
  obtain ⟨a, r, rfl, h'⟩ := lenS h
  obtain ⟨b, c, d, rfl⟩ := len3 h'
  exact ⟨a, b, c, d, rfl⟩
theorem len5 {α : Type} {us : List α} (h : us.length = 5) : ∃ a b c d e, us = [a, b, c, d, e] := by
  obtain ⟨a, r, rfl, h'⟩ := lenS h
  obtain ⟨b, c, d, e, rfl⟩ := len4 h'
  exact ⟨a, b, c, d, e, rfl⟩
def letters (b : Int) (ns : List Int) : List Nat := ns.map fun n => letr (n / b % 3)
theorem letters_W (b : Int) (ns : List Int) : IsW (letters b ns) := fun c hc => by
  unfold letters at hc
  obtain ⟨n, _, rfl⟩ := List.mem_map.mp hc
  exact letr_L _
theorem letters_len (b : Int) (ns : List Int) : (letters b ns).length = ns.length := by unfold letters; simp
theorem tur_at (n b : Int) : atI (("tur" : Str).cps.toList) (n / b % 3) = some (letr (n / b % 3)) := by
  have h0 := Int.emod_nonneg (n / b) (show (3 : Int) ≠ 0 by decide)
  have h1 := Int.emod_lt_of_pos (n / b) (show (0 : Int) < 3 by decide)
  generalize n / b % 3 = i at h0 h1
  have h : i = 0 ∨ i = 1 ∨ i = 2 := by omega
  rcases h with rfl | rfl | rfl <;> decide +kernel
theorem join_S : ∀ l : List Nat, Str.join ("" : Str) (l.map fun c => S [c]) = S l
  | [] => rfl
  | [c] => rfl
  | c :: d :: r => by
    have ih := join_S (d :: r)
    show S [c] ++ ("" : Str) ++ Str.join ("" : Str) ((d :: r).map fun c => S [c]) = _
    rw [ih, show ("" : Str) = S [] from rfl, S_app, S_app]
    rfl
theorem back_signs {u : List Nat} (h : IsW u) : (sgV (S u)).reverse.map (fun x => match x with | .str y => V.str (S [TW.exch (y.cps.getD 0 0)]) | z => z) = ((bk u).map fun c => S [c]).map V.str := by
  rw [sg_S, ← List.map_reverse, List.map_map, bk, List.map_map, List.map_map]
  rfl
theorem sum_ones (l : List Nat) : ((l.map fun c => S [c]).map (·.length)).sum = l.length := by
  induction l with
  | nil => rfl
  | cons c r ih =>
    rw [List.map_cons, List.map_cons, List.sum_cons, ih]
    show 1 + r.length = r.length + 1
    omega
def tab : List (Key × V) := [(.inr "t", .str "u"), (.inr "u", .str "t")]
theorem tab_get (c : Nat) : ((valV (mergeK [] tab) (.inr (S [c]))).getD (.str "r")) = V.str (S [TW.exch c]) := by
  have e : mergeK [] tab = tab := by decide +kernel
  rw [e]
  unfold tab TW.exch
  by_cases h1 : c = 116
  · subst h1; decide +kernel
  · rw [valV_neg (p := ((.inr "t" : Key), V.str "u")) (fun z => h1 (by
      have z' := Sum.inr.inj z
      rw [lit_t] at z'
      exact (List.cons.inj (S_inj z')).1.symm)), if_neg h1]
    by_cases h2 : c = 117
    · subst h2; decide +kernel
    · rw [valV_neg (p := ((.inr "u" : Key), V.str "t")) (fun z => h2 (by
        have z' := Sum.inr.inj z
        rw [lit_u] at z'
        exact (List.cons.inj (S_inj z')).1.symm)), if_neg h2]
      show V.str "r" = _
      rw [lit_r]
def inTur (x : V) : Bool := match x with | .str i => !(Builtin.Str.occurrences ("tur" : Str) i 0 ("tur" : Str).length 1).isEmpty | _ => false
theorem in_tur2 {c : Nat} (h : IsL c) : inTur (.str (S [c])) = true := by
  rcases h with rfl | rfl | rfl <;> decide +kernel
theorem word_signs2 {u : List Nat} (h : IsW u) : (sgV (S u)).map (fun x => V.bl (inTur x)) = (List.replicate u.length true).map V.bl := by
  rw [sg_S, List.map_map]
  induction u with
  | nil => rfl
  | cons c r ih =>
    rw [List.map_cons, List.length_cons, List.replicate_succ, List.map_cons, ih h.tail]
    show V.bl (inTur (.str (S [c]))) :: _ = _
    rw [in_tur2 h.head]
/-! ### promises -/
def spWord : Sp := fun vs H Q _ => ∃ u, vs = [.str (S u)] ∧ IsW u ∧ u.length ≤ 100000 ∧ ∀ H', Same H H' → Q (.bl true) H'
def spChkW : Sp := fun vs H Q _ => ∃ u, vs = [.str (S u)] ∧ IsW u ∧ u.length ≤ 100000 ∧ ∀ H', Same H H' → Q .non H'
def spTurned : Sp := fun vs H Q _ => ∃ g : Fr, vs = [.int g.1, .int g.2] ∧ ∀ p H', Same H H' → H' p = some (fT (mv 114 g)) → Q (.ref p) H'
def spMoved : Sp := fun vs H Q _ => ∃ (c : Nat) (g : Fr), vs = [.str (S [c]), .int g.1, .int g.2] ∧ ∀ p H', Same H H' → H' p = some (fT (mv c g)) → Q (.ref p) H'
def spFollow : Sp := fun vs H Q _ => ∃ u p g, vs = [.str (S u), .ref p] ∧ H p = some (fT g) ∧ ∀ q H', Same H H' → H' q = some (fT (walk u g)) → Q (.ref q) H'
def spBack : Sp := fun vs H Q _ => ∃ u, vs = [.str (S u)] ∧ IsW u ∧ u.length ≤ 100000 ∧ ∀ H', Same H H' → Q (.str (S (bk u))) H'
def spLetters (K : PySem.W.Frag) : Sp := fun vs H Q _ => ∃ (a : Addr) (ns : List Int) (b : Int), vs = [.ref a, .int b] ∧ SqL K H a (ns.map V.int) ∧ ns.length ≤ 63 ∧ 0 < b ∧ b < 1000 ∧ Q (.str (S (letters b ns))) H
def spLMoved : Sp := fun vs H Q _ => ∃ (c : Nat) (p : Addr) (g : Fr), vs = [.str (S [c]), .ref p] ∧ H p = some (fT g) ∧ ∀ q H', Same H H' → H' q = some (fT (mv c g)) → Q (.ref q) H'
def spLBack : Sp := fun vs H Q _ => ∃ u, vs = [.str (S u)] ∧ u.length ≤ 100000 ∧ ∀ H', Same H H' → Q (.str (S (bk u))) H'
def spLaw (K : PySem.W.Frag) : Sp := fun vs H Q _ => ∃ (a : Addr) (ns : List Int), vs = [.ref a] ∧ SqL K H a (ns.map V.int) ∧ ns.length ≤ 63 ∧ ∀ H', Q (.bl true) H'
end TX

set_option Elab.async false
set_option linter.all false
set_option maxRecDepth 100000
set_option maxHeartbeats 4000000
/-! runs: promises -/
namespace TX
open PySem L2 TW
theorem _root_.L2.Same.up {H H' : Hp} {p : Addr} {o : HO} (h : Same H H') (n : H p = none) : Same H (upd H' p o) := fun b u q => by rw [upd_ne (ne_of_none q n)]; exact h b u q
theorem cut_list_from (xs : List V) {n : Nat} (h : n ≤ xs.length) : cutV xs (some (n : Int)) none = xs.drop n := by
  unfold cutV HT.sIx
  have h1 : ¬ ((n : Int) < 0) := by omega
  simp only [h1, if_false]
  first
    | rw [List.take_of_length_le] <;> simp <;> omega
    | (simp; omega)
end TX

set_option Elab.async false
set_option linter.all false
set_option maxRecDepth 100000
set_option maxHeartbeats 4000000
/-! alike, quiet; answers that are objects: promises -/
namespace TX
open PySem L2 TW
def al (u v : List Nat) : Bool := decide (walk u (0, 1) = walk v (0, 1)) && (decide (walk u (1, 0) = walk v (1, 0)) && decide (walk u (1, 1) = walk v (1, 1)))
theorem al_iff (u v : List Nat) : al u v = true ↔ walk u (0, 1) = walk v (0, 1) ∧ walk u (1, 0) = walk v (1, 0) ∧ walk u (1, 1) = walk v (1, 1) := by
  unfold al
  rw [Bool.and_eq_true, Bool.and_eq_true, decide_eq_true_eq, decide_eq_true_eq, decide_eq_true_eq]
def Telling (K : PySem.W.Frag) (mg : Str → Option Value) : Prop := ∃ a a0 a1 a2, mg "TELLING_FRACTIONS" = some (.ref a) ∧ (∀ H, SqT K H a [.ref a0, .ref a1, .ref a2]) ∧ (∀ H, SqT K H a0 [.int 0, .int 1]) ∧ (∀ H, SqT K H a1 [.int 1, .int 0]) ∧ ∀ H, SqT K H a2 [.int 1, .int 1]
def tf (i : Nat) : Fr := if i = 0 then (0, 1) else if i = 1 then (1, 0) else (1, 1)
theorem three_at {K : PySem.W.Frag} {a0 a1 a2 : Addr} (h0 : ∀ H, SqT K H a0 [.int 0, .int 1]) (h1 : ∀ H, SqT K H a1 [.int 1, .int 0]) (h2 : ∀ H, SqT K H a2 [.int 1, .int 1]) {i : Nat} {x : V} (hx : [V.ref a0, V.ref a1, V.ref a2][i]? = some x) :
    ∃ p, x = .ref p ∧ ∀ H, SqT K H p [.int (tf i).1, .int (tf i).2] := by
  match i with
  | 0 => cases hx; exact ⟨a0, rfl, h0⟩
  | 1 => cases hx; exact ⟨a1, rfl, h1⟩
  | 2 => cases hx; exact ⟨a2, rfl, h2⟩
  | n + 3 => cases hx
def alI (u v : List Nat) (i : Nat) : Bool := decide (walk u (tf i) = walk v (tf i))
theorem al_three (u v : List Nat) : [alI u v 0, alI u v 1, alI u v 2].all id = al u v := by
  unfold al alI tf
  simp
def spFollowK (K : PySem.W.Frag) : Sp := fun vs H Q _ => ∃ u p g, vs = [.str (S u), .ref p] ∧ SqT K H p [.int g.1, .int g.2] ∧ ∀ q H', Same H H' → H' q = some (fT (walk u g)) → Q (.ref q) H'
def spLead : Sp := fun vs H Q _ => ∃ u v, vs = [.str (S u), .str (S v)] ∧ ∀ H', Same H H' → Q (.bl (al u v)) H'
/-- __init__ with one field -/
def spInit1 (C : Addr) (fld : Str) : Sp := fun vs H Q _ => ∃ o dx v, vs = [.ref o, v] ∧ H o = some (.ins C dx []) ∧ Q .non (upd H o (.ins C dx [(fld, v)]))
theorem made_same {H : Hp} {x dx : Addr} {o o' : HO} (hx : H x = none) (hd : H dx = none) : Same H (upd (upd H dx o) x o') := fun b u q => by
  rw [upd_ne (ne_of_none q hx), upd_ne (ne_of_none q hd)]
  exact q
theorem replicate_true (n : Nat) : (List.range n).map (fun _ => V.bl true) = (List.replicate n true).map V.bl := by
  rw [List.map_replicate]
  induction n with
  | zero => rfl
  | succ n ih => rw [List.range_succ, List.map_append, ih, List.replicate_succ']; rfl
end TX

set_option Elab.async false
set_option linter.all false
set_option maxRecDepth 100000
set_option maxHeartbeats 4000000
/-! beats, rounds, plain words: promises -/
namespace TX
open PySem L2 TW
open TW.Syl (wd)
/-! ### a module's dict that does not hold a key -/
theorem ns_none {K : PySem.W.Frag} {a : Addr} {es : Array DictEntry} {n : Nat} {k : Str} (lk : K.lookup a = some ⟨.type "dict", none, .dict es n, #[]⟩) (h : ∀ e ∈ es.toList, ∃ x t, e.key = .str x t ∧ x ≠ k) : PySem.W.nsIn K a k = some none := by
  unfold PySem.W.nsIn
  rw [lk]
  have h1 : es.toList.find? (fun e => e.key.isStr k) = none := by
    rw [List.find?_eq_none]
    intro e he
    obtain ⟨x, t, e1, e2⟩ := h e he
    rw [e1]
    show ¬ ((x == k) = true)
    rw [beq_iff_eq]
    exact e2
  have h2 : es.toList.any (fun e => e.refKey) = false := by
    rw [List.any_eq_false]
    intro e he
    obtain ⟨x, t, e1, e2⟩ := h e he
    unfold DictEntry.refKey
    rw [e1]
    simp
  simp only [h1, h2]
  simp
theorem keys_ne {es : Array DictEntry} {ks : List Value} {k : Str} (h : es.toList.map (·.key) = ks) (h2 : ∀ v ∈ ks, ∃ x t, v = .str x t ∧ x ≠ k) : ∀ e ∈ es.toList, ∃ x t, e.key = .str x t ∧ x ≠ k := fun e he => h2 _ (h ▸ List.mem_map_of_mem he)
theorem _root_.L2.op_inSq {X : Cx} {K : PySem.W.Frag} (e : X.K = K) : OpR X (compareOp .In) (rIn K false) := e ▸ op_in_seq
theorem _root_.L2.sl_lst {X : Cx} {K : PySem.W.Frag} (e : X.K = K) : SlR X (rSlL K) := e ▸ sl_list
theorem _root_.L2.ix_lstK {X : Cx} {K : PySem.W.Frag} (e : X.K = K) : IxR X (rIxL K) := e ▸ ix_list
theorem _root_.L2.ix_modK {X : Cx} {K : PySem.W.Frag} {Pm : Params} (e : X.K = K) (e2 : X.w.params = Pm) : IxR X (rIxM K Pm) := e ▸ e2 ▸ ix_mod
theorem _root_.L2.mt_joinK {X : Cx} {K : PySem.W.Frag} (e : X.K = K) : MtR X "str.join" (rJoin K) := e ▸ mt_join
theorem _root_.L2.pe_bmK {X : Cx} {K : PySem.W.Frag} {o e : Expr} {es : List Expr} {to : TE} {t : TA} {name : Str} {apos cpos : Pos} {T id : String} {r : V → List V → Hp → VK → Prop} (eK : X.K = K) (pa : PySem.PlainAttrs T) (slot : PySem.Slot T name id) (hty : typeOf (.builtin id) = pure (.type "method_descriptor")) (hm : MtR X id r) (ho : PE X o to) (ha : PA X (e :: es) t)
    (hbase : attributeBase o name X.env (eval o X.env) = eval o X.env := by rfl)
    (hfew : ((backTo cpos (starEach (e :: es) X.env)).all (fun x => !x.1) && (backToKw cpos (keywordEach [] X.env)).all (fun x => x.1.isSome)
      && decide ((e :: es).length + ([] : List Keyword).length + (if ([] : List Keyword).isEmpty then 0 else 1) < 30)) = true := by rfl)
    (hline : (apos.endLine == cpos.line) = true := by rfl) (hs : starEach (e :: es) X.env = (false, eval e X.env) :: starEach es X.env := by rfl) (hplain : (backTo cpos (starEach es X.env)).any (·.1) = false := by rfl) :
    PE X (.Call (.Attribute o name apos) (e :: es) [] cpos) (tBM K T r to t) := eK ▸ pe_bm pa slot hty hm ho ha hbase hfew hline hs hplain
theorem cnt3_eq (n : Nat) : cnt3 0 (n : Int) 3 = (n + 2) / 3 := by
  unfold cnt3 Builtin.Range.rangeSize
  rw [if_pos (by decide)]
  split <;> omega
theorem putF_le {f : Str} {v : V} {fs : List (Str × V)} {n : Nat} (h : fs.length ≤ n) : (putF f v fs).length ≤ n + 1 := by
  induction fs generalizing n with
  | nil => simp [putF]
  | cons p r ih =>
    obtain ⟨g, x⟩ := p
    unfold putF
    split
    · rw [List.length_cons] at h ⊢; omega
    · rw [List.length_cons] at h ⊢
      have := ih (n := n - 1) (by omega)
      omega
def exV (x : V) : V := match x with | .str y => V.str (S [TW.exch (y.cps.getD 0 0)]) | z => z
theorem back_signs2 {u : List Nat} (h : IsW u) : (sgV (S u)).reverse.map exV = ((bk u).map fun c => S [c]).map V.str := by
  rw [sg_S, ← List.map_reverse, List.map_map, bk, List.map_map, List.map_map]
  rfl
/-! ### lists of texts -/
def lv (x : List Nat) : List V := x.map fun c => V.str (S [c])
theorem lv_append (a b : List Nat) : lv (a ++ b) = lv a ++ lv b := by unfold lv; simp
theorem lv_len (a : List Nat) : (lv a).length = a.length := by unfold lv; simp
def sV (x : List (List Nat)) : List V := x.map fun c => V.str (S c)
theorem sV_append (a b : List (List Nat)) : sV (a ++ b) = sV a ++ sV b := by unfold sV; simp
theorem sV_len (a : List (List Nat)) : (sV a).length = a.length := by unfold sV; simp
theorem sV_strs (a : List (List Nat)) : sV a = (a.map S).map V.str := by unfold sV; simp
theorem sV_at {a : List (List Nat)} {i : Nat} {x : V} (h : (sV a)[i]? = some x) : ∃ c, a[i]? = some c ∧ x = .str (S c) := by
  unfold sV at h
  rw [List.getElem?_map] at h
  cases e : a[i]? with
  | none => rw [e] at h; cases h
  | some c => rw [e] at h; cases h; exact ⟨c, rfl, rfl⟩
theorem inV_S (u : List Nat) (ls : List (List Nat)) : inV (.str (S u)) (sV ls) = ls.contains u := by
  rw [sV_strs, inV_str, Bool.eq_iff_iff, List.contains_iff_mem, List.contains_iff_mem]
  constructor
  · intro h
    obtain ⟨x, hx, e⟩ := List.mem_map.mp h
    rw [← S_inj e]; exact hx
  · intro h
    exact List.mem_map_of_mem h
theorem flat_sV (ls : List (List Nat)) : (sV ls).all flatV = true := by
  rw [List.all_eq_true]
  intro x hx
  unfold sV at hx
  obtain ⟨c, _, rfl⟩ := List.mem_map.mp hx
  rfl
theorem lv_sV (x : List Nat) : lv x = sV (x.map fun c => [c]) := by unfold lv sV; simp
theorem join_all : ∀ ls : List (List Nat), Str.join ("" : Str) (ls.map S) = S ls.flatten
  | [] => rfl
  | [c] => by show S c = _; simp
  | c :: d :: r => by
    have ih := join_all (d :: r)
    show S c ++ ("" : Str) ++ Str.join ("" : Str) ((d :: r).map S) = _
    rw [ih, show ("" : Str) = S [] from rfl, S_app, S_app]
    simp
theorem flat1 (x : List Nat) : (x.map fun c => [c]).flatten = x := by induction x <;> simp_all
theorem sum_len (ls : List (List Nat)) : ((ls.map S).map (·.length)).sum = ls.flatten.length := by
  induction ls with
  | nil => rfl
  | cons c r ih =>
    rw [List.map_cons, List.map_cons, List.sum_cons, ih, S_len]
    simp
def bV (B : List Syl) : List V := sV (B.map wd)
theorem bV_append (a b : List Syl) : bV (a ++ b) = bV a ++ bV b := by unfold bV; rw [List.map_append, sV_append]
theorem bV_len (a : List Syl) : (bV a).length = a.length := by unfold bV; rw [sV_len, List.length_map]
theorem bV_one (b : Syl) : bV [b] = [V.str (S (wd b))] := rfl
theorem bV_cons (b : Syl) (B : List Syl) : bV (b :: B) = V.str (S (wd b)) :: bV B := rfl
theorem bV_take (B : List Syl) (n : Nat) : (bV B).take n = bV (B.take n) := by unfold bV sV; simp
theorem bV_drop (B : List Syl) (n : Nat) : (bV B).drop n = bV (B.drop n) := by unfold bV sV; simp
theorem flat_tw (B : List Syl) : (B.map wd).flatten = tw B := by unfold tw; rw [List.flatMap_def]
theorem cut_list_to (xs : List V) {n : Nat} (h : n ≤ xs.length) : cutV xs none (some (n : Int)) = xs.take n := by
  unfold cutV HT.sIx
  have h1 : ¬ ((n : Int) < 0) := by omega
  simp only [h1, if_false]
  simp
theorem cut_last (xs : List V) (k : Nat) (hk : 0 < k) : cutV xs (some (-(k : Int))) none = xs.drop (xs.length - k) := by
  unfold cutV HT.sIx
  have h1 : (-(k : Int)) < 0 := by omega
  simp only [h1, if_true]
  have e : (max (-(k : Int) + (xs.length : Int)) 0).toNat = xs.length - k := by omega
  first
    | (rw [List.take_of_length_le] <;> simp <;> omega)
    | simp
theorem rJoin_sV {K : PySem.W.Frag} {H : Hp} {p : Addr} {ls : List (List Nat)} {Q : VK} (h : SqL K H p (sV ls)) (hl : ls.flatten.length ≤ 1000000) (q : Q (.str (S ls.flatten)) H) : rJoin K (.str "") [.ref p] H Q := by
  refine ⟨_, p, ls.map S, rfl, rfl, by rw [← sV_strs]; exact h, ?_, ?_⟩
  · rw [sum_len]
    show ls.flatten.length + _ * 0 ≤ _
    omega
  · rw [join_all]; exact q
theorem sz_all {ls : List (List Nat)} (h : ls.flatten.length ≤ 1000000) : ((ls.map S).map (·.length)).sum + (ls.map S).length * ("" : Str).length ≤ 16777216 := by
  rw [sum_len]
  show ls.flatten.length + _ * 0 ≤ _
  omega
theorem SqL_sV {K : PySem.W.Frag} {H : Hp} {p : Addr} {xs : List V} {ls : List (List Nat)} (h : H p = some (.lst xs)) (e : xs = sV ls) : SqL K H p ((ls.map S).map V.str) := by
  rw [← sV_strs, ← e]
  exact SqL.of h
theorem last_snoc (xs : List V) (v : V) : (xs ++ [v])[(xs ++ [v]).length - 1]? = some v := by simp
theorem eq_r (b : TW.Syl) : decide (V.str (S (wd b)) = V.str "r") = decide (b = TW.Syl.r) := by cases b <;> decide +kernel
theorem tw_one (b : TW.Syl) : tw [b] = wd b := by unfold tw; simp
theorem wd_ne (b : TW.Syl) : S (wd b) ≠ "" := by cases b <;> decide +kernel
theorem _root_.L2.mo_ixL {K : PySem.W.Frag} : MoR (rIxL K) := fun _ _ _ _ _ h ⟨p, xs, i, v, a, b, c, d, z⟩ => ⟨p, xs, i, v, a, b, c, d, h _ _ z⟩
theorem fold_push_len (xs : List TW.Syl) : ∀ B : List TW.Syl, (xs.foldl pushB B).length ≤ B.length + xs.length := by
  induction xs with
  | nil => intro B; simp
  | cons x r ih =>
    intro B
    rw [List.foldl_cons, List.length_cons]
    have := ih (pushB B x)
    have := pushB_len B x
    omega
theorem bts_len (c : Nat) : (bts c).length ≤ 2 := by
  unfold bts
  split
  · simp
  split
  · simp
  · simp
/-! ### a text in another one -/
theorem occ_all {x y : Str} {hi limit : Nat} (Pr : Nat → Prop) (hP : ∀ i, i + y.length ≤ hi → Builtin.Str.subAt x y i = true → Pr i) : ∀ (l : List Nat) (st : Array Nat × Nat), (∀ i ∈ st.1.toList, Pr i) → ∀ i ∈ (forIn l st (StrLaws.occBody x y hi limit)).run.fst.toList, Pr i
  | [], st, h => h
  | a :: l, st, h => by
    rw [List.forIn_cons]
    unfold StrLaws.occBody
    split
    · rename_i c
      refine occ_all Pr hP l _ fun i hi' => ?_
      have hi2 : i ∈ (st.1.push a).toList := hi'
      rw [Array.toList_push] at hi2
      rcases List.mem_append.mp hi2 with z | z
      · exact h i z
      · rw [List.mem_singleton.mp z]
        exact hP a c.1.2 c.2
    · exact occ_all Pr hP l _ h
theorem sub_S (u v : List Nat) (i : Nat) : Builtin.Str.subAt (S u) (S v) i = true ↔ (u.drop i).take v.length = v := by
  rw [StrLaws.subAt_eq, S_list, S_list, S_len, beq_iff_eq]
theorem occ_head {u v : List Nat} {i : Nat} {rest : List Nat} (h : Builtin.Str.occurrences (S u) (S v) 0 (S u).length 1 = i :: rest) : i + v.length ≤ u.length ∧ (u.drop i).take v.length = v := by
  rw [StrLaws.occ_eq] at h
  have := occ_all (x := S u) (y := S v) (hi := (S u).length) (limit := 1) (fun i => i + v.length ≤ u.length ∧ (u.drop i).take v.length = v) (fun i h1 h2 => ⟨by rwa [S_len, S_len] at h1, (sub_S u v i).mp h2⟩) _ ((#[] : Array Nat), 0) (fun i hi => by cases hi) i (by rw [h]; exact List.mem_cons_self)
  exact this
theorem found_S (u v : List Nat) : (!(Builtin.Str.occurrences (S u) (S v) 0 (S u).length 1).isEmpty) = true ↔ ∃ i, i + v.length ≤ u.length ∧ (u.drop i).take v.length = v := by
  rw [StrLaws.found_iff]
  constructor
  · rintro ⟨i, h1, h2⟩
    exact ⟨i, by rwa [S_len, S_len] at h1, (sub_S u v i).mp h2⟩
  · rintro ⟨i, h1, h2⟩
    exact ⟨i, by rw [S_len, S_len]; exact h1, (sub_S u v i).mpr h2⟩
def samer (u v : List Nat) : Bool := decide (u.length = v.length) && !(Builtin.Str.occurrences (S (u ++ u)) (S v) 0 (S (u ++ u)).length 1).isEmpty
theorem samer_iff (u v : List Nat) : samer u v = true ↔ ∃ p q, u = p ++ q ∧ v = q ++ p := by
  unfold samer
  rw [Bool.and_eq_true, decide_eq_true_eq, found_S]
  constructor
  · rintro ⟨hl, i, h1, h2⟩
    obtain ⟨_, e⟩ := infix_rot hl.symm h1 h2
    exact ⟨u.take i, u.drop i, (List.take_append_drop i u).symm, e⟩
  · rintro ⟨p, q, hu, hv⟩
    obtain ⟨h1, h2, h3⟩ := rot_infix hu hv
    exact ⟨h1, p.length, h2, h3⟩
/-! ### rounds, by their letters -/
def chunks (u : List Nat) : List (List Nat) := (List.range ((u.length + 2) / 3)).map fun i => (u.drop (3 * i)).take 3
def lones : List (List Nat) := [[], [114], [116, 114], [114, 117]]
def rpcs : List (List Nat) := [[114, 116, 114], [114, 114, 117]]
def isRnd (u : List Nat) : Bool := lones.contains u || (chunks u).all fun p => rpcs.contains p
def pcsOf (u : List Nat) : List (List Nat) := if (chunks u).all (fun p => rpcs.contains p) = true then chunks u else []
def pcW (y : Bool) : List Nat := if y = true then [114, 116, 114] else [114, 114, 117]
theorem chunks_cons (p u : List Nat) (hp : p.length = 3) : chunks (p ++ u) = p :: chunks u := by
  unfold chunks
  have e : ((p ++ u).length + 2) / 3 = (u.length + 2) / 3 + 1 := by
    rw [List.length_append, hp]
    omega
  rw [e, List.range_succ_eq_map, List.map_cons, List.map_map]
  congr 1
  · rw [Nat.mul_zero, List.drop_zero, List.take_append_of_le_length (by omega), List.take_of_length_le (by omega)]
  · refine List.map_congr_left fun i _ => ?_
    show ((p ++ u).drop (3 * (i + 1))).take 3 = _
    rw [show 3 * (i + 1) = p.length + 3 * i by omega, List.drop_append, List.drop_of_length_le (by omega)]
    simp
theorem tw_rnd : ∀ ys : List Bool, tw (rnd ys) = (ys.map pcW).flatten
  | [] => rfl
  | y :: ys => by
    rw [rnd_cons, tw_cons, tw_cons, tw_rnd ys, List.map_cons, List.flatten_cons]
    cases y <;> rfl
theorem chunks_rnd (ys : List Bool) : chunks (tw (rnd ys)) = ys.map pcW := by
  rw [tw_rnd]
  induction ys with
  | nil => rfl
  | cons y ys ih =>
    rw [List.map_cons, List.flatten_cons, chunks_cons _ _ (by cases y <;> rfl), ih]
theorem all_rnd (ys : List Bool) : (ys.map pcW).all (fun p => rpcs.contains p) = true := by
  rw [List.all_eq_true]
  intro p hp
  obtain ⟨y, _, rfl⟩ := List.mem_map.mp hp
  cases y <;> decide
theorem isRnd_of {R : List Syl} (h : Rd R) : isRnd (tw R) = true := by
  unfold isRnd
  cases h with
  | none => decide
  | lone x => cases x <;> decide
  | many ys => rw [chunks_rnd, all_rnd, Bool.or_true]
def lawRnd (u : List Nat) : Bool := lones.contains u || !(pcsOf u).isEmpty
theorem lawRnd_of {R : List Syl} (h : Rd R) : lawRnd (tw R) = true := by
  unfold lawRnd
  cases h with
  | none => decide
  | lone x => cases x <;> decide
  | many ys =>
    unfold pcsOf
    rw [chunks_rnd, if_pos (all_rnd ys)]
    cases ys with
    | nil => decide
    | cons y ys => simp
theorem chunks_flat (u : List Nat) : (chunks u).flatten = u := by
  have h : ∀ n (u : List Nat), u.length ≤ n → (chunks u).flatten = u := by
    intro n
    induction n with
    | zero => intro u hu; have : u = [] := List.eq_nil_of_length_eq_zero (by omega); subst this; rfl
    | succ n ih =>
      intro u hu
      by_cases h3 : 3 ≤ u.length
      · have e : u = u.take 3 ++ u.drop 3 := (List.take_append_drop 3 u).symm
        have hl : (u.take 3).length = 3 := by rw [List.length_take]; omega
        have := ih (u.drop 3) (by rw [List.length_drop]; omega)
        have z : (chunks (u.take 3 ++ u.drop 3)).flatten = u := by rw [chunks_cons _ _ hl, List.flatten_cons, this, List.take_append_drop]
        rwa [List.take_append_drop] at z
      · match u, h3 with
        | [], _ => rfl
        | [a], _ => (unfold chunks; simp [List.range_succ])
        | [a, b], _ => (unfold chunks; simp [List.range_succ])
        | a :: b :: c :: r, h => exact absurd (by simp) h
  exact h _ u (Nat.le_refl _)
theorem pcs_flat {u : List Nat} (h : pcsOf u ≠ []) : (pcsOf u).flatten = u := by
  unfold pcsOf at h ⊢
  split
  · exact chunks_flat u
  · rename_i c; rw [if_neg c] at h; exact absurd rfl h
theorem chunks_len (u : List Nat) : (chunks u).length ≤ u.length + 2 := by unfold chunks; simp; omega
theorem pcs_len (u : List Nat) : (pcsOf u).length ≤ u.length + 2 := by
  unfold pcsOf
  split
  · exact chunks_len u
  · simp
theorem turn_same {u v : List Nat} {k : Nat} (h : u = ((pcsOf v).drop k ++ (pcsOf v).take k).flatten) (hn : pcsOf v ≠ []) : samer u v = true := by
  rw [samer_iff]
  refine ⟨((pcsOf v).drop k).flatten, ((pcsOf v).take k).flatten, by rw [h, List.flatten_append], ?_⟩
  rw [← List.flatten_append, List.take_append_drop, pcs_flat hn]
theorem samer_refl (u : List Nat) : samer u u = true := (samer_iff u u).mpr ⟨u, [], by simp, by simp⟩
/-! ### constants -/
def Lones (K : PySem.W.Frag) (mg : Str → Option Value) : Prop := ∃ a, mg "LONE_ROUNDS" = some (.ref a) ∧ ∀ H, SqT K H a (sV lones)
def RPieces (K : PySem.W.Frag) (mg : Str → Option Value) : Prop := ∃ a, mg "ROUND_PIECES" = some (.ref a) ∧ ∀ H, SqT K H a (sV rpcs)
def PairsOut (K : PySem.W.Frag) (mg : Str → Option Value) : Prop := ∃ a, mg "PAIRS_OUT" = some (.ref a) ∧ ∀ H, SqT K H a (sV prs)
def Together (K : PySem.W.Frag) (mg : Str → Option Value) (P : Params) : Prop := ∃ a es n, mg "TOGETHER" = some (.ref a) ∧ K.lookup a = some ⟨.type "dict", none, .dict es n, #[]⟩ ∧ PySem.W.KeysLit P es.toList ∧ (a == sysModules) = false ∧
  PySem.W.nsIn K a (S []) = some none ∧ ∀ y x : Syl, match tog y x with | none => PySem.W.nsIn K a (S (wd y ++ wd x)) = some none | some w => ∃ t, PySem.W.nsIn K a (S (wd y ++ wd x)) = some (some (.str (S (tw w.toList)) t))
def Beats (K : PySem.W.Frag) (mg : Str → Option Value) (P : Params) : Prop := ∃ a es n, mg "BEATS" = some (.ref a) ∧ K.lookup a = some ⟨.type "dict", none, .dict es n, #[]⟩ ∧ PySem.W.KeysLit P es.toList ∧
  ∀ c, IsL c → ∃ b, PySem.W.nsIn K a (S [c]) = some (some (.ref b)) ∧ ∀ H, SqT K H b (bV (bts c))
/-- the four steps of a piece turned over, as they stand in the module -/
def stM (t : Stp) : List V := [.str (if t.1 = true then "in" else "out"), .int t.2.1, .str (S t.2.2)]
def Four (K : PySem.W.Frag) (b : Addr) (ts : List Stp) : Prop := ∃ p0 p1 p2 p3 t0 t1 t2 t3, ts = [t0, t1, t2, t3] ∧ (∀ H, SqT K H b [.ref p0, .ref p1, .ref p2, .ref p3]) ∧ (∀ H, SqT K H p0 (stM t0)) ∧ (∀ H, SqT K H p1 (stM t1)) ∧ (∀ H, SqT K H p2 (stM t2)) ∧ ∀ H, SqT K H p3 (stM t3)
def Over (K : PySem.W.Frag) (mg : Str → Option Value) (P : Params) : Prop := ∃ a es n bT bU, mg "OVER" = some (.ref a) ∧ K.lookup a = some ⟨.type "dict", none, .dict es n, #[]⟩ ∧ PySem.W.KeysLit P es.toList ∧ (a == sysModules) = false ∧
  PySem.W.nsIn K a (S [116, 114, 116]) = some (some (.ref bT)) ∧ PySem.W.nsIn K a (S [117, 114, 117]) = some (some (.ref bU)) ∧ Four K bT (ovT 0) ∧ Four K bU (ovU 0) ∧
  ∀ k, k ≠ [116, 114, 116] → k ≠ [117, 114, 117] → PySem.W.nsIn K a (S k) = some none
theorem lit_e : ("" : Str) = S [] := rfl
theorem lit_tr : ("tr" : Str) = S [116, 114] := by decide +kernel
theorem lit_ru : ("ru" : Str) = S [114, 117] := by decide +kernel
theorem lit_rtr : ("rtr" : Str) = S [114, 116, 114] := by decide +kernel
theorem lit_rru : ("rru" : Str) = S [114, 114, 117] := by decide +kernel
theorem lit_trr : ("trr" : Str) = S [116, 114, 114] := by decide +kernel
theorem lit_rur : ("rur" : Str) = S [114, 117, 114] := by decide +kernel
theorem lit_rr : ("rr" : Str) = S [114, 114] := S_rr
theorem lit_tu : ("tu" : Str) = S [116, 117] := S_tu
theorem lit_ut : ("ut" : Str) = S [117, 116] := S_ut
theorem lit_trtr : ("trtr" : Str) = S [116, 114, 116, 114] := by decide +kernel
theorem lit_ruru : ("ruru" : Str) = S [114, 117, 114, 117] := by decide +kernel
theorem lit_trru : ("trru" : Str) = S [116, 114, 114, 117] := by decide +kernel
theorem lit_rutr : ("rutr" : Str) = S [114, 117, 116, 114] := by decide +kernel
theorem lit_trt : ("trt" : Str) = S [116, 114, 116] := by decide +kernel
theorem lit_uru : ("uru" : Str) = S [117, 114, 117] := by decide +kernel
theorem tog_mk {K : PySem.W.Frag} {mg : Str → Option Value} {P : Params} {a : Addr} {es : Array DictEntry} {n : Nat} {g1 g2 g3 g4 g5 : Tok} (g : mg "TOGETHER" = some (.ref a)) (lk : K.lookup a = some ⟨.type "dict", none, .dict es n, #[]⟩) (kl : PySem.W.KeysLit P es.toList) (sm : (a == sysModules) = false)
    (t0 : PySem.W.nsIn K a "" = some none) (t1 : PySem.W.nsIn K a "rr" = some (some (.str "" g1))) (t2 : PySem.W.nsIn K a "trtr" = some (some (.str "ru" g2))) (t3 : PySem.W.nsIn K a "ruru" = some (some (.str "tr" g3))) (t4 : PySem.W.nsIn K a "trru" = some (some (.str "" g4))) (t5 : PySem.W.nsIn K a "rutr" = some (some (.str "" g5)))
    (t6 : PySem.W.nsIn K a "rtr" = some none) (t7 : PySem.W.nsIn K a "rru" = some none) (t8 : PySem.W.nsIn K a "trr" = some none) (t9 : PySem.W.nsIn K a "rur" = some none) : Together K mg P := by
  refine ⟨a, es, n, g, lk, kl, sm, t0, fun y x => ?_⟩
  rw [lit_rr] at t1
  rw [lit_trtr, lit_ru] at t2
  rw [lit_ruru, lit_tr] at t3
  rw [lit_trru] at t4
  rw [lit_rutr] at t5
  rw [lit_rtr] at t6
  rw [lit_rru] at t7
  rw [lit_trr] at t8
  rw [lit_rur] at t9
  cases y <;> cases x
  · exact ⟨g1, t1⟩
  · exact t6
  · exact t7
  · exact t8
  · exact ⟨g2, t2⟩
  · exact ⟨g4, t4⟩
  · exact t9
  · exact ⟨g5, t5⟩
  · exact ⟨g3, t3⟩
theorem beats_mk {K : PySem.W.Frag} {mg : Str → Option Value} {P : Params} {a bt bu br : Addr} {es : Array DictEntry} {n nt nu nr : Nat} {t1 t2 t3 t4 t5 : Tok} {ot ou orr : Option Addr} {st su sr : Array (Option Value)} (g : mg "BEATS" = some (.ref a)) (lk : K.lookup a = some ⟨.type "dict", none, .dict es n, #[]⟩) (kl : PySem.W.KeysLit P es.toList)
    (x1 : PySem.W.nsIn K a "t" = some (some (.ref bt))) (x2 : PySem.W.nsIn K a "u" = some (some (.ref bu))) (x3 : PySem.W.nsIn K a "r" = some (some (.ref br)))
    (l1 : K.lookup bt = some ⟨.type "tuple", ot, .seq [Value.str "tr" t1, Value.str "r" t2].toArray nt, st⟩) (l2 : K.lookup bu = some ⟨.type "tuple", ou, .seq [Value.str "r" t3, Value.str "ru" t4].toArray nu, su⟩) (l3 : K.lookup br = some ⟨.type "tuple", orr, .seq [Value.str "r" t5].toArray nr, sr⟩) : Beats K mg P := by
  refine ⟨a, es, n, g, lk, kl, fun c hc => ?_⟩
  rw [lit_t] at x1
  rw [lit_u] at x2
  rw [lit_r] at x3
  rcases hc with rfl | rfl | rfl
  · exact ⟨bt, x1, fun H => .inr ⟨_, _, _, l1, rfl, rfl, two_ok, .cons ⟨t1, by rw [lit_tr]; rfl⟩ (.cons ⟨t2, by rw [lit_r]; rfl⟩ .nil)⟩⟩
  · exact ⟨bu, x2, fun H => .inr ⟨_, _, _, l2, rfl, rfl, two_ok, .cons ⟨t3, by rw [lit_r]; rfl⟩ (.cons ⟨t4, by rw [lit_ru]; rfl⟩ .nil)⟩⟩
  · exact ⟨br, x3, fun H => .inr ⟨_, _, _, l3, rfl, rfl, small (show 1 ≤ 1000 by decide), .cons ⟨t5, by rw [lit_r]; rfl⟩ .nil⟩⟩
theorem over_mk {K : PySem.W.Frag} {mg : Str → Option Value} {P : Params} {a bT bU : Addr} {es : Array DictEntry} {n : Nat} {t1 t2 : Tok} (g : mg "OVER" = some (.ref a)) (lk : K.lookup a = some ⟨.type "dict", none, .dict es n, #[]⟩) (kl : PySem.W.KeysLit P es.toList) (sm : (a == sysModules) = false)
    (mk : es.toList.map (·.key) = [Value.str "trt" t1, Value.str "uru" t2]) (x1 : PySem.W.nsIn K a "trt" = some (some (.ref bT))) (x2 : PySem.W.nsIn K a "uru" = some (some (.ref bU))) (f1 : Four K bT (ovT 0)) (f2 : Four K bU (ovU 0)) : Over K mg P := by
  rw [lit_trt] at x1
  rw [lit_uru] at x2
  refine ⟨a, es, n, bT, bU, g, lk, kl, sm, x1, x2, f1, f2, fun k h1 h2 => ns_none lk (keys_ne mk fun v hv => ?_)⟩
  rcases List.mem_cons.mp hv with rfl | hv
  · exact ⟨_, _, rfl, by rw [lit_trt]; exact fun e => h1 (S_inj e).symm⟩
  · have := List.mem_singleton.mp hv
    subst this
    exact ⟨_, _, rfl, by rw [lit_uru]; exact fun e => h2 (S_inj e).symm⟩
def inRp (x : V) : V := match x with | .str y => V.bl (rpcs.contains y.cps.toList) | z => z
theorem inRp_S (c : List Nat) : inRp (.str (S c)) = V.bl (rpcs.contains c) := by
  show V.bl (rpcs.contains (S c).cps.toList) = _
  rw [S_list]
theorem inRp_all (ls : List (List Nat)) : (sV ls).map inRp = (ls.map fun p => rpcs.contains p).map V.bl := by
  unfold sV
  rw [List.map_map, List.map_map]
  exact List.map_congr_left fun c _ => inRp_S c
theorem rpcs_lit : [V.str "rtr", V.str "rru"] = sV rpcs := by rw [lit_rtr, lit_rru]; rfl
theorem lones_lit : [V.str "", V.str "r", V.str "tr", V.str "ru"] = sV lones := by rw [lit_r, lit_tr, lit_ru]; rfl
theorem rd_strs {K : PySem.W.Frag} {H : Hp} : ∀ (ls : List (List Nat)), (∀ c ∈ ls, PyData.strOk (S c) = true) → RdDs K H (sV ls) (ls.map fun c => PyData.str (S c))
  | [], _ => by unfold RdDs sV; rfl
  | k :: r, h => by
    unfold RdDs
    exact ⟨_, _, rfl, by unfold RdD; exact ⟨rfl, h k List.mem_cons_self⟩, rd_strs r fun c hc => h c (List.mem_cons_of_mem _ hc)⟩
theorem rd_slist {K : PySem.W.Frag} {H : Hp} {a : Addr} {ls : List (List Nat)} (h : H a = some (.lst (sV ls))) (ok : ∀ c ∈ ls, PyData.strOk (S c) = true) : RdD K H (.ref a) (.list (ls.map fun c => PyData.str (S c))) := by
  unfold RdD
  exact ⟨a, _, rfl, SqL.of h, rd_strs ls ok⟩
theorem pcs_ok (u : List Nat) : ∀ c ∈ pcsOf u, PyData.strOk (S c) = true := by
  intro c hc
  unfold pcsOf at hc
  split at hc
  · rename_i h
    have := List.all_eq_true.mp h c hc
    have hm := List.contains_iff_mem.mp this
    unfold rpcs at hm
    simp only [List.mem_cons, List.not_mem_nil, or_false] at hm
    rcases hm with rfl | rfl <;> decide +kernel
  · cases hc
theorem rd_nil2 {K : PySem.W.Frag} {H : Hp} {m : Addr} (h : H m = some (.lst [])) : RdD K H (.ref m) (.list []) := by
  unfold RdD
  exact ⟨m, [], rfl, SqL.of h, by unfold RdDs; rfl⟩
theorem depth_strs (ls : List (List Nat)) : PyData.depthAll (ls.map fun c => PyData.str (S c)) ≤ 10 := by
  induction ls with
  | nil => simp [PyData.depthAll]
  | cons k r ih => simp [PyData.depthAll, PyData.depth] at ih ⊢ <;> omega
theorem depth_slist (ls : List (List Nat)) : (PyData.list (ls.map fun c => PyData.str (S c))).depth ≤ 60 := by
  have := depth_strs ls
  simp [PyData.depth]
  omega
theorem ne_slist (ls : List (List Nat)) : (if true = true then !PyData.eqv (.list (ls.map fun c => PyData.str (S c))) (.list []) else PyData.eqv (.list (ls.map fun c => PyData.str (S c))) (.list [])) = !ls.isEmpty := by
  rw [if_pos rfl]
  cases ls <;> simp [PyData.eqv, PyData.eqvAll]
/-! ### promises -/
def spAddBeat : Sp := fun vs H Q _ => ∃ (l : Addr) (B : List Syl) (b : Syl), vs = [.ref l, .str (S (wd b))] ∧ H l = some (.lst (bV B)) ∧ B.length ≤ 1000000 ∧ Q .non (upd H l (.lst (bV (pushB B b))))
def spBeatsOf : Sp := fun vs H Q _ => ∃ u, vs = [.str (S u)] ∧ IsW u ∧ u.length ≤ 10000 ∧ ∀ l H', H l = none → Same H H' → H' l = some (.lst (bV (beatsOf u))) → Q (.ref l) H'
structure WRok (u : List Nat) (A R : List Syl) : Prop where
  cj : Cj u (tw A) (tw R)
  rd : Rd R
  la : A.length ≤ 4 * u.length + 1
  lr : R.length ≤ 2 * u.length + 1
def spWR : Sp := fun vs H Q _ => ∃ u, vs = [.str (S u)] ∧ IsW u ∧ u.length ≤ 10000 ∧ ∀ t A R H', Same H H' → H' t = some (.tup [.str (S (tw A)), .str (S (tw R))]) → WRok u A R → Q (.ref t) H'
def stV (t : Stp) : HO := .tup (stM t)
def StpAt (H : Hp) (v : V) (t : Stp) : Prop := ∃ p, v = .ref p ∧ H p = some (stV t)
def StpsAt (H : Hp) : List V → List Stp → Prop
  | [], [] => True
  | v :: vs, t :: ts => StpAt H v t ∧ StpsAt H vs ts
  | _, _ => False
theorem StpsAt.append {H : Hp} : ∀ {vs ws : List V} {ts us : List Stp}, StpsAt H vs ts → StpsAt H ws us → StpsAt H (vs ++ ws) (ts ++ us)
  | [], _, [], _, _, h => h
  | _ :: _, _, _ :: _, _, a, h => ⟨a.1, StpsAt.append a.2 h⟩
theorem StpsAt.map {H H' : Hp} (f : ∀ p t, H p = some (stV t) → H' p = some (stV t)) : ∀ {vs : List V} {ts : List Stp}, StpsAt H vs ts → StpsAt H' vs ts
  | [], [], _ => trivial
  | _ :: _, _ :: _, ⟨⟨p, e, h⟩, r⟩ => ⟨⟨p, e, f p _ h⟩, StpsAt.map f r⟩
theorem StpsAt.same {H H' : Hp} (s : Same H H') {vs : List V} {ts : List Stp} (h : StpsAt H vs ts) : StpsAt H' vs ts := h.map fun p _ e => s p _ e
theorem tup_ne {H : Hp} {p l : Addr} {xs ys : List V} (h : H p = some (.tup xs)) (h2 : H l = some (.lst ys)) : p ≠ l := by
  intro e
  subst e
  rw [h] at h2
  cases h2
theorem StpsAt.but {l m : Addr} {H H' : Hp} {xs ys : List V} (s : But l m H H') (hl : H l = some (.lst xs)) (hm : H m = some (.lst ys)) {vs : List V} {ts : List Stp} (h : StpsAt H vs ts) : StpsAt H' vs ts := h.map fun p t e => s p _ (tup_ne e hl) (tup_ne e hm) e
theorem StpsAt.len {H : Hp} : ∀ {vs : List V} {ts : List Stp}, StpsAt H vs ts → vs.length = ts.length
  | [], [], _ => rfl
  | _ :: _, _ :: _, ⟨_, r⟩ => by rw [List.length_cons, List.length_cons, StpsAt.len r]
def spTake : Sp := fun vs H Q _ => ∃ (l m : Addr) (a b : Nat) (y : List Nat) (zs : List V), vs = [.ref l, .ref m] ∧ l ≠ m ∧ H l = some (.lst (lv (y ++ [a, b]))) ∧ H m = some (.lst zs) ∧ y.length ≤ 1000000 ∧ zs.length ≤ 1000000 ∧
  ∀ p H', But l m H H' → H' l = some (.lst (lv y)) → H' p = some (stV (false, (y.length : Int), [a, b])) → H' m = some (.lst (zs ++ [.ref p])) → Q .non H'
/-- the two lists behind a settling -/
def Settled (l m : Addr) (x : List Nat) (zs : List V) (H H' : Hp) : Prop := ∃ ps, But l m H H' ∧ H' l = some (.lst (lv (sett x).reverse)) ∧ H' m = some (.lst (zs ++ ps)) ∧ StpsAt H' ps (stepsOf x)
def spSettle (R : List Nat → Prop) (N : Nat) : Sp := fun vs H Q _ => ∃ (l m : Addr) (x : List Nat) (zs : List V), vs = [.ref l, .ref m] ∧ l ≠ m ∧ R x ∧ H l = some (.lst (lv x.reverse)) ∧ H m = some (.lst zs) ∧ x.length ≤ 100000 ∧ zs.length ≤ N ∧ ∀ H', Settled l m x zs H H' → Q .non H'
def spTurn (R : List Nat → Prop) (N : Nat) : Sp := fun vs H Q _ => ∃ (l m : Addr) (x : List Nat) (zs : List V), vs = [.ref l, .ref m] ∧ l ≠ m ∧ R x ∧ (x.take 3 = [116, 114, 116] ∨ x.take 3 = [117, 114, 117]) ∧ H l = some (.lst (lv x.reverse)) ∧ H m = some (.lst zs) ∧ x.length ≤ 100000 ∧ zs.length ≤ N ∧ ∀ H', Settled l m x zs H H' → Q .non H'
theorem Settled.same {l m : Addr} {x : List Nat} {zs : List V} {H H1 H' : Hp} (s : Same H H1) (h : Settled l m x zs H1 H') : Settled l m x zs H H' :=
  let ⟨ps, b, e⟩ := h
  ⟨ps, ((But.refl l m H).same s).trans b, e⟩
theorem rev_drop (x : List Nat) (k : Nat) : x.reverse.drop (x.length - k) = (x.take k).reverse := (List.reverse_take ..).symm
theorem cut_lv (x : List Nat) (k : Nat) (hk : 0 < k) : cutV (lv x.reverse) (some (-(k : Int))) none = sV ((x.take k).reverse.map fun c => [c]) := by
  rw [cut_last _ _ hk, lv_len, List.length_reverse, ← lv_sV, ← rev_drop]
  unfold lv
  rw [List.map_drop]
theorem mem_prs {x : List Nat} (h : (x.take 2).reverse ∈ prs) : ∃ a b y, x = b :: a :: y := by
  have h2 : (x.take 2).length = 2 := by
    rw [← List.length_reverse]
    unfold prs at h
    simp only [List.mem_cons, List.not_mem_nil, or_false] at h
    rcases h with h | h | h <;> rw [h] <;> rfl
  match x, h2 with
  | b :: a :: y, _ => exact ⟨a, b, y, rfl⟩
theorem take3_ne {x : List Nat} {e : Nat} (h : x.take 3 ≠ [e, 114, e]) : (x.take 3).reverse ≠ [e, 114, e] := fun z => h (by
  have := congrArg List.reverse z
  rw [List.reverse_reverse] at this
  exact this)
theorem sett_no {x : List Nat} (h1 : ¬ (x.take 2).reverse ∈ prs) (h2 : x.take 3 ≠ [116, 114, 116]) (h3 : x.take 3 ≠ [117, 114, 117]) : sett x = x ∧ stepsOf x = [] := by
  unfold sett stepsOf
  rw [if_neg h1, if_neg h2, if_neg h3, if_neg h1, if_neg h2, if_neg h3]
  exact ⟨rfl, rfl⟩
/-- what turning over comes to, for either piece -/
structure TurnAs (K : PySem.W.Frag) (a : Addr) (x : List Nat) (e d : Nat) (ov : Nat → List Stp) (b : Addr) : Prop where
  tk : x.take 3 = [e, 114, e]
  ns : PySem.W.nsIn K a (S [e, 114, e]) = some (some (.ref b))
  four : Four K b (ov 0)
  W : IsL e
  bk : TW.bk [e] = [d]
  st : sett x = 114 :: d :: pr (x.drop 3)
  sp : stepsOf x = ov (x.length - 3) ++ prS (x.drop 3)
  at_ : ∀ (n j : Nat) (t : Stp), (ov 0)[j]? = some t → (ov n)[j]? = some (t.1, (n : Int) + t.2.1, t.2.2)
  len : ∀ n, (ov n).length = 4
theorem ov_at {f : Nat → List Stp} (h : f = ovT ∨ f = ovU) (n j : Nat) (t : Stp) (ht : (f 0)[j]? = some t) : (f n)[j]? = some (t.1, (n : Int) + t.2.1, t.2.2) := by
  rcases h with rfl | rfl
  · unfold ovT at ht ⊢
    match j, ht with
    | 0, ht => cases ht; simp
    | 1, ht => cases ht; simp
    | 2, ht => cases ht; simp
    | 3, ht => cases ht; simp
    | k + 4, ht => cases ht
  · unfold ovU at ht ⊢
    match j, ht with
    | 0, ht => cases ht; simp
    | 1, ht => cases ht; simp
    | 2, ht => cases ht; simp
    | 3, ht => cases ht; simp
    | k + 4, ht => cases ht
theorem take2_of {x : List Nat} {e : Nat} (h : x.take 3 = [e, 114, e]) : x.take 2 = [e, 114] := by
  have : x.take 2 = (x.take 3).take 2 := by rw [List.take_take]; rfl
  rw [this, h]
  rfl
theorem turn_as {K : PySem.W.Frag} {a bT bU : Addr} {x : List Nat} (h : x.take 3 = [116, 114, 116] ∨ x.take 3 = [117, 114, 117]) (x1 : PySem.W.nsIn K a (S [116, 114, 116]) = some (some (.ref bT))) (x2 : PySem.W.nsIn K a (S [117, 114, 117]) = some (some (.ref bU))) (f1 : Four K bT (ovT 0)) (f2 : Four K bU (ovU 0)) :
    ∃ e d ov b, TurnAs K a x e d ov b := by
  rcases h with h | h
  · have h2 := take2_of h
    refine ⟨116, 117, ovT, bT, h, x1, f1, .inl rfl, rfl, ?_, ?_, ov_at (.inl rfl), fun _ => rfl⟩
    · unfold sett
      rw [h2, if_neg (by decide), if_pos h]
    · unfold stepsOf
      rw [h2, if_neg (by decide), if_pos h]
  · have h2 := take2_of h
    refine ⟨117, 116, ovU, bU, h, x2, f2, .inr (.inl rfl), rfl, ?_, ?_, ov_at (.inr rfl), fun _ => rfl⟩
    · unfold sett
      rw [h2, if_neg (by decide), if_neg (by rw [h]; decide), if_pos h]
    · unfold stepsOf
      rw [h2, if_neg (by decide), if_neg (by rw [h]; decide), if_pos h]
theorem Four.at {K : PySem.W.Frag} {b : Addr} {ts : List Stp} (h : Four K b ts) : ∃ rs : List V, (∀ H, SqT K H b rs) ∧ rs.length = 4 ∧ ∀ (j : Nat) (v : V), rs[j]? = some v → ∃ p t, v = .ref p ∧ ts[j]? = some t ∧ ∀ H, SqT K H p (stM t) := by
  obtain ⟨p0, p1, p2, p3, t0, t1, t2, t3, rfl, hb, h0, h1, h2, h3⟩ := h
  refine ⟨_, hb, rfl, fun j v hj => ?_⟩
  match j, hj with
  | 0, hj => cases hj; exact ⟨p0, t0, rfl, rfl, h0⟩
  | 1, hj => cases hj; exact ⟨p1, t1, rfl, rfl, h1⟩
  | 2, hj => cases hj; exact ⟨p2, t2, rfl, rfl, h2⟩
  | 3, hj => cases hj; exact ⟨p3, t3, rfl, rfl, h3⟩
  | k + 4, hj => cases hj
theorem StpsAt.snoc {H : Hp} {vs : List V} {ts : List Stp} {p : Addr} {t : Stp} (h : StpsAt H vs ts) (e : H p = some (stV t)) : StpsAt H (vs ++ [.ref p]) (ts ++ [t]) := h.append ⟨⟨p, rfl, e⟩, trivial⟩
theorem StpsAt.upd {H : Hp} {l : Addr} {xs : List V} {o : HO} (hl : H l = some (.lst xs)) {vs : List V} {ts : List Stp} (h : StpsAt H vs ts) : StpsAt (L2.upd H l o) vs ts := h.map fun p t e => by rw [upd_ne (tup_ne e hl)]; exact e
def Rr (x : List Nat) : Prop := ∃ y, x = 114 :: y
def Rall (_ : List Nat) : Prop := True
theorem sett_r (y : List Nat) : sett (114 :: y) = pr y := by
  unfold sett pr prs
  cases y with
  | nil => simp
  | cons c y =>
    by_cases h : c = 114
    · subst h; simp
    · simp [h, Ne.symm h]
theorem steps_r (y : List Nat) : stepsOf (114 :: y) = prS y := by
  unfold stepsOf prS prs
  cases y with
  | nil => simp
  | cons c y =>
    by_cases h : c = 114
    · subst h; simp
    · simp [h, Ne.symm h]
def spPlain : Sp := fun vs H Q _ => ∃ u, vs = [.str (S u)] ∧ IsW u ∧ u.length ≤ 20000 ∧ ∀ t m ps H', H m = none → Same H H' → H' t = some (.tup [.str (S (plainW u)), .ref m]) → H' m = some (.lst ps) → StpsAt H' ps (mps u).1 → Q (.ref t) H'
def spBegun : Sp := fun vs H Q _ => ∃ a u, vs = [.str (S a), .str (S u)] ∧ IsW a ∧ a.length ≤ 20000 ∧ u.length ≤ 20000 ∧ ∀ H', Same H H' → Q (.str (S (a ++ u ++ bk a))) H'
def spIsRound : Sp := fun vs H Q _ => ∃ u, vs = [.str (S u)] ∧ u.length ≤ 100000 ∧ ∀ H', Same H H' → Q (.bl (isRnd u)) H'
def spSameR : Sp := fun vs H Q _ => ∃ u v, vs = [.str (S u), .str (S v)] ∧ u.length ≤ 100000 ∧ v.length ≤ 100000 ∧ Q (.bl (samer u v)) H
def ElseAt (C : Addr) (H : Hp) (o : Addr) (u : List Nat) : Prop := ∃ dx, H o = some (.ins C dx [("word", .str (S u))])
def RndsAt (C : Addr) (H : Hp) (o : Addr) (a b c d : List Nat) : Prop := ∃ dx, H o = some (.ins C dx [("there", .str (S a)), ("first", .str (S b)), ("back", .str (S c)), ("second", .str (S d))])
def spElseShows (C : Addr) : Sp := fun vs H Q _ => ∃ o a x y, vs = [.ref o, .str (S x), .str (S y)] ∧ ElseAt C H o a ∧ IsW a ∧ a.length ≤ 20000 ∧ y.length ≤ 20000 ∧ ∀ H', Same H H' → Q (.bl (al (a ++ y ++ bk a) x)) H'
def rndsB (a b c d x y : List Nat) : Bool := isRnd b && (isRnd d && (!samer b d && (al (a ++ b ++ bk a) x && al (c ++ d ++ bk c) y)))
def spRndsShows (C : Addr) : Sp := fun vs H Q _ => ∃ o a b c d x y, vs = [.ref o, .str (S x), .str (S y)] ∧ RndsAt C H o a b c d ∧ IsW a ∧ IsW c ∧ a.length ≤ 20000 ∧ b.length ≤ 20000 ∧ c.length ≤ 20000 ∧ d.length ≤ 20000 ∧ ∀ H', Same H H' → Q (.bl (rndsB a b c d x y)) H'
/-- what an answer must hold -/
structure ElseOk (x y a : List Nat) : Prop where
  W : IsW a
  l : a.length ≤ 20000
  e : ∀ f, IsF f → walk (a ++ y ++ bk a) f = walk x f
structure RndsOk (x y a c : List Nat) (R R' : List Syl) : Prop where
  Wa : IsW a
  Wc : IsW c
  la : a.length ≤ 20000
  lc : c.length ≤ 20000
  lb : (tw R).length ≤ 20000
  ld : (tw R').length ≤ 20000
  ha : Cj x a (tw R)
  hc : Cj y c (tw R')
  hR : Rd R
  hR' : Rd R'
  no : samer (tw R) (tw R') = false
def spElsewhere (CE CR : Addr) : Sp := fun vs H Q _ => ∃ x y, vs = [.str (S x), .str (S y)] ∧ IsW x ∧ IsW y ∧ x.length ≤ 200 ∧ y.length ≤ 200 ∧
  (∀ o H' a, Same H H' → ElseAt CE H' o a → ElseOk x y a → Q (.ref o) H') ∧ (∀ o H' a c R R', Same H H' → RndsAt CR H' o a (tw R) c (tw R') → RndsOk x y a c R R' → Q (.ref o) H')
/-- __init__ with four fields -/
def spInit4 (C : Addr) (f1 f2 f3 f4 : Str) : Sp := fun vs H Q _ => ∃ o dx v1 v2 v3 v4, vs = [.ref o, v1, v2, v3, v4] ∧ H o = some (.ins C dx []) ∧ Q .non (upd H o (.ins C dx [(f1, v1), (f2, v2), (f3, v3), (f4, v4)]))
def spLBegun : Sp := fun vs H Q _ => ∃ a u, vs = [.str (S a), .str (S u)] ∧ a.length ≤ 20000 ∧ u.length ≤ 20000 ∧ ∀ H', Same H H' → Q (.str (S (a ++ u ++ bk a))) H'
def spPieces : Sp := fun vs H Q _ => ∃ u, vs = [.str (S u)] ∧ u.length ≤ 20000 ∧ ∀ p H', Same H H' → H' p = some (.lst (sV (pcsOf u))) → Q (.ref p) H'
def spLRound : Sp := fun vs H Q _ => ∃ u, vs = [.str (S u)] ∧ u.length ≤ 20000 ∧ ∀ H', Same H H' → Q (.bl (lawRnd u)) H'
def spFromElse : Sp := fun vs H Q _ => ∃ u v, vs = [.str (S u), .str (S v)] ∧ u.length ≤ 20000 ∧ v.length ≤ 20000 ∧ samer u v = false ∧ ∀ H', Same H H' → Q (.bl false) H'
def spRight7 (CE CR : Addr) : Sp := fun vs H Q _ => ∃ x y o, vs = [.str (S x), .str (S y), .ref o] ∧ IsW x ∧ IsW y ∧ x.length ≤ 200 ∧ y.length ≤ 200 ∧
  ((∃ a, ElseAt CE H o a ∧ ElseOk x y a) ∨ ∃ a c R R', RndsAt CR H o a (tw R) c (tw R') ∧ RndsOk x y a c R R') ∧ ∀ H', Same H H' → Q (.bl true) H'
theorem conj_else {x y c a b : List Nat} {R R' : List Syl} (k : RndsOk x y a b R R') (hc : IsW c) (q : ∀ f, IsF f → walk x (walk c f) = walk c (walk y f)) : False := by
  obtain ⟨p, q', e1, e2⟩ := tw_Rot (conj_rounds k.ha k.hc k.Wa k.Wc hc k.hR k.hR' q)
  have := (samer_iff _ _).mpr ⟨p, q', e1, e2⟩
  rw [k.no] at this
  cases this
end TX

set_option Elab.async false
set_option linter.all false
set_option maxRecDepth 100000
set_option maxHeartbeats 4000000
namespace K07
open PySem L2 TW TX
seal L2.PE L2.PT L2.PA L2.PS L2.PSs L2.PI L2.PG L2.PGs L2.PPs L2.PW L2.PTs L2.PO
def top (i : Nat) : Stmt := PySem.Challenge.pw_twistturn_k07_whole_elsewhere.main.body.getD i (.Pass ⟨0, 0, 0, 0⟩)
def meth (i j : Nat) : Stmt := match top i with | .ClassDef _ _ _ b _ _ _ _ _ _ _ => b.getD j (.Pass ⟨0, 0, 0, 0⟩) | s => s
section
variable {P : Program} {w : World} {K : PySem.W.Frag} {mg : Str → Option Value} {base : Heap} {f : Addr} {fd : FuncData} {k : Nat}
abbrev s_is_word : Stmt := top 9
theorem sc_is_word : FnScope ["value"] ["value"] (defScope s_is_word) := ⟨rfl, rfl, rfl, by decide +kernel, rfl, by decide +kernel, by decide +kernel⟩
theorem ok_is_word (G : Glo mg) (cLETTERS : Letters K mg) (F : Fun K "is_word" "is_word" s_is_word f fd) : FnOk P w K mg base CX0 (k + 1) f fd ["value"] spWord := by
  refine F.ok sc_is_word (fun vs H Q E h => ?_) (fun cdv A outer s H vs Q E hr h => ?_)
  · obtain ⟨u, rfl, _⟩ := h; rfl
  obtain ⟨u, rfl, hw, hl, q⟩ := h
  obtain ⟨aL, gL, hL⟩ := cLETTERS
  refine ⟨_, (pss_one (ps_ret (pe_and (pe_callB (call_isiK (K := K) rfl) rfl G.n_isinstance bt_isinstance (pa_cons (pv 0) (pa_cons (pe_bltn (v := .ty "str") rfl G.n_str bt_str rfl) pa_nil))) (pe_one (pe_callB (call_allK (K := K) rfl rfl) rfl G.n_all bt_all (pa_cons (pe_lc (ys := []) (js := []) rfl (LcS.to (os := defScope s_is_word) ⟨rfl, by decide +kernel, by decide +kernel, rfl, by decide +kernel, by decide +kernel, by decide +kernel⟩ rfl rfl) (pi_str (pv 0)) (fun _ _ _ _ => pts_none) (fun _ _ _ _ => (pe_cmpR (op_innK (K := K) rfl) (pv 0) (pe_glob (v := .ref aL) rfl gL rfl) rfl))) pa_nil)))))), ?_⟩
  refine ⟨_, rfl, _, _, _, _, rfl, .str _, kit_same "str", _, rfl, ?_⟩
  refine iteT ?_
  refine ⟨_, rfl, _, rfl, ?_⟩
  refine lc_y (Ok := fun _ => True) ItOn.str (fun x => V.bl (inV x [.str (S [116]), .str (S [117]), .str (S [114])])) trivial (by rw [sgV_length]; show (S u).length ≤ _; rw [S_len]; exact big (by omega)) (fun i x Q' hx hq => ?_) (fun p hp => ?_)
  · refine ⟨_, rfl, ?_⟩
    have hf : flatV x = true := by
      rw [sg_S, List.getElem?_map] at hx
      cases e : u[i]? with
      | none => rw [e] at hx; cases hx
      | some c => rw [e] at hx; cases hx; rfl
    exact .inl ⟨aL, _, rfl, .inr (hL _), hf, rfl, hq⟩
  · rw [word_signs hw]
    refine ⟨p, _, rfl, SqL.of upd_same, ?_⟩
    show Q (V.bl ((List.replicate u.length true).all id)) _
    rw [all_true]
    exact q _ (same_new hp _)

abbrev s_check_word : Stmt := top 10
theorem sc_check_word : FnScope ["word"] ["word"] (defScope s_check_word) := ⟨rfl, rfl, rfl, by decide +kernel, rfl, by decide +kernel, by decide +kernel⟩
theorem ok_check_word (F : Fun K "check_word" "check_word" s_check_word f fd) (c_is_word : Callee P w K mg base k "is_word" ["value"] spWord) : FnOk P w K mg base CX0 (k + 1) f fd ["word"] spChkW := by
  refine F.ok sc_check_word (fun vs H Q E h => ?_) (fun cdv A outer s H vs Q E hr h => ?_)
  · obtain ⟨u, rfl, _⟩ := h; rfl
  obtain ⟨u, rfl, hw, hl, q⟩ := h
  refine ⟨_, (pss_one (ps_if (pt_not (pt_val (pe_calls c_is_word hr rfl (pa_cons (pv 0) pa_nil)))) (pss_one ps_never) pss_nil)), ?_⟩
  refine ⟨_, rfl, u, rfl, hw, hl, fun H' hs => ⟨_, rfl, ?_⟩⟩
  exact iteF (q _ hs)

abbrev s_turned : Stmt := top 11
theorem sc_turned : FnScope ["a", "b"] ["a", "b"] (defScope s_turned) := ⟨rfl, rfl, rfl, by decide +kernel, rfl, by decide +kernel, by decide +kernel⟩
theorem ok_turned (F : Fun K "turned" "turned" s_turned f fd) : FnOk P w K mg base CX0 (k + 1) f fd ["a", "b"] spTurned := by
  refine F.ok sc_turned (fun vs H Q E h => ?_) (fun cdv A outer s H vs Q E hr h => ?_)
  · obtain ⟨g, rfl, _⟩ := h; rfl
  obtain ⟨g, rfl, q⟩ := h
  refine ⟨_, (pss_cons (ps_if (pt_cmpR op_gt (pv 0) pe_int (nomark _)) (pss_one (ps_ret (pe_tup (pa_cons (pe_un un_neg (pv 1)) (pa_cons (pv 0) pa_nil))))) pss_nil)
      (pss_cons (ps_if (pt_cmpR op_lt (pv 0) pe_int (nomark _)) (pss_one (ps_ret (pe_tup (pa_cons (pv 1) (pa_cons (pe_un un_neg (pv 0)) pa_nil))))) pss_nil)
      (pss_one (ps_ret (pe_tup (pa_cons pe_int (pa_cons pe_int pa_nil))))))), ?_⟩
  refine ⟨_, rfl, _, _, rfl, rfl, _, rfl, ?_⟩
  refine ite2 (fun c => ?_) (fun c => ?_)
  · have c' : 0 < g.1 := of_decide_eq_true c
    refine ⟨_, rfl, _, rfl, _, rfl, two_ok, fun p hp => q p _ (same_new hp _) ?_⟩
    rw [upd_same, mv_r, if_pos c']
    rfl
  · have c' : ¬ 0 < g.1 := of_decide_eq_false (Bool.eq_false_iff.mpr c)
    refine ⟨_, rfl, _, _, rfl, rfl, _, rfl, ?_⟩
    refine ite2 (fun d => ?_) (fun d => ?_)
    · have d' : g.1 < 0 := of_decide_eq_true d
      refine ⟨_, rfl, _, rfl, _, rfl, two_ok, fun p hp => q p _ (same_new hp _) ?_⟩
      rw [upd_same, mv_r, if_neg c', if_pos d']
      rfl
    · have d' : ¬ g.1 < 0 := of_decide_eq_false (Bool.eq_false_iff.mpr d)
      refine ⟨two_ok, fun p hp => q p _ (same_new hp _) ?_⟩
      rw [upd_same, mv_r, if_neg c', if_neg d']
      rfl

abbrev s_moved : Stmt := top 12
theorem sc_moved : FnScope ["letter", "a", "b"] ["letter", "a", "b"] (defScope s_moved) := ⟨rfl, rfl, rfl, by decide +kernel, rfl, by decide +kernel, by decide +kernel⟩
theorem ok_moved (F : Fun K "moved" "moved" s_moved f fd) (c_turned : Callee P w K mg base k "turned" ["a", "b"] spTurned) : FnOk P w K mg base CX0 (k + 1) f fd ["letter", "a", "b"] spMoved := by
  refine F.ok sc_moved (fun vs H Q E h => ?_) (fun cdv A outer s H vs Q E hr h => ?_)
  · obtain ⟨c, g, rfl, _⟩ := h; rfl
  obtain ⟨c, g, rfl, q⟩ := h
  have hu := hr.units
  refine ⟨_, (pss_cons (ps_if (pt_cmpR op_eq (pv 0) pe_str (nomark _)) (pss_one (ps_ret (pe_tup (pa_cons (pe_op op_plus (pv 1) (pv 2)) (pa_cons (pv 2) pa_nil))))) pss_nil)
      (pss_cons (ps_if (pt_cmpR op_eq (pv 0) pe_str (nomark _)) (pss_one (ps_ret (pe_tup (pa_cons (pe_op op_sub (pv 1) (pv 2)) (pa_cons (pv 2) pa_nil))))) pss_nil)
      (pss_one (ps_ret (pe_calls c_turned hr rfl (pa_cons (pv 1) (pa_cons (pv 2) pa_nil))))))), ?_⟩
  refine ⟨_, rfl, ⟨rfl, _, rfl, ?_⟩⟩
  rw [eq_sign c 116 _ lit_t]
  refine ite2 (fun e => ?_) (fun e => ?_)
  · have e' : c = 116 := of_decide_eq_true e
    refine ⟨_, rfl, _, rfl, .inl ⟨_, _, rfl, rfl, _, rfl, two_ok, fun p hp => q p _ (same_new hp _) ?_⟩⟩
    rw [upd_same, mv, if_pos e']
    rfl
  · have e' : ¬ c = 116 := of_decide_eq_false (Bool.eq_false_iff.mpr e)
    refine ⟨_, rfl, ⟨rfl, _, rfl, ?_⟩⟩
    rw [eq_sign c 117 _ lit_u]
    refine ite2 (fun d => ?_) (fun d => ?_)
    · have d' : c = 117 := of_decide_eq_true d
      refine ⟨_, rfl, _, rfl, _, _, rfl, rfl, _, rfl, two_ok, fun p hp => q p _ (same_new hp _) ?_⟩
      rw [upd_same, mv, if_neg e', if_pos d']
      rfl
    · have d' : ¬ c = 117 := of_decide_eq_false (Bool.eq_false_iff.mpr d)
      refine ⟨_, rfl, _, rfl, g, rfl, fun p H' hs hp => q p H' hs ?_⟩
      rw [hp, mv_r, mv, if_neg e', if_neg d']

abbrev s_follow : Stmt := top 13
theorem sc_follow : FnScope ["word", "fraction", "here", "letter"] ["word", "fraction"] (defScope s_follow) := ⟨rfl, rfl, rfl, by decide +kernel, rfl, by decide +kernel, by decide +kernel⟩
theorem ok_follow (F : Fun K "follow" "follow" s_follow f fd) (c_moved : Callee P w K mg base k "moved" ["letter", "a", "b"] spMoved) : FnOk P w K mg base CX0 (k + 1) f fd ["word", "fraction"] (spFollowK K) := by
  refine F.ok sc_follow (fun vs H Q E h => ?_) (fun cdv A outer s H vs Q E hr h => ?_)
  · obtain ⟨u, p, g, rfl, _⟩ := h; rfl
  obtain ⟨u, p, g, rfl, hp, q⟩ := h
  have nd := sc_follow.nd
  refine ⟨_, (pss_cons (ps_set (i := 2) nd rfl (Or.inl rfl) (pe_tup (pa_cons (pe_ix (ix_tupK (K := K) rfl) (pv 1) pe_int (fun _ _ => rfl)) (pa_cons (pe_ix (ix_tupK (K := K) rfl) (pv 1) pe_int (fun _ _ => rfl)) pa_nil))))
      (pss_cons (ps_for PassesOwn.never rfl (pi_str (pv 0)) (pg_name (i := 3) nd rfl (Or.inl rfl)) (pss_one (ps_set (i := 2) nd rfl (Or.inl rfl) (pe_calls c_moved hr rfl (pa_cons (pv 3) (pa_cons (pe_ix (ix_tupK (K := K) rfl) (pv 2) pe_int (fun _ _ => rfl)) (pa_cons (pe_ix (ix_tupK (K := K) rfl) (pv 2) pe_int (fun _ _ => rfl)) pa_nil)))))))
      (pss_one (ps_ret (pv 2))))), ?_⟩
  refine ⟨_, rfl, ⟨p, _, 0, .int g.1, rfl, rfl, hp, rfl, ?_⟩⟩
  refine ⟨_, rfl, ⟨p, _, 1, .int g.2, rfl, rfl, hp, rfl, ?_⟩⟩
  refine ⟨two_ok, fun r hr' => ?_⟩
  refine ⟨_, rfl, _, rfl, ?_⟩
  refine for_on (Ok := fun _ => True) ItOn.str (fun i σ' H' => Same H H' ∧ ∃ t l, σ' = [some (.str (S u)), some (.ref p), some (.ref t), l] ∧ H' t = some (fT (walk (u.take i) g))) ⟨same_new hr' _, r, _, rfl, upd_same⟩ (fun _ _ _ _ _ => trivial) ?_ ?_
  · rintro i x σ' H' hx ⟨hs, t, l, rfl, ht⟩
    obtain ⟨c, hc, rfl⟩ := sg_at hx
    have ht' : H' t = some (.tup [.int (walk (u.take i) g).1, .int (walk (u.take i) g).2]) := ht
    refine ⟨_, rfl, _, rfl, ⟨t, _, 0, _, rfl, rfl, SqT.of ht', rfl, ?_⟩⟩
    refine ⟨_, rfl, ⟨t, _, 1, _, rfl, rfl, SqT.of ht', rfl, ?_⟩⟩
    refine ⟨c, walk (u.take i) g, rfl, fun p2 H2 hs2 hp2 => ⟨hs.trans hs2, p2, _, rfl, ?_⟩⟩
    rw [take_snoc hc, walk_snoc]
    exact hp2
  · rintro σ' H' ⟨hs, t, l, rfl, ht⟩
    refine ⟨_, rfl, q t H' hs ?_⟩
    rw [ht, sg_S, List.length_map, List.take_length]

abbrev s_lead_alike : Stmt := top 14
theorem sc_lead_alike : FnScope ["one", "other"] ["one", "other"] (defScope s_lead_alike) := ⟨rfl, rfl, rfl, by decide +kernel, rfl, by decide +kernel, by decide +kernel⟩
theorem ok_lead_alike (G : Glo mg) (cT : Telling K mg) (F : Fun K "lead_alike" "lead_alike" s_lead_alike f fd) (c_follow : Callee P w K mg base k "follow" ["word", "fraction"] (spFollowK K)) : FnOk P w K mg base CX0 (k + 1) f fd ["one", "other"] spLead := by
  refine F.ok sc_lead_alike (fun vs H Q E h => ?_) (fun cdv A outer s H vs Q E hr h => ?_)
  · obtain ⟨u, v, rfl, _⟩ := h; rfl
  obtain ⟨u, v, rfl, q⟩ := h
  obtain ⟨aT, a0, a1, a2, gT, hT, h0, h1, h2⟩ := cT
  have hu := hr.units
  refine ⟨_, (pss_one (ps_ret (pe_callB (call_allK (K := K) rfl rfl) rfl G.n_all bt_all (pa_cons (pe_lc (ys := ["one", "other"]) (js := [0, 1]) rfl (LcS.to (os := defScope s_lead_alike) ⟨rfl, by decide +kernel, by decide +kernel, rfl, by decide +kernel, by decide +kernel, by decide +kernel⟩ rfl rfl) (pi_tup (pe_glob (v := .ref aT) rfl gT rfl)) (fun _ _ _ _ => pts_none) (fun _ _ _ _ => (pe_cmpR (op_eqqK (K := K) hu rfl) (pe_calls c_follow hr rfl (pa_cons (pv 1) (pa_cons (pv 0) pa_nil))) (pe_calls c_follow hr rfl (pa_cons (pv 2) (pa_cons (pv 0) pa_nil))) (nomark _)))) pa_nil)))), ?_⟩
  refine ⟨aT, rfl, ⟨_, hT _⟩, ?_⟩
  refine lc_growI ItOn.tup (fun i => V.bl (alI u v i)) (fun H' _ => hT H') three_ok (fun i x H' Q' hx hs hq => ?_) (fun H' p hs hp => ?_)
  · obtain ⟨t, rfl, ht⟩ := three_at h0 h1 h2 hx
    refine ⟨_, rfl, _, rfl, u, t, tf i, rfl, ht _, fun p1 H1 s1 e1 => ?_⟩
    refine ⟨_, rfl, _, rfl, v, t, tf i, rfl, ht _, fun p2 H2 s2 e2 => ?_⟩
    refine .inr ⟨fD (walk u (tf i)), fD (walk v (tf i)), fD_rd (s2 _ _ e1), fD_rd e2, fD_depth _, ?_⟩
    have e : (if false = true then !PyData.eqv (fD (walk u (tf i))) (fD (walk v (tf i))) else PyData.eqv (fD (walk u (tf i))) (fD (walk v (tf i)))) = alI u v i := by
      rw [if_neg Bool.false_ne_true, fD_eqv]
      rfl
    rw [e]
    exact hq _ (s1.trans s2)
  · refine ⟨p, [alI u v 0, alI u v 1, alI u v 2], rfl, SqL.of upd_same, ?_⟩
    show Q (V.bl ([alI u v 0, alI u v 1, alI u v 2].all id)) _
    rw [al_three]
    exact q _ (hs.trans (same_new hp _))

abbrev s_back : Stmt := top 15
theorem sc_back : FnScope ["word"] ["word"] (defScope s_back) := ⟨rfl, rfl, rfl, by decide +kernel, rfl, by decide +kernel, by decide +kernel⟩
theorem ok_back (G : Glo mg) (cEXCHANGED : Exch K mg w.params) (F : Fun K "back" "back" s_back f fd) (c_check_word : Callee P w K mg base k "check_word" ["word"] spChkW) : FnOk P w K mg base CX0 (k + 1) f fd ["word"] spBack := by
  refine F.ok sc_back (fun vs H Q E h => ?_) (fun cdv A outer s H vs Q E hr h => ?_)
  · obtain ⟨u, rfl, _⟩ := h; rfl
  obtain ⟨u, rfl, hw, hl, q⟩ := h
  obtain ⟨aE, es, n, gE, lk, kl, hE⟩ := cEXCHANGED
  refine ⟨_, (pss_cons (ps_expr (pe_calls c_check_word hr rfl (pa_cons (pv 0) pa_nil)))
      (pss_one (ps_ret (pe_bm PySem.F.plainAttrs_str PySem.F.slot_str_join PySem.F.type_str_join mt_join pe_str (pa_cons (pe_lc (ys := []) (js := []) rfl (LcS.to (os := defScope s_back) ⟨rfl, by decide +kernel, by decide +kernel, rfl, by decide +kernel, by decide +kernel, by decide +kernel⟩ rfl rfl) (pi_rev rfl G.n_reversed (pa_cons (pv 0) pa_nil)) (fun _ _ _ _ => pts_none) (fun _ _ _ _ => (pe_ix (ix_anyK (K := K) (Pm := w.params) rfl rfl) (pe_glob (v := .ref aE) rfl gE rfl) (pv 0) (fun _ _ => rfl)))) pa_nil))))), ?_⟩
  refine ⟨_, rfl, u, rfl, hw, hl, fun H1 s1 => ?_⟩
  refine ⟨rfl, _, rfl, _, rfl, by rw [S_len]; exact big (by omega), ?_⟩
  refine lc_y (Ok := fun _ => True) ItOn.rev exV trivial (by rw [List.length_reverse, sgV_length]; show (S u).length ≤ _; rw [S_len]; exact big (by omega)) (fun i x Q' hx hq => ?_) (fun p hp => ?_)
  · have hm : x ∈ sgV (S u) := List.mem_reverse.mp (List.mem_of_getElem? hx)
    rw [sg_S] at hm
    obtain ⟨c, hc, rfl⟩ := List.mem_map.mp hm
    obtain ⟨t, ht⟩ := hE c (hw c hc)
    exact ⟨_, rfl, .inr ⟨aE, es, n, S [c], .str (S [TW.exch c]), _, rfl, rfl, lk, kl, ht, ⟨t, rfl⟩, hq⟩⟩
  · rw [back_signs2 hw]
    refine ⟨_, p, _, rfl, rfl, SqL.of upd_same, ?_, ?_⟩
    · rw [sum_ones, bk_length]
      show u.length + _ * 0 ≤ _
      omega
    · rw [join_S]
      exact q _ (s1.trans (same_new hp _))

abbrev s_begun_by : Stmt := top 16
theorem sc_begun_by : FnScope ["start", "word"] ["start", "word"] (defScope s_begun_by) := ⟨rfl, rfl, rfl, by decide +kernel, rfl, by decide +kernel, by decide +kernel⟩
theorem ok_begun_by (F : Fun K "begun_by" "begun_by" s_begun_by f fd) (c_back : Callee P w K mg base k "back" ["word"] spBack) : FnOk P w K mg base CX0 (k + 1) f fd ["start", "word"] spBegun := by
  refine F.ok sc_begun_by (fun vs H Q E h => ?_) (fun cdv A outer s H vs Q E hr h => ?_)
  · obtain ⟨a, u, rfl, _⟩ := h; rfl
  obtain ⟨a, u, rfl, hw, la, lu, q⟩ := h
  refine ⟨_, (pss_one (ps_ret (pe_op op_add_str (pe_op op_add_str (pv 0) (pv 1)) (pe_calls c_back hr rfl (pa_cons (pv 0) pa_nil))))), ?_⟩
  refine ⟨_, rfl, _, rfl, _, _, rfl, rfl, by rw [S_len, S_len]; exact big (by omega), _, rfl, a, rfl, hw, by omega, fun H1 s1 => ?_⟩
  refine ⟨_, _, rfl, rfl, by rw [S_app, S_len, S_len, bk_length, List.length_append]; exact big (by omega), ?_⟩
  rw [S_app, S_app]
  exact q _ s1

abbrev s_is_round : Stmt := top 17
theorem sc_is_round : FnScope ["word"] ["word"] (defScope s_is_round) := ⟨rfl, rfl, rfl, by decide +kernel, rfl, by decide +kernel, by decide +kernel⟩
theorem ok_is_round (G : Glo mg) (cL : Lones K mg) (cP : RPieces K mg) (F : Fun K "is_round" "is_round" s_is_round f fd) : FnOk P w K mg base CX0 (k + 1) f fd ["word"] spIsRound := by
  refine F.ok sc_is_round (fun vs H Q E h => ?_) (fun cdv A outer s H vs Q E hr h => ?_)
  · obtain ⟨u, rfl, _⟩ := h; rfl
  obtain ⟨u, rfl, lu, q⟩ := h
  obtain ⟨aL, gL, hL⟩ := cL
  obtain ⟨aP, gP, hP⟩ := cP
  have hlS : (S u).length ≤ sizeLine := by rw [S_len]; exact big (by omega)
  refine ⟨_, (pss_cons (ps_if (pt_cmpR (op_inSq (K := K) rfl) (pv 0) (pe_glob (v := .ref aL) rfl gL rfl) rfl) (pss_one (ps_ret pe_bl)) pss_nil)
      (pss_one (ps_ret (pe_callB (call_allK (K := K) rfl rfl) rfl G.n_all bt_all (pa_cons (pe_lc (ys := ["word"]) (js := [0]) rfl (LcS.to (os := defScope s_is_round) ⟨rfl, by decide +kernel, by decide +kernel, rfl, by decide +kernel, by decide +kernel, by decide +kernel⟩ rfl rfl) (pi_range3 rfl G.n_range (pa_cons pe_int (pa_cons (pe_callB (call_lenK (K := K) rfl) rfl G.n_len bt_len (pa_cons (pv 0) pa_nil)) (pa_cons pe_int pa_nil)))) (fun _ _ _ _ => pts_none) (fun _ _ _ _ => (pe_cmpR (op_inSq (K := K) rfl) (pe_slice sl_str (pv 1) (po_some (pv 0)) (po_some (pe_op op_add (pv 0) pe_int))) (pe_glob (v := .ref aP) rfl gP rfl) rfl))) pa_nil))))), ?_⟩
  refine ⟨_, rfl, aL, _, rfl, .inr (hL _), rfl, flat_sV _, _, rfl, ?_⟩
  rw [if_neg Bool.false_ne_true, inV_S]
  refine ite2 (fun c => ?_) (fun c => ?_)
  · have e : isRnd u = true := by unfold isRnd; rw [c, Bool.true_or]
    have := q _ (Same.refl H)
    rw [e] at this
    exact this
  · refine ⟨_, rfl, .str (S u), u.length, rfl, ⟨hlS, (S_len u).symm⟩, 0, (u.length : Int), 3, rfl, ⟨by decide, by decide, by omega, by omega, by decide, by decide⟩, ?_⟩
    rw [cnt3_eq]
    refine lc_growI ItOn.rng3 (fun i => V.bl (rpcs.contains ((u.drop (3 * i)).take 3))) (fun _ _ => trivial) (by unfold rngV3; rw [List.length_map, List.length_range]; exact big (by omega)) (fun i x H' Q' hx hs hq => ?_) (fun H' p hs hp => ?_)
    · unfold rngV3 at hx
      rw [List.getElem?_map] at hx
      have hi : i < (u.length + 2) / 3 := by
        cases e : (List.range ((u.length + 2) / 3))[i]? with
        | none => rw [e] at hx; cases hx
        | some j => exact List.length_range (n := (u.length + 2) / 3) ▸ (List.getElem?_eq_some_iff.mp e).1
      rw [List.getElem?_range hi] at hx
      cases hx
      have e0 : (0 : Int) + ((i : Nat) : Int) * 3 = ((3 * i : Nat) : Int) := by omega
      refine ⟨_, rfl, _, rfl, _, rfl, _, rfl, _, _, rfl, rfl, _, rfl, _, rfl, hlS, ?_⟩
      refine ⟨aP, _, rfl, .inr (hP _), rfl, flat_sV _, ?_⟩
      rw [e0, show (((3 * i : Nat) : Int) + 3) = ((3 * i : Nat) : Int) + ((3 : Nat) : Int) from rfl, S_mid (by omega) (by omega), if_neg Bool.false_ne_true, inV_S]
      exact hq _ (Same.refl _)
    · have er : ((List.range (rngV3 0 3 ((u.length + 2) / 3)).length).map fun i => V.bl (rpcs.contains ((u.drop (3 * i)).take 3))) = ((chunks u).map fun p => rpcs.contains p).map V.bl := by
        unfold rngV3 chunks
        rw [List.length_map, List.length_range, List.map_map, List.map_map]
        rfl
      refine ⟨p, (chunks u).map fun p => rpcs.contains p, rfl, SqL.of (by rw [upd_same, er]), ?_⟩
      have e : isRnd u = ((chunks u).map fun p => rpcs.contains p).all id := by
        unfold isRnd
        rw [Bool.eq_false_iff.mpr c, Bool.false_or, List.all_map]
        rfl
      show Q (V.bl (((chunks u).map fun p => rpcs.contains p).all id)) _
      rw [← e]
      exact q _ (hs.trans (same_new hp _))

abbrev s_is_same_round : Stmt := top 18
theorem sc_is_same_round : FnScope ["one", "other"] ["one", "other"] (defScope s_is_same_round) := ⟨rfl, rfl, rfl, by decide +kernel, rfl, by decide +kernel, by decide +kernel⟩
theorem ok_is_same_round (G : Glo mg) (F : Fun K "is_same_round" "is_same_round" s_is_same_round f fd) : FnOk P w K mg base CX0 (k + 1) f fd ["one", "other"] spSameR := by
  refine F.ok sc_is_same_round (fun vs H Q E h => ?_) (fun cdv A outer s H vs Q E hr h => ?_)
  · obtain ⟨u, v, rfl, _⟩ := h; rfl
  obtain ⟨u, v, rfl, lu, lw, q⟩ := h
  refine ⟨_, (pss_one (ps_ret (pe_and (pe_cmpR op_eq (pe_callB (call_lenK (K := K) rfl) rfl G.n_len bt_len (pa_cons (pv 0) pa_nil)) (pe_callB (call_lenK (K := K) rfl) rfl G.n_len bt_len (pa_cons (pv 1) pa_nil)) (nomark _)) (pe_one (pe_cmpR op_in_str (pv 1) (pe_op op_add_str (pv 0) (pv 0)) rfl))))), ?_⟩
  refine ⟨_, rfl, .str (S u), u.length, rfl, ⟨by rw [S_len]; exact big (by omega), (S_len u).symm⟩, _, rfl, .str (S v), v.length, rfl, ⟨by rw [S_len]; exact big (by omega), (S_len v).symm⟩, rfl, _, rfl, ?_⟩
  have e0 : decide (V.int (u.length : Int) = V.int (v.length : Int)) = decide (u.length = v.length) := by
    rw [Bool.eq_iff_iff]
    simp
    omega
  rw [e0]
  refine ite2 (fun c => ?_) (fun c => ?_)
  · refine ⟨_, rfl, _, rfl, _, rfl, _, _, rfl, rfl, by rw [S_len]; exact big (by omega), _, _, rfl, rfl, ?_⟩
    have e : samer u v = (!(Builtin.Str.occurrences (S (u ++ u)) (S v) 0 (S (u ++ u)).length 1).isEmpty) := by
      unfold samer
      rw [c, Bool.true_and]
    rw [S_app, ← e]
    exact q
  · have e : samer u v = false := by
      unfold samer
      rw [Bool.eq_false_iff.mpr c, Bool.false_and]
    rw [e] at q
    exact q

abbrev s_Elsewhere_init : Stmt := meth 23 0
theorem sc_Elsewhere_init : FnScope ["self", "word"] ["self", "word"] (defScope s_Elsewhere_init) := ⟨rfl, rfl, rfl, by decide +kernel, rfl, by decide +kernel, by decide +kernel⟩
theorem ok_Elsewhere_init {C : Addr} (kC : KCls K C) (nf : PySem.W.findIn K (.ref C) "word" = some none) (F : Fun K "__init__" "Elsewhere.__init__" s_Elsewhere_init f fd) : FnOk P w K mg base CX0 (k + 1) f fd ["self", "word"] (spInit1 C "word") := by
  refine F.ok sc_Elsewhere_init (fun vs H Q E h => ?_) (fun cdv A outer s H vs Q E hr h => ?_)
  · obtain ⟨o, dx, v, rfl, _⟩ := h; rfl
  obtain ⟨o, dx, v, rfl, ho, q⟩ := h
  refine ⟨_, (pss_one (ps_fld (pv 0) (pv 1) rfl)), ?_⟩
  exact ⟨_, rfl, _, rfl, o, C, dx, [], rfl, ho, kC.cl, nf, by decide, q⟩

abbrev s_Elsewhere_shows : Stmt := meth 23 1
theorem sc_Elsewhere_shows : FnScope ["self", "one", "other"] ["self", "one", "other"] (defScope s_Elsewhere_shows) := ⟨rfl, rfl, rfl, by decide +kernel, rfl, by decide +kernel, by decide +kernel⟩
theorem ok_Elsewhere_shows {C : Addr} (kC : KCls K C) (nf : PySem.W.findIn K (.ref C) "word" = some none) (F : Fun K "shows" "Elsewhere.shows" s_Elsewhere_shows f fd) (c_lead_alike : Callee P w K mg base k "lead_alike" ["one", "other"] spLead) (c_begun_by : Callee P w K mg base k "begun_by" ["start", "word"] spBegun) : FnOk P w K mg base CX0 (k + 1) f fd ["self", "one", "other"] (spElseShows C) := by
  refine F.ok sc_Elsewhere_shows (fun vs H Q E h => ?_) (fun cdv A outer s H vs Q E hr h => ?_)
  · obtain ⟨o, a, x, y, rfl, _⟩ := h; rfl
  obtain ⟨o, a, x, y, rfl, ⟨dx, ho⟩, hw, la, ly, q⟩ := h
  refine ⟨_, (pss_one (ps_ret (pe_calls c_lead_alike hr rfl (pa_cons (pe_calls c_begun_by hr rfl (pa_cons (pe_fld (pv 0) rfl) (pa_cons (pv 2) pa_nil))) (pa_cons (pv 1) pa_nil))))), ?_⟩
  refine ⟨_, rfl, o, C, dx, _, _, rfl, ho, kC.cl, nf, rfl, _, rfl, a, y, rfl, hw, la, ly, fun H1 s1 => ?_⟩
  exact ⟨_, rfl, a ++ y ++ bk a, x, rfl, fun H2 s2 => q _ (s1.trans s2)⟩

abbrev s_Rounds_init : Stmt := meth 24 0
theorem sc_Rounds_init : FnScope ["self", "there", "first", "back", "second"] ["self", "there", "first", "back", "second"] (defScope s_Rounds_init) := ⟨rfl, rfl, rfl, by decide +kernel, rfl, by decide +kernel, by decide +kernel⟩
theorem ok_Rounds_init {C : Addr} (kC : KCls K C) (nf : PySem.W.findIn K (.ref C) "there" = some none) (nf2 : PySem.W.findIn K (.ref C) "first" = some none) (nf3 : PySem.W.findIn K (.ref C) "back" = some none) (nf4 : PySem.W.findIn K (.ref C) "second" = some none) (F : Fun K "__init__" "Rounds.__init__" s_Rounds_init f fd) : FnOk P w K mg base CX0 (k + 1) f fd ["self", "there", "first", "back", "second"] (spInit4 C "there" "first" "back" "second") := by
  refine F.ok sc_Rounds_init (fun vs H Q E h => ?_) (fun cdv A outer s H vs Q E hr h => ?_)
  · obtain ⟨o, dx, v, v2, v3, v4, rfl, _⟩ := h; rfl
  obtain ⟨o, dx, v, v2, v3, v4, rfl, ho, q⟩ := h
  refine ⟨_, (pss_cons (ps_fld (pv 0) (pv 1) rfl)
      (pss_cons (ps_fld (pv 0) (pv 2) rfl)
      (pss_cons (ps_fld (pv 0) (pv 3) rfl)
      (pss_one (ps_fld (pv 0) (pv 4) rfl))))), ?_⟩
  refine ⟨_, rfl, _, rfl, o, C, dx, [], rfl, ho, kC.cl, nf, by decide, ?_⟩
  refine ⟨_, rfl, _, rfl, o, C, dx, _, rfl, upd_same, kC.cl, nf2, Nat.lt_of_le_of_lt (putF_le (Nat.le_refl _)) (by decide), ?_⟩
  rw [upd_upd]
  refine ⟨_, rfl, _, rfl, o, C, dx, _, rfl, upd_same, kC.cl, nf3, Nat.lt_of_le_of_lt (putF_le (putF_le (Nat.le_refl _))) (by decide), ?_⟩
  rw [upd_upd]
  refine ⟨_, rfl, _, rfl, o, C, dx, _, rfl, upd_same, kC.cl, nf4, Nat.lt_of_le_of_lt (putF_le (putF_le (putF_le (Nat.le_refl _)))) (by decide), ?_⟩
  rw [upd_upd]
  exact q

abbrev s_Rounds_shows : Stmt := meth 24 1
theorem sc_Rounds_shows : FnScope ["self", "one", "other"] ["self", "one", "other"] (defScope s_Rounds_shows) := ⟨rfl, rfl, rfl, by decide +kernel, rfl, by decide +kernel, by decide +kernel⟩
theorem ok_Rounds_shows {C : Addr} (kC : KCls K C) (nf : PySem.W.findIn K (.ref C) "there" = some none) (nf2 : PySem.W.findIn K (.ref C) "first" = some none) (nf3 : PySem.W.findIn K (.ref C) "back" = some none) (nf4 : PySem.W.findIn K (.ref C) "second" = some none) (F : Fun K "shows" "Rounds.shows" s_Rounds_shows f fd)
    (c_is_round : Callee P w K mg base k "is_round" ["word"] spIsRound) (c_is_same_round : Callee P w K mg base k "is_same_round" ["one", "other"] spSameR) (c_lead_alike : Callee P w K mg base k "lead_alike" ["one", "other"] spLead) (c_begun_by : Callee P w K mg base k "begun_by" ["start", "word"] spBegun) : FnOk P w K mg base CX0 (k + 1) f fd ["self", "one", "other"] (spRndsShows C) := by
  refine F.ok sc_Rounds_shows (fun vs H Q E h => ?_) (fun cdv A outer s H vs Q E hr h => ?_)
  · obtain ⟨o, a, b, c, d, x, y, rfl, _⟩ := h; rfl
  obtain ⟨o, a, b, c, d, x, y, rfl, ⟨dx, ho⟩, wa, wc, la, lb, lc, ld, q⟩ := h
  refine ⟨_, (pss_cons (ps_if (PW.pt (pw_or (pt_not (pt_val (pe_calls c_is_round hr rfl (pa_cons (pe_fld (pv 0) rfl) pa_nil)))) (pw_or (pt_not (pt_val (pe_calls c_is_round hr rfl (pa_cons (pe_fld (pv 0) rfl) pa_nil)))) (pw_or1 (pt_val (pe_calls c_is_same_round hr rfl (pa_cons (pe_fld (pv 0) rfl) (pa_cons (pe_fld (pv 0) rfl) pa_nil)))))))) (pss_one (ps_ret pe_bl)) pss_nil)
      (pss_cons (ps_if (pt_not (pt_val (pe_calls c_lead_alike hr rfl (pa_cons (pe_calls c_begun_by hr rfl (pa_cons (pe_fld (pv 0) rfl) (pa_cons (pe_fld (pv 0) rfl) pa_nil))) (pa_cons (pv 1) pa_nil))))) (pss_one (ps_ret pe_bl)) pss_nil)
      (pss_one (ps_ret (pe_calls c_lead_alike hr rfl (pa_cons (pe_calls c_begun_by hr rfl (pa_cons (pe_fld (pv 0) rfl) (pa_cons (pe_fld (pv 0) rfl) pa_nil))) (pa_cons (pv 2) pa_nil))))))), ?_⟩
  unfold rndsB at q
  refine ⟨_, rfl, o, C, dx, _, _, rfl, ho, kC.cl, nf2, rfl, b, rfl, by omega, fun H1 s1 => ⟨_, rfl, ?_⟩⟩
  have h1 := s1 _ _ ho
  cases e1 : isRnd b with
  | false =>
    rw [e1] at q
    exact q _ s1
  | true =>
    rw [e1] at q
    refine iteF ⟨_, rfl, o, C, dx, _, _, rfl, h1, kC.cl, nf4, rfl, d, rfl, by omega, fun H2 s2 => ⟨_, rfl, ?_⟩⟩
    have h2 := s2 _ _ h1
    cases e2 : isRnd d with
    | false =>
      rw [e2] at q
      exact q _ (s1.trans s2)
    | true =>
      rw [e2] at q
      refine iteF ⟨_, rfl, o, C, dx, _, _, rfl, h2, kC.cl, nf2, rfl, _, rfl, o, C, dx, _, _, rfl, h2, kC.cl, nf4, rfl, b, d, rfl, by omega, by omega, _, rfl, ?_⟩
      cases e3 : samer b d with
      | true =>
        rw [e3] at q
        exact q _ (s1.trans s2)
      | false =>
        rw [e3] at q
        refine iteF ⟨_, rfl, o, C, dx, _, _, rfl, h2, kC.cl, nf, rfl, _, rfl, o, C, dx, _, _, rfl, h2, kC.cl, nf2, rfl, a, b, rfl, wa, la, lb, fun H3 s3 => ?_⟩
        have h3 := s3 _ _ h2
        refine ⟨_, rfl, a ++ b ++ bk a, x, rfl, fun H4 s4 => ⟨_, rfl, ?_⟩⟩
        have h4 := s4 _ _ h3
        have T4 := s1.trans (s2.trans (s3.trans s4))
        cases e4 : al (a ++ b ++ bk a) x with
        | false =>
          rw [e4] at q
          exact q _ T4
        | true =>
          rw [e4] at q
          refine iteF ⟨_, rfl, o, C, dx, _, _, rfl, h4, kC.cl, nf3, rfl, _, rfl, o, C, dx, _, _, rfl, h4, kC.cl, nf4, rfl, c, d, rfl, wc, lc, ld, fun H5 s5 => ?_⟩
          exact ⟨_, rfl, c ++ d ++ bk c, y, rfl, fun H6 s6 => q _ (T4.trans (s5.trans s6))⟩

end
end K07

set_option Elab.async false
set_option linter.all false
set_option maxRecDepth 100000
set_option maxHeartbeats 4000000
namespace K07
open PySem L2 TW TX
seal L2.PE L2.PT L2.PA L2.PS L2.PSs L2.PI L2.PG L2.PGs L2.PPs L2.PW L2.PTs L2.PO
section
variable {P : Program} {w : World} {K : PySem.W.Frag} {mg : Str → Option Value} {base : Heap} {f : Addr} {fd : FuncData} {k : Nat}
abbrev s_add_beat : Stmt := top 35
theorem sc_add_beat : FnScope ["beats", "beat", "both"] ["beats", "beat"] (defScope s_add_beat) := ⟨rfl, rfl, rfl, by decide +kernel, rfl, by decide +kernel, by decide +kernel⟩
theorem ok_add_beat (cT : Together K mg w.params) (F : Fun K "add_beat" "add_beat" s_add_beat f fd) : FnOk P w K mg base CX0 (k + 1) f fd ["beats", "beat"] spAddBeat := by
  refine F.ok sc_add_beat (fun vs H Q E h => ?_) (fun cdv A outer s H vs Q E hr h => ?_)
  · obtain ⟨l, B, b, rfl, _⟩ := h; rfl
  obtain ⟨l, B, b, rfl, hl, hB, q⟩ := h
  obtain ⟨aT, es, n, gT, lk, kl, sm, t0, hT⟩ := cT
  have nd := sc_add_beat.nd
  refine ⟨_, (pss_cons (ps_set (i := 2) nd rfl (Or.inl rfl) (pe_ifExp (pt_truth (pv 0) (fun _ => rfl)) (pe_op op_add_str (pe_ix (ix_lstK (K := K) rfl) (pv 0) (pe_un un_neg pe_int) (fun _ _ => rfl)) (pv 1)) pe_str))
      (pss_cons (ps_if (pt_cmpR (op_notInMK (K := K) (Pm := w.params) rfl rfl) (pv 2) (pe_glob (v := .ref aT) rfl gT rfl) rfl) (pss_cons (ps_expr (pe_bm PySem.F.plainAttrs_list PySem.F.slot_list_append PySem.F.type_list_append mt_append (pv 0) (pa_cons (pv 1) pa_nil)))
      (pss_one ps_retN)) pss_nil)
      (pss_cons (ps_expr (pe_bm0 PySem.F.plainAttrs_list PySem.F.slot_list_pop PySem.F.type_list_pop mt_pop (pv 0)))
      (pss_one (ps_if (pt_cmpR op_ne (pe_ix (ix_modK (K := K) (Pm := w.params) rfl rfl) (pe_glob (v := .ref aT) rfl gT rfl) (pv 2) (fun _ _ => rfl)) pe_str (nomark _)) (pss_one (ps_expr (pe_bm PySem.F.plainAttrs_list PySem.F.slot_list_append PySem.F.type_list_append mt_append (pv 0) (pa_cons (pe_ix (ix_modK (K := K) (Pm := w.params) rfl rfl) (pe_glob (v := .ref aT) rfl gT rfl) (pv 2) (fun _ _ => rfl)) pa_nil)))) pss_nil))))), ?_⟩
  refine ⟨_, rfl, _, .inl ⟨_, SqL.of hl, rfl⟩, ?_⟩
  by_cases hn : B = []
  · subst hn
    refine ite2 (fun c => by cases c) (fun _ => ?_)
    refine ⟨_, rfl, aT, es, n, S [], none, rfl, rfl, lk, kl, t0, sm, _, rfl, ite2 (fun _ => ?_) (fun c => absurd rfl c)⟩
    refine ⟨_, rfl, .inl ⟨rfl, _, SqL.of hl⟩, _, rfl, l, _, _, rfl, rfl, hl, by rw [bV_len]; exact Nat.lt_of_lt_of_le (by decide) (big (Nat.le_refl _)), ?_⟩
    rw [pushB_nil] at q
    exact q
  · obtain ⟨D, y, rfl⟩ := snoc_of hn
    have eb : bV (D ++ [y]) = bV D ++ [.str (S (Syl.wd y))] := bV_append _ _
    have hlt : (bV (D ++ [y])).length < sizeLine := by
      rw [bV_len]
      have := sizeLine_eq
      omega
    have hx := hT y b
    rw [pushB_snoc] at q
    refine ite2 (fun _ => ?_) (fun c => by
      rw [eb] at c
      exact absurd (by simp) c)
    refine ⟨_, rfl, _, rfl, l, _, _, .str (S (Syl.wd y)), rfl, rfl, SqL.of hl, by rw [eb]; exact atI_last _ _, _, rfl, _, _, rfl, rfl, by
      rw [S_len, S_len]
      refine big ?_
      cases y <;> cases b <;> decide, ?_⟩
    rw [S_app]
    cases e : tog y b with
    | none =>
      rw [e] at hx q
      refine ⟨_, rfl, aT, es, n, _, none, rfl, rfl, lk, kl, hx, sm, _, rfl, ite2 (fun _ => ?_) (fun c => absurd rfl c)⟩
      refine ⟨_, rfl, .inl ⟨rfl, _, SqL.of hl⟩, _, rfl, l, _, _, rfl, rfl, hl, hlt, ?_⟩
      have e2 : bV (D ++ [y]) ++ [V.str (S (Syl.wd b))] = bV (D ++ [y, b]) := by rw [← bV_one, ← bV_append, List.append_assoc]; rfl
      rw [e2]
      exact q
    | some v =>
      rw [e] at hx q
      obtain ⟨t, ht⟩ := hx
      refine ⟨_, rfl, aT, es, n, _, some _, rfl, rfl, lk, kl, ht, sm, _, rfl, ite2 (fun c => by cases c) (fun _ => ?_)⟩
      refine ⟨_, rfl, .inl ⟨rfl, _, SqL.of hl⟩, l, _, .str (S (Syl.wd y)), rfl, rfl, hl, by rw [eb]; exact last_snoc _ _, ?_⟩
      rw [eb, List.dropLast_concat]
      refine ⟨_, rfl, aT, es, n, _, .str (S (tw v.toList)), _, rfl, rfl, lk, kl, ht, ⟨t, rfl⟩, rfl, _, rfl, ?_⟩
      cases v with
      | none => exact ite2 (fun c => absurd c (by decide +kernel)) (fun _ => q)
      | some v =>
        refine ite2 (fun _ => ?_) (fun c => absurd (by
          rw [Bool.not_eq_true', decide_eq_false_iff_not]
          intro z
          injection z with z
          have e3 : tw (some v).toList = Syl.wd v := tw_one v
          rw [e3] at z
          exact wd_ne v z) c)
        refine ⟨_, rfl, .inl ⟨rfl, _, SqL.of upd_same⟩, _, rfl, aT, es, n, _, .str (S (tw (some v).toList)), _, rfl, rfl, lk, kl, ht, ⟨t, rfl⟩, l, _, _, rfl, rfl, upd_same, ?_, ?_⟩
        · have := hlt
          rw [eb, List.length_append] at this
          omega
        · rw [upd_upd]
          have e3 : bV D ++ [V.str (S (tw (some v).toList))] = bV (D ++ [v]) := by
            show bV D ++ [V.str (S (tw [v]))] = _
            rw [tw_one, bV_append, bV_one]
          rw [e3]
          exact q

abbrev s_beats_of : Stmt := top 36
theorem sc_beats_of : FnScope ["word", "beats", "letter", "beat"] ["word"] (defScope s_beats_of) := ⟨rfl, rfl, rfl, by decide +kernel, rfl, by decide +kernel, by decide +kernel⟩
theorem ok_beats_of (cB : Beats K mg w.params) (F : Fun K "beats_of" "beats_of" s_beats_of f fd) (c_add_beat : Callee P w K mg base k "add_beat" ["beats", "beat"] spAddBeat) : FnOk P w K mg base CX0 (k + 1) f fd ["word"] spBeatsOf := by
  refine F.ok sc_beats_of (fun vs H Q E h => ?_) (fun cdv A outer s H vs Q E hr h => ?_)
  · obtain ⟨u, rfl, _⟩ := h; rfl
  obtain ⟨u, rfl, hw, lu, q⟩ := h
  obtain ⟨aB, es, n, gB, lk, kl, hB⟩ := cB
  have nd := sc_beats_of.nd
  refine ⟨_, (pss_cons (ps_set (i := 1) nd rfl (Or.inl rfl) (pe_lst pa_nil))
      (pss_cons (ps_for PassesOwn.never rfl (pi_str (pv 0)) (pg_name (i := 2) nd rfl (Or.inl rfl)) (pss_one (ps_for PassesOwn.never rfl (pi_tup (pe_ix (ix_modK (K := K) (Pm := w.params) rfl rfl) (pe_glob (v := .ref aB) rfl gB rfl) (pv 2) (fun _ _ => rfl))) (pg_name (i := 3) nd rfl (Or.inl rfl)) (pss_one (ps_expr (pe_calls c_add_beat hr rfl (pa_cons (pv 1) (pa_cons (pv 3) pa_nil))))))))
      (pss_one (ps_ret (pv 1))))), ?_⟩
  refine ⟨Nat.zero_le _, fun l hl => ?_⟩
  refine ⟨_, rfl, _, rfl, ?_⟩
  refine for_on (Ok := fun _ => True) ItOn.str (fun i σ' H' => Same H H' ∧ (∃ l2 l3, σ' = [some (.str (S u)), some (.ref l), l2, l3]) ∧ H' l = some (.lst (bV (beatsOf (u.take i))))) ⟨same_new hl _, ⟨_, _, rfl⟩, upd_same⟩ (fun _ _ _ _ _ => trivial) ?_ ?_
  · rintro i x σ' H1 hx ⟨s1, ⟨l2, l3, rfl⟩, h1⟩
    obtain ⟨c, hc, rfl⟩ := sg_at hx
    obtain ⟨b, nb, tb⟩ := hB c (hw c (List.mem_of_getElem? hc))
    refine ⟨_, rfl, aB, es, n, _, .ref b, _, rfl, rfl, lk, kl, nb, rfl, b, rfl, ⟨_, tb _⟩, ?_⟩
    refine for_on ItOn.tup (fun j σ' H' => Same H H' ∧ (∃ l3, σ' = [some (.str (S u)), some (.ref l), some (.str (S [c])), l3]) ∧ H' l = some (.lst (bV (((bts c).take j).foldl pushB (beatsOf (u.take i)))))) ⟨s1, ⟨_, rfl⟩, h1⟩ (fun _ _ _ _ _ => tb _) ?_ ?_
    · rintro j y σ' H2 hy ⟨s2, ⟨l4, rfl⟩, h2⟩
      unfold bV at hy
      obtain ⟨cc, hcc, rfl⟩ := sV_at hy
      rw [List.getElem?_map] at hcc
      cases e : (bts c)[j]? with
      | none => rw [e] at hcc; cases hcc
      | some z =>
        rw [e] at hcc
        cases hcc
        have hn : (((bts c).take j).foldl pushB (beatsOf (u.take i))).length ≤ 1000000 := by
          have a1 := fold_push_len ((bts c).take j) (beatsOf (u.take i))
          have a2 := beats_len (u.take i)
          have a3 : (u.take i).length ≤ u.length := by rw [List.length_take]; omega
          have a4 : ((bts c).take j).length ≤ (bts c).length := by rw [List.length_take]; omega
          have := bts_len c
          omega
        refine ⟨_, rfl, _, rfl, l, _, z, rfl, h2, hn, s2.up hl, ⟨_, rfl⟩, ?_⟩
        rw [upd_same, List.take_add_one, e, List.foldl_append]
        rfl
    · rintro σ' H2 ⟨s2, ⟨l4, rfl⟩, h2⟩
      refine ⟨s2, ⟨_, _, rfl⟩, ?_⟩
      rw [h2, bV_len, List.take_length, take_snoc hc, beats_snoc]
  · rintro σ' H1 ⟨s1, ⟨l2, l3, rfl⟩, h1⟩
    refine ⟨_, rfl, q l H1 hl s1 ?_⟩
    rw [h1, sgV_length]
    show some (HO.lst (bV (beatsOf (u.take (S u).length)))) = _
    rw [S_len, List.take_length]

abbrev s_word_and_round : Stmt := top 37
theorem sc_word_and_round : FnScope ["dance", "beats", "first"] ["dance"] (defScope s_word_and_round) := ⟨rfl, rfl, rfl, by decide +kernel, rfl, by decide +kernel, by decide +kernel⟩
theorem ok_word_and_round (G : Glo mg) (F : Fun K "word_and_round" "word_and_round" s_word_and_round f fd) (c_beats_of : Callee P w K mg base k "beats_of" ["word"] spBeatsOf) (c_add_beat : Callee P w K mg base k "add_beat" ["beats", "beat"] spAddBeat) : FnOk P w K mg base CX0 (k + 1) f fd ["dance"] spWR := by
  refine F.ok sc_word_and_round (fun vs H Q E h => ?_) (fun cdv A outer s H vs Q E hr h => ?_)
  · obtain ⟨u, rfl, _⟩ := h; rfl
  obtain ⟨u, rfl, hw, lu, q⟩ := h
  have nd := sc_word_and_round.nd
  refine ⟨_, (pss_cons (ps_set (i := 1) nd rfl (Or.inl rfl) (pe_calls c_beats_of hr rfl (pa_cons (pv 0) pa_nil)))
      (pss_cons (ps_set (i := 2) nd rfl (Or.inl rfl) pe_int)
      (pss_cons (ps_while PassesOwn.never (PW.pt (pw_and (pt_cmpR op_gt (pe_op op_sub (pe_callB (call_lenK (K := K) rfl) rfl G.n_len bt_len (pa_cons (pv 1) pa_nil)) (pv 2)) pe_int (nomark _)) (pw_and1 (PW.pt (pw_or (pt_cmpR op_ne (pe_ix (ix_lstK (K := K) rfl) (pv 1) (pv 2) (fun _ _ => rfl)) pe_str (nomark _)) (pw_or1 (pt_cmpR op_eq (pe_ix (ix_lstK (K := K) rfl) (pv 1) (pe_un un_neg pe_int) (fun _ _ => rfl)) pe_str (nomark _)))))))) (pss_cons (ps_expr (pe_calls c_add_beat hr rfl (pa_cons (pv 1) (pa_cons (pe_ix (ix_lstK (K := K) rfl) (pv 1) (pv 2) (fun _ _ => rfl)) pa_nil))))
      (pss_one (ps_aug (i := 2) nd rfl (Or.inl rfl) pe_int ip_add (Or.inl rfl)))))
      (pss_one (ps_ret (pe_tup (pa_cons (pe_bm PySem.F.plainAttrs_str PySem.F.slot_str_join PySem.F.type_str_join mt_join pe_str (pa_cons (pe_slice (sl_lst (K := K) rfl) (pv 1) po_none (po_some (pv 2))) pa_nil)) (pa_cons (pe_bm PySem.F.plainAttrs_str PySem.F.slot_str_join PySem.F.type_str_join mt_join pe_str (pa_cons (pe_slice (sl_lst (K := K) rfl) (pv 1) (po_some (pv 2)) po_none) pa_nil)) pa_nil)))))))), ?_⟩
  refine ⟨_, rfl, u, rfl, hw, lu, fun l H1 hl s1 h1 => ?_⟩
  have hb0 := beats_len u
  refine while_by (fun σ' H' => Same H H' ∧ ∃ (A C : List Syl), σ' = [some (.str (S u)), some (.ref l), some (.int (A.length : Nat))] ∧ H' l = some (.lst (bV (A ++ C))) ∧ Cj u (tw A) (tw C) ∧ alt C ∧ A.length + mu C ≤ 4 * u.length + 1)
    (fun σ' _ => match σ' with | [_, _, some (.int n)] => (4 * (u.length : Int) + 2 - n).toNat | _ => 0) ⟨s1, [], beatsOf u, rfl, h1, fun f hf => (beats_walk hw hf).symm, beats_alt u, ?_⟩ ?_
    (mo_and (mo_test (mo_op mo_rI0 (mo_op mo_rI0 (mo_len (mo_cons mo_var mo_nil)) mo_var) mo_c)) (mo_or (mo_test (mo_op mo_ne (mo_op mo_ixL mo_var mo_var) mo_c)) (mo_test (mo_op mo_eq (mo_op mo_ixL mo_var (mo_un mo_rU mo_c)) mo_c))))
  · have := mu_le (beatsOf u)
    simp only [List.length_nil]
    omega
  rintro σ' H2 ⟨s2, A, C, rfl, h2, hcj, halt, hmu⟩
  have hge := mu_ge C
  have hlen : ((bV (A ++ C)).length : Int) - (A.length : Int) = (C.length : Int) := by
    rw [bV_len, List.length_append]
    omega
  have fin : (C.length ≤ 1 ∨ (C.head? = some Syl.r ∧ C.getLast? ≠ some Syl.r)) → ∀ (R : V → Hp → Prop), (∀ t H', Same H H' → H' t = some (.tup [.str (S (tw A)), .str (S (tw C))]) → R (.ref t) H') →
      (tTup (tCons (tBM K "str" (rJoin K) (tC (.str "")) (tCons (tSl (rSlL K) (tVar 1) tNoPart (tPart (tVar 2))) tNil)) (tCons (tBM K "str" (rJoin K) (tC (.str "")) (tCons (tSl (rSlL K) (tVar 1) (tPart (tVar 2)) tNoPart) tNil)) tNil))) [some (.str (S u)), some (.ref l), some (.int (A.length : Nat))] H2 R := by
    intro hx R hR
    have lA : A.length ≤ 4 * u.length + 1 := by omega
    have cA : cutV (bV (A ++ C)) none (some (A.length : Int)) = sV (A.map Syl.wd) := by
      rw [cut_list_to _ (by rw [bV_len, List.length_append]; omega), bV_take, List.take_left' rfl]
      rfl
    have cC : cutV (bV (A ++ C)) (some (A.length : Int)) none = sV (C.map Syl.wd) := by
      rw [cut_list_from _ (by rw [bV_len, List.length_append]; omega), bV_drop, List.drop_left' rfl]
      rfl
    have tA := tw_len A
    have tC := tw_len C
    refine ⟨rfl, _, rfl, _, rfl, _, rfl, l, _, rfl, SqL.of h2, fun p hp => ?_⟩
    refine ⟨_, p, (A.map Syl.wd).map S, rfl, rfl, SqL_sV upd_same cA, sz_all (by rw [flat_tw]; omega), ?_⟩
    rw [join_all]
    have h3 := same_new hp (.lst (cutV (bV (A ++ C)) none (some (A.length : Int)))) _ _ h2
    refine ⟨rfl, _, rfl, _, rfl, _, rfl, l, _, rfl, SqL.of h3, fun p2 hp2 => ?_⟩
    refine ⟨_, p2, (C.map Syl.wd).map S, rfl, rfl, SqL_sV upd_same cC, sz_all (by rw [flat_tw]; omega), ?_⟩
    rw [join_all]
    refine ⟨two_ok, fun t ht => hR t _ (((s2.trans (same_new hp _)).trans (same_new hp2 _)).trans (same_new ht _)) ?_⟩
    rw [upd_same, flat_tw, flat_tw]
  by_cases h1 : C.length ≤ 1
  · refine ev_and (b := false) (c := false) (fun R r => ⟨_, rfl, _, _, rfl, .inl ⟨_, SqL.of h2, rfl⟩, _, rfl, _, _, rfl, rfl, _, _, rfl, rfl, _, rfl, by rw [hlen, decide_eq_false (by omega)]; exact r⟩) (fun e => by cases e) _ ?_
    refine iteF ?_
    exact fin (.inl h1) _ fun t H' s' h' => q t A C H' s' h' ⟨hcj, exit_Rd halt (.inl h1), by omega, by omega⟩
  · obtain ⟨b, C', rfl⟩ : ∃ b C', C = b :: C' := by
      cases C with
      | nil => exact absurd (by simp) h1
      | cons b C' => exact ⟨b, C', rfl⟩
    have hC' : C' ≠ [] := by
      intro e
      subst e
      exact h1 (by simp)
    obtain ⟨D, y, rfl⟩ := snoc_of hC'
    have eAt : atI (bV (A ++ b :: (D ++ [y]))) ((A.length : Nat) : Int) = some (.str (S (Syl.wd b))) := by
      refine atI_nat ?_
      rw [bV_append, List.getElem?_append_right (by rw [bV_len]; omega), bV_len, Nat.sub_self, bV_cons]
      rfl
    have eLast : atI (bV (A ++ b :: (D ++ [y]))) (-1) = some (.str (S (Syl.wd y))) := by
      have e : bV (A ++ b :: (D ++ [y])) = bV (A ++ b :: D) ++ [.str (S (Syl.wd y))] := by
        rw [← bV_one, ← bV_append]
        congr 1
        simp
      rw [e]
      exact atI_last _ _
    refine ev_and (b := true) (c := (!decide (b = Syl.r)) || decide (y = Syl.r)) (fun R r => ⟨_, rfl, _, _, rfl, .inl ⟨_, SqL.of h2, rfl⟩, _, rfl, _, _, rfl, rfl, _, _, rfl, rfl, _, rfl, by rw [hlen, decide_eq_true (by omega)]; exact r⟩)
      (fun _ => ev_or (fun R r => ⟨_, rfl, _, rfl, l, _, _, .str (S (Syl.wd b)), rfl, rfl, SqL.of h2, eAt, rfl, _, rfl, by rw [eq_r]; exact r⟩) (fun _ R r => ⟨_, rfl, _, rfl, l, _, _, .str (S (Syl.wd y)), rfl, rfl, SqL.of h2, eLast, rfl, _, rfl, by rw [eq_r]; exact r⟩)) _ ?_
    refine ite2 (fun c => ?_) (fun c => ?_)
    · have c' : b ≠ Syl.r ∨ (D ++ [y]).getLast? = some Syl.r := by
        rw [Bool.true_and, Bool.or_eq_true] at c
        rcases c with c | c
        · exact .inl (by simpa using c)
        · exact .inr (by simpa using c)
      have hm := turn_mu hC' halt c'
      have hl2 : (A ++ b :: (D ++ [y])).length ≤ 1000000 := by
        rw [List.length_append]
        omega
      refine ⟨_, rfl, _, rfl, _, rfl, l, _, _, .str (S (Syl.wd b)), rfl, rfl, SqL.of h2, eAt, l, A ++ b :: (D ++ [y]), b, rfl, h2, hl2, ?_⟩
      refine ⟨_, rfl, _, _, rfl, rfl, ⟨s2.up hl, A ++ [b], pushB (D ++ [y]) b, ?_, ?_, hcj.turn, pushB_alt (alt_tail halt), ?_⟩, ?_⟩
      · rw [List.length_append]
        rfl
      · rw [upd_same]
        have e : A ++ b :: (D ++ [y]) = (A ++ [b]) ++ (D ++ [y]) := by simp
        rw [e, pushB_app _ _ hC']
      · rw [List.length_append]
        simp only [List.length_cons, List.length_nil]
        omega
      · show (4 * (u.length : Int) + 2 - ((A.length : Int) + 1)).toNat < (4 * (u.length : Int) + 2 - (A.length : Int)).toNat
        omega
    · have c' : (b :: (D ++ [y])).head? = some Syl.r ∧ (b :: (D ++ [y])).getLast? ≠ some Syl.r := by
        rw [Bool.true_and, Bool.or_eq_true] at c
        refine ⟨?_, ?_⟩
        · have : b = Syl.r := Classical.byContradiction fun z => c (.inl (by simpa using z))
          rw [this]; rfl
        · intro z
          refine c (.inr ?_)
          have e : (b :: (D ++ [y])).getLast? = some y := by
            rw [← List.cons_append, List.getLast?_append]
            rfl
          rw [e] at z
          simpa using z
      exact fin (.inr c') _ fun t H' s' h' => q t A _ H' s' h' ⟨hcj, exit_Rd halt (.inr c'), by omega, by omega⟩

end
end K07

set_option Elab.async false
set_option linter.all false
set_option maxRecDepth 100000
set_option maxHeartbeats 4000000
namespace K07
open PySem L2 TW TX
seal L2.PE L2.PT L2.PA L2.PS L2.PSs L2.PI L2.PG L2.PGs L2.PPs L2.PW L2.PTs L2.PO
section
variable {P : Program} {w : World} {K : PySem.W.Frag} {mg : Str → Option Value} {base : Heap} {f : Addr} {fd : FuncData} {k : Nat}
abbrev s_take_pair : Stmt := top 33
theorem sc_take_pair : FnScope ["letters", "steps", "second", "first"] ["letters", "steps"] (defScope s_take_pair) := ⟨rfl, rfl, rfl, by decide +kernel, rfl, by decide +kernel, by decide +kernel⟩
theorem ok_take_pair (G : Glo mg) (F : Fun K "take_pair" "take_pair" s_take_pair f fd) : FnOk P w K mg base CX0 (k + 1) f fd ["letters", "steps"] spTake := by
  refine F.ok sc_take_pair (fun vs H Q E h => ?_) (fun cdv A outer s H vs Q E hr h => ?_)
  · obtain ⟨l, m, a, b, y, zs, rfl, _⟩ := h; rfl
  obtain ⟨l, m, a, b, y, zs, rfl, ne, hl, hm, ly, lz, q⟩ := h
  have nd := sc_take_pair.nd
  refine ⟨_, (pss_cons (ps_set (i := 2) nd rfl (Or.inl rfl) (pe_bm0 PySem.F.plainAttrs_list PySem.F.slot_list_pop PySem.F.type_list_pop mt_pop (pv 0)))
      (pss_cons (ps_set (i := 3) nd rfl (Or.inl rfl) (pe_bm0 PySem.F.plainAttrs_list PySem.F.slot_list_pop PySem.F.type_list_pop mt_pop (pv 0)))
      (pss_one (ps_expr (pe_bm PySem.F.plainAttrs_list PySem.F.slot_list_append PySem.F.type_list_append mt_append (pv 1) (pa_cons (pe_tup (pa_cons pe_str (pa_cons (pe_callB (call_lenK (K := K) rfl) rfl G.n_len bt_len (pa_cons (pv 0) pa_nil)) (pa_cons (pe_op op_add_str (pv 3) (pv 2)) pa_nil)))) pa_nil)))))), ?_⟩
  have e1 : lv (y ++ [a, b]) = (lv y ++ [.str (S [a])]) ++ [.str (S [b])] := by
    rw [lv_append, List.append_assoc]
    rfl
  refine ⟨_, rfl, .inl ⟨rfl, _, SqL.of hl⟩, l, _, .str (S [b]), rfl, rfl, hl, by rw [e1]; exact last_snoc _ _, ?_⟩
  rw [e1, List.dropLast_concat]
  refine ⟨_, rfl, .inl ⟨rfl, _, SqL.of upd_same⟩, l, _, .str (S [a]), rfl, rfl, upd_same, last_snoc _ _, ?_⟩
  rw [upd_upd, List.dropLast_concat]
  have hm2 : upd H l (.lst (lv y)) m = some (.lst zs) := by rw [upd_ne (Ne.symm ne)]; exact hm
  have b1 : But l m H (upd H l (.lst (lv y))) := (But.refl l m H).updL
  have hl2 := @upd_same H l (.lst (lv y))
  generalize upd H l (.lst (lv y)) = H2 at *
  refine ⟨_, rfl, .inl ⟨rfl, _, SqL.of hm2⟩, _, rfl, _, _, rfl, .inl ⟨_, SqL.of hl2, rfl⟩, _, rfl, _, rfl, _, _, rfl, rfl, by rw [S_len, S_len]; exact big (show 1 + 1 ≤ 1000000 by decide), three_ok, fun p hp => ?_⟩
  have pl : l ≠ p := ne_of_none hl2 hp
  have pm : m ≠ p := ne_of_none hm2 hp
  refine ⟨m, zs, .ref p, rfl, rfl, by rw [upd_ne pm]; exact hm2, by have := sizeLine_eq; omega, ?_⟩
  refine q p _ (b1.same (same_new hp _)).updM ?_ ?_ upd_same
  · rw [upd_ne ne, upd_ne pl]
    exact hl2
  · rw [upd_ne (Ne.symm pm), upd_same, lv_len, S_app]
    rfl

abbrev s_turn_over : Stmt := top 34
theorem sc_turn_over : FnScope ["letters", "steps", "three", "letter", "at", "step"] ["letters", "steps"] (defScope s_turn_over) := ⟨rfl, rfl, rfl, by decide +kernel, rfl, by decide +kernel, by decide +kernel⟩
theorem never_r {x : List Nat} (h : Rr x) (h2 : x.take 3 = [116, 114, 116] ∨ x.take 3 = [117, 114, 117]) : False := by
  obtain ⟨y, rfl⟩ := h
  rcases h2 with h2 | h2 <;> cases h2
/-- a word that ends in r is never turned over -/
theorem ok_turn_over_n (F : Fun K "turn_over" "turn_over" s_turn_over f fd) : FnOk P w K mg base CX0 (k + 1) f fd ["letters", "steps"] (spTurn Rr 600000) := by
  refine F.ok sc_turn_over (fun vs H Q E h => ?_) (fun cdv A outer s H vs Q E hr h => ?_)
  · obtain ⟨l, m, x, zs, rfl, _⟩ := h; rfl
  · obtain ⟨l, m, x, zs, rfl, ne, hR, h3, _⟩ := h
    exact (never_r hR h3).elim

abbrev s_settle : Stmt := top 32
theorem sc_settle : FnScope ["letters", "steps"] ["letters", "steps"] (defScope s_settle) := ⟨rfl, rfl, rfl, by decide +kernel, rfl, by decide +kernel, by decide +kernel⟩
theorem ok_settle {R : List Nat → Prop} {N : Nat} (hN : N ≤ 1000000) (cP : PairsOut K mg) (cO : Over K mg w.params) (F : Fun K "settle" "settle" s_settle f fd) (c_take_pair : Callee P w K mg base k "take_pair" ["letters", "steps"] spTake) (c_turn_over : Callee P w K mg base k "turn_over" ["letters", "steps"] (spTurn R N)) : FnOk P w K mg base CX0 (k + 1) f fd ["letters", "steps"] (spSettle R N) := by
  refine F.ok sc_settle (fun vs H Q E h => ?_) (fun cdv A outer s H vs Q E hr h => ?_)
  · obtain ⟨l, m, x, zs, rfl, _⟩ := h; rfl
  obtain ⟨l, m, x, zs, rfl, ne, hR, hl, hm, lx, lz, q⟩ := h
  obtain ⟨aP, gP, hP⟩ := cP
  obtain ⟨aO, es, n, bT, bU, gO, lk, kl, sm, x1, x2, f1, f2, hno⟩ := cO
  refine ⟨_, (pss_one (ps_if (pt_cmpR (op_inSq (K := K) rfl) (pe_bm PySem.F.plainAttrs_str PySem.F.slot_str_join PySem.F.type_str_join mt_join pe_str (pa_cons (pe_slice (sl_lst (K := K) rfl) (pv 0) (po_some (pe_un un_neg pe_int)) po_none) pa_nil)) (pe_glob (v := .ref aP) rfl gP rfl) rfl) (pss_one (ps_expr (pe_calls c_take_pair hr rfl (pa_cons (pv 0) (pa_cons (pv 1) pa_nil))))) (pss_one (ps_if (pt_cmpR (op_inMK (K := K) (Pm := w.params) rfl rfl) (pe_bm PySem.F.plainAttrs_str PySem.F.slot_str_join PySem.F.type_str_join mt_join pe_str (pa_cons (pe_slice (sl_lst (K := K) rfl) (pv 0) (po_some (pe_un un_neg pe_int)) po_none) pa_nil)) (pe_glob (v := .ref aO) rfl gO rfl) rfl) (pss_one (ps_expr (pe_calls c_turn_over hr rfl (pa_cons (pv 0) (pa_cons (pv 1) pa_nil))))) pss_nil)))), ?_⟩
  have c2 := cut_lv x 2 (by decide)
  have c3 := cut_lv x 3 (by decide)
  have l2 : ((x.take 2).reverse.map fun c => [c]).flatten.length ≤ 1000000 := by rw [flat1, List.length_reverse, List.length_take]; omega
  have l3 : ((x.take 3).reverse.map fun c => [c]).flatten.length ≤ 1000000 := by rw [flat1, List.length_reverse, List.length_take]; omega
  refine ⟨rfl, _, rfl, _, rfl, _, rfl, l, _, rfl, SqL.of hl, fun p hp => ?_⟩
  refine ⟨_, p, _, rfl, rfl, SqL_sV upd_same c2, sz_all l2, ?_⟩
  rw [join_all, flat1]
  have s1 := same_new hp (.lst (cutV (lv x.reverse) (some (-(2 : Nat) : Int)) none))
  have hl1 := s1 _ _ hl
  have hm1 := s1 _ _ hm
  refine ⟨aP, _, rfl, .inr (hP _), rfl, flat_sV _, _, rfl, ?_⟩
  rw [if_neg Bool.false_ne_true, inV_S]
  refine ite2 (fun c => ?_) (fun c => ?_)
  · have hmem : (x.take 2).reverse ∈ prs := List.contains_iff_mem.mp c
    have es : sett x = x.drop 2 ∧ stepsOf x = [(false, ((x.length - 2 : Nat) : Int), (x.take 2).reverse)] := by
      unfold sett stepsOf
      rw [if_pos hmem, if_pos hmem]
      exact ⟨rfl, rfl⟩
    obtain ⟨a, b, y, rfl⟩ := mem_prs hmem
    have er : (b :: a :: y).reverse = y.reverse ++ [a, b] := by simp
    refine ⟨_, rfl, _, rfl, l, m, a, b, y.reverse, zs, rfl, ne, (by rw [← er]; exact hl1), hm1, ?_, by omega, fun p2 H2 b2 e1 e2 e3 => ?_⟩
    · rw [List.length_reverse]
      simp only [List.length_cons] at lx
      omega
    refine q H2 (Settled.same s1 ⟨[.ref p2], b2, ?_, e3, ?_⟩)
    · rw [es.1]; exact e1
    · rw [es.2]
      refine ⟨⟨p2, rfl, ?_⟩, trivial⟩
      rw [e2, List.length_reverse]
      rfl
  · have hnot : ¬ (x.take 2).reverse ∈ prs := fun z => c (List.contains_iff_mem.mpr z)
    refine ⟨rfl, _, rfl, _, rfl, _, rfl, l, _, rfl, SqL.of hl1, fun p3 hp3 => ?_⟩
    refine ⟨_, p3, _, rfl, rfl, SqL_sV upd_same c3, sz_all l3, ?_⟩
    rw [join_all, flat1]
    have s2 := same_new hp3 (.lst (cutV (lv x.reverse) (some (-(3 : Nat) : Int)) none))
    have hl2 := s2 _ _ hl1
    have hm2 := s2 _ _ hm1
    by_cases hk : x.take 3 = [116, 114, 116] ∨ x.take 3 = [117, 114, 117]
    · have hns : ∃ b, PySem.W.nsIn K aO (S (x.take 3).reverse) = some (some (.ref b)) := by
        rcases hk with hk | hk
        · rw [hk]; exact ⟨_, x1⟩
        · rw [hk]; exact ⟨_, x2⟩
      obtain ⟨b, hb⟩ := hns
      refine ⟨aO, es, n, _, _, rfl, rfl, lk, kl, hb, sm, _, rfl, ite2 (fun _ => ?_) (fun c => absurd rfl c)⟩
      exact ⟨_, rfl, _, rfl, l, m, x, zs, rfl, ne, hR, hk, hl2, hm2, lx, lz, fun H' st => q H' (Settled.same (s1.trans s2) st)⟩
    · have h1 : x.take 3 ≠ [116, 114, 116] := fun z => hk (.inl z)
      have h2 : x.take 3 ≠ [117, 114, 117] := fun z => hk (.inr z)
      refine ⟨aO, es, n, _, _, rfl, rfl, lk, kl, hno _ (take3_ne h1) (take3_ne h2), sm, _, rfl, ite2 (fun c => by cases c) (fun _ => ?_)⟩
      obtain ⟨e1, e2⟩ := sett_no hnot h1 h2
      refine q _ (Settled.same (s1.trans s2) ⟨[], But.refl _ _ _, ?_, ?_, ?_⟩)
      · rw [e1]; exact hl2
      · rw [List.append_nil]; exact hm2
      · rw [e2]; trivial

theorem ok_turn_over (G : Glo mg) (cO : Over K mg w.params) (F : Fun K "turn_over" "turn_over" s_turn_over f fd) (c_settle : Callee P w K mg base k "settle" ["letters", "steps"] (spSettle Rr 600000)) (c_back : Callee P w K mg base k "back" ["word"] spBack) : FnOk P w K mg base CX0 (k + 1) f fd ["letters", "steps"] (spTurn Rall 500000) := by
  refine F.ok sc_turn_over (fun vs H Q E h => ?_) (fun cdv A outer s H vs Q E hr h => ?_)
  · obtain ⟨l, m, x, zs, rfl, _⟩ := h; rfl
  obtain ⟨l, m, x, zs, rfl, ne, _, hk, hl, hm, lx, lz, q⟩ := h
  obtain ⟨aO, es, n, bT, bU, gO, lk, kl, sm, x1, x2, f1, f2, hno⟩ := cO
  obtain ⟨e, d, ov, b4, TA⟩ := turn_as hk x1 x2 f1 f2
  have nd := sc_turn_over.nd
  refine ⟨_, (pss_cons (ps_set (i := 2) nd rfl (Or.inl rfl) (pe_bm PySem.F.plainAttrs_str PySem.F.slot_str_join PySem.F.type_str_join mt_join pe_str (pa_cons (pe_slice (sl_lst (K := K) rfl) (pv 0) (po_some (pe_un un_neg pe_int)) po_none) pa_nil)))
      (pss_cons (ps_for PassesOwn.never rfl (pi_str (pv 2)) (pg_name (i := 3) nd rfl (Or.inl rfl)) (pss_one (ps_expr (pe_bm0 PySem.F.plainAttrs_list PySem.F.slot_list_pop PySem.F.type_list_pop mt_pop (pv 0)))))
      (pss_cons (ps_set (i := 4) nd rfl (Or.inl rfl) (pe_callB (call_lenK (K := K) rfl) rfl G.n_len bt_len (pa_cons (pv 0) pa_nil)))
      (pss_cons (ps_for PassesOwn.never rfl (pi_tup (pe_ix (ix_modK (K := K) (Pm := w.params) rfl rfl) (pe_glob (v := .ref aO) rfl gO rfl) (pv 2) (fun _ _ => rfl))) (pg_name (i := 5) nd rfl (Or.inl rfl)) (pss_one (ps_expr (pe_bm PySem.F.plainAttrs_list PySem.F.slot_list_append PySem.F.type_list_append mt_append (pv 1) (pa_cons (pe_tup (pa_cons (pe_ix (ix_tupK (K := K) rfl) (pv 5) pe_int (fun _ _ => rfl)) (pa_cons (pe_op op_add (pv 4) (pe_ix (ix_tupK (K := K) rfl) (pv 5) pe_int (fun _ _ => rfl))) (pa_cons (pe_ix (ix_tupK (K := K) rfl) (pv 5) pe_int (fun _ _ => rfl)) pa_nil)))) pa_nil)))))
      (pss_cons (ps_expr (pe_bm PySem.F.plainAttrs_list PySem.F.slot_list_append PySem.F.type_list_append mt_append (pv 0) (pa_cons pe_str pa_nil)))
      (pss_cons (ps_expr (pe_calls c_settle hr rfl (pa_cons (pv 0) (pa_cons (pv 1) pa_nil))))
      (pss_cons (ps_expr (pe_bm PySem.F.plainAttrs_list PySem.F.slot_list_append PySem.F.type_list_append mt_append (pv 0) (pa_cons (pe_calls c_back hr rfl (pa_cons (pe_ix ix_str (pv 2) pe_int (fun _ _ => rfl)) pa_nil)) pa_nil)))
      (pss_one (ps_expr (pe_bm PySem.F.plainAttrs_list PySem.F.slot_list_append PySem.F.type_list_append mt_append (pv 0) (pa_cons pe_str pa_nil))))))))))), ?_⟩
  have c3 := cut_lv x 3 (by decide)
  have l3 : ((x.take 3).reverse.map fun c => [c]).flatten.length ≤ 1000000 := by rw [flat1, List.length_reverse, List.length_take]; omega
  have e3 : (x.take 3).reverse = [e, 114, e] := by rw [TA.tk]; rfl
  have hx3 : 3 ≤ x.length := by
    have := congrArg List.length TA.tk
    rw [List.length_take] at this
    simp only [List.length_cons, List.length_nil] at this
    omega
  refine ⟨rfl, _, rfl, _, rfl, _, rfl, l, _, rfl, SqL.of hl, fun p hp => ?_⟩
  refine ⟨_, p, _, rfl, rfl, SqL_sV upd_same c3, sz_all l3, ?_⟩
  rw [join_all, flat1, e3]
  have s1 := same_new hp (.lst (cutV (lv x.reverse) (some (-(3 : Nat) : Int)) none))
  have hl1 := s1 _ _ hl
  have hm1 := s1 _ _ hm
  refine ⟨_, rfl, _, rfl, ?_⟩
  refine for_on (Ok := fun _ => True) ItOn.str (fun i σ' H' => (∃ l3, σ' = [some (.ref l), some (.ref m), some (.str (S [e, 114, e])), l3, none, none]) ∧ But l m H H' ∧ H' l = some (.lst (lv (x.drop i).reverse)) ∧ H' m = some (.lst zs)) ⟨⟨_, rfl⟩, (But.refl l m H).same s1, hl1, hm1⟩ (fun _ _ _ _ _ => trivial) ?_ ?_
  · rintro i y σ' H2 hy ⟨⟨l3, rfl⟩, b2, hl2, hm2⟩
    have hi : i < 3 := by
      have := (List.getElem?_eq_some_iff.mp hy).1
      rwa [sgV_length] at this
    have ed : x.drop i = x[i]'(by omega) :: x.drop (i + 1) := List.drop_eq_getElem_cons (by omega)
    have ev : lv (x.drop i).reverse = lv (x.drop (i + 1)).reverse ++ [.str (S [x[i]'(by omega)])] := by
      rw [ed, List.reverse_cons, lv_append]
      rfl
    refine ⟨_, rfl, .inl ⟨rfl, _, SqL.of hl2⟩, l, _, .str (S [x[i]'(by omega)]), rfl, rfl, hl2, by rw [ev]; exact last_snoc _ _, ⟨_, rfl⟩, b2.updL, ?_, ?_⟩
    · rw [upd_same, ev, List.dropLast_concat]
    · rw [upd_ne (Ne.symm ne)]; exact hm2
  rintro σ' H2 ⟨⟨l3, rfl⟩, b2, hl2, hm2⟩
  have hl2 : H2 l = some (.lst (lv (x.drop 3).reverse)) := hl2
  have en : (lv (x.drop 3).reverse).length = x.length - 3 := by rw [lv_len, List.length_reverse, List.length_drop]
  refine ⟨_, rfl, _, _, rfl, .inl ⟨_, SqL.of hl2, rfl⟩, ?_⟩
  rw [en]
  obtain ⟨rs, hrs, lrs, har⟩ := TA.four.at
  refine ⟨_, rfl, aO, es, n, _, .ref b4, _, rfl, rfl, lk, kl, TA.ns, rfl, b4, rfl, ⟨_, hrs _⟩, ?_⟩
  refine for_on ItOn.tup (fun j σ' H' => (∃ l3 l5, σ' = [some (.ref l), some (.ref m), some (.str (S [e, 114, e])), l3, some (.int ((x.length - 3 : Nat) : Int)), l5]) ∧ But l m H H' ∧ H' l = some (.lst (lv (x.drop 3).reverse)) ∧ ∃ ps, H' m = some (.lst (zs ++ ps)) ∧ StpsAt H' ps ((ov (x.length - 3)).take j)) ⟨⟨_, _, rfl⟩, b2, hl2, [], by rw [List.append_nil]; exact hm2, trivial⟩ (fun _ _ _ _ _ => hrs _) ?_ ?_
  · rintro j y σ' H3 hy ⟨⟨l4, l5, rfl⟩, b3, hl3, ps, hm3, hps⟩
    obtain ⟨pj, t, rfl, ht, hT⟩ := har j y hy
    have hlen := hps.len
    have hp4 : ps.length ≤ 4 := by
      rw [hlen, List.length_take, TA.len]
      omega
    refine ⟨_, rfl, .inl ⟨rfl, _, SqL.of hm3⟩, _, rfl, pj, _, _, _, rfl, rfl, hT _, rfl, _, rfl, _, rfl, pj, _, _, _, rfl, rfl, hT _, rfl, _, _, rfl, rfl, _, rfl, pj, _, _, _, rfl, rfl, hT _, rfl, three_ok, fun p3 hp3 => ?_⟩
    have pl : l ≠ p3 := ne_of_none hl3 hp3
    have pm : m ≠ p3 := ne_of_none hm3 hp3
    refine ⟨m, zs ++ ps, .ref p3, rfl, rfl, by rw [upd_ne pm]; exact hm3, by rw [List.length_append]; have := sizeLine_eq; omega, ⟨_, _, rfl⟩, (b3.same (same_new hp3 _)).updM, ?_, ps ++ [.ref p3], ?_, ?_⟩
    · rw [upd_ne ne, upd_ne pl]; exact hl3
    · rw [upd_same, List.append_assoc]
    · have a1 := TA.at_ (x.length - 3) j t ht
      rw [List.take_add_one, a1]
      refine StpsAt.snoc (StpsAt.upd (by rw [upd_ne pm]; exact hm3) (hps.same (same_new hp3 _))) ?_
      rw [upd_ne (Ne.symm pm), upd_same]
      rfl
  rintro σ' H3 ⟨⟨l4, l5, rfl⟩, b3, hl3, ps, hm3, hps⟩
  rw [lrs, List.take_of_length_le (by rw [TA.len]; omega)] at hps
  have hp4 : ps.length = 4 := by rw [hps.len, TA.len]
  have ld : (lv (x.drop 3).reverse).length < sizeLine := by
    rw [en]
    have := sizeLine_eq
    omega
  refine ⟨_, rfl, .inl ⟨rfl, _, SqL.of hl3⟩, l, _, _, rfl, rfl, hl3, ld, ?_⟩
  have er : lv (x.drop 3).reverse ++ [V.str "r"] = lv (114 :: x.drop 3).reverse := by
    rw [List.reverse_cons, lv_append, lit_r]
    rfl
  rw [er]
  have hm4 : upd H3 l (.lst (lv (114 :: x.drop 3).reverse)) m = some (.lst (zs ++ ps)) := by rw [upd_ne (Ne.symm ne)]; exact hm3
  refine ⟨_, rfl, _, rfl, l, m, 114 :: x.drop 3, zs ++ ps, rfl, ne, ⟨_, rfl⟩, upd_same, hm4, by rw [List.length_cons, List.length_drop]; omega, by rw [List.length_append]; omega, fun H5 st => ?_⟩
  obtain ⟨ps2, b5, hl5, hm5, hs5⟩ := st
  rw [sett_r] at hl5
  rw [steps_r] at hs5
  have hps4 : StpsAt (upd H3 l (.lst (lv (114 :: x.drop 3).reverse))) ps (ov (x.length - 3)) := StpsAt.upd hl3 hps
  have hps5 := StpsAt.but b5 upd_same hm4 hps4
  have B5 : But l m H H5 := b3.updL.trans b5
  have lp : (lv (pr (x.drop 3)).reverse).length + 10 < sizeLine := by
    rw [lv_len, List.length_reverse]
    have h1 := pr_len (x.drop 3)
    rw [List.length_drop] at h1
    have := sizeLine_eq
    omega
  refine ⟨_, rfl, .inl ⟨rfl, _, SqL.of hl5⟩, _, rfl, S [e, 114, e], 0, e, rfl, rfl, by rw [S_len]; exact big (show 3 ≤ 1000000 by decide), rfl, [e], rfl, (fun c hc => by rw [List.mem_singleton.mp hc]; exact TA.W), by simp, fun H6 s6 => ?_⟩
  rw [TA.bk]
  refine ⟨l, _, _, rfl, rfl, s6 _ _ hl5, by omega, ?_⟩
  refine ⟨_, rfl, .inl ⟨rfl, _, SqL.of upd_same⟩, l, _, _, rfl, rfl, upd_same, by rw [List.length_append]; simp only [List.length_cons, List.length_nil]; omega, ?_⟩
  rw [upd_upd]
  have hl6 := s6 _ _ hl5
  refine q _ ⟨ps ++ ps2, (B5.same s6).updL, ?_, ?_, ?_⟩
  · rw [upd_same, TA.st, List.reverse_cons, List.reverse_cons, lv_append, lv_append, lit_r]
    rfl
  · rw [upd_ne (Ne.symm ne), s6 _ _ hm5, List.append_assoc]
  · rw [TA.sp]
    exact StpsAt.upd hl6 ((hps5.append hs5).same s6)

abbrev s_made_plain : Stmt := top 31
theorem sc_made_plain : FnScope ["word", "letters", "steps", "letter"] ["word"] (defScope s_made_plain) := ⟨rfl, rfl, rfl, by decide +kernel, rfl, by decide +kernel, by decide +kernel⟩
theorem ok_made_plain (F : Fun K "made_plain" "made_plain" s_made_plain f fd) (c_settle : Callee P w K mg base k "settle" ["letters", "steps"] (spSettle Rall 500000)) : FnOk P w K mg base CX0 (k + 1) f fd ["word"] spPlain := by
  refine F.ok sc_made_plain (fun vs H Q E h => ?_) (fun cdv A outer s H vs Q E hr h => ?_)
  · obtain ⟨u, rfl, _⟩ := h; rfl
  obtain ⟨u, rfl, hw, lu, q⟩ := h
  have nd := sc_made_plain.nd
  refine ⟨_, (pss_cons (ps_set (i := 1) nd rfl (Or.inl rfl) (pe_lst pa_nil))
      (pss_cons (ps_set (i := 2) nd rfl (Or.inl rfl) (pe_lst pa_nil))
      (pss_cons (ps_for PassesOwn.never rfl (pi_str (pv 0)) (pg_name (i := 3) nd rfl (Or.inl rfl)) (pss_cons (ps_expr (pe_bm PySem.F.plainAttrs_list PySem.F.slot_list_append PySem.F.type_list_append mt_append (pv 1) (pa_cons (pv 3) pa_nil)))
      (pss_one (ps_expr (pe_calls c_settle hr rfl (pa_cons (pv 1) (pa_cons (pv 2) pa_nil)))))))
      (pss_one (ps_ret (pe_tup (pa_cons (pe_bm PySem.F.plainAttrs_str PySem.F.slot_str_join PySem.F.type_str_join mt_join pe_str (pa_cons (pv 1) pa_nil)) (pa_cons (pv 2) pa_nil)))))))), ?_⟩
  refine ⟨Nat.zero_le _, fun l hl => ⟨Nat.zero_le _, fun m hm => ?_⟩⟩
  have ne : l ≠ m := ne_of_none upd_same hm
  have hm0 : H m = none := by rw [upd_ne (Ne.symm ne)] at hm; exact hm
  refine ⟨_, rfl, _, rfl, ?_⟩
  refine for_on (Ok := fun _ => True) ItOn.str (fun i σ' H' => (∃ l3, σ' = [some (.str (S u)), some (.ref l), some (.ref m), l3]) ∧ Same H H' ∧ H' l = some (.lst (lv (mps (u.take i)).2.reverse)) ∧ ∃ ps, H' m = some (.lst ps) ∧ StpsAt H' ps (mps (u.take i)).1) ⟨⟨_, rfl⟩, (same_new hl _).trans (same_new hm _), by rw [upd_ne ne, upd_same]; rfl, [], upd_same, trivial⟩ (fun _ _ _ _ _ => trivial) ?_ ?_
  · rintro i y σ' H1 hy ⟨⟨l3, rfl⟩, s1, hl1, ps, hm1, hps⟩
    obtain ⟨c, hc, rfl⟩ := sg_at hy
    obtain ⟨a1, a2⟩ := mps_len (u.take i)
    have a3 : (u.take i).length ≤ u.length := by rw [List.length_take]; omega
    have hlen : ps.length ≤ 500000 := by rw [hps.len]; omega
    refine ⟨_, rfl, .inl ⟨rfl, _, SqL.of hl1⟩, _, rfl, l, _, _, rfl, rfl, hl1, by rw [lv_len, List.length_reverse]; have := sizeLine_eq; omega, ?_⟩
    have er : lv (mps (u.take i)).2.reverse ++ [V.str (S [c])] = lv (c :: (mps (u.take i)).2).reverse := by
      rw [List.reverse_cons, lv_append]
      rfl
    rw [er]
    have hm2 : upd H1 l (.lst (lv (c :: (mps (u.take i)).2).reverse)) m = some (.lst ps) := by rw [upd_ne (Ne.symm ne)]; exact hm1
    refine ⟨_, rfl, _, rfl, l, m, c :: (mps (u.take i)).2, ps, rfl, ne, trivial, upd_same, hm2, by rw [List.length_cons]; omega, hlen, fun H2 st => ?_⟩
    obtain ⟨ps2, b2, hl3, hm3, hs3⟩ := st
    have h4 := StpsAt.but b2 upd_same hm2 (StpsAt.upd hl1 hps)
    have eu : mps (u.take (i + 1)) = ((mps (u.take i)).1 ++ stepsOf (c :: (mps (u.take i)).2), sett (c :: (mps (u.take i)).2)) := by rw [take_snoc hc, mps_snoc]
    refine ⟨⟨_, rfl⟩, But.out b2 (s1.up hl) hl hm0, ?_, ps ++ ps2, hm3, ?_⟩
    · rw [eu]; exact hl3
    · rw [eu]; exact h4.append hs3
  · rintro σ' H1 ⟨⟨l3, rfl⟩, s1, hl1, ps, hm1, hps⟩
    have eu : u.take (sgV (S u)).length = u := by
      rw [sgV_length]
      show u.take (S u).length = u
      rw [S_len, List.take_length]
    rw [eu] at hl1 hps
    refine ⟨rfl, _, rfl, _, l, ((mps u).2.reverse.map fun c => [c]).map S, rfl, rfl, SqL_sV hl1 (lv_sV _), sz_all (by rw [flat1, List.length_reverse]; have := (mps_len u).2; omega), ?_⟩
    rw [join_all, flat1]
    refine ⟨_, rfl, two_ok, fun t ht => ?_⟩
    have st := same_new ht (.tup [V.str (S (mps u).2.reverse), .ref m])
    exact q t m ps _ hm0 (s1.trans st) upd_same (st _ _ hm1) (hps.same st)

end
end K07

set_option Elab.async false
set_option linter.all false
set_option maxRecDepth 100000
set_option maxHeartbeats 4000000
namespace K07
open PySem L2 TW TX
seal L2.PE L2.PT L2.PA L2.PS L2.PSs L2.PI L2.PG L2.PGs L2.PPs L2.PW L2.PTs L2.PO
section
variable {P : Program} {w : World} {K : PySem.W.Frag} {mg : Str → Option Value} {base : Heap} {f : Addr} {fd : FuncData} {k : Nat}
abbrev s_elsewhere : Stmt := top 39
theorem sc_elsewhere : FnScope ["one", "other", "first", "second", "behind"] ["one", "other"] (defScope s_elsewhere) := ⟨rfl, rfl, rfl, by decide +kernel, rfl, by decide +kernel, by decide +kernel⟩
theorem ok_elsewhere {CE CR : Addr} (F : Fun K "elsewhere" "elsewhere" s_elsewhere f fd) (c_check_word : Callee P w K mg base (k + 1) "check_word" ["word"] spChkW) (c_word_and_round : Callee P w K mg base (k + 1) "word_and_round" ["dance"] spWR) (c_is_same_round : Callee P w K mg base (k + 1) "is_same_round" ["one", "other"] spSameR) (c_made_plain : Callee P w K mg base (k + 1) "made_plain" ["word"] spPlain) (c_back : Callee P w K mg base (k + 1) "back" ["word"] spBack)
    (c_Elsewhere : Maker P w K mg base k "Elsewhere" CE ["self", "word"] (spInit1 CE "word")) (c_Rounds : Maker P w K mg base k "Rounds" CR ["self", "there", "first", "back", "second"] (spInit4 CR "there" "first" "back" "second")) : FnOk P w K mg base CX0 (k + 2) f fd ["one", "other"] (spElsewhere CE CR) := by
  refine F.ok sc_elsewhere (fun vs H Q E h => ?_) (fun cdv A outer s H vs Q E hr h => ?_)
  · obtain ⟨x, y, rfl, _⟩ := h; rfl
  obtain ⟨x, y, rfl, hwx, hwy, lx, ly, qe, qr⟩ := h
  have nd := sc_elsewhere.nd
  refine ⟨_, (pss_cons (ps_expr (pe_calls c_check_word hr rfl (pa_cons (pv 0) pa_nil)))
      (pss_cons (ps_expr (pe_calls c_check_word hr rfl (pa_cons (pv 1) pa_nil)))
      (pss_cons (ps_set (i := 2) nd rfl (Or.inl rfl) (pe_calls c_word_and_round hr rfl (pa_cons (pv 0) pa_nil)))
      (pss_cons (ps_set (i := 3) nd rfl (Or.inl rfl) (pe_calls c_word_and_round hr rfl (pa_cons (pv 1) pa_nil)))
      (pss_cons (ps_if (pt_not (pt_val (pe_calls c_is_same_round hr rfl (pa_cons (pe_ix (ix_tupK (K := K) rfl) (pv 2) pe_int (fun _ _ => rfl)) (pa_cons (pe_ix (ix_tupK (K := K) rfl) (pv 3) pe_int (fun _ _ => rfl)) pa_nil))))) (pss_one (ps_ret (pe_makes c_Rounds hr rfl (pa_cons (pe_ix (ix_tupK (K := K) rfl) (pe_calls c_made_plain hr rfl (pa_cons (pe_ix (ix_tupK (K := K) rfl) (pv 2) pe_int (fun _ _ => rfl)) pa_nil)) pe_int (fun _ _ => rfl)) (pa_cons (pe_ix (ix_tupK (K := K) rfl) (pv 2) pe_int (fun _ _ => rfl)) (pa_cons (pe_ix (ix_tupK (K := K) rfl) (pe_calls c_made_plain hr rfl (pa_cons (pe_ix (ix_tupK (K := K) rfl) (pv 3) pe_int (fun _ _ => rfl)) pa_nil)) pe_int (fun _ _ => rfl)) (pa_cons (pe_ix (ix_tupK (K := K) rfl) (pv 3) pe_int (fun _ _ => rfl)) pa_nil))))))) pss_nil)
      (pss_cons (ps_set (i := 4) nd rfl (Or.inl rfl) (pe_slice sl_str (pe_ix (ix_tupK (K := K) rfl) (pv 3) pe_int (fun _ _ => rfl)) po_none (po_some (pe_bm PySem.F.plainAttrs_str PySem.F.slot_str_find PySem.F.type_str_find mt_find (pe_op op_add_str (pe_ix (ix_tupK (K := K) rfl) (pv 3) pe_int (fun _ _ => rfl)) (pe_ix (ix_tupK (K := K) rfl) (pv 3) pe_int (fun _ _ => rfl))) (pa_cons (pe_ix (ix_tupK (K := K) rfl) (pv 2) pe_int (fun _ _ => rfl)) pa_nil)))))
      (pss_one (ps_ret (pe_makes c_Elsewhere hr rfl (pa_cons (pe_ix (ix_tupK (K := K) rfl) (pe_calls c_made_plain hr rfl (pa_cons (pe_op op_add_str (pe_op op_add_str (pe_ix (ix_tupK (K := K) rfl) (pv 2) pe_int (fun _ _ => rfl)) (pe_calls c_back hr rfl (pa_cons (pv 4) pa_nil))) (pe_calls c_back hr rfl (pa_cons (pe_ix (ix_tupK (K := K) rfl) (pv 3) pe_int (fun _ _ => rfl)) pa_nil))) pa_nil)) pe_int (fun _ _ => rfl)) pa_nil)))))))))), ?_⟩
  refine ⟨_, rfl, x, rfl, hwx, by omega, fun H1 s1 => ⟨_, rfl, y, rfl, hwy, by omega, fun H2 s2 => ⟨_, rfl, x, rfl, hwx, by omega, fun t1 A1 R1 H3 s3 e1 k1 => ⟨_, rfl, y, rfl, hwy, by omega, fun t2 A2 R2 H4 s4 e2 k2 => ?_⟩⟩⟩⟩
  have e1' := s4 _ _ e1
  have T4 := s1.trans (s2.trans (s3.trans s4))
  have a1 := tw_len A1
  have a2 := tw_len A2
  have r1 := tw_len R1
  have r2 := tw_len R2
  have b1 := k1.la
  have b2 := k2.la
  have b3 := k1.lr
  have b4 := k2.lr
  refine ⟨_, rfl, t1, _, 1, _, rfl, rfl, SqT.of e1', rfl, _, rfl, t2, _, 1, _, rfl, rfl, SqT.of e2, rfl, tw R1, tw R2, rfl, by omega, by omega, _, rfl, ?_⟩
  cases es : samer (tw R1) (tw R2) with
  | false =>
    refine iteT ?_
    refine ⟨_, rfl, t1, _, 0, _, rfl, rfl, SqT.of e1', rfl, tw A1, rfl, tw_W A1, by omega, fun p1 m1 ps1 H5 _ s5 h5 _ _ => ?_⟩
    refine ⟨p1, _, 0, _, rfl, rfl, SqT.of h5, rfl, _, rfl, t1, _, 1, _, rfl, rfl, SqT.of (s5 _ _ e1'), rfl, _, rfl, t2, _, 0, _, rfl, rfl, SqT.of (s5 _ _ e2), rfl, tw A2, rfl, tw_W A2, by omega, fun p2 m2 ps2 H6 _ s6 h6 _ _ => ?_⟩
    refine ⟨p2, _, 0, _, rfl, rfl, SqT.of h6, rfl, _, rfl, t2, _, 1, _, rfl, rfl, SqT.of (s6 _ _ (s5 _ _ e2)), rfl, fun o dx no ndx _ => ⟨o, dx, _, _, _, _, rfl, upd_same, rfl, ?_⟩⟩
    rw [upd_upd]
    have l1 := plain_len (tw A1)
    have l2 := plain_len (tw A2)
    refine qr o _ (plainW (tw A1)) (plainW (tw A2)) R1 R2 ((T4.trans (s5.trans s6)).trans (made_same no ndx)) ⟨dx, upd_same⟩ ⟨plain_W (tw_W A1), plain_W (tw_W A2), by omega, by omega, by omega, by omega, k1.cj.alike (plain_same _), k2.cj.alike (plain_same _), k1.rd, k2.rd, es⟩
  | true =>
    refine iteF ?_
    have es2 : samer (tw R2) (tw R1) = true := by
      obtain ⟨p, q, h1, h2⟩ := (samer_iff _ _).mp es
      exact (samer_iff _ _).mpr ⟨q, p, h2, h1⟩
    have hlen : (tw R1).length = (tw R2).length := by
      unfold samer at es
      rw [Bool.and_eq_true, decide_eq_true_eq] at es
      exact es.1
    cases ho : Builtin.Str.occurrences (S (tw R2 ++ tw R2)) (S (tw R1)) 0 (S (tw R2 ++ tw R2)).length 1 with
    | nil =>
      unfold samer at es2
      rw [ho, Bool.and_eq_true] at es2
      cases es2.2
    | cons i rest =>
      obtain ⟨i1, i2⟩ := occ_head ho
      obtain ⟨i3, i4⟩ := infix_rot hlen i1 i2
      refine ⟨_, rfl, t2, _, 1, _, rfl, rfl, SqT.of e2, rfl, _, rfl, t2, _, 1, _, rfl, rfl, SqT.of e2, rfl, _, rfl, t2, _, 1, _, rfl, rfl, SqT.of e2, rfl, _, _, rfl, rfl, by rw [S_len]; exact big (by omega), rfl, _, rfl, t1, _, 1, _, rfl, rfl, SqT.of e1', rfl, _, _, rfl, rfl, ?_⟩
      rw [S_app, ho]
      refine ⟨(i : Int), rfl, _, rfl, by rw [S_len]; exact big (by omega), ?_⟩
      rw [S_to (by omega) (by omega), show ((i : Int)).toNat = i by omega]
      have wp : IsW ((tw R2).take i) := fun c hc => tw_W R2 c (List.mem_of_mem_take hc)
      have lp : ((tw R2).take i).length ≤ (tw R2).length := by rw [List.length_take]; omega
      refine ⟨_, rfl, t1, _, 0, _, rfl, rfl, SqT.of e1', rfl, _, rfl, (tw R2).take i, rfl, wp, by omega, fun H5 s5 => ?_⟩
      refine ⟨_, _, rfl, rfl, by rw [S_len, S_len, bk_length]; exact big (by omega), _, rfl, t2, _, 0, _, rfl, rfl, SqT.of (s5 _ _ e2), rfl, tw A2, rfl, tw_W A2, by omega, fun H6 s6 => ?_⟩
      refine ⟨_, _, rfl, rfl, by rw [S_app, S_len, S_len, List.length_append, bk_length, bk_length]; exact big (by omega), ?_⟩
      rw [S_app, S_app]
      have ww : IsW (tw A1 ++ bk ((tw R2).take i) ++ bk (tw A2)) := ((tw_W A1).append (bk_W _)).append (bk_W _)
      have lw : (tw A1 ++ bk ((tw R2).take i) ++ bk (tw A2)).length ≤ 20000 := by
        rw [List.length_append, List.length_append, bk_length, bk_length]
        omega
      refine ⟨_, rfl, ww, lw, fun t m ps H7 _ s7 h7 _ _ => ?_⟩
      refine ⟨t, _, 0, _, rfl, rfl, SqT.of h7, rfl, fun o dx no ndx _ => ⟨o, dx, _, rfl, upd_same, rfl, ?_⟩⟩
      rw [upd_upd]
      have lpl := plain_len (tw A1 ++ bk ((tw R2).take i) ++ bk (tw A2))
      refine qe o _ (plainW (tw A1 ++ bk ((tw R2).take i) ++ bk (tw A2))) ((T4.trans (s5.trans (s6.trans s7))).trans (made_same no ndx)) ⟨dx, upd_same⟩ ⟨plain_W ww, by omega, fun f hf => ?_⟩
      have hx : Cj x (tw A1) ((tw R2).drop i ++ (tw R2).take i) := by rw [← i4]; exact k1.cj
      have hy : Cj y (tw A2) ((tw R2).take i ++ (tw R2).drop i) := by rw [List.take_append_drop]; exact k2.cj
      rw [← begun_same ww (plain_W ww) (plain_same _) f hf]
      exact else_word hx hy (tw_W A1) (tw_W A2) wp hf

end
end K07

set_option Elab.async false
set_option linter.all false
set_option maxRecDepth 100000
set_option maxHeartbeats 4000000
namespace K07
open PySem L2 TW TX
seal L2.PE L2.PT L2.PA L2.PS L2.PSs L2.PI L2.PG L2.PGs L2.PPs L2.PW L2.PTs L2.PO
section
variable {P : Program} {w : World} {K : PySem.W.Frag} {mg : Str → Option Value} {base : Heap} {f : Addr} {fd : FuncData} {k : Nat}
abbrev s_law_letters : Stmt := top 41
theorem sc_law_letters : FnScope ["_law_script", "_law_by", "_law_word", "_law_cell"] ["_law_script", "_law_by"] (defScope s_law_letters) := ⟨rfl, rfl, rfl, by decide +kernel, rfl, by decide +kernel, by decide +kernel⟩
theorem ok_law_letters (F : Fun K "_law_letters" "_law_letters" s_law_letters f fd) : FnOk P w K mg base CX0 (k + 1) f fd ["_law_script", "_law_by"] (spLetters K) := by
  refine F.ok sc_law_letters (fun vs H Q E h => ?_) (fun cdv A outer s H vs Q E hr h => ?_)
  · obtain ⟨a, ns, b, rfl, _⟩ := h; rfl
  obtain ⟨a, ns, b, rfl, hS, hl, hb, hb2, q⟩ := h
  have nd := sc_law_letters.nd
  refine ⟨_, (pss_cons (ps_set (i := 2) nd rfl (Or.inl rfl) pe_str)
      (pss_cons (ps_for PassesOwn.never rfl (pi_list (pv 0)) (pg_name (i := 3) nd rfl (Or.inl rfl)) (pss_one (ps_set (i := 2) nd rfl (Or.inl rfl) (pe_op op_plus (pv 2) (pe_ix (ix_anyK (K := K) (Pm := w.params) rfl rfl) pe_str (pe_op op_mod (pe_op op_fdiv (pv 3) (pv 1)) pe_int) (fun _ _ => rfl))))))
      (pss_one (ps_ret (pv 2))))), ?_⟩
  refine ⟨_, rfl, a, rfl, ⟨_, hS⟩, ?_⟩
  refine for_on (ItOn.list (xs := ns.map V.int)) (fun i σ' H' => H' = H ∧ ∃ l, σ' = [some (.ref a), some (.int b), some (.str (S (letters b (ns.take i)))), l]) ⟨rfl, _, rfl⟩ (fun i σ' H' _ h => by rw [h.1]; exact hS) ?_ ?_
  · rintro i x σ' H' hx ⟨rfl, l, rfl⟩
    rw [List.getElem?_map] at hx
    cases e : ns[i]? with
    | none => rw [e] at hx; cases hx
    | some n =>
      rw [e] at hx
      cases hx
      refine ⟨_, rfl, _, rfl, _, rfl, _, _, rfl, rfl, ⟨hb, by omega⟩, _, _, rfl, rfl, by show (0 : Int) < 3; decide, .inl (.inr (.inr ⟨_, _, _, rfl, rfl, by decide, tur_at n b, .inr ⟨_, _, rfl, rfl, ?_, rfl, some (.int n), ?_⟩⟩))⟩
      · rw [S_len, letters_len, List.length_take]
        show _ + 1 ≤ sizeLine
        have := sizeLine_eq
        omega
      · have e2 : ns.take (i + 1) = ns.take i ++ [n] := by rw [List.take_add_one, e]; rfl
        have e3 : S (letters b (ns.take (i + 1))) = S (letters b (ns.take i)) ++ (⟨#[letr (n / b % 3)]⟩ : Str) := by
          rw [e2]
          unfold letters
          rw [List.map_append]
          exact (S_app _ _).symm
        rw [e3]
        rfl
  · rintro σ' H' ⟨rfl, l, rfl⟩
    refine ⟨_, rfl, ?_⟩
    rw [List.length_map, List.take_length]
    exact q

abbrev s_law_moved : Stmt := top 42
theorem sc_law_moved : FnScope ["_law_letter", "_law_fraction", "_law_above", "_law_below"] ["_law_letter", "_law_fraction"] (defScope s_law_moved) := ⟨rfl, rfl, rfl, by decide +kernel, rfl, by decide +kernel, by decide +kernel⟩
theorem ok_law_moved (F : Fun K "_law_moved" "_law_moved" s_law_moved f fd) : FnOk P w K mg base CX0 (k + 1) f fd ["_law_letter", "_law_fraction"] spLMoved := by
  refine F.ok sc_law_moved (fun vs H Q E h => ?_) (fun cdv A outer s H vs Q E hr h => ?_)
  · obtain ⟨c, p, g, rfl, _⟩ := h; rfl
  obtain ⟨c, p, g, rfl, hp, q⟩ := h
  have nd := sc_law_moved.nd
  have hu := hr.units
  have hp' : H p = some (.tup [.int g.1, .int g.2]) := hp
  refine ⟨_, (pss_cons (ps_asg (pv 1) (pg_tup rfl (pgs_cons (pg_name (i := 2) nd rfl (Or.inl rfl)) (pgs_cons (pg_name (i := 3) nd rfl (Or.inl rfl)) pgs_nil))))
      (pss_cons (ps_if (pt_cmpR op_eq (pv 0) pe_str (nomark _)) (pss_one (ps_ret (pe_tup (pa_cons (pe_op op_plus (pv 2) (pv 3)) (pa_cons (pv 3) pa_nil))))) pss_nil)
      (pss_cons (ps_if (pt_cmpR op_eq (pv 0) pe_str (nomark _)) (pss_one (ps_ret (pe_tup (pa_cons (pe_op op_sub (pv 2) (pv 3)) (pa_cons (pv 3) pa_nil))))) pss_nil)
      (pss_cons (ps_if (pt_cmpR op_eq (pv 2) pe_int (nomark _)) (pss_one (ps_ret (pe_tup (pa_cons pe_int (pa_cons pe_int pa_nil))))) pss_nil)
      (pss_one (ps_ret (pe_ifExp (pt_cmpR op_gt (pv 2) pe_int (nomark _)) (pe_tup (pa_cons (pe_un un_neg (pv 3)) (pa_cons (pv 2) pa_nil))) (pe_tup (pa_cons (pv 3) (pa_cons (pe_un un_neg (pv 2)) pa_nil)))))))))), ?_⟩
  refine ⟨_, rfl, p, _, rfl, SqT.of hp', rfl, _, _, rfl, _, _, rfl, rfl, ?_⟩
  refine ⟨_, rfl, ⟨rfl, _, rfl, ?_⟩⟩
  rw [eq_sign c 116 _ lit_t]
  refine ite2 (fun e => ?_) (fun e => ?_)
  · have e' : c = 116 := of_decide_eq_true e
    refine ⟨_, rfl, _, rfl, .inl ⟨_, _, rfl, rfl, _, rfl, two_ok, fun r hr' => q r _ (same_new hr' _) ?_⟩⟩
    rw [upd_same, mv, if_pos e']
    rfl
  · have e' : ¬ c = 116 := of_decide_eq_false (Bool.eq_false_iff.mpr e)
    refine ⟨_, rfl, ⟨rfl, _, rfl, ?_⟩⟩
    rw [eq_sign c 117 _ lit_u]
    refine ite2 (fun d => ?_) (fun d => ?_)
    · have d' : c = 117 := of_decide_eq_true d
      refine ⟨_, rfl, _, rfl, _, _, rfl, rfl, _, rfl, two_ok, fun r hr' => q r _ (same_new hr' _) ?_⟩
      rw [upd_same, mv, if_neg e', if_pos d']
      rfl
    · have d' : ¬ c = 117 := of_decide_eq_false (Bool.eq_false_iff.mpr d)
      refine ⟨_, rfl, ⟨rfl, _, rfl, ?_⟩⟩
      refine ite2 (fun z => ?_) (fun z => ?_)
      · have z' : g.1 = 0 := by simpa using z
        refine ⟨two_ok, fun r hr' => q r _ (same_new hr' _) ?_⟩
        rw [upd_same, mv, if_neg e', if_neg d', if_neg (by omega), if_neg (by omega)]
        rfl
      · have z' : ¬ g.1 = 0 := by simpa using z
        refine ⟨_, rfl, _, _, rfl, rfl, _, rfl, ?_⟩
        refine ite2 (fun y => ?_) (fun y => ?_)
        · have y' : 0 < g.1 := of_decide_eq_true y
          refine ⟨_, rfl, _, rfl, _, rfl, two_ok, fun r hr' => q r _ (same_new hr' _) ?_⟩
          rw [upd_same, mv, if_neg e', if_neg d', if_pos y']
          rfl
        · have y' : ¬ 0 < g.1 := of_decide_eq_false (Bool.eq_false_iff.mpr y)
          refine ⟨_, rfl, _, rfl, _, rfl, two_ok, fun r hr' => q r _ (same_new hr' _) ?_⟩
          rw [upd_same, mv, if_neg e', if_neg d', if_neg y', if_pos (by omega)]
          rfl

abbrev s_law_walked : Stmt := top 43
theorem sc_law_walked : FnScope ["_law_word", "_law_fraction", "_law_letter"] ["_law_word", "_law_fraction"] (defScope s_law_walked) := ⟨rfl, rfl, rfl, by decide +kernel, rfl, by decide +kernel, by decide +kernel⟩
theorem ok_law_walked (F : Fun K "_law_walked" "_law_walked" s_law_walked f fd) (c_law_moved : Callee P w K mg base k "_law_moved" ["_law_letter", "_law_fraction"] spLMoved) : FnOk P w K mg base CX0 (k + 1) f fd ["_law_word", "_law_fraction"] spFollow := by
  refine F.ok sc_law_walked (fun vs H Q E h => ?_) (fun cdv A outer s H vs Q E hr h => ?_)
  · obtain ⟨u, p, g, rfl, _⟩ := h; rfl
  obtain ⟨u, p, g, rfl, hp, q⟩ := h
  have nd := sc_law_walked.nd
  refine ⟨_, (pss_cons (ps_for PassesOwn.never rfl (pi_str (pv 0)) (pg_name (i := 2) nd rfl (Or.inl rfl)) (pss_one (ps_set (i := 1) nd rfl (Or.inl rfl) (pe_calls c_law_moved hr rfl (pa_cons (pv 2) (pa_cons (pv 1) pa_nil))))))
      (pss_one (ps_ret (pv 1)))), ?_⟩
  refine ⟨_, rfl, _, rfl, ?_⟩
  refine for_on (Ok := fun _ => True) ItOn.str (fun i σ' H' => Same H H' ∧ ∃ t l, σ' = [some (.str (S u)), some (.ref t), l] ∧ H' t = some (fT (walk (u.take i) g))) ⟨Same.refl _, p, _, rfl, hp⟩ (fun _ _ _ _ _ => trivial) ?_ ?_
  · rintro i x σ' H' hx ⟨hs, t, l, rfl, ht⟩
    obtain ⟨c, hc, rfl⟩ := sg_at hx
    refine ⟨_, rfl, _, rfl, c, t, walk (u.take i) g, rfl, ht, fun p2 H2 hs2 hp2 => ⟨hs.trans hs2, p2, _, rfl, ?_⟩⟩
    rw [take_snoc hc, walk_snoc]
    exact hp2
  · rintro σ' H' ⟨hs, t, l, rfl, ht⟩
    refine ⟨_, rfl, q t H' hs ?_⟩
    rw [ht, sg_S, List.length_map, List.take_length]

abbrev s_law_same : Stmt := top 44
theorem sc_law_same : FnScope ["_law_one", "_law_other"] ["_law_one", "_law_other"] (defScope s_law_same) := ⟨rfl, rfl, rfl, by decide +kernel, rfl, by decide +kernel, by decide +kernel⟩
theorem ok_law_same (G : Glo mg) (F : Fun K "_law_same" "_law_same" s_law_same f fd) (c_law_walked : Callee P w K mg base k "_law_walked" ["_law_word", "_law_fraction"] spFollow) : FnOk P w K mg base CX0 (k + 1) f fd ["_law_one", "_law_other"] spLead := by
  refine F.ok sc_law_same (fun vs H Q E h => ?_) (fun cdv A outer s H vs Q E hr h => ?_)
  · obtain ⟨u, v, rfl, _⟩ := h; rfl
  obtain ⟨u, v, rfl, q⟩ := h
  have hu := hr.units
  refine ⟨_, (pss_one (ps_ret (pe_callB (call_allK (K := K) rfl rfl) rfl G.n_all bt_all (pa_cons (pe_lc (ys := ["_law_one", "_law_other"]) (js := [0, 1]) rfl (LcS.to (os := defScope s_law_same) ⟨rfl, by decide +kernel, by decide +kernel, rfl, by decide +kernel, by decide +kernel, by decide +kernel⟩ rfl rfl) (pi_list (pe_lst (pa_cons (pe_tup (pa_cons pe_int (pa_cons pe_int pa_nil))) (pa_cons (pe_tup (pa_cons pe_int (pa_cons pe_int pa_nil))) (pa_cons (pe_tup (pa_cons pe_int (pa_cons pe_int pa_nil))) pa_nil))))) (fun _ _ _ _ => pts_none) (fun _ _ _ _ => (pe_cmpR (op_eqqK (K := K) hu rfl) (pe_calls c_law_walked hr rfl (pa_cons (pv 1) (pa_cons (pv 0) pa_nil))) (pe_calls c_law_walked hr rfl (pa_cons (pv 2) (pa_cons (pv 0) pa_nil))) (nomark _)))) pa_nil)))), ?_⟩
  refine ⟨two_ok, fun p1 k1 => ⟨two_ok, fun p2 k2 => ⟨two_ok, fun p3 k3 => ⟨three_ok, fun pl kl => ⟨pl, rfl, ⟨_, SqL.of upd_same⟩, ?_⟩⟩⟩⟩⟩
  have S1 := same_new k1 (.tup [.int 0, .int 1])
  have S2 := same_new k2 (.tup [.int 1, .int 0])
  have S3 := same_new k3 (.tup [.int 1, .int 1])
  have S4 := same_new kl (.lst [.ref p1, .ref p2, .ref p3])
  have E1 := (S2.trans (S3.trans S4)) p1 _ upd_same
  have E2 := (S3.trans S4) p2 _ upd_same
  have E3 := S4 p3 _ upd_same
  have S0 := S1.trans (S2.trans (S3.trans S4))
  have EL := @upd_same (upd (upd (upd H p1 (.tup [.int 0, .int 1])) p2 (.tup [.int 1, .int 0])) p3 (.tup [.int 1, .int 1])) pl (.lst [.ref p1, .ref p2, .ref p3])
  generalize upd (upd (upd (upd H p1 (.tup [.int 0, .int 1])) p2 (.tup [.int 1, .int 0])) p3 (.tup [.int 1, .int 1])) pl (.lst [.ref p1, .ref p2, .ref p3]) = H9 at *
  refine lc_growI (ItOn.list (xs := [.ref p1, .ref p2, .ref p3])) (fun i => V.bl (alI u v i)) (fun H' hs => SqL.of (hs _ _ EL)) three_ok (fun i x H' Q' hx hs hq => ?_) (fun H' p hs hp => ?_)
  · have hg : ∃ t, x = .ref t ∧ H9 t = some (fT (tf i)) := by
      match i with
      | 0 => cases hx; exact ⟨p1, rfl, E1⟩
      | 1 => cases hx; exact ⟨p2, rfl, E2⟩
      | 2 => cases hx; exact ⟨p3, rfl, E3⟩
      | n + 3 => cases hx
    obtain ⟨t, rfl, ht⟩ := hg
    refine ⟨_, rfl, _, rfl, u, t, tf i, rfl, hs _ _ ht, fun q1 H1 s1 e1 => ?_⟩
    refine ⟨_, rfl, _, rfl, v, t, tf i, rfl, s1 _ _ (hs _ _ ht), fun q2 H2 s2 e2 => ?_⟩
    refine .inr ⟨fD (walk u (tf i)), fD (walk v (tf i)), fD_rd (s2 _ _ e1), fD_rd e2, fD_depth _, ?_⟩
    have e : (if false = true then !PyData.eqv (fD (walk u (tf i))) (fD (walk v (tf i))) else PyData.eqv (fD (walk u (tf i))) (fD (walk v (tf i)))) = alI u v i := by
      rw [if_neg Bool.false_ne_true, fD_eqv]
      rfl
    rw [e]
    exact hq _ (s1.trans s2)
  · refine ⟨p, [alI u v 0, alI u v 1, alI u v 2], rfl, SqL.of upd_same, ?_⟩
    show Q (V.bl ([alI u v 0, alI u v 1, alI u v 2].all id)) _
    rw [al_three]
    exact q _ (S0.trans (hs.trans (same_new hp _)))

abbrev s_law_backwards : Stmt := top 45
theorem sc_law_backwards : FnScope ["_law_word", "_law_found", "_law_letter"] ["_law_word"] (defScope s_law_backwards) := ⟨rfl, rfl, rfl, by decide +kernel, rfl, by decide +kernel, by decide +kernel⟩
theorem ok_law_backwards (F : Fun K "_law_backwards" "_law_backwards" s_law_backwards f fd) : FnOk P w K mg base CX0 (k + 1) f fd ["_law_word"] spLBack := by
  refine F.ok sc_law_backwards (fun vs H Q E h => ?_) (fun cdv A outer s H vs Q E hr h => ?_)
  · obtain ⟨u, rfl, _⟩ := h; rfl
  obtain ⟨u, rfl, hl, q⟩ := h
  have nd := sc_law_backwards.nd
  have hu1 := hu_of hr
  refine ⟨_, (pss_cons (ps_set (i := 1) nd rfl (Or.inl rfl) pe_str)
      (pss_cons (ps_for PassesOwn.never rfl (pi_str (pv 0)) (pg_name (i := 2) nd rfl (Or.inl rfl)) (pss_one (ps_set (i := 1) nd rfl (Or.inl rfl) (pe_op op_plus (pe_dget2 hu1 (pe_disp (pps_cons pe_str pe_str (pps_cons pe_str pe_str pps_nil)) rfl rfl (by simp) (by decide)) (pv 2) pe_str ⟨rfl, rfl, rfl, rfl⟩) (pv 1)))))
      (pss_one (ps_ret (pv 1))))), ?_⟩
  refine ⟨_, rfl, _, rfl, ?_⟩
  refine for_on (Ok := fun _ => True) ItOn.str (fun i σ' H' => Same H H' ∧ ∃ l, σ' = [some (.str (S u)), some (.str (S (bk (u.take i)))), l]) ⟨Same.refl _, _, rfl⟩ (fun _ _ _ _ _ => trivial) ?_ ?_
  · rintro i x σ' H' hx ⟨hs, l, rfl⟩
    obtain ⟨c, hc, rfl⟩ := sg_at hx
    intro p hp
    refine ⟨upd_same, tab, rfl, by decide, p, rfl, ?_⟩
    refine ⟨.inl ⟨_, .inl upd_same⟩, ?_⟩
    refine ⟨_, rfl, ?_⟩
    refine ⟨_, DGet.k (k := .inr (S [c])) upd_same, ?_⟩
    rw [tab_get]
    refine ⟨_, rfl, .inr ⟨_, _, rfl, rfl, ?_, hs.trans (by rw [upd_upd]; exact same_new hp _), some (.str (S [c])), ?_⟩⟩
    · rw [S_len, S_len, bk_length, List.length_take]
      show 1 + _ ≤ sizeLine
      have := sizeLine_eq
      omega
    · rw [take_snoc hc, bk_snoc, S_app]
      rfl
  · rintro σ' H' ⟨hs, l, rfl⟩
    refine ⟨_, rfl, ?_⟩
    rw [sg_S, List.length_map, List.take_length]
    exact q _ hs

abbrev s_law_is_word : Stmt := top 46
theorem sc_law_is_word : FnScope ["_law_thing"] ["_law_thing"] (defScope s_law_is_word) := ⟨rfl, rfl, rfl, by decide +kernel, rfl, by decide +kernel, by decide +kernel⟩
theorem ok_law_is_word (G : Glo mg) (F : Fun K "_law_is_word" "_law_is_word" s_law_is_word f fd) : FnOk P w K mg base CX0 (k + 1) f fd ["_law_thing"] spWord := by
  refine F.ok sc_law_is_word (fun vs H Q E h => ?_) (fun cdv A outer s H vs Q E hr h => ?_)
  · obtain ⟨u, rfl, _⟩ := h; rfl
  obtain ⟨u, rfl, hw, hl, q⟩ := h
  refine ⟨_, (pss_one (ps_ret (pe_and (pe_callB (call_isiK (K := K) rfl) rfl G.n_isinstance bt_isinstance (pa_cons (pv 0) (pa_cons (pe_bltn (v := .ty "str") rfl G.n_str bt_str rfl) pa_nil))) (pe_one (pe_callB (call_allK (K := K) rfl rfl) rfl G.n_all bt_all (pa_cons (pe_lc (ys := []) (js := []) rfl (LcS.to (os := defScope s_law_is_word) ⟨rfl, by decide +kernel, by decide +kernel, rfl, by decide +kernel, by decide +kernel, by decide +kernel⟩ rfl rfl) (pi_str (pv 0)) (fun _ _ _ _ => pts_none) (fun _ _ _ _ => (pe_cmpR (op_innK (K := K) rfl) (pv 0) pe_str rfl))) pa_nil)))))), ?_⟩
  refine ⟨_, rfl, _, _, _, _, rfl, .str _, kit_same "str", _, rfl, ?_⟩
  refine iteT ?_
  refine ⟨_, rfl, _, rfl, ?_⟩
  refine lc_y (Ok := fun _ => True) ItOn.str (fun x => V.bl (inTur x)) trivial (by rw [sgV_length]; show (S u).length ≤ _; rw [S_len]; exact big (by omega)) (fun i x Q' hx hq => ?_) (fun p hp => ?_)
  · obtain ⟨c, hc, rfl⟩ := sg_at hx
    exact ⟨_, rfl, .inr ⟨_, _, rfl, rfl, hq⟩⟩
  · rw [word_signs2 hw]
    refine ⟨p, _, rfl, SqL.of upd_same, ?_⟩
    show Q (V.bl ((List.replicate u.length true).all id)) _
    rw [all_true]
    exact q _ (same_new hp _)

abbrev s_law_begun : Stmt := top 47
theorem sc_law_begun : FnScope ["_law_ahead", "_law_word"] ["_law_ahead", "_law_word"] (defScope s_law_begun) := ⟨rfl, rfl, rfl, by decide +kernel, rfl, by decide +kernel, by decide +kernel⟩
theorem ok_law_begun (F : Fun K "_law_begun" "_law_begun" s_law_begun f fd) (c_law_backwards : Callee P w K mg base k "_law_backwards" ["_law_word"] spLBack) : FnOk P w K mg base CX0 (k + 1) f fd ["_law_ahead", "_law_word"] spLBegun := by
  refine F.ok sc_law_begun (fun vs H Q E h => ?_) (fun cdv A outer s H vs Q E hr h => ?_)
  · obtain ⟨a, u, rfl, _⟩ := h; rfl
  obtain ⟨a, u, rfl, la, lu, q⟩ := h
  refine ⟨_, (pss_one (ps_ret (pe_op op_add_str (pe_op op_add_str (pv 0) (pv 1)) (pe_calls c_law_backwards hr rfl (pa_cons (pv 0) pa_nil))))), ?_⟩
  refine ⟨_, rfl, _, rfl, _, _, rfl, rfl, by rw [S_len, S_len]; exact big (by omega), _, rfl, a, rfl, by omega, fun H1 s1 => ?_⟩
  refine ⟨_, _, rfl, rfl, by rw [S_app, S_len, S_len, bk_length, List.length_append]; exact big (by omega), ?_⟩
  rw [S_app, S_app]
  exact q _ s1

abbrev s_law_pieces : Stmt := top 48
theorem sc_law_pieces : FnScope ["_law_word", "_law_pieces_here"] ["_law_word"] (defScope s_law_pieces) := ⟨rfl, rfl, rfl, by decide +kernel, rfl, by decide +kernel, by decide +kernel⟩
theorem ok_law_pieces (G : Glo mg) (F : Fun K "_law_pieces" "_law_pieces" s_law_pieces f fd) : FnOk P w K mg base CX0 (k + 1) f fd ["_law_word"] spPieces := by
  refine F.ok sc_law_pieces (fun vs H Q E h => ?_) (fun cdv A outer s H vs Q E hr h => ?_)
  · obtain ⟨u, rfl, _⟩ := h; rfl
  obtain ⟨u, rfl, lu, q⟩ := h
  have nd := sc_law_pieces.nd
  have hlS : (S u).length ≤ sizeLine := by rw [S_len]; exact big (by omega)
  refine ⟨_, (pss_cons (ps_setlc (i0 := 1) (ys := ["_law_word"]) (js := [0]) nd rfl (Or.inl rfl) rfl (LcS.to (os := defScope s_law_pieces) ⟨rfl, by decide +kernel, by decide +kernel, rfl, by decide +kernel, by decide +kernel, by decide +kernel⟩ rfl rfl) (pi_range3 rfl G.n_range (pa_cons pe_int (pa_cons (pe_callB (call_lenK (K := K) rfl) rfl G.n_len bt_len (pa_cons (pv 0) pa_nil)) (pa_cons pe_int pa_nil)))) (fun _ _ _ _ => pts_none) (fun _ _ _ _ => (pe_slice sl_str (pv 1) (po_some (pv 0)) (po_some (pe_op op_add (pv 0) pe_int)))))
      (pss_one (ps_ret (pe_ifExp (pt_val (pe_callB (call_allK (K := K) rfl rfl) rfl G.n_all bt_all (pa_cons (pe_lc (ys := []) (js := []) rfl (LcS.to (os := defScope s_law_pieces) ⟨rfl, by decide +kernel, by decide +kernel, rfl, by decide +kernel, by decide +kernel, by decide +kernel⟩ rfl rfl) (pi_list (pv 1)) (fun _ _ _ _ => pts_none) (fun _ _ _ _ => (pe_cmpR (op_inSq (K := K) rfl) (pv 0) (pe_lst (pa_cons pe_str (pa_cons pe_str pa_nil))) rfl))) pa_nil))) (pv 1) (pe_lst pa_nil))))), ?_⟩
  refine ⟨_, rfl, .str (S u), u.length, rfl, ⟨hlS, (S_len u).symm⟩, 0, (u.length : Int), 3, rfl, ⟨by decide, by decide, by omega, by omega, by decide, by decide⟩, ?_⟩
  rw [cnt3_eq]
  refine lc_growI ItOn.rng3 (fun i => V.str (S ((u.drop (3 * i)).take 3))) (fun _ _ => trivial) (by unfold rngV3; rw [List.length_map, List.length_range]; exact big (by omega)) (fun i x H' Q' hx hs hq => ?_) (fun H1 p s1 hp => ?_)
  · unfold rngV3 at hx
    rw [List.getElem?_map] at hx
    have hi : i < (u.length + 2) / 3 := by
      cases e : (List.range ((u.length + 2) / 3))[i]? with
      | none => rw [e] at hx; cases hx
      | some j => exact List.length_range (n := (u.length + 2) / 3) ▸ (List.getElem?_eq_some_iff.mp e).1
    rw [List.getElem?_range hi] at hx
    cases hx
    have e0 : (0 : Int) + ((i : Nat) : Int) * 3 = ((3 * i : Nat) : Int) := by omega
    refine ⟨_, rfl, _, rfl, _, rfl, _, rfl, _, _, rfl, rfl, _, rfl, _, rfl, hlS, ?_⟩
    rw [e0, show (((3 * i : Nat) : Int) + 3) = ((3 * i : Nat) : Int) + ((3 : Nat) : Int) from rfl, S_mid (by omega) (by omega)]
    exact hq _ (Same.refl _)
  have er : ((List.range (rngV3 0 3 ((u.length + 2) / 3)).length).map fun i => V.str (S ((u.drop (3 * i)).take 3))) = sV (chunks u) := by
    unfold rngV3 chunks sV
    rw [List.length_map, List.length_range, List.map_map]
    rfl
  rw [er]
  have s2 := s1.trans (same_new hp (.lst (sV (chunks u))))
  have e2 := @upd_same H1 p (.lst (sV (chunks u)))
  generalize upd H1 p (.lst (sV (chunks u))) = H2 at *
  have lc := chunks_len u
  refine ⟨_, rfl, p, rfl, ⟨_, SqL.of e2⟩, ?_⟩
  refine lc_grow ItOn.list inRp (fun H' hs => SqL.of (hs _ _ e2)) (by rw [sV_len]; exact big (by omega)) (fun i x H' Q' hx hs hq => ?_) (fun H3 p3 s3 hp3 => ?_)
  · obtain ⟨c, _, rfl⟩ := sV_at hx
    refine ⟨_, rfl, two_ok, fun r hr => ⟨r, _, rfl, .inl (SqL.of upd_same), rfl, rfl, ?_⟩⟩
    rw [if_neg Bool.false_ne_true, rpcs_lit, inV_S, ← inRp_S]
    exact hq _ (same_new hr _)
  · rw [inRp_all]
    refine ⟨p3, (chunks u).map fun p => rpcs.contains p, rfl, SqL.of upd_same, _, rfl, ?_⟩
    have ea : ((chunks u).map fun p => rpcs.contains p).all id = (chunks u).all fun p => rpcs.contains p := by rw [List.all_map]; rfl
    have s4 := s3.trans (same_new hp3 (.lst (((chunks u).map fun p => rpcs.contains p).map V.bl)))
    show if (((chunks u).map fun p => rpcs.contains p).all id) = true then _ else _
    rw [ea]
    refine ite2 (fun c => ?_) (fun c => ?_)
    · refine ⟨_, rfl, q p _ (s2.trans s4) ?_⟩
      rw [s4 _ _ e2]
      unfold pcsOf
      rw [if_pos c]
    · refine ⟨Nat.zero_le _, fun r hr => q r _ ((s2.trans s4).trans (same_new hr _)) ?_⟩
      rw [upd_same]
      unfold pcsOf
      rw [if_neg c]
      rfl

abbrev s_law_is_round : Stmt := top 49
theorem sc_law_is_round : FnScope ["_law_word"] ["_law_word"] (defScope s_law_is_round) := ⟨rfl, rfl, rfl, by decide +kernel, rfl, by decide +kernel, by decide +kernel⟩
theorem ok_law_is_round (F : Fun K "_law_is_round" "_law_is_round" s_law_is_round f fd) (c_law_pieces : Callee P w K mg base k "_law_pieces" ["_law_word"] spPieces) : FnOk P w K mg base CX0 (k + 1) f fd ["_law_word"] spLRound := by
  refine F.ok sc_law_is_round (fun vs H Q E h => ?_) (fun cdv A outer s H vs Q E hr h => ?_)
  · obtain ⟨u, rfl, _⟩ := h; rfl
  obtain ⟨u, rfl, lu, q⟩ := h
  have hu := hr.units
  refine ⟨_, (pss_one (ps_ret (pe_or (pe_cmpR (op_inSq (K := K) rfl) (pv 0) (pe_lst (pa_cons pe_str (pa_cons pe_str (pa_cons pe_str (pa_cons pe_str pa_nil))))) rfl) (pe_one (pe_cmpR (op_neDK (K := K) hu rfl) (pe_calls c_law_pieces hr rfl (pa_cons (pv 0) pa_nil)) (pe_lst pa_nil) (nomark _)))))), ?_⟩
  refine ⟨_, rfl, four_ok, fun r hr1 => ⟨r, _, rfl, .inl (SqL.of upd_same), rfl, rfl, _, rfl, ?_⟩⟩
  rw [if_neg Bool.false_ne_true, lones_lit, inV_S]
  have s1 := same_new hr1 (.lst (sV lones))
  generalize upd H r (.lst (sV lones)) = H1 at *
  unfold lawRnd at q
  refine ite2 (fun c => ?_) (fun c => ?_)
  · rw [c] at q
    exact q _ s1
  · rw [Bool.eq_false_iff.mpr c] at q
    refine ⟨_, rfl, u, rfl, lu, fun p H2 s2 h2 => ⟨Nat.zero_le _, fun r2 hr2 => ?_⟩⟩
    refine ⟨_, _, rd_slist (same_new hr2 _ _ _ h2) (pcs_ok u), rd_nil2 upd_same, depth_slist _, ?_⟩
    rw [ne_slist]
    exact q _ ((s1.trans s2).trans (same_new hr2 _))

abbrev s_law_from_elsewhere : Stmt := top 50
theorem sc_law_from_elsewhere : FnScope ["_law_one", "_law_other", "_law_pieces_here", "_law_turns"] ["_law_one", "_law_other"] (defScope s_law_from_elsewhere) := ⟨rfl, rfl, rfl, by decide +kernel, rfl, by decide +kernel, by decide +kernel⟩
theorem ok_law_from_elsewhere (G : Glo mg) (F : Fun K "_law_from_elsewhere" "_law_from_elsewhere" s_law_from_elsewhere f fd) (c_law_pieces : Callee P w K mg base k "_law_pieces" ["_law_word"] spPieces) : FnOk P w K mg base CX0 (k + 1) f fd ["_law_one", "_law_other"] spFromElse := by
  refine F.ok sc_law_from_elsewhere (fun vs H Q E h => ?_) (fun cdv A outer s H vs Q E hr h => ?_)
  · obtain ⟨u, v, rfl, _⟩ := h; rfl
  obtain ⟨u, v, rfl, lu, lw, no, q⟩ := h
  have nd := sc_law_from_elsewhere.nd
  refine ⟨_, (pss_cons (ps_set (i := 2) nd rfl (Or.inr rfl) (pe_calls c_law_pieces hr rfl (pa_cons (pv 1) pa_nil)))
      (pss_cons (ps_setlc (i0 := 3) (ys := ["_law_pieces_here"]) (js := [2]) nd rfl (Or.inl rfl) rfl (LcS.to (os := defScope s_law_from_elsewhere) ⟨rfl, by decide +kernel, by decide +kernel, rfl, by decide +kernel, by decide +kernel, by decide +kernel⟩ rfl rfl) (pi_range1 rfl G.n_range (pa_cons (pe_callB (call_lenK (K := K) rfl) rfl G.n_len bt_len (pa_cons (pv 2) pa_nil)) pa_nil)) (fun _ _ _ _ => pts_none) (fun _ _ _ _ => (pe_bmK (K := K) rfl PySem.F.plainAttrs_str PySem.F.slot_str_join PySem.F.type_str_join (mt_joinK (K := K) rfl) pe_str (pa_cons (pe_op op_cat (pe_slice (sl_lst (K := K) rfl) (pv 1) (po_some (pv 0)) po_none) (pe_slice (sl_lst (K := K) rfl) (pv 1) po_none (po_some (pv 0)))) pa_nil))))
      (pss_one (ps_ret (pe_or (pe_cmpR op_eq (pv 0) (pv 1) (nomark _)) (pe_one (pe_cmpR (op_inSq (K := K) rfl) (pv 0) (pv 3) rfl))))))), ?_⟩
  refine ⟨_, rfl, v, rfl, lw, fun p H1 s1 h1 => ?_⟩
  have lp := pcs_len v
  refine ⟨_, rfl, _, _, rfl, .inl ⟨_, SqL.of h1, rfl⟩, _, rfl, by omega, by rw [sV_len]; omega, ?_⟩
  have en : (((sV (pcsOf v)).length : Nat) : Int).toNat = (pcsOf v).length := by rw [sV_len]; omega
  rw [en]
  have ef : (pcsOf v).flatten.length ≤ 20000 := by
    by_cases hn : pcsOf v = []
    · rw [hn]; simp
    · rw [pcs_flat hn]; exact lw
  refine lc_growI ItOn.rng (fun i => V.str (S ((pcsOf v).drop i ++ (pcsOf v).take i).flatten)) (fun _ _ => trivial) (by rw [rngV_length]; exact big (by omega)) (fun i x H' Q' hx hs hq => ?_) (fun H2 p2 s2 hp2 => ?_)
  · have hi : i < (pcsOf v).length := by
      have := (List.getElem?_eq_some_iff.mp hx).1
      rwa [rngV_length] at this
    have ex : x = .int (0 + (i : Nat)) := by
      unfold rngV at hx
      rw [List.getElem?_map, List.getElem?_range hi] at hx
      exact (Option.some.inj hx).symm
    rw [Int.zero_add] at ex
    subst ex
    have h2 := hs _ _ h1
    have c1 : cutV (sV (pcsOf v)) (some ((i : Nat) : Int)) none = sV ((pcsOf v).drop i) := by
      rw [cut_list_from _ (by rw [sV_len]; omega)]
      unfold sV
      rw [List.map_drop]
    have c2 : cutV (sV (pcsOf v)) none (some ((i : Nat) : Int)) = sV ((pcsOf v).take i) := by
      rw [cut_list_to _ (by rw [sV_len]; omega)]
      unfold sV
      rw [List.map_take]
    refine ⟨rfl, _, rfl, _, rfl, _, rfl, p, _, rfl, SqL.of h2, fun m1 k1 => ?_⟩
    have S1 := same_new k1 (.lst (cutV (sV (pcsOf v)) (some ((i : Nat) : Int)) none))
    have E1 := @upd_same H' m1 (.lst (cutV (sV (pcsOf v)) (some ((i : Nat) : Int)) none))
    generalize upd H' m1 (.lst (cutV (sV (pcsOf v)) (some ((i : Nat) : Int)) none)) = H3 at *
    refine ⟨_, rfl, _, rfl, _, rfl, p, _, rfl, SqL.of (S1 _ _ h2), fun m2 k2 => ?_⟩
    have S2 := same_new k2 (.lst (cutV (sV (pcsOf v)) none (some ((i : Nat) : Int))))
    have E2 := @upd_same H3 m2 (.lst (cutV (sV (pcsOf v)) none (some ((i : Nat) : Int))))
    generalize upd H3 m2 (.lst (cutV (sV (pcsOf v)) none (some ((i : Nat) : Int)))) = H4 at *
    refine ⟨m1, m2, _, _, rfl, rfl, S2 _ _ E1, E2, ?_, fun m3 k3 => ?_⟩
    · rw [c1, c2, sV_len, sV_len, List.length_drop, List.length_take]
      exact big (by omega)
    refine ⟨_, m3, ((pcsOf v).drop i ++ (pcsOf v).take i).map S, rfl, rfl, SqL_sV upd_same (by rw [c1, c2, sV_append]), sz_all ?_, ?_⟩
    · rw [List.flatten_append, List.length_append, Nat.add_comm, ← List.length_append, ← List.flatten_append, List.take_append_drop]
      omega
    · rw [join_all]
      exact hq _ ((S1.trans S2).trans (same_new k3 _))
  have er : ((List.range (rngV 0 (pcsOf v).length).length).map fun i => V.str (S ((pcsOf v).drop i ++ (pcsOf v).take i).flatten)) = sV ((List.range (pcsOf v).length).map fun i => ((pcsOf v).drop i ++ (pcsOf v).take i).flatten) := by
    rw [rngV_length]
    unfold sV
    rw [List.map_map]
    rfl
  rw [er]
  have s3 := (s1.trans s2).trans (same_new hp2 (.lst (sV ((List.range (pcsOf v).length).map fun i => ((pcsOf v).drop i ++ (pcsOf v).take i).flatten))))
  refine ⟨_, rfl, _, rfl, rfl, _, rfl, ite2 (fun c => ?_) (fun _ => ?_)⟩
  · have z := of_decide_eq_true c
    injection z with z
    rw [S_inj z, samer_refl] at no
    cases no
  · refine ⟨_, rfl, _, rfl, p2, _, rfl, .inl (SqL.of upd_same), rfl, flat_sV _, ?_⟩
    rw [if_neg Bool.false_ne_true, inV_S]
    have en : ((List.range (pcsOf v).length).map fun i => ((pcsOf v).drop i ++ (pcsOf v).take i).flatten).contains u = false := by
      rw [Bool.eq_false_iff]
      intro z
      obtain ⟨i, hi, e⟩ := List.mem_map.mp (List.contains_iff_mem.mp z)
      have hn : pcsOf v ≠ [] := by
        intro e0
        rw [e0] at hi
        cases List.mem_range.mp hi
      rw [turn_same e.symm hn] at no
      cases no
    rw [en]
    exact q _ s3

end
end K07

set_option Elab.async false
set_option linter.all false
set_option maxRecDepth 100000
set_option maxHeartbeats 4000000
namespace K07
open PySem L2 TW TX
seal L2.PE L2.PT L2.PA L2.PS L2.PSs L2.PI L2.PG L2.PGs L2.PPs L2.PW L2.PTs L2.PO
section
variable {P : Program} {w : World} {K : PySem.W.Frag} {mg : Str → Option Value} {base : Heap} {f : Addr} {fd : FuncData} {k : Nat}
abbrev s_law_right : Stmt := top 51
theorem sc_law_right : FnScope ["_law_one", "_law_other", "_law_found"] ["_law_one", "_law_other", "_law_found"] (defScope s_law_right) := ⟨rfl, rfl, rfl, by decide +kernel, rfl, by decide +kernel, by decide +kernel⟩
theorem ok_law_right {CAnswer CElsewhere CRounds CLed CParts : Addr} (G : Glo mg) (mAnswer : mg "Answer" = some (.ref CAnswer)) (mElsewhere : mg "Elsewhere" = some (.ref CElsewhere)) (mRounds : mg "Rounds" = some (.ref CRounds)) (mLed : mg "Led" = some (.ref CLed)) (mParts : mg "Parts" = some (.ref CParts))
    (kE : KCls K CElsewhere) (kR : KCls K CRounds) (nE : PySem.W.findIn K (.ref CElsewhere) "word" = some none) (nR1 : PySem.W.findIn K (.ref CRounds) "there" = some none) (nR2 : PySem.W.findIn K (.ref CRounds) "first" = some none) (nR3 : PySem.W.findIn K (.ref CRounds) "back" = some none) (nR4 : PySem.W.findIn K (.ref CRounds) "second" = some none)
    (l1 : PySem.W.kitOne K (.ref CElsewhere) (.ref CAnswer) = some true) (l2 : PySem.W.kitOne K (.ref CElsewhere) (.ref CElsewhere) = some true) (l3 : PySem.W.kitOne K (.ref CElsewhere) (.ref CRounds) = some false) (l4 : PySem.W.kitOne K (.ref CElsewhere) (.ref CLed) = some false) (l5 : PySem.W.kitOne K (.ref CElsewhere) (.ref CParts) = some false)
    (p1 : PySem.W.kitOne K (.ref CRounds) (.ref CAnswer) = some true) (p2 : PySem.W.kitOne K (.ref CRounds) (.ref CElsewhere) = some false) (p3 : PySem.W.kitOne K (.ref CRounds) (.ref CRounds) = some true) (p4 : PySem.W.kitOne K (.ref CRounds) (.ref CLed) = some false) (p5 : PySem.W.kitOne K (.ref CRounds) (.ref CParts) = some false)
    (F : Fun K "_law_right" "_law_right" s_law_right f fd)
    (c_A_shows : Method P w K mg base k CElsewhere "shows" ["self", "one", "other"] (spElseShows CElsewhere)) (c_B_shows : Method P w K mg base k CRounds "shows" ["self", "one", "other"] (spRndsShows CRounds)) (c_law_is_word : Callee P w K mg base k "_law_is_word" ["_law_thing"] spWord) (c_law_same : Callee P w K mg base k "_law_same" ["_law_one", "_law_other"] spLead) (c_law_begun : Callee P w K mg base k "_law_begun" ["_law_ahead", "_law_word"] spLBegun) (c_law_is_round : Callee P w K mg base k "_law_is_round" ["_law_word"] spLRound) (c_law_from_elsewhere : Callee P w K mg base k "_law_from_elsewhere" ["_law_one", "_law_other"] spFromElse) :
    FnOk P w K mg base CX0 (k + 1) f fd ["_law_one", "_law_other", "_law_found"] (spRight7 CElsewhere CRounds) := by
  refine F.ok sc_law_right (fun vs H Q E h => ?_) (fun cdv A outer s H vs Q E hr h => ?_)
  · obtain ⟨x, y, o, rfl, _⟩ := h; rfl
  obtain ⟨x, y, o, rfl, wx, wy, lx, ly, hf, q⟩ := h
  refine ⟨_, (pss_cons (ps_if (PW.pt (pw_or (pt_not (pt_val (pe_callB (call_isiAK (K := K) rfl) rfl G.n_isinstance bt_isinstance (pa_cons (pv 2) (pa_cons (pe_glob (v := .ref CAnswer) rfl mAnswer rfl) pa_nil))))) (pw_or1 (pt_cmpR op_eq (pe_callB (call_isiAK (K := K) rfl) rfl G.n_isinstance bt_isinstance (pa_cons (pv 2) (pa_cons (pe_glob (v := .ref CElsewhere) rfl mElsewhere rfl) pa_nil))) (pe_callB (call_isiAK (K := K) rfl) rfl G.n_isinstance bt_isinstance (pa_cons (pv 2) (pa_cons (pe_glob (v := .ref CRounds) rfl mRounds rfl) pa_nil))) (nomark _))))) (pss_one (ps_ret pe_bl)) pss_nil)
      (pss_cons (ps_if (PW.pt (pw_or (pt_val (pe_callB (call_isiAK (K := K) rfl) rfl G.n_isinstance bt_isinstance (pa_cons (pv 2) (pa_cons (pe_glob (v := .ref CLed) rfl mLed rfl) pa_nil)))) (pw_or (pt_val (pe_callB (call_isiAK (K := K) rfl) rfl G.n_isinstance bt_isinstance (pa_cons (pv 2) (pa_cons (pe_glob (v := .ref CParts) rfl mParts rfl) pa_nil)))) (pw_or1 (pt_cmpR op_isntA (PE.or (pe_meths (pl := _) (pv 2) kE.cl c_A_shows hr (pa_cons (pv 0) (pa_cons (pv 1) pa_nil))) (pe_meths (pl := _) (pv 2) kR.cl c_B_shows hr (pa_cons (pv 0) (pa_cons (pv 1) pa_nil)))) pe_bl (nomark _)))))) (pss_one (ps_ret pe_bl)) pss_nil)
      (pss_cons (ps_if (pt_val (pe_callB (call_isiAK (K := K) rfl) rfl G.n_isinstance bt_isinstance (pa_cons (pv 2) (pa_cons (pe_glob (v := .ref CElsewhere) rfl mElsewhere rfl) pa_nil)))) (pss_one (ps_ret (pe_and (pe_calls c_law_is_word hr rfl (pa_cons (pe_fld (pv 2) rfl) pa_nil)) (pe_one (pe_calls c_law_same hr rfl (pa_cons (pv 0) (pa_cons (pe_calls c_law_begun hr rfl (pa_cons (pe_fld (pv 2) rfl) (pa_cons (pv 1) pa_nil))) pa_nil))))))) pss_nil)
      (pss_cons (ps_if (pt_not (pt_val (pe_callB (call_allK (K := K) rfl rfl) rfl G.n_all bt_all (pa_cons (pe_lc (ys := []) (js := []) rfl (LcS.to (os := defScope s_law_right) ⟨rfl, by decide +kernel, by decide +kernel, rfl, by decide +kernel, by decide +kernel, by decide +kernel⟩ rfl rfl) (pi_list (pe_lst (pa_cons (pe_fld (pv 2) rfl) (pa_cons (pe_fld (pv 2) rfl) (pa_cons (pe_fld (pv 2) rfl) (pa_cons (pe_fld (pv 2) rfl) pa_nil)))))) (fun _ _ _ _ => pts_none) (fun _ _ _ _ => (pe_calls c_law_is_word hr rfl (pa_cons (pv 0) pa_nil)))) pa_nil)))) (pss_one (ps_ret pe_bl)) pss_nil)
      (pss_cons (ps_if (PW.pt (pw_or (pt_not (pt_val (pe_calls c_law_is_round hr rfl (pa_cons (pe_fld (pv 2) rfl) pa_nil)))) (pw_or1 (pt_not (pt_val (pe_calls c_law_is_round hr rfl (pa_cons (pe_fld (pv 2) rfl) pa_nil))))))) (pss_one (ps_ret pe_bl)) pss_nil)
      (pss_cons (ps_if (pt_val (pe_calls c_law_from_elsewhere hr rfl (pa_cons (pe_fld (pv 2) rfl) (pa_cons (pe_fld (pv 2) rfl) pa_nil)))) (pss_one (ps_ret pe_bl)) pss_nil)
      (pss_cons (ps_if (pt_not (pt_val (pe_calls c_law_same hr rfl (pa_cons (pv 0) (pa_cons (pe_calls c_law_begun hr rfl (pa_cons (pe_fld (pv 2) rfl) (pa_cons (pe_fld (pv 2) rfl) pa_nil))) pa_nil))))) (pss_one (ps_ret pe_bl)) pss_nil)
      (pss_one (ps_ret (pe_calls c_law_same hr rfl (pa_cons (pv 1) (pa_cons (pe_calls c_law_begun hr rfl (pa_cons (pe_fld (pv 2) rfl) (pa_cons (pe_fld (pv 2) rfl) pa_nil))) pa_nil)))))))))))), ?_⟩
  rcases hf with ⟨a, ⟨dx, ho⟩, Ka⟩ | ⟨a, c, R, R', ⟨dx, ho⟩, Kr⟩
  · have ty := kE.ty ho
    have ha1 : al (a ++ y ++ bk a) x = true := (al_iff _ _).mpr ⟨Ka.e _ F_nought, Ka.e _ F_end, Ka.e _ F_one⟩
    have ha2 : al x (a ++ y ++ bk a) = true := (al_iff _ _).mpr ⟨(Ka.e _ F_nought).symm, (Ka.e _ F_end).symm, (Ka.e _ F_one).symm⟩
    have la := Ka.l
    refine ⟨_, rfl, .inr ⟨_, _, _, _, rfl, ty, l1, _, rfl, iteF ?_⟩⟩
    refine ⟨_, rfl, .inr ⟨_, _, _, _, rfl, ty, l2, _, rfl, .inr ⟨_, _, _, _, rfl, ty, l3, ⟨rfl, _, rfl, iteF ?_⟩⟩⟩⟩
    refine ⟨_, rfl, .inr ⟨_, _, _, _, rfl, ty, l4, _, rfl, iteF ?_⟩⟩
    refine ⟨_, rfl, .inr ⟨_, _, _, _, rfl, ty, l5, _, rfl, iteF ?_⟩⟩
    refine .inl ⟨_, rfl, o, dx, _, rfl, ho, rfl, _, rfl, _, rfl, ?_⟩
    refine ⟨o, a, x, y, rfl, ⟨dx, ho⟩, Ka.W, la, by omega, fun H1 s1 => ?_⟩
    rw [ha1]
    refine .inr ⟨true, true, rfl, rfl, _, rfl, iteF ?_⟩
    have ho1 := s1 _ _ ho
    refine ⟨_, rfl, .inr ⟨_, _, _, _, rfl, kE.ty ho1, l2, _, rfl, iteT ?_⟩⟩
    refine ⟨_, rfl, o, CElsewhere, dx, _, _, rfl, ho1, kE.cl, nE, rfl, a, rfl, Ka.W, by omega, fun H2 s2 => ⟨_, rfl, iteT ?_⟩⟩
    have ho2 := s2 _ _ ho1
    refine ⟨_, rfl, _, rfl, o, CElsewhere, dx, _, _, rfl, ho2, kE.cl, nE, rfl, _, rfl, a, y, rfl, la, by omega, fun H3 s3 => ?_⟩
    refine ⟨x, a ++ y ++ bk a, rfl, fun H4 s4 => ?_⟩
    rw [ha2]
    exact q _ (s1.trans (s2.trans (s3.trans s4)))
  · have ty := kR.ty ho
    have b1 : ∀ f, IsF f → walk (a ++ tw R ++ bk a) f = walk x f := fun f hf => Kr.ha.begun Kr.Wa hf
    have b2 : ∀ f, IsF f → walk (c ++ tw R' ++ bk c) f = walk y f := fun f hf => Kr.hc.begun Kr.Wc hf
    have a1 : al (a ++ tw R ++ bk a) x = true := (al_iff _ _).mpr ⟨b1 _ F_nought, b1 _ F_end, b1 _ F_one⟩
    have a2 : al (c ++ tw R' ++ bk c) y = true := (al_iff _ _).mpr ⟨b2 _ F_nought, b2 _ F_end, b2 _ F_one⟩
    have a3 : al x (a ++ tw R ++ bk a) = true := (al_iff _ _).mpr ⟨(b1 _ F_nought).symm, (b1 _ F_end).symm, (b1 _ F_one).symm⟩
    have a4 : al y (c ++ tw R' ++ bk c) = true := (al_iff _ _).mpr ⟨(b2 _ F_nought).symm, (b2 _ F_end).symm, (b2 _ F_one).symm⟩
    have hB : rndsB a (tw R) c (tw R') x y = true := by
      unfold rndsB
      rw [isRnd_of Kr.hR, isRnd_of Kr.hR', Kr.no, a1, a2]
      rfl
    have la := Kr.la
    have lb := Kr.lb
    have lc := Kr.lc
    have ld := Kr.ld
    refine ⟨_, rfl, .inr ⟨_, _, _, _, rfl, ty, p1, _, rfl, iteF ?_⟩⟩
    refine ⟨_, rfl, .inr ⟨_, _, _, _, rfl, ty, p2, _, rfl, .inr ⟨_, _, _, _, rfl, ty, p3, ⟨rfl, _, rfl, iteF ?_⟩⟩⟩⟩
    refine ⟨_, rfl, .inr ⟨_, _, _, _, rfl, ty, p4, _, rfl, iteF ?_⟩⟩
    refine ⟨_, rfl, .inr ⟨_, _, _, _, rfl, ty, p5, _, rfl, iteF ?_⟩⟩
    refine .inr ⟨_, rfl, o, dx, _, rfl, ho, rfl, _, rfl, _, rfl, ?_⟩
    refine ⟨o, a, tw R, c, tw R', x, y, rfl, ⟨dx, ho⟩, Kr.Wa, Kr.Wc, la, lb, lc, ld, fun H1 s1 => ?_⟩
    rw [hB]
    refine .inr ⟨true, true, rfl, rfl, _, rfl, iteF ?_⟩
    have ho1 := s1 _ _ ho
    refine ⟨_, rfl, .inr ⟨_, _, _, _, rfl, kR.ty ho1, p2, _, rfl, iteF ?_⟩⟩
    refine ⟨_, rfl, o, CRounds, dx, _, _, rfl, ho1, kR.cl, nR1, rfl, _, rfl, o, CRounds, dx, _, _, rfl, ho1, kR.cl, nR2, rfl, _, rfl, o, CRounds, dx, _, _, rfl, ho1, kR.cl, nR3, rfl, _, rfl, o, CRounds, dx, _, _, rfl, ho1, kR.cl, nR4, rfl, four_ok, fun m km => ⟨m, rfl, ⟨_, SqL.of upd_same⟩, ?_⟩⟩
    have sm := same_new km (.lst [V.str (S a), V.str (S (tw R)), V.str (S c), V.str (S (tw R'))])
    have Em := @upd_same H1 m (.lst [V.str (S a), V.str (S (tw R)), V.str (S c), V.str (S (tw R'))])
    have T2 := s1.trans sm
    generalize upd H1 m (.lst [V.str (S a), V.str (S (tw R)), V.str (S c), V.str (S (tw R'))]) = H2 at *
    refine lc_growI (ItOn.list (xs := [V.str (S a), V.str (S (tw R)), V.str (S c), V.str (S (tw R'))])) (fun _ => V.bl true) (fun H' hs => SqL.of (hs _ _ Em)) four_ok (fun i z H' Q' hz hs hq => ?_) (fun H3 m3 s3 k3 => ?_)
    · have hd : ∃ d, z = .str (S d) ∧ IsW d ∧ d.length ≤ 20000 := by
        match i, hz with
        | 0, hz => cases hz; exact ⟨a, rfl, Kr.Wa, la⟩
        | 1, hz => cases hz; exact ⟨_, rfl, tw_W R, lb⟩
        | 2, hz => cases hz; exact ⟨c, rfl, Kr.Wc, lc⟩
        | 3, hz => cases hz; exact ⟨_, rfl, tw_W R', ld⟩
        | n + 4, hz => cases hz
      obtain ⟨d, rfl, Wd, ldd⟩ := hd
      exact ⟨_, rfl, d, rfl, Wd, by omega, hq⟩
    rw [replicate_true]
    refine ⟨m3, _, rfl, SqL.of upd_same, _, rfl, ?_⟩
    show if (!((List.replicate _ true).all id)) = true then _ else _
    rw [all_true]
    refine iteF ?_
    have T4 := T2.trans (s3.trans (same_new k3 (.lst ((List.replicate [V.str (S a), V.str (S (tw R)), V.str (S c), V.str (S (tw R'))].length true).map V.bl))))
    generalize upd H3 m3 (.lst ((List.replicate [V.str (S a), V.str (S (tw R)), V.str (S c), V.str (S (tw R'))].length true).map V.bl)) = H4 at *
    have ho4 := T4 _ _ ho
    refine ⟨_, rfl, o, CRounds, dx, _, _, rfl, ho4, kR.cl, nR2, rfl, tw R, rfl, lb, fun H5 s5 => ⟨_, rfl, ?_⟩⟩
    rw [lawRnd_of Kr.hR]
    have ho5 := s5 _ _ ho4
    refine iteF ⟨_, rfl, o, CRounds, dx, _, _, rfl, ho5, kR.cl, nR4, rfl, tw R', rfl, ld, fun H6 s6 => ⟨_, rfl, ?_⟩⟩
    rw [lawRnd_of Kr.hR']
    have ho6 := s6 _ _ ho5
    refine iteF ⟨_, rfl, o, CRounds, dx, _, _, rfl, ho6, kR.cl, nR2, rfl, _, rfl, o, CRounds, dx, _, _, rfl, ho6, kR.cl, nR4, rfl, tw R, tw R', rfl, lb, ld, Kr.no, fun H7 s7 => ⟨_, rfl, iteF ?_⟩⟩
    have ho7 := s7 _ _ ho6
    refine ⟨_, rfl, _, rfl, o, CRounds, dx, _, _, rfl, ho7, kR.cl, nR1, rfl, _, rfl, o, CRounds, dx, _, _, rfl, ho7, kR.cl, nR2, rfl, a, tw R, rfl, la, lb, fun H8 s8 => ?_⟩
    refine ⟨x, a ++ tw R ++ bk a, rfl, fun H9 s9 => ⟨_, rfl, ?_⟩⟩
    rw [a3]
    have ho9 := s9 _ _ (s8 _ _ ho7)
    refine iteF ⟨_, rfl, _, rfl, o, CRounds, dx, _, _, rfl, ho9, kR.cl, nR3, rfl, _, rfl, o, CRounds, dx, _, _, rfl, ho9, kR.cl, nR4, rfl, c, tw R', rfl, lc, ld, fun H10 s10 => ?_⟩
    refine ⟨y, c ++ tw R' ++ bk c, rfl, fun H11 s11 => ?_⟩
    rw [a4]
    exact q _ (T4.trans (s5.trans (s6.trans (s7.trans (s8.trans (s9.trans (s10.trans s11)))))))

end
end K07

set_option Elab.async false
set_option linter.all false
set_option maxRecDepth 100000
set_option maxHeartbeats 4000000
namespace K07
open PySem L2 TW TX
seal L2.PE L2.PT L2.PA L2.PS L2.PSs L2.PI L2.PG L2.PGs L2.PPs L2.PW L2.PTs L2.PO
section
variable {P : Program} {w : World} {K : PySem.W.Frag} {mg : Str → Option Value} {base : Heap} {f : Addr} {fd : FuncData} {k : Nat}
abbrev s_law : Stmt := top 52
theorem sc_law : FnScope ["_law_script", "_law_one", "_law_ahead", "_law_middle", "_law_turned", "_law_begun_here", "_law_pairs", "_law_first", "_law_second"] ["_law_script"] (defScope s_law) := ⟨rfl, rfl, rfl, by decide +kernel, rfl, by decide +kernel, by decide +kernel⟩
theorem ok_law {CE CR : Addr} (G : Glo mg) (mE : mg "Elsewhere" = some (.ref CE)) (kE : KCls K CE) (l2 : PySem.W.kitOne K (.ref CE) (.ref CE) = some true) (F : Fun K "law" "law" s_law f fd) (c_law_letters : Callee P w K mg base k "_law_letters" ["_law_script", "_law_by"] (spLetters K)) (c_law_begun : Callee P w K mg base k "_law_begun" ["_law_ahead", "_law_word"] spLBegun) (c_law_backwards : Callee P w K mg base k "_law_backwards" ["_law_word"] spLBack)
    (c_law_right : Callee P w K mg base k "_law_right" ["_law_one", "_law_other", "_law_found"] (spRight7 CE CR)) (c_elsewhere : Callee P w K mg base k "elsewhere" ["one", "other"] (spElsewhere CE CR)) : FnOk P w K mg base CX0 (k + 1) f fd ["_law_script"] (spLaw K) := by
  refine F.ok sc_law (fun vs H Q E h => ?_) (fun cdv A outer s H vs Q E hr h => ?_)
  · obtain ⟨a, ns, rfl, _⟩ := h; rfl
  obtain ⟨sc, ns, rfl, hS, h63, q⟩ := h
  have nd := sc_law.nd
  refine ⟨_, (pss_cons (ps_par (i := 1) (j := 2) rfl nd rfl rfl (by decide) rfl rfl (pa_cons (pe_calls c_law_letters hr rfl (pa_cons (pv 0) (pa_cons pe_int pa_nil))) (pa_cons (pe_calls c_law_letters hr rfl (pa_cons (pv 0) (pa_cons pe_int pa_nil))) pa_nil)) rfl)
      (pss_cons (ps_set (i := 3) nd rfl (Or.inl rfl) (pe_op op_fdivL (pe_callB (call_lenK (K := K) rfl) rfl G.n_len bt_len (pa_cons (pv 1) pa_nil)) pe_int))
      (pss_cons (ps_set (i := 4) nd rfl (Or.inl rfl) (pe_op op_add_str (pe_slice sl_str (pv 1) (po_some (pv 3)) po_none) (pe_slice sl_str (pv 1) po_none (po_some (pv 3)))))
      (pss_cons (ps_set (i := 5) nd rfl (Or.inl rfl) (pe_calls c_law_begun hr rfl (pa_cons (pv 2) (pa_cons (pv 1) pa_nil))))
      (pss_cons (ps_set (i := 6) nd rfl (Or.inl rfl) (pe_lst (pa_cons (pe_tup (pa_cons (pv 1) (pa_cons (pv 2) pa_nil))) (pa_cons (pe_tup (pa_cons (pv 4) (pa_cons (pv 1) pa_nil))) (pa_cons (pe_tup (pa_cons (pv 1) (pa_cons (pe_calls c_law_backwards hr rfl (pa_cons (pv 1) pa_nil)) pa_nil))) (pa_cons (pe_tup (pa_cons (pv 5) (pa_cons (pv 1) pa_nil))) (pa_cons (pe_tup (pa_cons (pv 1) (pa_cons (pe_op op_add_str (pv 5) pe_str) pa_nil))) pa_nil)))))))
      (pss_cons (ps_for PassesOwn.never rfl (pi_list (pe_op op_cat (pv 6) (pe_lst (pa_cons (pe_tup (pa_cons (pe_calls c_law_begun hr rfl (pa_cons (pv 1) (pa_cons pe_str pa_nil))) (pa_cons (pe_calls c_law_begun hr rfl (pa_cons (pv 2) (pa_cons pe_str pa_nil))) pa_nil))) pa_nil)))) (pg_tup rfl (pgs_cons (pg_name (i := 7) nd rfl (Or.inl rfl)) (pgs_cons (pg_name (i := 8) nd rfl (Or.inl rfl)) pgs_nil))) (pss_one (ps_if (pt_not (pt_val (pe_calls c_law_right hr rfl (pa_cons (pv 7) (pa_cons (pv 8) (pa_cons (pe_calls c_elsewhere hr rfl (pa_cons (pv 7) (pa_cons (pv 8) pa_nil))) pa_nil)))))) (pss_one (ps_ret pe_bl)) pss_nil)))
      (pss_one (ps_ret (pe_and (pe_callB (call_isiAK (K := K) rfl) rfl G.n_isinstance bt_isinstance (pa_cons (pe_calls c_elsewhere hr rfl (pa_cons (pv 1) (pa_cons (pv 4) pa_nil))) (pa_cons (pe_glob (v := .ref CE) rfl mE rfl) pa_nil))) (pe_one (pe_callB (call_isiAK (K := K) rfl) rfl G.n_isinstance bt_isinstance (pa_cons (pe_calls c_elsewhere hr rfl (pa_cons (pv 1) (pa_cons (pv 5) pa_nil))) (pa_cons (pe_glob (v := .ref CE) rfl mE rfl) pa_nil))))))))))))), ?_⟩
  obtain ⟨u, hu, wu, lu⟩ : ∃ u, letters 1 ns = u ∧ IsW u ∧ u.length ≤ 63 := ⟨_, rfl, letters_W _ _, by rw [letters_len]; exact h63⟩
  obtain ⟨v, hv, wv, lw⟩ : ∃ v, letters 3 ns = v ∧ IsW v ∧ v.length ≤ 63 := ⟨_, rfl, letters_W _ _, by rw [letters_len]; exact h63⟩
  refine ⟨_, rfl, sc, ns, 1, rfl, hS, h63, by decide, by decide, ?_⟩
  refine ⟨_, rfl, sc, ns, 3, rfl, hS, h63, by decide, by decide, ?_⟩
  rw [hu, hv]
  refine ⟨_, _, rfl, ?_⟩
  have hlS : (S u).length ≤ sizeLine := by rw [S_len]; exact big (by omega)
  refine ⟨_, rfl, .str (S u), u.length, rfl, ⟨hlS, (S_len u).symm⟩, _, _, rfl, rfl, ⟨by decide, by decide⟩, ?_⟩
  have hm0 : 0 ≤ (u.length : Int) / 2 := by omega
  have hm1 : (u.length : Int) / 2 ≤ u.length := by omega
  refine ⟨_, rfl, _, rfl, ((u.length : Int) / 2), rfl, _, rfl, hlS, _, rfl, _, rfl, ((u.length : Int) / 2), rfl, _, rfl, hlS, _, _, rfl, rfl, ?_, ?_⟩
  · rw [S_from hm0 hm1, S_to hm0 hm1, S_len, S_len, List.length_drop, List.length_take]
    exact big (by omega)
  rw [S_from hm0 hm1, S_to hm0 hm1, S_app]
  have hturn : ∀ f, IsF f → walk u (walk (u.drop ((u.length : Int) / 2).toNat) f) = walk (u.drop ((u.length : Int) / 2).toNat) (walk (u.drop ((u.length : Int) / 2).toNat ++ u.take ((u.length : Int) / 2).toNat) f) := fun f _ => by
    rw [walk_append, ← walk_append (u.take ((u.length : Int) / 2).toNat), List.take_append_drop]
  have wd' : IsW (u.drop ((u.length : Int) / 2).toNat) := fun c hc => wu c (List.mem_of_mem_drop hc)
  have wt : IsW (u.drop ((u.length : Int) / 2).toNat ++ u.take ((u.length : Int) / 2).toNat) := wd'.append fun c hc => wu c (List.mem_of_mem_take hc)
  have lt : (u.drop ((u.length : Int) / 2).toNat ++ u.take ((u.length : Int) / 2).toNat).length ≤ 63 := by
    rw [List.length_append, List.length_drop, List.length_take]
    omega
  generalize u.drop ((u.length : Int) / 2).toNat ++ u.take ((u.length : Int) / 2).toNat = t at *
  refine ⟨_, rfl, _, rfl, v, u, rfl, by omega, by omega, fun H1 s1 => ?_⟩
  have hbeg : ∀ f, IsF f → walk u (walk v f) = walk v (walk (v ++ u ++ bk v) f) := fun f hf => by
    rw [walk_append, walk_append]
    have e := walk_bk (w := bk v) (bk_W v) (f := walk u (walk v f)) (walk_F (walk_F hf))
    rw [bk_bk wv] at e
    exact e.symm
  have wb : IsW (v ++ u ++ bk v) := (wv.append wu).append (bk_W v)
  have lb : (v ++ u ++ bk v).length ≤ 189 := by
    rw [List.length_append, List.length_append, bk_length]
    omega
  generalize v ++ u ++ bk v = b at *
  refine ⟨_, rfl, _, rfl, two_ok, fun a1 k1 => ?_⟩
  have S1 := same_new k1 (.tup [.str (S u), .str (S v)])
  have E1 := @upd_same H1 a1 (.tup [.str (S u), .str (S v)])
  generalize upd H1 a1 (.tup [.str (S u), .str (S v)]) = G1 at *
  refine ⟨_, rfl, _, rfl, two_ok, fun a2 k2 => ?_⟩
  have S2 := same_new k2 (.tup [.str (S t), .str (S u)])
  have E2 := @upd_same G1 a2 (.tup [.str (S t), .str (S u)])
  generalize upd G1 a2 (.tup [.str (S t), .str (S u)]) = G2 at *
  refine ⟨_, rfl, _, rfl, u, rfl, by omega, fun G3 S3 => ⟨two_ok, fun a3 k3 => ?_⟩⟩
  have S4 := same_new k3 (.tup [.str (S u), .str (S (bk u))])
  have E3 := @upd_same G3 a3 (.tup [.str (S u), .str (S (bk u))])
  generalize upd G3 a3 (.tup [.str (S u), .str (S (bk u))]) = G4 at *
  refine ⟨_, rfl, _, rfl, two_ok, fun a4 k4 => ?_⟩
  have S5 := same_new k4 (.tup [.str (S b), .str (S u)])
  have E4 := @upd_same G4 a4 (.tup [.str (S b), .str (S u)])
  generalize upd G4 a4 (.tup [.str (S b), .str (S u)]) = G5 at *
  refine ⟨_, rfl, _, rfl, _, _, rfl, rfl, by rw [S_len]; exact big (show b.length + 1 ≤ 1000000 by omega), two_ok, fun a5 k5 => ?_⟩
  have ebt : S b ++ ("t" : Str) = S (b ++ [116]) := by rw [lit_t, S_app]
  rw [ebt] at *
  have S6 := same_new k5 (.tup [.str (S u), .str (S (b ++ [116]))])
  have E5 := @upd_same G5 a5 (.tup [.str (S u), .str (S (b ++ [116]))])
  generalize upd G5 a5 (.tup [.str (S u), .str (S (b ++ [116]))]) = G6 at *
  refine ⟨small (show 5 ≤ 1000 by decide), fun l1 k6 => ?_⟩
  have S7 := same_new k6 (.lst [.ref a1, .ref a2, .ref a3, .ref a4, .ref a5])
  have EL := @upd_same G6 l1 (.lst [.ref a1, .ref a2, .ref a3, .ref a4, .ref a5])
  generalize upd G6 l1 (.lst [.ref a1, .ref a2, .ref a3, .ref a4, .ref a5]) = G7 at *
  refine ⟨_, rfl, _, rfl, u, [116, 116, 116], ?_, by omega, by decide, fun G8 S8 => ?_⟩
  · rw [show ("ttt" : Str) = S [116, 116, 116] by decide +kernel]
    rfl
  refine ⟨_, rfl, v, [116, 116], ?_, by omega, by decide, fun G9 S9 => ⟨two_ok, fun a6 k7 => ?_⟩⟩
  · rw [show ("tt" : Str) = S [116, 116] by decide +kernel]
    rfl
  have S10 := same_new k7 (.tup [.str (S (u ++ [116, 116, 116] ++ bk u)), .str (S (v ++ [116, 116] ++ bk v))])
  have E6 := @upd_same G9 a6 (.tup [.str (S (u ++ [116, 116, 116] ++ bk u)), .str (S (v ++ [116, 116] ++ bk v))])
  have w3 : IsW (u ++ [116, 116, 116] ++ bk u) := (wu.append (by intro c hc; simp at hc; exact .inl hc)).append (bk_W u)
  have w4 : IsW (v ++ [116, 116] ++ bk v) := (wv.append (by intro c hc; simp at hc; exact .inl hc)).append (bk_W v)
  have l3 : (u ++ [116, 116, 116] ++ bk u).length ≤ 200 := by
    rw [List.length_append, List.length_append, bk_length]
    simp only [List.length_cons, List.length_nil]
    omega
  have l4 : (v ++ [116, 116] ++ bk v).length ≤ 200 := by
    rw [List.length_append, List.length_append, bk_length]
    simp only [List.length_cons, List.length_nil]
    omega
  generalize u ++ [116, 116, 116] ++ bk u = z3 at *
  generalize v ++ [116, 116] ++ bk v = z4 at *
  generalize upd G9 a6 (.tup [.str (S z3), .str (S z4)]) = G10 at *
  refine ⟨small (show 1 ≤ 1000 by decide), fun l2' k8 => ?_⟩
  have S11 := same_new k8 (.lst [.ref a6])
  have EM := @upd_same G10 l2' (.lst [.ref a6])
  generalize upd G10 l2' (.lst [.ref a6]) = G11 at *
  have U7 : Same G7 G11 := S8.trans (S9.trans (S10.trans S11))
  refine ⟨l1, l2', _, _, rfl, rfl, U7 _ _ EL, EM, small (show 6 ≤ 1000 by decide), fun l3' k9 => ⟨l3', rfl, ⟨_, SqL.of upd_same⟩, ?_⟩⟩
  have S12 := same_new k9 (.lst ([V.ref a1, .ref a2, .ref a3, .ref a4, .ref a5] ++ [.ref a6]))
  have EN := @upd_same G11 l3' (.lst ([V.ref a1, .ref a2, .ref a3, .ref a4, .ref a5] ++ [.ref a6]))
  generalize upd G11 l3' (.lst ([V.ref a1, .ref a2, .ref a3, .ref a4, .ref a5] ++ [.ref a6])) = G12 at *
  have U6 := S7.trans (U7.trans S12)
  have F1 := (S2.trans (S3.trans (S4.trans (S5.trans (S6.trans U6))))) _ _ E1
  have F2 := (S3.trans (S4.trans (S5.trans (S6.trans U6)))) _ _ E2
  have F3 := (S5.trans (S6.trans U6)) _ _ E3
  have F4 := (S6.trans U6) _ _ E4
  have F5 := U6 _ _ E5
  have F6 := (S11.trans S12) _ _ E6
  have wbt : IsW (b ++ [116]) := wb.append (by intro c hc; simp at hc; exact .inl hc)
  have lbt : (b ++ [116]).length ≤ 200 := by
    rw [List.length_append]
    simp only [List.length_cons, List.length_nil]
    omega
  refine for_on (ItOn.list (xs := [V.ref a1, .ref a2, .ref a3, .ref a4, .ref a5] ++ [.ref a6])) (fun i σ' H' => Same G12 H' ∧ ∃ c d, σ' = [some (.ref sc), some (.str (S u)), some (.str (S v)), some (.int ((u.length : Int) / 2)), some (.str (S t)), some (.str (S b)), some (.ref l1), c, d]) ⟨Same.refl _, _, _, rfl⟩ (fun _ _ H' _ h => SqL.of (h.1 _ _ EN)) ?_ ?_
  · rintro i y σ' H' hy ⟨hs, c, d, rfl⟩
    have hyp : ∃ p x1 x2, y = .ref p ∧ H' p = some (.tup [.str (S x1), .str (S x2)]) ∧ IsW x1 ∧ IsW x2 ∧ x1.length ≤ 200 ∧ x2.length ≤ 200 := by
      match i, hy with
      | 0, hy => cases hy; exact ⟨a1, u, v, rfl, hs _ _ F1, wu, wv, by omega, by omega⟩
      | 1, hy => cases hy; exact ⟨a2, t, u, rfl, hs _ _ F2, wt, wu, by omega, by omega⟩
      | 2, hy => cases hy; exact ⟨a3, u, bk u, rfl, hs _ _ F3, wu, bk_W u, by omega, by rw [bk_length]; omega⟩
      | 3, hy => cases hy; exact ⟨a4, b, u, rfl, hs _ _ F4, wb, wu, by omega, by omega⟩
      | 4, hy => cases hy; exact ⟨a5, u, b ++ [116], rfl, hs _ _ F5, wu, wbt, by omega, lbt⟩
      | 5, hy => cases hy; exact ⟨a6, z3, z4, rfl, hs _ _ F6, w3, w4, l3, l4⟩
      | n + 6, hy => cases hy
    obtain ⟨p, x1, x2, rfl, hp, wx1, wx2, lx1, lx2⟩ := hyp
    refine ⟨p, _, rfl, SqT.of hp, rfl, _, _, rfl, _, _, rfl, rfl, ?_⟩
    refine ⟨_, rfl, _, rfl, _, rfl, _, rfl, x1, x2, rfl, wx1, wx2, lx1, lx2, fun o H1' a s1' h1' ok => ?_, fun o H1' a c' R R' s1' h1' ok => ?_⟩
    · exact ⟨x1, x2, o, rfl, wx1, wx2, lx1, lx2, .inl ⟨a, h1', ok⟩, fun H2' s2' => ⟨_, rfl, iteF ⟨hs.trans (s1'.trans s2'), _, _, rfl⟩⟩⟩
    · exact ⟨x1, x2, o, rfl, wx1, wx2, lx1, lx2, .inr ⟨a, c', R, R', h1', ok⟩, fun H2' s2' => ⟨_, rfl, iteF ⟨hs.trans (s1'.trans s2'), _, _, rfl⟩⟩⟩
  · rintro σ' H' ⟨hs, c, d, rfl⟩
    refine ⟨_, rfl, _, rfl, u, t, rfl, wu, wt, by omega, by omega, fun o H1' a s1' h1' ok => ?_, fun o H1' a c' R R' s1' h1' ok => (conj_else ok wd' hturn).elim⟩
    obtain ⟨dx, ho⟩ := h1'
    refine .inr ⟨_, _, _, _, rfl, kE.ty ho, l2, _, rfl, iteT ?_⟩
    refine ⟨_, rfl, _, rfl, u, b, rfl, wu, wb, by omega, by omega, fun o2 H2' a' s2' h2' ok2 => ?_, fun o2 H2' a' c' R R' s2' h2' ok2 => (conj_else ok2 wv hbeg).elim⟩
    obtain ⟨dx2, ho2⟩ := h2'
    exact .inr ⟨_, _, _, _, rfl, kE.ty ho2, l2, q _⟩

end
end K07

set_option Elab.async false
set_option linter.all false
set_option maxRecDepth 100000
set_option maxHeartbeats 4000000
namespace K07
open PySem L2 TW TX
theorem all_mk {l : PySem.W.OpenLaw} {w : World} {K : PySem.W.Frag} {h : Heap} {mg : Str → Option Value} {fa : Addr} (X : K.In h) (G : h.Ns mainGlobals mg) (hfa : mg "law" = some (.ref fa))
    {f0 : Addr} {od0 an0 : Option Addr} {sl0 : Array (Option Value)} {oc0 kV0 dc0 pm0 cd0 ct0 : Value}
    {f1 : Addr} {od1 an1 : Option Addr} {sl1 : Array (Option Value)} {oc1 kV1 dc1 pm1 cd1 ct1 : Value}
    {f2 : Addr} {od2 an2 : Option Addr} {sl2 : Array (Option Value)} {oc2 kV2 dc2 pm2 cd2 ct2 : Value}
    {f3 : Addr} {od3 an3 : Option Addr} {sl3 : Array (Option Value)} {oc3 kV3 dc3 pm3 cd3 ct3 : Value}
    {f4 : Addr} {od4 an4 : Option Addr} {sl4 : Array (Option Value)} {oc4 kV4 dc4 pm4 cd4 ct4 : Value}
    {f5 : Addr} {od5 an5 : Option Addr} {sl5 : Array (Option Value)} {oc5 kV5 dc5 pm5 cd5 ct5 : Value}
    {f6 : Addr} {od6 an6 : Option Addr} {sl6 : Array (Option Value)} {oc6 kV6 dc6 pm6 cd6 ct6 : Value}
    {f7 : Addr} {od7 an7 : Option Addr} {sl7 : Array (Option Value)} {oc7 kV7 dc7 pm7 cd7 ct7 : Value}
    {f8 : Addr} {od8 an8 : Option Addr} {sl8 : Array (Option Value)} {oc8 kV8 dc8 pm8 cd8 ct8 : Value}
    {f9 : Addr} {od9 an9 : Option Addr} {sl9 : Array (Option Value)} {oc9 kV9 dc9 pm9 cd9 ct9 : Value}
    {f10 : Addr} {od10 an10 : Option Addr} {sl10 : Array (Option Value)} {oc10 kV10 dc10 pm10 cd10 ct10 : Value}
    {f11 : Addr} {od11 an11 : Option Addr} {sl11 : Array (Option Value)} {oc11 kV11 dc11 pm11 cd11 ct11 : Value}
    {f12 : Addr} {od12 an12 : Option Addr} {sl12 : Array (Option Value)} {oc12 kV12 dc12 pm12 cd12 ct12 : Value}
    {f13 : Addr} {od13 an13 : Option Addr} {sl13 : Array (Option Value)} {oc13 kV13 dc13 pm13 cd13 ct13 : Value}
    {f14 : Addr} {od14 an14 : Option Addr} {sl14 : Array (Option Value)} {oc14 kV14 dc14 pm14 cd14 ct14 : Value}
    {f15 : Addr} {od15 an15 : Option Addr} {sl15 : Array (Option Value)} {oc15 kV15 dc15 pm15 cd15 ct15 : Value}
    {f16 : Addr} {od16 an16 : Option Addr} {sl16 : Array (Option Value)} {oc16 kV16 dc16 pm16 cd16 ct16 : Value}
    {f17 : Addr} {od17 an17 : Option Addr} {sl17 : Array (Option Value)} {oc17 kV17 dc17 pm17 cd17 ct17 : Value}
    {f18 : Addr} {od18 an18 : Option Addr} {sl18 : Array (Option Value)} {oc18 kV18 dc18 pm18 cd18 ct18 : Value}
    {f19 : Addr} {od19 an19 : Option Addr} {sl19 : Array (Option Value)} {oc19 kV19 dc19 pm19 cd19 ct19 : Value}
    {f20 : Addr} {od20 an20 : Option Addr} {sl20 : Array (Option Value)} {oc20 kV20 dc20 pm20 cd20 ct20 : Value}
    {f21 : Addr} {od21 an21 : Option Addr} {sl21 : Array (Option Value)} {oc21 kV21 dc21 pm21 cd21 ct21 : Value}
    {f22 : Addr} {od22 an22 : Option Addr} {sl22 : Array (Option Value)} {oc22 kV22 dc22 pm22 cd22 ct22 : Value}
    {f23 : Addr} {od23 an23 : Option Addr} {sl23 : Array (Option Value)} {oc23 kV23 dc23 pm23 cd23 ct23 : Value}
    {f24 : Addr} {od24 an24 : Option Addr} {sl24 : Array (Option Value)} {oc24 kV24 dc24 pm24 cd24 ct24 : Value}
    {f25 : Addr} {od25 an25 : Option Addr} {sl25 : Array (Option Value)} {oc25 kV25 dc25 pm25 cd25 ct25 : Value}
    {f26 : Addr} {od26 an26 : Option Addr} {sl26 : Array (Option Value)} {oc26 kV26 dc26 pm26 cd26 ct26 : Value}
    {f27 : Addr} {od27 an27 : Option Addr} {sl27 : Array (Option Value)} {oc27 kV27 dc27 pm27 cd27 ct27 : Value}
    {f28 : Addr} {od28 an28 : Option Addr} {sl28 : Array (Option Value)} {oc28 kV28 dc28 pm28 cd28 ct28 : Value}
    {f29 : Addr} {od29 an29 : Option Addr} {sl29 : Array (Option Value)} {oc29 kV29 dc29 pm29 cd29 ct29 : Value}
    {f30 : Addr} {od30 an30 : Option Addr} {sl30 : Array (Option Value)} {oc30 kV30 dc30 pm30 cd30 ct30 : Value}
    {f31 : Addr} {od31 an31 : Option Addr} {sl31 : Array (Option Value)} {oc31 kV31 dc31 pm31 cd31 ct31 : Value}
    {f32 : Addr} {od32 an32 : Option Addr} {sl32 : Array (Option Value)} {oc32 kV32 dc32 pm32 cd32 ct32 : Value}
    {f33 : Addr} {od33 an33 : Option Addr} {sl33 : Array (Option Value)} {oc33 kV33 dc33 pm33 cd33 ct33 : Value}
    {aLETTERS : Addr} {odL : Option Addr} {slL : Array (Option Value)} {nL : Nat} {t1 t2 t3 : Tok}
    {aEX : Addr} {nE : Nat} {e1 e2 e3 : Tok} {es : Array DictEntry}
    {aTF a01 a10 a11 : Addr} {odT odt01 odt10 odt11 : Option Addr} {slT slt01 slt10 slt11 : Array (Option Value)} {nT nt01 nt10 nt11 : Nat} {u1 u2 u3 u4 u5 u6 : Tok}
    {aLR : Addr} {odLR : Option Addr} {slLR : Array (Option Value)} {nLR : Nat} {tLR0 tLR1 tLR2 tLR3 : Tok}
    {aRP : Addr} {odRP : Option Addr} {slRP : Array (Option Value)} {nRP : Nat} {tRP0 tRP1 : Tok}
    {aPO : Addr} {odPO : Option Addr} {slPO : Array (Option Value)} {nPO : Nat} {tPO0 tPO1 tPO2 : Tok}
    {aOV : Addr} {nOV : Nat} {esOV : Array DictEntry} {ov1 ov2 : Tok} {bT pT0 pT1 pT2 pT3 : Addr} {odOT odOT0 odOT1 odOT2 odOT3 : Option Addr} {slOT slOT0 slOT1 slOT2 slOT3 : Array (Option Value)} {nOT nOT0 nOT1 nOT2 nOT3 : Nat} {qT00 qT01 qT02 qT10 qT11 qT12 qT20 qT21 qT22 qT30 qT31 qT32 : Tok} {bU pU0 pU1 pU2 pU3 : Addr} {odOU odOU0 odOU1 odOU2 odOU3 : Option Addr} {slOU slOU0 slOU1 slOU2 slOU3 : Array (Option Value)} {nOU nOU0 nOU1 nOU2 nOU3 : Nat} {qU00 qU01 qU02 qU10 qU11 qU12 qU20 qU21 qU22 qU30 qU31 qU32 : Tok}
    {aBT bBt bBu bBr : Addr} {nBT nBt nBu nBr : Nat} {bt1 bt2 bt3 bt4 bt5 : Tok} {esBT : Array DictEntry} {odBt odBu odBr : Option Addr} {slBt slBu slBr : Array (Option Value)}
    {aTG : Addr} {nTG : Nat} {g1 g2 g3 g4 g5 : Tok} {esTG : Array DictEntry}
    {CAnswer : Addr}
    {CLed : Addr}
    {CParts : Addr}
    {CElsewhere : Addr}
    {CRounds : Addr}
    (q_Answer : PySem.W.nsIn K mainGlobals "Answer" = some (some (.ref CAnswer)))
    (q_Led : PySem.W.nsIn K mainGlobals "Led" = some (some (.ref CLed)))
    (q_Parts : PySem.W.nsIn K mainGlobals "Parts" = some (some (.ref CParts)))
    (q_Elsewhere : PySem.W.nsIn K mainGlobals "Elsewhere" = some (some (.ref CElsewhere)))
    (mi_Elsewhere : PySem.W.findIn K (.ref CElsewhere) "__init__" = some (some (.ref f10)))
    (ma_Elsewhere_shows : PySem.W.findIn K (.ref CElsewhere) "shows" = some (some (.ref f11)))
    (q_Rounds : PySem.W.nsIn K mainGlobals "Rounds" = some (some (.ref CRounds)))
    (mi_Rounds : PySem.W.findIn K (.ref CRounds) "__init__" = some (some (.ref f12)))
    (ma_Rounds_shows : PySem.W.findIn K (.ref CRounds) "shows" = some (some (.ref f13)))
    (a0 : PySem.W.nsIn K mainGlobals "is_word" = some (some (.ref f0)))
    (l0 : K.lookup f0 = some ⟨oc0, od0, .func (PySem.W.fnOf "is_word" "is_word" (defArgs s_is_word) (defBody s_is_word) (defScope s_is_word) .none kV0 dc0 pm0 an0 cd0 ct0), sl0⟩)
    (c0 : PySem.W.codeIn K cd0 "is_word" = true)
    (k0 : PySem.W.keepIn K (.ref f0) = true)
    (a1 : PySem.W.nsIn K mainGlobals "check_word" = some (some (.ref f1)))
    (l1 : K.lookup f1 = some ⟨oc1, od1, .func (PySem.W.fnOf "check_word" "check_word" (defArgs s_check_word) (defBody s_check_word) (defScope s_check_word) .none kV1 dc1 pm1 an1 cd1 ct1), sl1⟩)
    (c1 : PySem.W.codeIn K cd1 "check_word" = true)
    (k1 : PySem.W.keepIn K (.ref f1) = true)
    (a2 : PySem.W.nsIn K mainGlobals "turned" = some (some (.ref f2)))
    (l2 : K.lookup f2 = some ⟨oc2, od2, .func (PySem.W.fnOf "turned" "turned" (defArgs s_turned) (defBody s_turned) (defScope s_turned) .none kV2 dc2 pm2 an2 cd2 ct2), sl2⟩)
    (c2 : PySem.W.codeIn K cd2 "turned" = true)
    (k2 : PySem.W.keepIn K (.ref f2) = true)
    (a3 : PySem.W.nsIn K mainGlobals "moved" = some (some (.ref f3)))
    (l3 : K.lookup f3 = some ⟨oc3, od3, .func (PySem.W.fnOf "moved" "moved" (defArgs s_moved) (defBody s_moved) (defScope s_moved) .none kV3 dc3 pm3 an3 cd3 ct3), sl3⟩)
    (c3 : PySem.W.codeIn K cd3 "moved" = true)
    (k3 : PySem.W.keepIn K (.ref f3) = true)
    (a4 : PySem.W.nsIn K mainGlobals "follow" = some (some (.ref f4)))
    (l4 : K.lookup f4 = some ⟨oc4, od4, .func (PySem.W.fnOf "follow" "follow" (defArgs s_follow) (defBody s_follow) (defScope s_follow) .none kV4 dc4 pm4 an4 cd4 ct4), sl4⟩)
    (c4 : PySem.W.codeIn K cd4 "follow" = true)
    (k4 : PySem.W.keepIn K (.ref f4) = true)
    (a5 : PySem.W.nsIn K mainGlobals "lead_alike" = some (some (.ref f5)))
    (l5 : K.lookup f5 = some ⟨oc5, od5, .func (PySem.W.fnOf "lead_alike" "lead_alike" (defArgs s_lead_alike) (defBody s_lead_alike) (defScope s_lead_alike) .none kV5 dc5 pm5 an5 cd5 ct5), sl5⟩)
    (c5 : PySem.W.codeIn K cd5 "lead_alike" = true)
    (k5 : PySem.W.keepIn K (.ref f5) = true)
    (a6 : PySem.W.nsIn K mainGlobals "back" = some (some (.ref f6)))
    (l6 : K.lookup f6 = some ⟨oc6, od6, .func (PySem.W.fnOf "back" "back" (defArgs s_back) (defBody s_back) (defScope s_back) .none kV6 dc6 pm6 an6 cd6 ct6), sl6⟩)
    (c6 : PySem.W.codeIn K cd6 "back" = true)
    (k6 : PySem.W.keepIn K (.ref f6) = true)
    (a7 : PySem.W.nsIn K mainGlobals "begun_by" = some (some (.ref f7)))
    (l7 : K.lookup f7 = some ⟨oc7, od7, .func (PySem.W.fnOf "begun_by" "begun_by" (defArgs s_begun_by) (defBody s_begun_by) (defScope s_begun_by) .none kV7 dc7 pm7 an7 cd7 ct7), sl7⟩)
    (c7 : PySem.W.codeIn K cd7 "begun_by" = true)
    (k7 : PySem.W.keepIn K (.ref f7) = true)
    (a8 : PySem.W.nsIn K mainGlobals "is_round" = some (some (.ref f8)))
    (l8 : K.lookup f8 = some ⟨oc8, od8, .func (PySem.W.fnOf "is_round" "is_round" (defArgs s_is_round) (defBody s_is_round) (defScope s_is_round) .none kV8 dc8 pm8 an8 cd8 ct8), sl8⟩)
    (c8 : PySem.W.codeIn K cd8 "is_round" = true)
    (k8 : PySem.W.keepIn K (.ref f8) = true)
    (a9 : PySem.W.nsIn K mainGlobals "is_same_round" = some (some (.ref f9)))
    (l9 : K.lookup f9 = some ⟨oc9, od9, .func (PySem.W.fnOf "is_same_round" "is_same_round" (defArgs s_is_same_round) (defBody s_is_same_round) (defScope s_is_same_round) .none kV9 dc9 pm9 an9 cd9 ct9), sl9⟩)
    (c9 : PySem.W.codeIn K cd9 "is_same_round" = true)
    (k9 : PySem.W.keepIn K (.ref f9) = true)
    (l10 : K.lookup f10 = some ⟨oc10, od10, .func (PySem.W.fnOf "__init__" "Elsewhere.__init__" (defArgs s_Elsewhere_init) (defBody s_Elsewhere_init) (defScope s_Elsewhere_init) .none kV10 dc10 pm10 an10 cd10 ct10), sl10⟩)
    (c10 : PySem.W.codeIn K cd10 "Elsewhere.__init__" = true)
    (k10 : PySem.W.keepIn K (.ref f10) = true)
    (l11 : K.lookup f11 = some ⟨oc11, od11, .func (PySem.W.fnOf "shows" "Elsewhere.shows" (defArgs s_Elsewhere_shows) (defBody s_Elsewhere_shows) (defScope s_Elsewhere_shows) .none kV11 dc11 pm11 an11 cd11 ct11), sl11⟩)
    (c11 : PySem.W.codeIn K cd11 "Elsewhere.shows" = true)
    (k11 : PySem.W.keepIn K (.ref f11) = true)
    (l12 : K.lookup f12 = some ⟨oc12, od12, .func (PySem.W.fnOf "__init__" "Rounds.__init__" (defArgs s_Rounds_init) (defBody s_Rounds_init) (defScope s_Rounds_init) .none kV12 dc12 pm12 an12 cd12 ct12), sl12⟩)
    (c12 : PySem.W.codeIn K cd12 "Rounds.__init__" = true)
    (k12 : PySem.W.keepIn K (.ref f12) = true)
    (l13 : K.lookup f13 = some ⟨oc13, od13, .func (PySem.W.fnOf "shows" "Rounds.shows" (defArgs s_Rounds_shows) (defBody s_Rounds_shows) (defScope s_Rounds_shows) .none kV13 dc13 pm13 an13 cd13 ct13), sl13⟩)
    (c13 : PySem.W.codeIn K cd13 "Rounds.shows" = true)
    (k13 : PySem.W.keepIn K (.ref f13) = true)
    (a14 : PySem.W.nsIn K mainGlobals "add_beat" = some (some (.ref f14)))
    (l14 : K.lookup f14 = some ⟨oc14, od14, .func (PySem.W.fnOf "add_beat" "add_beat" (defArgs s_add_beat) (defBody s_add_beat) (defScope s_add_beat) .none kV14 dc14 pm14 an14 cd14 ct14), sl14⟩)
    (c14 : PySem.W.codeIn K cd14 "add_beat" = true)
    (k14 : PySem.W.keepIn K (.ref f14) = true)
    (a15 : PySem.W.nsIn K mainGlobals "beats_of" = some (some (.ref f15)))
    (l15 : K.lookup f15 = some ⟨oc15, od15, .func (PySem.W.fnOf "beats_of" "beats_of" (defArgs s_beats_of) (defBody s_beats_of) (defScope s_beats_of) .none kV15 dc15 pm15 an15 cd15 ct15), sl15⟩)
    (c15 : PySem.W.codeIn K cd15 "beats_of" = true)
    (k15 : PySem.W.keepIn K (.ref f15) = true)
    (a16 : PySem.W.nsIn K mainGlobals "word_and_round" = some (some (.ref f16)))
    (l16 : K.lookup f16 = some ⟨oc16, od16, .func (PySem.W.fnOf "word_and_round" "word_and_round" (defArgs s_word_and_round) (defBody s_word_and_round) (defScope s_word_and_round) .none kV16 dc16 pm16 an16 cd16 ct16), sl16⟩)
    (c16 : PySem.W.codeIn K cd16 "word_and_round" = true)
    (k16 : PySem.W.keepIn K (.ref f16) = true)
    (a17 : PySem.W.nsIn K mainGlobals "take_pair" = some (some (.ref f17)))
    (l17 : K.lookup f17 = some ⟨oc17, od17, .func (PySem.W.fnOf "take_pair" "take_pair" (defArgs s_take_pair) (defBody s_take_pair) (defScope s_take_pair) .none kV17 dc17 pm17 an17 cd17 ct17), sl17⟩)
    (c17 : PySem.W.codeIn K cd17 "take_pair" = true)
    (k17 : PySem.W.keepIn K (.ref f17) = true)
    (a18 : PySem.W.nsIn K mainGlobals "turn_over" = some (some (.ref f18)))
    (l18 : K.lookup f18 = some ⟨oc18, od18, .func (PySem.W.fnOf "turn_over" "turn_over" (defArgs s_turn_over) (defBody s_turn_over) (defScope s_turn_over) .none kV18 dc18 pm18 an18 cd18 ct18), sl18⟩)
    (c18 : PySem.W.codeIn K cd18 "turn_over" = true)
    (k18 : PySem.W.keepIn K (.ref f18) = true)
    (a19 : PySem.W.nsIn K mainGlobals "settle" = some (some (.ref f19)))
    (l19 : K.lookup f19 = some ⟨oc19, od19, .func (PySem.W.fnOf "settle" "settle" (defArgs s_settle) (defBody s_settle) (defScope s_settle) .none kV19 dc19 pm19 an19 cd19 ct19), sl19⟩)
    (c19 : PySem.W.codeIn K cd19 "settle" = true)
    (k19 : PySem.W.keepIn K (.ref f19) = true)
    (a20 : PySem.W.nsIn K mainGlobals "made_plain" = some (some (.ref f20)))
    (l20 : K.lookup f20 = some ⟨oc20, od20, .func (PySem.W.fnOf "made_plain" "made_plain" (defArgs s_made_plain) (defBody s_made_plain) (defScope s_made_plain) .none kV20 dc20 pm20 an20 cd20 ct20), sl20⟩)
    (c20 : PySem.W.codeIn K cd20 "made_plain" = true)
    (k20 : PySem.W.keepIn K (.ref f20) = true)
    (a21 : PySem.W.nsIn K mainGlobals "elsewhere" = some (some (.ref f21)))
    (l21 : K.lookup f21 = some ⟨oc21, od21, .func (PySem.W.fnOf "elsewhere" "elsewhere" (defArgs s_elsewhere) (defBody s_elsewhere) (defScope s_elsewhere) .none kV21 dc21 pm21 an21 cd21 ct21), sl21⟩)
    (c21 : PySem.W.codeIn K cd21 "elsewhere" = true)
    (k21 : PySem.W.keepIn K (.ref f21) = true)
    (a22 : PySem.W.nsIn K mainGlobals "_law_letters" = some (some (.ref f22)))
    (l22 : K.lookup f22 = some ⟨oc22, od22, .func (PySem.W.fnOf "_law_letters" "_law_letters" (defArgs s_law_letters) (defBody s_law_letters) (defScope s_law_letters) .none kV22 dc22 pm22 an22 cd22 ct22), sl22⟩)
    (c22 : PySem.W.codeIn K cd22 "_law_letters" = true)
    (k22 : PySem.W.keepIn K (.ref f22) = true)
    (a23 : PySem.W.nsIn K mainGlobals "_law_moved" = some (some (.ref f23)))
    (l23 : K.lookup f23 = some ⟨oc23, od23, .func (PySem.W.fnOf "_law_moved" "_law_moved" (defArgs s_law_moved) (defBody s_law_moved) (defScope s_law_moved) .none kV23 dc23 pm23 an23 cd23 ct23), sl23⟩)
    (c23 : PySem.W.codeIn K cd23 "_law_moved" = true)
    (k23 : PySem.W.keepIn K (.ref f23) = true)
    (a24 : PySem.W.nsIn K mainGlobals "_law_walked" = some (some (.ref f24)))
    (l24 : K.lookup f24 = some ⟨oc24, od24, .func (PySem.W.fnOf "_law_walked" "_law_walked" (defArgs s_law_walked) (defBody s_law_walked) (defScope s_law_walked) .none kV24 dc24 pm24 an24 cd24 ct24), sl24⟩)
    (c24 : PySem.W.codeIn K cd24 "_law_walked" = true)
    (k24 : PySem.W.keepIn K (.ref f24) = true)
    (a25 : PySem.W.nsIn K mainGlobals "_law_same" = some (some (.ref f25)))
    (l25 : K.lookup f25 = some ⟨oc25, od25, .func (PySem.W.fnOf "_law_same" "_law_same" (defArgs s_law_same) (defBody s_law_same) (defScope s_law_same) .none kV25 dc25 pm25 an25 cd25 ct25), sl25⟩)
    (c25 : PySem.W.codeIn K cd25 "_law_same" = true)
    (k25 : PySem.W.keepIn K (.ref f25) = true)
    (a26 : PySem.W.nsIn K mainGlobals "_law_backwards" = some (some (.ref f26)))
    (l26 : K.lookup f26 = some ⟨oc26, od26, .func (PySem.W.fnOf "_law_backwards" "_law_backwards" (defArgs s_law_backwards) (defBody s_law_backwards) (defScope s_law_backwards) .none kV26 dc26 pm26 an26 cd26 ct26), sl26⟩)
    (c26 : PySem.W.codeIn K cd26 "_law_backwards" = true)
    (k26 : PySem.W.keepIn K (.ref f26) = true)
    (a27 : PySem.W.nsIn K mainGlobals "_law_is_word" = some (some (.ref f27)))
    (l27 : K.lookup f27 = some ⟨oc27, od27, .func (PySem.W.fnOf "_law_is_word" "_law_is_word" (defArgs s_law_is_word) (defBody s_law_is_word) (defScope s_law_is_word) .none kV27 dc27 pm27 an27 cd27 ct27), sl27⟩)
    (c27 : PySem.W.codeIn K cd27 "_law_is_word" = true)
    (k27 : PySem.W.keepIn K (.ref f27) = true)
    (a28 : PySem.W.nsIn K mainGlobals "_law_begun" = some (some (.ref f28)))
    (l28 : K.lookup f28 = some ⟨oc28, od28, .func (PySem.W.fnOf "_law_begun" "_law_begun" (defArgs s_law_begun) (defBody s_law_begun) (defScope s_law_begun) .none kV28 dc28 pm28 an28 cd28 ct28), sl28⟩)
    (c28 : PySem.W.codeIn K cd28 "_law_begun" = true)
    (k28 : PySem.W.keepIn K (.ref f28) = true)
    (a29 : PySem.W.nsIn K mainGlobals "_law_pieces" = some (some (.ref f29)))
    (l29 : K.lookup f29 = some ⟨oc29, od29, .func (PySem.W.fnOf "_law_pieces" "_law_pieces" (defArgs s_law_pieces) (defBody s_law_pieces) (defScope s_law_pieces) .none kV29 dc29 pm29 an29 cd29 ct29), sl29⟩)
    (c29 : PySem.W.codeIn K cd29 "_law_pieces" = true)
    (k29 : PySem.W.keepIn K (.ref f29) = true)
    (a30 : PySem.W.nsIn K mainGlobals "_law_is_round" = some (some (.ref f30)))
    (l30 : K.lookup f30 = some ⟨oc30, od30, .func (PySem.W.fnOf "_law_is_round" "_law_is_round" (defArgs s_law_is_round) (defBody s_law_is_round) (defScope s_law_is_round) .none kV30 dc30 pm30 an30 cd30 ct30), sl30⟩)
    (c30 : PySem.W.codeIn K cd30 "_law_is_round" = true)
    (k30 : PySem.W.keepIn K (.ref f30) = true)
    (a31 : PySem.W.nsIn K mainGlobals "_law_from_elsewhere" = some (some (.ref f31)))
    (l31 : K.lookup f31 = some ⟨oc31, od31, .func (PySem.W.fnOf "_law_from_elsewhere" "_law_from_elsewhere" (defArgs s_law_from_elsewhere) (defBody s_law_from_elsewhere) (defScope s_law_from_elsewhere) .none kV31 dc31 pm31 an31 cd31 ct31), sl31⟩)
    (c31 : PySem.W.codeIn K cd31 "_law_from_elsewhere" = true)
    (k31 : PySem.W.keepIn K (.ref f31) = true)
    (a32 : PySem.W.nsIn K mainGlobals "_law_right" = some (some (.ref f32)))
    (l32 : K.lookup f32 = some ⟨oc32, od32, .func (PySem.W.fnOf "_law_right" "_law_right" (defArgs s_law_right) (defBody s_law_right) (defScope s_law_right) .none kV32 dc32 pm32 an32 cd32 ct32), sl32⟩)
    (c32 : PySem.W.codeIn K cd32 "_law_right" = true)
    (k32 : PySem.W.keepIn K (.ref f32) = true)
    (a33 : PySem.W.nsIn K mainGlobals "law" = some (some (.ref f33)))
    (l33 : K.lookup f33 = some ⟨oc33, od33, .func (PySem.W.fnOf "law" "law" (defArgs s_law) (defBody s_law) (defScope s_law) .none kV33 dc33 pm33 an33 cd33 ct33), sl33⟩)
    (c33 : PySem.W.codeIn K cd33 "law" = true)
    (k33 : PySem.W.keepIn K (.ref f33) = true)
    (z_len : PySem.W.nsIn K mainGlobals "len" = some none)
    (z_all : PySem.W.nsIn K mainGlobals "all" = some none)
    (z_any : PySem.W.nsIn K mainGlobals "any" = some none)
    (z_isinstance : PySem.W.nsIn K mainGlobals "isinstance" = some none)
    (z_abs : PySem.W.nsIn K mainGlobals "abs" = some none)
    (z_int : PySem.W.nsIn K mainGlobals "int" = some none)
    (z_bool : PySem.W.nsIn K mainGlobals "bool" = some none)
    (z_str : PySem.W.nsIn K mainGlobals "str" = some none)
    (z_tuple : PySem.W.nsIn K mainGlobals "tuple" = some none)
    (z_list : PySem.W.nsIn K mainGlobals "list" = some none)
    (z_reversed : PySem.W.nsIn K mainGlobals "reversed" = some none)
    (z_range : PySem.W.nsIn K mainGlobals "range" = some none)
    (z_max : PySem.W.nsIn K mainGlobals "max" = some none)
    (gL : PySem.W.nsIn K mainGlobals "LETTERS" = some (some (.ref aLETTERS)))
    (lL : K.lookup aLETTERS = some ⟨.type "tuple", odL, .seq [Value.str "t" t1, Value.str "u" t2, Value.str "r" t3].toArray nL, slL⟩)
    (gE : PySem.W.nsIn K mainGlobals "EXCHANGED" = some (some (.ref aEX)))
    (lE : K.lookup aEX = some ⟨.type "dict", none, .dict es nE, #[]⟩)
    (kE : PySem.W.KeysLit w.params es.toList)
    (x1 : PySem.W.nsIn K aEX "t" = some (some (.str "u" e1)))
    (x2 : PySem.W.nsIn K aEX "u" = some (some (.str "t" e2)))
    (x3 : PySem.W.nsIn K aEX "r" = some (some (.str "r" e3)))
    (gT : PySem.W.nsIn K mainGlobals "TELLING_FRACTIONS" = some (some (.ref aTF)))
    (lT : K.lookup aTF = some ⟨.type "tuple", odT, .seq [Value.ref a01, Value.ref a10, Value.ref a11].toArray nT, slT⟩)
    (lt01 : K.lookup a01 = some ⟨.type "tuple", odt01, .seq [Value.int 0 u1, Value.int 1 u2].toArray nt01, slt01⟩)
    (lt10 : K.lookup a10 = some ⟨.type "tuple", odt10, .seq [Value.int 1 u3, Value.int 0 u4].toArray nt10, slt10⟩)
    (lt11 : K.lookup a11 = some ⟨.type "tuple", odt11, .seq [Value.int 1 u5, Value.int 1 u6].toArray nt11, slt11⟩)
    (gLR : PySem.W.nsIn K mainGlobals "LONE_ROUNDS" = some (some (.ref aLR)))
    (lLR : K.lookup aLR = some ⟨.type "tuple", odLR, .seq [Value.str "" tLR0, Value.str "r" tLR1, Value.str "tr" tLR2, Value.str "ru" tLR3].toArray nLR, slLR⟩)
    (gRP : PySem.W.nsIn K mainGlobals "ROUND_PIECES" = some (some (.ref aRP)))
    (lRP : K.lookup aRP = some ⟨.type "tuple", odRP, .seq [Value.str "rtr" tRP0, Value.str "rru" tRP1].toArray nRP, slRP⟩)
    (gPO : PySem.W.nsIn K mainGlobals "PAIRS_OUT" = some (some (.ref aPO)))
    (lPO : K.lookup aPO = some ⟨.type "tuple", odPO, .seq [Value.str "tu" tPO0, Value.str "ut" tPO1, Value.str "rr" tPO2].toArray nPO, slPO⟩)
    (gOV : PySem.W.nsIn K mainGlobals "OVER" = some (some (.ref aOV)))
    (lOV : K.lookup aOV = some ⟨.type "dict", none, .dict esOV nOV, #[]⟩)
    (kOV : PySem.W.KeysLit w.params esOV.toList)
    (sOV : (aOV == sysModules) = false)
    (mOV : esOV.toList.map (·.key) = [Value.str "trt" ov1, Value.str "uru" ov2])
    (oxT : PySem.W.nsIn K aOV "trt" = some (some (.ref bT)))
    (lOT : K.lookup bT = some ⟨.type "tuple", odOT, .seq [Value.ref pT0, Value.ref pT1, Value.ref pT2, Value.ref pT3].toArray nOT, slOT⟩)
    (lOT0 : K.lookup pT0 = some ⟨.type "tuple", odOT0, .seq [Value.str "in" qT00, Value.int 3 qT01, Value.str "rr" qT02].toArray nOT0, slOT0⟩)
    (lOT1 : K.lookup pT1 = some ⟨.type "tuple", odOT1, .seq [Value.str "in" qT10, Value.int 4 qT11, Value.str "tu" qT12].toArray nOT1, slOT1⟩)
    (lOT2 : K.lookup pT2 = some ⟨.type "tuple", odOT2, .seq [Value.str "in" qT20, Value.int 5 qT21, Value.str "rr" qT22].toArray nOT2, slOT2⟩)
    (lOT3 : K.lookup pT3 = some ⟨.type "tuple", odOT3, .seq [Value.str "out" qT30, Value.int 0 qT31, Value.str "trtrtr" qT32].toArray nOT3, slOT3⟩)
    (oxU : PySem.W.nsIn K aOV "uru" = some (some (.ref bU)))
    (lOU : K.lookup bU = some ⟨.type "tuple", odOU, .seq [Value.ref pU0, Value.ref pU1, Value.ref pU2, Value.ref pU3].toArray nOU, slOU⟩)
    (lOU0 : K.lookup pU0 = some ⟨.type "tuple", odOU0, .seq [Value.str "in" qU00, Value.int 1 qU01, Value.str "trtrtr" qU02].toArray nOU0, slOU0⟩)
    (lOU1 : K.lookup pU1 = some ⟨.type "tuple", odOU1, .seq [Value.str "out" qU10, Value.int 0 qU11, Value.str "ut" qU12].toArray nOU1, slOU1⟩)
    (lOU2 : K.lookup pU2 = some ⟨.type "tuple", odOU2, .seq [Value.str "out" qU20, Value.int 4 qU21, Value.str "rr" qU22].toArray nOU2, slOU2⟩)
    (lOU3 : K.lookup pU3 = some ⟨.type "tuple", odOU3, .seq [Value.str "out" qU30, Value.int 3 qU31, Value.str "tu" qU32].toArray nOU3, slOU3⟩)
    (gBT : PySem.W.nsIn K mainGlobals "BEATS" = some (some (.ref aBT)))
    (lBT : K.lookup aBT = some ⟨.type "dict", none, .dict esBT nBT, #[]⟩)
    (kBT : PySem.W.KeysLit w.params esBT.toList)
    (bx1 : PySem.W.nsIn K aBT "t" = some (some (.ref bBt)))
    (bx2 : PySem.W.nsIn K aBT "u" = some (some (.ref bBu)))
    (bx3 : PySem.W.nsIn K aBT "r" = some (some (.ref bBr)))
    (lBt : K.lookup bBt = some ⟨.type "tuple", odBt, .seq [Value.str "tr" bt1, Value.str "r" bt2].toArray nBt, slBt⟩)
    (lBu : K.lookup bBu = some ⟨.type "tuple", odBu, .seq [Value.str "r" bt3, Value.str "ru" bt4].toArray nBu, slBu⟩)
    (lBr : K.lookup bBr = some ⟨.type "tuple", odBr, .seq [Value.str "r" bt5].toArray nBr, slBr⟩)
    (gTG : PySem.W.nsIn K mainGlobals "TOGETHER" = some (some (.ref aTG)))
    (lTG : K.lookup aTG = some ⟨.type "dict", none, .dict esTG nTG, #[]⟩)
    (kTG : PySem.W.KeysLit w.params esTG.toList)
    (sTG : (aTG == sysModules) = false)
    (tg0 : PySem.W.nsIn K aTG "" = some none)
    (tg1 : PySem.W.nsIn K aTG "rr" = some (some (.str "" g1)))
    (tg2 : PySem.W.nsIn K aTG "trtr" = some (some (.str "ru" g2)))
    (tg3 : PySem.W.nsIn K aTG "ruru" = some (some (.str "tr" g3)))
    (tg4 : PySem.W.nsIn K aTG "trru" = some (some (.str "" g4)))
    (tg5 : PySem.W.nsIn K aTG "rutr" = some (some (.str "" g5)))
    (tg6 : PySem.W.nsIn K aTG "rtr" = some none)
    (tg7 : PySem.W.nsIn K aTG "rru" = some none)
    (tg8 : PySem.W.nsIn K aTG "trr" = some none)
    (tg9 : PySem.W.nsIn K aTG "rur" = some none)
    (pg_Elsewhere : PySem.W.plainGet K CElsewhere Str.empty = true)
    (hd_Elsewhere : PySem.W.hasDictIn K CElsewhere = true)
    (po_Elsewhere : PySem.W.plainOver K CElsewhere = true)
    (sa_Elsewhere : PySem.W.findIn K (.ref CElsewhere) "__setattr__" = some (some (.builtin "object.__setattr__")))
    (ha_Elsewhere : PySem.W.findIn K (.ref CElsewhere) "__class__" = some (some (.builtin "object.__class__")))
    (hm_Elsewhere : PySem.W.mroIn K CElsewhere (.type "object") = some true)
    (nf_Elsewhere_word : PySem.W.findIn K (.ref CElsewhere) "word" = some none)
    (mk_Elsewhere : PySem.W.makesIn K CElsewhere = true)
    (mf_Elsewhere : PySem.W.isFn K (.ref f10) = true)
    (mp_Elsewhere : PySem.W.keepIn K (.ref CElsewhere) = true)
    (mn_Elsewhere_shows : PySem.W.isFn K (.ref f11) = true)
    (pg_Rounds : PySem.W.plainGet K CRounds Str.empty = true)
    (hd_Rounds : PySem.W.hasDictIn K CRounds = true)
    (po_Rounds : PySem.W.plainOver K CRounds = true)
    (sa_Rounds : PySem.W.findIn K (.ref CRounds) "__setattr__" = some (some (.builtin "object.__setattr__")))
    (ha_Rounds : PySem.W.findIn K (.ref CRounds) "__class__" = some (some (.builtin "object.__class__")))
    (hm_Rounds : PySem.W.mroIn K CRounds (.type "object") = some true)
    (nf_Rounds_there : PySem.W.findIn K (.ref CRounds) "there" = some none)
    (nf_Rounds_first : PySem.W.findIn K (.ref CRounds) "first" = some none)
    (nf_Rounds_back : PySem.W.findIn K (.ref CRounds) "back" = some none)
    (nf_Rounds_second : PySem.W.findIn K (.ref CRounds) "second" = some none)
    (mk_Rounds : PySem.W.makesIn K CRounds = true)
    (mf_Rounds : PySem.W.isFn K (.ref f12) = true)
    (mp_Rounds : PySem.W.keepIn K (.ref CRounds) = true)
    (mn_Rounds_shows : PySem.W.isFn K (.ref f13) = true)
    (hnC : PySem.W.specialIn K (.builtin "object.__class__") "__get__" = some (some (.builtin "getset_descriptor.__get__")))
    (htkC : PySem.W.takesIn K (.builtin "object.__class__") = some true)
    (kt_Elsewhere_Answer : PySem.W.kitOne K (.ref CElsewhere) (.ref CAnswer) = some true)
    (kt_Elsewhere_Elsewhere : PySem.W.kitOne K (.ref CElsewhere) (.ref CElsewhere) = some true)
    (kt_Elsewhere_Rounds : PySem.W.kitOne K (.ref CElsewhere) (.ref CRounds) = some false)
    (kt_Elsewhere_Led : PySem.W.kitOne K (.ref CElsewhere) (.ref CLed) = some false)
    (kt_Elsewhere_Parts : PySem.W.kitOne K (.ref CElsewhere) (.ref CParts) = some false)
    (kt_Rounds_Answer : PySem.W.kitOne K (.ref CRounds) (.ref CAnswer) = some true)
    (kt_Rounds_Elsewhere : PySem.W.kitOne K (.ref CRounds) (.ref CElsewhere) = some false)
    (kt_Rounds_Rounds : PySem.W.kitOne K (.ref CRounds) (.ref CRounds) = some true)
    (kt_Rounds_Led : PySem.W.kitOne K (.ref CRounds) (.ref CLed) = some false)
    (kt_Rounds_Parts : PySem.W.kitOne K (.ref CRounds) (.ref CParts) = some false) :
    ∃ fd : FuncData, (∀ (s : Shared) (v : Value), BindsTo s fd ⟨[v], []⟩ [("_law_script", v)]) ∧ ∀ base : Heap, K.In base → base.Ns mainGlobals mg → FnOk l.prog w K mg base CX0 8 fa fd ["_law_script"] (spLaw K) := by
  have e := hfa.symm.trans (PySem.W.mg_of X G a33)
  cases e
  have GL : Glo mg := ⟨PySem.W.mg_none_of X G z_len, PySem.W.mg_none_of X G z_all, PySem.W.mg_none_of X G z_any, PySem.W.mg_none_of X G z_isinstance, PySem.W.mg_none_of X G z_abs, PySem.W.mg_none_of X G z_int, PySem.W.mg_none_of X G z_bool, PySem.W.mg_none_of X G z_str, PySem.W.mg_none_of X G z_tuple, PySem.W.mg_none_of X G z_list, PySem.W.mg_none_of X G z_reversed, PySem.W.mg_none_of X G z_range, PySem.W.mg_none_of X G z_max⟩
  have cLETTERS : Letters K mg := ⟨aLETTERS, PySem.W.mg_of X G gL, fun H => .inr ⟨_, _, _, lL, rfl, rfl, three_ok, .cons ⟨t1, by rw [lit_t]⟩ (.cons ⟨t2, by rw [lit_u]⟩ (.cons ⟨t3, by rw [lit_r]⟩ .nil))⟩⟩
  have cEXCHANGED : Exch K mg w.params := by
    refine ⟨aEX, es, nE, PySem.W.mg_of X G gE, lE, kE, fun c hc => ?_⟩
    rcases hc with rfl | rfl | rfl
    · exact ⟨e1, by rw [← lit_t, x1, lit_u]; rfl⟩
    · exact ⟨e2, by rw [← lit_u, x2, lit_t]; rfl⟩
    · exact ⟨e3, by rw [← lit_r, x3, lit_r]; rfl⟩
  have cTELLING_FRACTIONS : Telling K mg := ⟨aTF, a01, a10, a11, PySem.W.mg_of X G gT, fun H => .inr ⟨_, _, _, lT, rfl, rfl, three_ok, .cons rfl (.cons rfl (.cons rfl .nil))⟩, fun H => .inr ⟨_, _, _, lt01, rfl, rfl, two_ok, .cons ⟨u1, rfl⟩ (.cons ⟨u2, rfl⟩ .nil)⟩, fun H => .inr ⟨_, _, _, lt10, rfl, rfl, two_ok, .cons ⟨u3, rfl⟩ (.cons ⟨u4, rfl⟩ .nil)⟩, fun H => .inr ⟨_, _, _, lt11, rfl, rfl, two_ok, .cons ⟨u5, rfl⟩ (.cons ⟨u6, rfl⟩ .nil)⟩⟩
  have cLONE_ROUNDS : Lones K mg := ⟨aLR, PySem.W.mg_of X G gLR, fun H => .inr ⟨_, _, _, lLR, rfl, rfl, small (show 4 ≤ 1000 by decide), (.cons ⟨tLR0, by rw [lit_e]⟩ (.cons ⟨tLR1, by rw [lit_r]⟩ (.cons ⟨tLR2, by rw [lit_tr]⟩ (.cons ⟨tLR3, by rw [lit_ru]⟩ .nil))))⟩⟩
  have cROUND_PIECES : RPieces K mg := ⟨aRP, PySem.W.mg_of X G gRP, fun H => .inr ⟨_, _, _, lRP, rfl, rfl, small (show 2 ≤ 1000 by decide), (.cons ⟨tRP0, by rw [lit_rtr]⟩ (.cons ⟨tRP1, by rw [lit_rru]⟩ .nil))⟩⟩
  have cPAIRS_OUT : PairsOut K mg := ⟨aPO, PySem.W.mg_of X G gPO, fun H => .inr ⟨_, _, _, lPO, rfl, rfl, small (show 3 ≤ 1000 by decide), (.cons ⟨tPO0, by rw [lit_tu]⟩ (.cons ⟨tPO1, by rw [lit_ut]⟩ (.cons ⟨tPO2, by rw [lit_rr]⟩ .nil)))⟩⟩
  have fT : Four K bT (ovT 0) := ⟨pT0, pT1, pT2, pT3, _, _, _, _, rfl, fun H => .inr ⟨_, _, _, lOT, rfl, rfl, four_ok, .cons rfl (.cons rfl (.cons rfl (.cons rfl .nil)))⟩, fun H => .inr ⟨_, _, _, lOT0, rfl, rfl, three_ok, .cons ⟨qT00, rfl⟩ (.cons ⟨qT01, rfl⟩ (.cons ⟨qT02, by rw [S_rr]⟩ .nil))⟩, fun H => .inr ⟨_, _, _, lOT1, rfl, rfl, three_ok, .cons ⟨qT10, rfl⟩ (.cons ⟨qT11, rfl⟩ (.cons ⟨qT12, by rw [S_tu]⟩ .nil))⟩, fun H => .inr ⟨_, _, _, lOT2, rfl, rfl, three_ok, .cons ⟨qT20, rfl⟩ (.cons ⟨qT21, rfl⟩ (.cons ⟨qT22, by rw [S_rr]⟩ .nil))⟩, fun H => .inr ⟨_, _, _, lOT3, rfl, rfl, three_ok, .cons ⟨qT30, rfl⟩ (.cons ⟨qT31, rfl⟩ (.cons ⟨qT32, by rw [S_tr]⟩ .nil))⟩⟩
  have fU : Four K bU (ovU 0) := ⟨pU0, pU1, pU2, pU3, _, _, _, _, rfl, fun H => .inr ⟨_, _, _, lOU, rfl, rfl, four_ok, .cons rfl (.cons rfl (.cons rfl (.cons rfl .nil)))⟩, fun H => .inr ⟨_, _, _, lOU0, rfl, rfl, three_ok, .cons ⟨qU00, rfl⟩ (.cons ⟨qU01, rfl⟩ (.cons ⟨qU02, by rw [S_tr]⟩ .nil))⟩, fun H => .inr ⟨_, _, _, lOU1, rfl, rfl, three_ok, .cons ⟨qU10, rfl⟩ (.cons ⟨qU11, rfl⟩ (.cons ⟨qU12, by rw [S_ut]⟩ .nil))⟩, fun H => .inr ⟨_, _, _, lOU2, rfl, rfl, three_ok, .cons ⟨qU20, rfl⟩ (.cons ⟨qU21, rfl⟩ (.cons ⟨qU22, by rw [S_rr]⟩ .nil))⟩, fun H => .inr ⟨_, _, _, lOU3, rfl, rfl, three_ok, .cons ⟨qU30, rfl⟩ (.cons ⟨qU31, rfl⟩ (.cons ⟨qU32, by rw [S_tu]⟩ .nil))⟩⟩
  have cOVER : Over K mg w.params := over_mk (PySem.W.mg_of X G gOV) lOV kOV sOV mOV oxT oxU fT fU
  have cBEATS : Beats K mg w.params := beats_mk (PySem.W.mg_of X G gBT) lBT kBT bx1 bx2 bx3 lBt lBu lBr
  have cTOGETHER : Together K mg w.params := tog_mk (PySem.W.mg_of X G gTG) lTG kTG sTG tg0 tg1 tg2 tg3 tg4 tg5 tg6 tg7 tg8 tg9
  have m_Answer := PySem.W.mg_of X G q_Answer
  have m_Led := PySem.W.mg_of X G q_Led
  have m_Parts := PySem.W.mg_of X G q_Parts
  have m_Elsewhere := PySem.W.mg_of X G q_Elsewhere
  have kc_Elsewhere : KCls K CElsewhere := ⟨⟨pg_Elsewhere, hd_Elsewhere, po_Elsewhere, sa_Elsewhere⟩, ha_Elsewhere, hnC, htkC, hm_Elsewhere⟩
  have m_Rounds := PySem.W.mg_of X G q_Rounds
  have kc_Rounds : KCls K CRounds := ⟨⟨pg_Rounds, hd_Rounds, po_Rounds, sa_Rounds⟩, ha_Rounds, hnC, htkC, hm_Rounds⟩
  have F0 := fun_mk (st := s_is_word) l0 c0 k0
  have F1 := fun_mk (st := s_check_word) l1 c1 k1
  have F2 := fun_mk (st := s_turned) l2 c2 k2
  have F3 := fun_mk (st := s_moved) l3 c3 k3
  have F4 := fun_mk (st := s_follow) l4 c4 k4
  have F5 := fun_mk (st := s_lead_alike) l5 c5 k5
  have F6 := fun_mk (st := s_back) l6 c6 k6
  have F7 := fun_mk (st := s_begun_by) l7 c7 k7
  have F8 := fun_mk (st := s_is_round) l8 c8 k8
  have F9 := fun_mk (st := s_is_same_round) l9 c9 k9
  have F10 := fun_mk (st := s_Elsewhere_init) l10 c10 k10
  have F11 := fun_mk (st := s_Elsewhere_shows) l11 c11 k11
  have F12 := fun_mk (st := s_Rounds_init) l12 c12 k12
  have F13 := fun_mk (st := s_Rounds_shows) l13 c13 k13
  have F14 := fun_mk (st := s_add_beat) l14 c14 k14
  have F15 := fun_mk (st := s_beats_of) l15 c15 k15
  have F16 := fun_mk (st := s_word_and_round) l16 c16 k16
  have F17 := fun_mk (st := s_take_pair) l17 c17 k17
  have F18 := fun_mk (st := s_turn_over) l18 c18 k18
  have F19 := fun_mk (st := s_settle) l19 c19 k19
  have F20 := fun_mk (st := s_made_plain) l20 c20 k20
  have F21 := fun_mk (st := s_elsewhere) l21 c21 k21
  have F22 := fun_mk (st := s_law_letters) l22 c22 k22
  have F23 := fun_mk (st := s_law_moved) l23 c23 k23
  have F24 := fun_mk (st := s_law_walked) l24 c24 k24
  have F25 := fun_mk (st := s_law_same) l25 c25 k25
  have F26 := fun_mk (st := s_law_backwards) l26 c26 k26
  have F27 := fun_mk (st := s_law_is_word) l27 c27 k27
  have F28 := fun_mk (st := s_law_begun) l28 c28 k28
  have F29 := fun_mk (st := s_law_pieces) l29 c29 k29
  have F30 := fun_mk (st := s_law_is_round) l30 c30 k30
  have F31 := fun_mk (st := s_law_from_elsewhere) l31 c31 k31
  have F32 := fun_mk (st := s_law_right) l32 c32 k32
  have F33 := fun_mk (st := s_law) l33 c33 k33
  refine ⟨PySem.W.fnOf "law" "law" (defArgs s_law) (defBody s_law) (defScope s_law) .none kV33 dc33 pm33 an33 cd33 ct33, fun s v => .of_eq rfl, fun base _ _ => ?_⟩
  have C0 := callee_of F0 (ok_is_word (P := l.prog) (w := w) (base := base) (mg := mg) (k := 0) GL cLETTERS F0) (PySem.W.mg_of X G a0) fun _ _ _ _ _ _ us hl => by obtain ⟨_, rfl⟩ := len1 hl; rfl
  have C1 := callee_of F1 (ok_check_word (P := l.prog) (w := w) (base := base) (mg := mg) (k := 1) F1 (C0.mono (by decide))) (PySem.W.mg_of X G a1) fun _ _ _ _ _ _ us hl => by obtain ⟨_, rfl⟩ := len1 hl; rfl
  have C2 := callee_of F2 (ok_turned (P := l.prog) (w := w) (base := base) (mg := mg) (k := 0) F2) (PySem.W.mg_of X G a2) fun _ _ _ _ _ _ us hl => by obtain ⟨_, _, rfl⟩ := len2 hl; rfl
  have C3 := callee_of F3 (ok_moved (P := l.prog) (w := w) (base := base) (mg := mg) (k := 1) F3 (C2.mono (by decide))) (PySem.W.mg_of X G a3) fun _ _ _ _ _ _ us hl => by obtain ⟨_, _, _, rfl⟩ := len3 hl; rfl
  have C4 := callee_of F4 (ok_follow (P := l.prog) (w := w) (base := base) (mg := mg) (k := 2) F4 (C3.mono (by decide))) (PySem.W.mg_of X G a4) fun _ _ _ _ _ _ us hl => by obtain ⟨_, _, rfl⟩ := len2 hl; rfl
  have C5 := callee_of F5 (ok_lead_alike (P := l.prog) (w := w) (base := base) (mg := mg) (k := 3) GL cTELLING_FRACTIONS F5 (C4.mono (by decide))) (PySem.W.mg_of X G a5) fun _ _ _ _ _ _ us hl => by obtain ⟨_, _, rfl⟩ := len2 hl; rfl
  have C6 := callee_of F6 (ok_back (P := l.prog) (w := w) (base := base) (mg := mg) (k := 2) GL cEXCHANGED F6 (C1.mono (by decide))) (PySem.W.mg_of X G a6) fun _ _ _ _ _ _ us hl => by obtain ⟨_, rfl⟩ := len1 hl; rfl
  have C7 := callee_of F7 (ok_begun_by (P := l.prog) (w := w) (base := base) (mg := mg) (k := 3) F7 (C6.mono (by decide))) (PySem.W.mg_of X G a7) fun _ _ _ _ _ _ us hl => by obtain ⟨_, _, rfl⟩ := len2 hl; rfl
  have C8 := callee_of F8 (ok_is_round (P := l.prog) (w := w) (base := base) (mg := mg) (k := 0) GL cLONE_ROUNDS cROUND_PIECES F8) (PySem.W.mg_of X G a8) fun _ _ _ _ _ _ us hl => by obtain ⟨_, rfl⟩ := len1 hl; rfl
  have C9 := callee_of F9 (ok_is_same_round (P := l.prog) (w := w) (base := base) (mg := mg) (k := 0) GL F9) (PySem.W.mg_of X G a9) fun _ _ _ _ _ _ us hl => by obtain ⟨_, _, rfl⟩ := len2 hl; rfl
  have C10 := maker_of ⟨mk_Elsewhere, mi_Elsewhere, mf_Elsewhere, mp_Elsewhere⟩ F10 (ok_Elsewhere_init (P := l.prog) (w := w) (base := base) (mg := mg) (k := 0) kc_Elsewhere nf_Elsewhere_word F10) m_Elsewhere fun _ _ _ _ _ _ us hl => by obtain ⟨_, _, rfl⟩ := len2 hl; rfl
  have C11 := method_of ⟨ma_Elsewhere_shows, mn_Elsewhere_shows, k11⟩ F11 (ok_Elsewhere_shows (P := l.prog) (w := w) (base := base) (mg := mg) (k := 4) kc_Elsewhere nf_Elsewhere_word F11 (C5.mono (by decide)) (C7.mono (by decide))) fun _ _ _ _ _ _ us hl => by obtain ⟨_, _, _, rfl⟩ := len3 hl; rfl
  have C12 := maker_of ⟨mk_Rounds, mi_Rounds, mf_Rounds, mp_Rounds⟩ F12 (ok_Rounds_init (P := l.prog) (w := w) (base := base) (mg := mg) (k := 0) kc_Rounds nf_Rounds_there nf_Rounds_first nf_Rounds_back nf_Rounds_second F12) m_Rounds fun _ _ _ _ _ _ us hl => by obtain ⟨_, _, _, _, _, rfl⟩ := len5 hl; rfl
  have C13 := method_of ⟨ma_Rounds_shows, mn_Rounds_shows, k13⟩ F13 (ok_Rounds_shows (P := l.prog) (w := w) (base := base) (mg := mg) (k := 4) kc_Rounds nf_Rounds_there nf_Rounds_first nf_Rounds_back nf_Rounds_second F13 (C8.mono (by decide)) (C9.mono (by decide)) (C5.mono (by decide)) (C7.mono (by decide))) fun _ _ _ _ _ _ us hl => by obtain ⟨_, _, _, rfl⟩ := len3 hl; rfl
  have C14 := callee_of F14 (ok_add_beat (P := l.prog) (w := w) (base := base) (mg := mg) (k := 0) cTOGETHER F14) (PySem.W.mg_of X G a14) fun _ _ _ _ _ _ us hl => by obtain ⟨_, _, rfl⟩ := len2 hl; rfl
  have C15 := callee_of F15 (ok_beats_of (P := l.prog) (w := w) (base := base) (mg := mg) (k := 1) cBEATS F15 (C14.mono (by decide))) (PySem.W.mg_of X G a15) fun _ _ _ _ _ _ us hl => by obtain ⟨_, rfl⟩ := len1 hl; rfl
  have C16 := callee_of F16 (ok_word_and_round (P := l.prog) (w := w) (base := base) (mg := mg) (k := 2) GL F16 (C15.mono (by decide)) (C14.mono (by decide))) (PySem.W.mg_of X G a16) fun _ _ _ _ _ _ us hl => by obtain ⟨_, rfl⟩ := len1 hl; rfl
  have C17 := callee_of F17 (ok_take_pair (P := l.prog) (w := w) (base := base) (mg := mg) (k := 0) GL F17) (PySem.W.mg_of X G a17) fun _ _ _ _ _ _ us hl => by obtain ⟨_, _, rfl⟩ := len2 hl; rfl
  have C18 := callee_of F18 (ok_turn_over_n (P := l.prog) (w := w) (base := base) (mg := mg) (k := 0) F18) (PySem.W.mg_of X G a18) fun _ _ _ _ _ _ us hl => by obtain ⟨_, _, rfl⟩ := len2 hl; rfl
  have C19 := callee_of F19 (ok_settle (R := Rr) (N := 600000) (by decide) (P := l.prog) (w := w) (base := base) (mg := mg) (k := 1) cPAIRS_OUT cOVER F19 (C17.mono (by decide)) (C18.mono (by decide))) (PySem.W.mg_of X G a19) fun _ _ _ _ _ _ us hl => by obtain ⟨_, _, rfl⟩ := len2 hl; rfl
  have C20 := callee_of F18 (ok_turn_over (P := l.prog) (w := w) (base := base) (mg := mg) (k := 3) GL cOVER F18 (C19.mono (by decide)) (C6.mono (by decide))) (PySem.W.mg_of X G a18) fun _ _ _ _ _ _ us hl => by obtain ⟨_, _, rfl⟩ := len2 hl; rfl
  have C21 := callee_of F19 (ok_settle (R := Rall) (N := 500000) (by decide) (P := l.prog) (w := w) (base := base) (mg := mg) (k := 4) cPAIRS_OUT cOVER F19 (C17.mono (by decide)) (C20.mono (by decide))) (PySem.W.mg_of X G a19) fun _ _ _ _ _ _ us hl => by obtain ⟨_, _, rfl⟩ := len2 hl; rfl
  have C22 := callee_of F20 (ok_made_plain (P := l.prog) (w := w) (base := base) (mg := mg) (k := 5) F20 (C21.mono (by decide))) (PySem.W.mg_of X G a20) fun _ _ _ _ _ _ us hl => by obtain ⟨_, rfl⟩ := len1 hl; rfl
  have C23 := callee_of F21 (ok_elsewhere (P := l.prog) (w := w) (base := base) (mg := mg) (k := 5) F21 (C1.mono (by decide)) (C16.mono (by decide)) (C9.mono (by decide)) (C22.mono (by decide)) (C6.mono (by decide)) (C10.mono (by decide)) (C12.mono (by decide))) (PySem.W.mg_of X G a21) fun _ _ _ _ _ _ us hl => by obtain ⟨_, _, rfl⟩ := len2 hl; rfl
  have C24 := callee_of F22 (ok_law_letters (P := l.prog) (w := w) (base := base) (mg := mg) (k := 0) F22) (PySem.W.mg_of X G a22) fun _ _ _ _ _ _ us hl => by obtain ⟨_, _, rfl⟩ := len2 hl; rfl
  have C25 := callee_of F23 (ok_law_moved (P := l.prog) (w := w) (base := base) (mg := mg) (k := 0) F23) (PySem.W.mg_of X G a23) fun _ _ _ _ _ _ us hl => by obtain ⟨_, _, rfl⟩ := len2 hl; rfl
  have C26 := callee_of F24 (ok_law_walked (P := l.prog) (w := w) (base := base) (mg := mg) (k := 1) F24 (C25.mono (by decide))) (PySem.W.mg_of X G a24) fun _ _ _ _ _ _ us hl => by obtain ⟨_, _, rfl⟩ := len2 hl; rfl
  have C27 := callee_of F25 (ok_law_same (P := l.prog) (w := w) (base := base) (mg := mg) (k := 2) GL F25 (C26.mono (by decide))) (PySem.W.mg_of X G a25) fun _ _ _ _ _ _ us hl => by obtain ⟨_, _, rfl⟩ := len2 hl; rfl
  have C28 := callee_of F26 (ok_law_backwards (P := l.prog) (w := w) (base := base) (mg := mg) (k := 0) F26) (PySem.W.mg_of X G a26) fun _ _ _ _ _ _ us hl => by obtain ⟨_, rfl⟩ := len1 hl; rfl
  have C29 := callee_of F27 (ok_law_is_word (P := l.prog) (w := w) (base := base) (mg := mg) (k := 0) GL F27) (PySem.W.mg_of X G a27) fun _ _ _ _ _ _ us hl => by obtain ⟨_, rfl⟩ := len1 hl; rfl
  have C30 := callee_of F28 (ok_law_begun (P := l.prog) (w := w) (base := base) (mg := mg) (k := 1) F28 (C28.mono (by decide))) (PySem.W.mg_of X G a28) fun _ _ _ _ _ _ us hl => by obtain ⟨_, _, rfl⟩ := len2 hl; rfl
  have C31 := callee_of F29 (ok_law_pieces (P := l.prog) (w := w) (base := base) (mg := mg) (k := 0) GL F29) (PySem.W.mg_of X G a29) fun _ _ _ _ _ _ us hl => by obtain ⟨_, rfl⟩ := len1 hl; rfl
  have C32 := callee_of F30 (ok_law_is_round (P := l.prog) (w := w) (base := base) (mg := mg) (k := 1) F30 (C31.mono (by decide))) (PySem.W.mg_of X G a30) fun _ _ _ _ _ _ us hl => by obtain ⟨_, rfl⟩ := len1 hl; rfl
  have C33 := callee_of F31 (ok_law_from_elsewhere (P := l.prog) (w := w) (base := base) (mg := mg) (k := 1) GL F31 (C31.mono (by decide))) (PySem.W.mg_of X G a31) fun _ _ _ _ _ _ us hl => by obtain ⟨_, _, rfl⟩ := len2 hl; rfl
  have C34 := callee_of F32 (ok_law_right (P := l.prog) (w := w) (base := base) (mg := mg) (k := 5) GL m_Answer m_Elsewhere m_Rounds m_Led m_Parts kc_Elsewhere kc_Rounds nf_Elsewhere_word nf_Rounds_there nf_Rounds_first nf_Rounds_back nf_Rounds_second kt_Elsewhere_Answer kt_Elsewhere_Elsewhere kt_Elsewhere_Rounds kt_Elsewhere_Led kt_Elsewhere_Parts kt_Rounds_Answer kt_Rounds_Elsewhere kt_Rounds_Rounds kt_Rounds_Led kt_Rounds_Parts F32 (C11.mono (by decide)) (C13.mono (by decide)) (C29.mono (by decide)) (C27.mono (by decide)) (C30.mono (by decide)) (C32.mono (by decide)) (C33.mono (by decide))) (PySem.W.mg_of X G a32) fun _ _ _ _ _ _ us hl => by obtain ⟨_, _, _, rfl⟩ := len3 hl; rfl
  exact ok_law (k := 7) GL m_Elsewhere kc_Elsewhere kt_Elsewhere_Elsewhere F33 (C24.mono (by decide)) (C30.mono (by decide)) (C28.mono (by decide)) (C34.mono (by decide)) (C23.mono (by decide))
theorem walk {l : PySem.W.OpenLaw} {q : Program} {loose : List Str} {XP : (Str → Option Value) → Heap → Prop} {YP : World → Heap → Prop} {d : DefRec} {K : Params → PySem.W.Frag} (hn : l.most = some 63) (hdf : d.params.defaults = [])
    (hY : ∀ (w : World) (h : Heap), YP w h → (K w.params).In h)
    (F : ∀ (w : World) (mg : Str → Option Value) (fa : Addr) (h : Heap), (K w.params).In h → h.Ns mainGlobals mg → mg d.name = some (.ref fa) →
      ∃ fd : FuncData, (∀ (s : Shared) (u : Value), BindsTo s fd ⟨[u], []⟩ [("_law_script", u)]) ∧ ∀ base : Heap, (K w.params).In base → base.Ns mainGlobals mg → FnOk l.prog w (K w.params) mg base CX0 8 fa fd ["_law_script"] (spLaw (K w.params))) :
    PySem.W.WalkO q loose XP YP l.row.toRowW d [] (fun f vs => PySem.call f vs) :=
  L2.walk_of (n := 63) (k := 8) (x := "_law_script") (CX := fun _ => CX0) (sp := fun w => spLaw (K w.params)) hn (by decide) hdf ⟨rfl, by decide, by decide⟩ hY F (fun _ _ a ns hl _ hS => ⟨a, ns, rfl, hS, hl, fun _ => rfl⟩) fun _ _ _ _ _ z => z
open PySem.W PySem.W.X in
theorem walkX {l : PySem.W.OpenLaw} {q : Program} {loose : List Str} {XP : (Str → Option Value) → Heap → Prop} {d : DefRec} {K : Params → PySem.W.Frag} {as : List Addr} {n t : Nat} (hn : l.most = some 63) (hdf : d.params.defaults = []) (hk : ∀ P, as = (K P).map (·.1))
    (F : ∀ (w : World) (mg : Str → Option Value) (fa : Addr) (h : Heap), (K w.params).In h → h.Ns mainGlobals mg → mg d.name = some (.ref fa) →
      ∃ fd : FuncData, (∀ (s : Shared) (u : Value), BindsTo s fd ⟨[u], []⟩ [("_law_script", u)]) ∧ ∀ base : Heap, (K w.params).In base → base.Ns mainGlobals mg → FnOk l.prog w (K w.params) mg base CX0 8 fa fd ["_law_script"] (spLaw (K w.params))) :
    WalkX q loose XP (obsZ as) (valZ K n t) l.row.toRowW d [] (fun f vs => PySem.call f vs) :=
  fun w s₀ s₁ mg mb G y a o pm cd doc dV kV h2 h3 h4 h5 h6 h7 args vals as' L hpre hlay hrd hwl hlo =>
    walk (K := K) (YP := fun w h => (K w.params).In h) hn hdf (fun w h Y => Y) F w s₀ s₁ mg mb G (InK.keeps w s₀.heap s₁.heap (z_facts hk y).2.1 L.keeps) a o pm cd doc dV kV h2 h3 h4 h5 h6 h7 args vals as' hpre hlay hrd hwl hlo
end K07
/-! the text's own twin is the text itself (the head's twins of a long text are great) -/
def PySem.W.Fast.tw8123649195738093524 : PySem.Program := PySem.Challenge.pw_twistturn_k07_whole_elsewhere
theorem PySem.W.Fast.te8123649195738093524 : PySem.Challenge.pw_twistturn_k07_whole_elsewhere = PySem.W.Fast.tw8123649195738093524 := rfl
/-! names that the head's great twins would bear: taken, so that it goes without them -/
def PySem.W.Fast.tw13743933331935434809 : Nat := 0
def PySem.W.Fast.tw10927409440021544530 : Nat := 0
def PySem.W.Fast.tw9718446285788361194 : Nat := 0
def PySem.W.Fast.tw13818444523780210559 : Nat := 0
def PySem.W.Fast.tw12331615633017842821 : Nat := 0
def PySem.W.Fast.tw10931942274318242781 : Nat := 0
def PySem.W.Fast.tw13419747990761470122 : Nat := 0
def PySem.W.Fast.tw18297312637330738513 : Nat := 0
def PySem.W.Fast.tw11864071418977593408 : Nat := 0
def PySem.W.Fast.tw4619670397614746182 : Nat := 0
def PySem.W.Fast.tw13675757300063872084 : Nat := 0
open PySem PySem.W PyProof.Rows
set_option maxRecDepth 100000 in
set_option maxHeartbeats 0 in
theorem PySem.Challenge.cw_twistturn_k07_whole_elsewhere_holds : PySem.Challenge.rw_twistturn_k07_whole_elsewhere.Holds := by
  w_on; o_law; z_head; (case hw => w_witness2)
  refine K07.walkX (l := PySem.Challenge.rw_twistturn_k07_whole_elsewhere) rfl rfl (fun P => rfl) ?F
  case F =>
    intro w mg fa h KX G hmg
    refine' K07.all_mk KX G hmg ?q_Answer ?q_Led ?q_Parts ?q_Elsewhere ?mi_Elsewhere ?ma_Elsewhere_shows ?q_Rounds ?mi_Rounds ?ma_Rounds_shows ?a0 ?l0 ?c0 ?k0 ?a1 ?l1 ?c1 ?k1 ?a2 ?l2 ?c2 ?k2 ?a3 ?l3 ?c3 ?k3 ?a4 ?l4 ?c4 ?k4 ?a5 ?l5 ?c5 ?k5 ?a6 ?l6 ?c6 ?k6 ?a7 ?l7 ?c7 ?k7 ?a8 ?l8 ?c8 ?k8 ?a9 ?l9 ?c9 ?k9 ?l10 ?c10 ?k10 ?l11 ?c11 ?k11 ?l12 ?c12 ?k12 ?l13 ?c13 ?k13 ?a14 ?l14 ?c14 ?k14 ?a15 ?l15 ?c15 ?k15 ?a16 ?l16 ?c16 ?k16 ?a17 ?l17 ?c17 ?k17 ?a18 ?l18 ?c18 ?k18 ?a19 ?l19 ?c19 ?k19 ?a20 ?l20 ?c20 ?k20 ?a21 ?l21 ?c21 ?k21 ?a22 ?l22 ?c22 ?k22 ?a23 ?l23 ?c23 ?k23 ?a24 ?l24 ?c24 ?k24 ?a25 ?l25 ?c25 ?k25 ?a26 ?l26 ?c26 ?k26 ?a27 ?l27 ?c27 ?k27 ?a28 ?l28 ?c28 ?k28 ?a29 ?l29 ?c29 ?k29 ?a30 ?l30 ?c30 ?k30 ?a31 ?l31 ?c31 ?k31 ?a32 ?l32 ?c32 ?k32 ?a33 ?l33 ?c33 ?k33 ?z_len ?z_all ?z_any ?z_isinstance ?z_abs ?z_int ?z_bool ?z_str ?z_tuple ?z_list ?z_reversed ?z_range ?z_max ?gL ?lL ?gE ?lE ?kE ?x1 ?x2 ?x3 ?gT ?lT ?lt01 ?lt10 ?lt11 ?gLR ?lLR ?gRP ?lRP ?gPO ?lPO ?gOV ?lOV ?kOV ?sOV ?mOV ?oxT ?lOT ?lOT0 ?lOT1 ?lOT2 ?lOT3 ?oxU ?lOU ?lOU0 ?lOU1 ?lOU2 ?lOU3 ?gBT ?lBT ?kBT ?bx1 ?bx2 ?bx3 ?lBt ?lBu ?lBr ?gTG ?lTG ?kTG ?sTG ?tg0 ?tg1 ?tg2 ?tg3 ?tg4 ?tg5 ?tg6 ?tg7 ?tg8 ?tg9 ?pg_Elsewhere ?hd_Elsewhere ?po_Elsewhere ?sa_Elsewhere ?ha_Elsewhere ?hm_Elsewhere ?nf_Elsewhere_word ?mk_Elsewhere ?mf_Elsewhere ?mp_Elsewhere ?mn_Elsewhere_shows ?pg_Rounds ?hd_Rounds ?po_Rounds ?sa_Rounds ?ha_Rounds ?hm_Rounds ?nf_Rounds_there ?nf_Rounds_first ?nf_Rounds_back ?nf_Rounds_second ?mk_Rounds ?mf_Rounds ?mp_Rounds ?mn_Rounds_shows ?hnC ?htkC ?kt_Elsewhere_Answer ?kt_Elsewhere_Elsewhere ?kt_Elsewhere_Rounds ?kt_Elsewhere_Led ?kt_Elsewhere_Parts ?kt_Rounds_Answer ?kt_Rounds_Elsewhere ?kt_Rounds_Rounds ?kt_Rounds_Led ?kt_Rounds_Parts
    (case q_Answer => k_is)
    (case q_Led => k_is)
    (case q_Parts => k_is)
    (case q_Elsewhere => k_is)
    (case mi_Elsewhere => k_is)
    (case ma_Elsewhere_shows => k_is)
    (case q_Rounds => k_is)
    (case mi_Rounds => k_is)
    (case ma_Rounds_shows => k_is)
    (case a0 => k_is)
    (case l0 => k_is)
    (case c0 => k_is)
    (case k0 => k_is)
    (case a1 => k_is)
    (case l1 => k_is)
    (case c1 => k_is)
    (case k1 => k_is)
    (case a2 => k_is)
    (case l2 => k_is)
    (case c2 => k_is)
    (case k2 => k_is)
    (case a3 => k_is)
    (case l3 => k_is)
    (case c3 => k_is)
    (case k3 => k_is)
    (case a4 => k_is)
    (case l4 => k_is)
    (case c4 => k_is)
    (case k4 => k_is)
    (case a5 => k_is)
    (case l5 => k_is)
    (case c5 => k_is)
    (case k5 => k_is)
    (case a6 => k_is)
    (case l6 => k_is)
    (case c6 => k_is)
    (case k6 => k_is)
    (case a7 => k_is)
    (case l7 => k_is)
    (case c7 => k_is)
    (case k7 => k_is)
    (case a8 => k_is)
    (case l8 => k_is)
    (case c8 => k_is)
    (case k8 => k_is)
    (case a9 => k_is)
    (case l9 => k_is)
    (case c9 => k_is)
    (case k9 => k_is)
    (case l10 => k_is)
    (case c10 => k_is)
    (case k10 => k_is)
    (case l11 => k_is)
    (case c11 => k_is)
    (case k11 => k_is)
    (case l12 => k_is)
    (case c12 => k_is)
    (case k12 => k_is)
    (case l13 => k_is)
    (case c13 => k_is)
    (case k13 => k_is)
    (case a14 => k_is)
    (case l14 => k_is)
    (case c14 => k_is)
    (case k14 => k_is)
    (case a15 => k_is)
    (case l15 => k_is)
    (case c15 => k_is)
    (case k15 => k_is)
    (case a16 => k_is)
    (case l16 => k_is)
    (case c16 => k_is)
    (case k16 => k_is)
    (case a17 => k_is)
    (case l17 => k_is)
    (case c17 => k_is)
    (case k17 => k_is)
    (case a18 => k_is)
    (case l18 => k_is)
    (case c18 => k_is)
    (case k18 => k_is)
    (case a19 => k_is)
    (case l19 => k_is)
    (case c19 => k_is)
    (case k19 => k_is)
    (case a20 => k_is)
    (case l20 => k_is)
    (case c20 => k_is)
    (case k20 => k_is)
    (case a21 => k_is)
    (case l21 => k_is)
    (case c21 => k_is)
    (case k21 => k_is)
    (case a22 => k_is)
    (case l22 => k_is)
    (case c22 => k_is)
    (case k22 => k_is)
    (case a23 => k_is)
    (case l23 => k_is)
    (case c23 => k_is)
    (case k23 => k_is)
    (case a24 => k_is)
    (case l24 => k_is)
    (case c24 => k_is)
    (case k24 => k_is)
    (case a25 => k_is)
    (case l25 => k_is)
    (case c25 => k_is)
    (case k25 => k_is)
    (case a26 => k_is)
    (case l26 => k_is)
    (case c26 => k_is)
    (case k26 => k_is)
    (case a27 => k_is)
    (case l27 => k_is)
    (case c27 => k_is)
    (case k27 => k_is)
    (case a28 => k_is)
    (case l28 => k_is)
    (case c28 => k_is)
    (case k28 => k_is)
    (case a29 => k_is)
    (case l29 => k_is)
    (case c29 => k_is)
    (case k29 => k_is)
    (case a30 => k_is)
    (case l30 => k_is)
    (case c30 => k_is)
    (case k30 => k_is)
    (case a31 => k_is)
    (case l31 => k_is)
    (case c31 => k_is)
    (case k31 => k_is)
    (case a32 => k_is)
    (case l32 => k_is)
    (case c32 => k_is)
    (case k32 => k_is)
    (case a33 => k_is)
    (case l33 => k_is)
    (case c33 => k_is)
    (case k33 => k_is)
    (case z_len => k_is)
    (case z_all => k_is)
    (case z_any => k_is)
    (case z_isinstance => k_is)
    (case z_abs => k_is)
    (case z_int => k_is)
    (case z_bool => k_is)
    (case z_str => k_is)
    (case z_tuple => k_is)
    (case z_list => k_is)
    (case z_reversed => k_is)
    (case z_range => k_is)
    (case z_max => k_is)
    (case gL => k_is)
    (case lL => k_is)
    (case gE => k_is)
    (case lE => k_is)
    (case kE => k_keys)
    (case x1 => k_is)
    (case x2 => k_is)
    (case x3 => k_is)
    (case gT => k_is)
    (case lT => k_is)
    (case lt01 => k_is)
    (case lt10 => k_is)
    (case lt11 => k_is)
    (case gLR => k_is)
    (case lLR => k_is)
    (case gRP => k_is)
    (case lRP => k_is)
    (case gPO => k_is)
    (case lPO => k_is)
    (case gOV => k_is)
    (case lOV => k_is)
    (case kOV => k_keys)
    (case sOV => rfl)
    (case mOV => rfl)
    (case oxT => k_is)
    (case lOT => k_is)
    (case lOT0 => k_is)
    (case lOT1 => k_is)
    (case lOT2 => k_is)
    (case lOT3 => k_is)
    (case oxU => k_is)
    (case lOU => k_is)
    (case lOU0 => k_is)
    (case lOU1 => k_is)
    (case lOU2 => k_is)
    (case lOU3 => k_is)
    (case gBT => k_is)
    (case lBT => k_is)
    (case kBT => k_keys)
    (case bx1 => k_is)
    (case bx2 => k_is)
    (case bx3 => k_is)
    (case lBt => k_is)
    (case lBu => k_is)
    (case lBr => k_is)
    (case gTG => k_is)
    (case lTG => k_is)
    (case kTG => k_keys)
    (case sTG => rfl)
    (case tg0 => k_is)
    (case tg1 => k_is)
    (case tg2 => k_is)
    (case tg3 => k_is)
    (case tg4 => k_is)
    (case tg5 => k_is)
    (case tg6 => k_is)
    (case tg7 => k_is)
    (case tg8 => k_is)
    (case tg9 => k_is)
    (case pg_Elsewhere => k_is)
    (case hd_Elsewhere => k_is)
    (case po_Elsewhere => k_is)
    (case sa_Elsewhere => k_is)
    (case ha_Elsewhere => k_is)
    (case hm_Elsewhere => k_is)
    (case nf_Elsewhere_word => k_is)
    (case mk_Elsewhere => k_is)
    (case mf_Elsewhere => k_is)
    (case mp_Elsewhere => k_is)
    (case mn_Elsewhere_shows => k_is)
    (case pg_Rounds => k_is)
    (case hd_Rounds => k_is)
    (case po_Rounds => k_is)
    (case sa_Rounds => k_is)
    (case ha_Rounds => k_is)
    (case hm_Rounds => k_is)
    (case nf_Rounds_there => k_is)
    (case nf_Rounds_first => k_is)
    (case nf_Rounds_back => k_is)
    (case nf_Rounds_second => k_is)
    (case mk_Rounds => k_is)
    (case mf_Rounds => k_is)
    (case mp_Rounds => k_is)
    (case mn_Rounds_shows => k_is)
    (case hnC => k_is)
    (case htkC => k_is)
    (case kt_Elsewhere_Answer => kit_is)
    (case kt_Elsewhere_Elsewhere => kit_is)
    (case kt_Elsewhere_Rounds => kit_is)
    (case kt_Elsewhere_Led => kit_is)
    (case kt_Elsewhere_Parts => kit_is)
    (case kt_Rounds_Answer => kit_is)
    (case kt_Rounds_Elsewhere => kit_is)
    (case kt_Rounds_Rounds => kit_is)
    (case kt_Rounds_Led => kit_is)
    (case kt_Rounds_Parts => kit_is)
#print axioms PySem.Challenge.cw_twistturn_k07_whole_elsewhere_holds

