import PyProof.Rows.All
import Wide.All
import OpenK.AllK
import Wide.FinOn
import Lean
import PyProof.EqAt
import PyProof.EqKinds
import PyProof.TupleCall
import PyProof.Rows.SortShell
import PyProof.Rows.SortWalk
import KE.KRevIter
import PyProof.SetScanFacts
import PyProof.Rows.SetFrom
import PyProof.CollectWalk
import PyProof.SetRoads
import PyProof.P3Eq
import KE.KSortAsk
import PySem.Challenge.RW_roadgaps_k09_whole_crossed_alike
set_option Elab.async false
set_option linter.all false
set_option maxRecDepth 100000
set_option maxHeartbeats 4000000
/-! THE HAND LAYER, for ints, bools, texts, own classes, LISTS and tuples (index, slices, in, append, pop ..), calls, loops. Paste it whole ahead of your own text; what your proof does not reach may be deleted. -/
namespace L2
open PySem PySem.Spec PyProof.Rows
/-- a key: an int or a str -/
abbrev Key := Sum Int Str
def keyIs : Key → Value → Bool
  | .inl k, v => Value.isInt k v
  | .inr x, v => Value.isStrOf x v
def keyH (w : World) : Key → Int
  | .inl k => hashInt k
  | .inr x => hashStr w x
theorem keyIs_shape : ∀ {k : Key} {v : Value}, keyIs k v = true → (∃ i t, k = Sum.inl i ∧ v = Value.int i t) ∨ (∃ x t, k = Sum.inr x ∧ v = Value.str x t)
  | .inl i, v, h => by
    obtain ⟨t, e⟩ := Value.isInt_shape (k := i) (v := v) h
    exact .inl ⟨i, t, rfl, e⟩
  | .inr x, v, h => by
    obtain ⟨t, e⟩ := Value.isStrOf_shape (x := x) (v := v) h
    exact .inr ⟨x, t, rfl, e⟩
theorem key_ll (a b : Int) : decide ((Sum.inl a : Key) = Sum.inl b) = (a == b) := by
  by_cases e : a = b
  · subst e; simp
  · have h : ¬ (Sum.inl a : Key) = Sum.inl b := fun q => e (Sum.inl.inj q)
    rw [decide_eq_false h]
    exact (beq_eq_false_iff_ne.mpr e).symm
theorem key_rr (a b : Str) : decide ((Sum.inr a : Key) = Sum.inr b) = decide (a = b) := by
  by_cases e : a = b
  · subst e; simp
  · have h : ¬ (Sum.inr a : Key) = Sum.inr b := fun q => e (Sum.inr.inj q)
    rw [decide_eq_false h, decide_eq_false e]
theorem key_lr (a : Int) (b : Str) : decide ((Sum.inl a : Key) = Sum.inr b) = false := decide_eq_false (fun q => nomatch q)
theorem key_rl (a : Str) (b : Int) : decide ((Sum.inr a : Key) = Sum.inl b) = false := decide_eq_false (fun q => nomatch q)
def mixKind (prog : Program) (w : World) : PySem.KeyKind prog w Key where
  is := keyIs
  hash := keyH w
  inj := fun v a b ha hb => by
    rcases keyIs_shape ha with ⟨i, t, rfl, rfl⟩ | ⟨x, t, rfl, rfl⟩
    · rcases keyIs_shape hb with ⟨j, u, rfl, e⟩ | ⟨y, u, rfl, e⟩
      · injection e with e1 _; rw [e1]
      · exact nomatch e
    · rcases keyIs_shape hb with ⟨j, u, rfl, e⟩ | ⟨y, u, rfl, e⟩
      · exact nomatch e
      · injection e with e1 _; rw [e1]
  byValue := fun k v h => by
    rcases keyIs_shape h with ⟨i, t, rfl, rfl⟩ | ⟨x, t, rfl, rfl⟩ <;> rfl
  pyHash := fun hv h => by
    rcases keyIs_shape hv with ⟨i, t, rfl, rfl⟩ | ⟨x, t, rfl, rfl⟩
    · exact wpAny_pyHash_int h
    · exact wpAny_pyHash_str h
  eqBool := fun hu hv h => by
    rcases keyIs_shape hu with ⟨i, t, rfl, rfl⟩ | ⟨x, t, rfl, rfl⟩
    · rcases keyIs_shape hv with ⟨j, u, rfl, rfl⟩ | ⟨y, u, rfl, rfl⟩
      · rw [key_ll] at h; exact wpAny_eqBool_int h
      · rw [key_lr] at h; exact SeqAt.EqAt.int_str i t y u _ _ _ _ h
    · rcases keyIs_shape hv with ⟨j, u, rfl, rfl⟩ | ⟨y, u, rfl, rfl⟩
      · rw [key_rl] at h; exact SeqAt.EqAt.str_int x t j u _ _ _ _ h
      · rw [key_rr] at h; exact wpAny_eqBool_str h
  «strs» := fun k x t v h => by
    rcases keyIs_shape h with ⟨i, u, rfl, e⟩ | ⟨y, u, rfl, e⟩
    · exact nomatch e
    · injection e with e1 _
      subst e1
      cases v <;> rfl
end L2
namespace L2
open PySem PySem.Spec PyProof.Rows
/-- a value, without the heap -/
inductive V where
  | non | bl (b : Bool) | int (i : Int) | str (x : Str) | byt (b : Array UInt8) | flt (b : UInt64) | ref (a : Addr) | ty (n : String)
  deriving DecidableEq
def RelV : V → Value → Prop
  | .non, u => u = Value.none
  | .bl b, u => u = Value.bool b
  | .int i, u => ∃ t, u = Value.int i t
  | .str x, u => ∃ t, u = Value.str x t
  | .byt b, u => ∃ t, u = Value.bytes b t
  | .flt b, u => ∃ t, u = Value.float b t
  | .ref a, u => u = Value.ref a
  | .ty n, u => u = Value.type n
abbrev Vals : List V → List Value → Prop := Paired RelV
theorem Vals.length {xs : List V} {us : List Value} (r : Vals xs us) : xs.length = us.length := Paired.length r
theorem Vals.get : ∀ {xs : List V} {us : List Value} {i : Nat} {x : V}, Vals xs us → xs[i]? = some x → ∃ u, us[i]? = some u ∧ RelV x u
  | _, _, _, _, .nil, e => by simp at e
  | _, _, 0, _, .cons r _, e => by simp at e; subst e; exact ⟨_, rfl, r⟩
  | _, _, i + 1, x, .cons _ t, e => by
    obtain ⟨u, h1, h2⟩ := Vals.get (i := i) (x := x) t (by simpa using e)
    exact ⟨u, by simpa using h1, h2⟩
theorem Vals.set {x : V} {u : Value} (r : RelV x u) : ∀ {xs : List V} {us : List Value} (i : Nat), Vals xs us → Vals (xs.set i x) (us.set i u)
  | _, _, _, .nil => .nil
  | _, _, 0, .cons _ t => .cons r t
  | _, _, i + 1, .cons q t => .cons q (Vals.set r i t)
theorem Vals.append : ∀ {xs ys : List V} {us ws : List Value}, Vals xs us → Vals ys ws → Vals (xs ++ ys) (us ++ ws)
  | _, _, _, _, .nil, s => s
  | _, _, _, _, .cons r t, s => .cons r (Vals.append t s)
theorem Vals.take : ∀ {xs : List V} {us : List Value} (n : Nat), Vals xs us → Vals (xs.take n) (us.take n)
  | _, _, 0, _ => .nil
  | _, _, _ + 1, .nil => .nil
  | _, _, n + 1, .cons r t => .cons r (Vals.take n t)
theorem Vals.drop : ∀ {xs : List V} {us : List Value} (n : Nat), Vals xs us → Vals (xs.drop n) (us.drop n)
  | _, _, 0, r => r
  | _, _, _ + 1, .nil => .nil
  | _, _, n + 1, .cons _ t => Vals.drop n t
def RelO : Option V → Option Value → Prop
  | some v, some u => RelV v u
  | none, none => True
  | _, _ => False
def KV {κ : Type} : List (κ × V) → List (κ × Value) → Prop := Paired fun (p : κ × V) (q : κ × Value) => p.1 = q.1 ∧ RelV p.2 q.2
/-- a key of a dict (00_mix): an int or a text -/
def kV : Key → V
  | .inl i => .int i
  | .inr x => .str x
/-- what stands at a tracked address -/
inductive HO where
  /-- a list -/
  | lst (xs : List V)
  /-- a tuple (never changes) -/
  | tup (xs : List V)
  /-- a dict whose keys are ints and texts; one whose keys are tuples of ints and texts (the empty one is both) -/
  | dK (kvs : List (Key × V)) | dT (kvs : List (List Key × V))
  /-- a set of ints: its members, its size -/
  | set (S : Int → Bool) (n : Nat)
  /-- an instance of the class at C, its dict at dx, its attributes -/
  | ins (C dx : Addr) (fs : List (Str × V))
  /-- the dict of the instance at x -/
  | own (x : Addr)
  /-- the dict of an exception -/
  | xd (fs : List (Str × V))
  /-- a bound method, f of x -/
  | met (f x : Addr)
  /-- a range object lo, lo + 1, .. below hi -/
  | rng (lo hi : Int)
  /-- a thing that is known to the object (the script; a dict while a loop walks it): read, never written while it is so -/
  | frz (o : Obj) (u : HO)
  /-- a code object's table -/
  | tbl (ps : Array Value)
  /-- any other thing, by what is true of its one object (a def of one's own: SetO a S n := HO.ext fun h => ..) -/
  | ext (φ : Heap → Prop)
abbrev Hp := Addr → Option HO
def upd (H : Hp) (a : Addr) (o : HO) : Hp := fun b => if b = a then some o else H b
theorem upd_same {H : Hp} {a : Addr} {o : HO} : upd H a o a = some o := by unfold upd; rw [if_pos rfl]
theorem upd_ne {H : Hp} {a b : Addr} {o : HO} (h : b ≠ a) : upd H a o b = H b := by unfold upd; rw [if_neg h]
theorem upd_upd {H : Hp} {a : Addr} {o u : HO} : upd (upd H a o) a u = upd H a u := by
  funext b; unfold upd; split <;> rfl
theorem ne_of_none {H : Hp} {a b : Addr} {o : HO} (h : H a = some o) (h' : H b = none) : a ≠ b := by
  intro e; subst e; rw [h] at h'; cases h'
section
variable (P : Program) (w : World)
def ObjOk (H : Hp) (h : Heap) (a : Addr) : HO → Prop
  | .lst xs => xs.length ≤ sizeLine ∧ ∃ (its : List Value) (n : Nat), Vals xs its ∧ h.get? a = some { cls := .type "list", data := .seq its.toArray n }
  | .tup xs => xs.length ≤ sizeLine ∧ ∃ its : List Value, Vals xs its ∧ IsTup h a its.toArray
  | .dK kvs => kvs.length ≤ sizeLine ∧ (a == sysModules) = false ∧ ∃ vs, KV kvs vs ∧ h.DictOf (mixKind P w) a vs
  | .dT kvs => kvs.length ≤ sizeLine ∧ (a == sysModules) = false ∧ ∃ xs : List (List Key × Addr × Value),
      Paired (fun (p : List Key × V) (q : List Key × Addr × Value) => p.1 = q.1 ∧ H q.2.1 = some (.tup (p.1.map kV)) ∧ RelV p.2 q.2.2) kvs xs ∧
      ∃ o es ep, h.get? a = some o ∧ o.ExactDict ∧ o.data = .dict es ep ∧ es.toList = xs.map (entryOfKey (tupleKind (mixKind P w))) ∧ (xs.map (·.1)).Nodup
  | .set S n => h.SetOf (intKind P w) a S n
  | .ins C dx fs => H dx = some (.own a) ∧ fs.length ≤ 1000 ∧ dx ≠ a ∧ h.get? a = some (PySem.W.instObj C dx) ∧
      ∃ mA, h.Ns1 dx mA ∧ (∀ f, RelO (fs.lookup f) (mA f)) ∧ PySem.Within mA (fs.map (·.1))
  | .own _ => ∃ o, h.get? a = some o
  | .xd fs => ∃ mA, h.Ns1 a mA ∧ ∀ f, RelO (fs.lookup f) (mA f)
  | .rng lo hi => ∃ t u v, h.get? a = some { cls := .type "range", data := .fields #[.int lo t, .int hi u, .int 1 v] }
  | .frz o u => h.get? a = some o ∧ ObjOk H h a u
  | .tbl ps => h.get? a = some { cls := .none, data := .fields ps }
  | .met f x => h.get? a = some (PySem.W.methodObj (.ref f) (.ref x))
  | .ext φ => φ h ∧ (∃ o, h.get? a = some o) ∧ ∀ h1 h2 : Heap, φ h1 → (∀ o, h1.get? a = some o → h2.get? a = some o) → φ h2
/-- the abstract heap is held -/
def HOk (H : Hp) (h : Heap) : Prop := ∀ a o, H a = some o → ObjOk P w H h a o
end
section
variable {P : Program} {w : World} {H H' : Hp} {h h' : Heap} {a : Addr} {o : HO}
theorem ObjOk.lt (x : ObjOk P w H h a o) : a < h.objs.size := by
  cases o with
  | lst xs => obtain ⟨_, _, _, _, e⟩ := x; exact Heap.lt_size e
  | tup xs => obtain ⟨_, _, _, p⟩ := x; exact p.lt
  | dK kvs => obtain ⟨_, _, _, _, o, _, _, e, _⟩ := x; exact Heap.lt_size e
  | dT kvs => obtain ⟨_, _, _, _, o, _, _, e, _⟩ := x; exact Heap.lt_size e
  | set S n => obtain ⟨o, _, _, _, e, _⟩ := x; exact Heap.lt_size e
  | ins C dx fs => obtain ⟨_, _, _, e, _⟩ := x; exact Heap.lt_size e
  | own y => obtain ⟨_, e⟩ := x; exact Heap.lt_size e
  | xd fs => obtain ⟨_, ⟨_, _, _, e, _⟩, _⟩ := x; exact Heap.lt_size e
  | rng lo hi => obtain ⟨_, _, _, e⟩ := x; exact Heap.lt_size e
  | frz ob u => obtain ⟨e, _⟩ := x; exact Heap.lt_size e
  | tbl ps => exact Heap.lt_size (show h.get? a = some _ from x)
  | met f y => exact Heap.lt_size (show h.get? a = some _ from x)
  | ext φ => obtain ⟨_, ⟨_, e⟩, _⟩ := x; exact Heap.lt_size e
theorem Paired.mapP {α β : Type} {F G : α → β → Prop} : ∀ {l₁ : List α} {l₂ : List β}, Paired F l₁ l₂ → (∀ a b, F a b → G a b) → Paired G l₁ l₂
  | _, _, .nil, _ => .nil
  | _, _, .cons r t, f => .cons (f _ _ r) (Paired.mapP t f)
/-- what an object's description leans on: its own object, its own dict, the tuples -/
theorem ObjOk.stay (x : ObjOk P w H h a o) (k : ∀ b u, (b = a ∨ H b = some (.own a)) → h.get? b = some u → h'.get? b = some u)
    (ho : ∀ b, H b = some (.own a) → H' b = some (.own a)) (ht : ∀ b xs, H b = some (.tup xs) → H' b = some (.tup xs)) : ObjOk P w H' h' a o := by
  induction o with
  | lst xs => obtain ⟨z, its, n, r, e⟩ := x; exact ⟨z, its, n, r, k _ _ (.inl rfl) e⟩
  | tup xs => obtain ⟨z, its, r, ob, e, c⟩ := x; exact ⟨z, its, r, ob, k _ _ (.inl rfl) e, c⟩
  | dK kvs => obtain ⟨z, y, vs, r, ob, es, ep, e, c⟩ := x; exact ⟨z, y, vs, r, ob, es, ep, k _ _ (.inl rfl) e, c⟩
  | dT kvs =>
    obtain ⟨z, y, xs, r, ob, es, ep, e, c⟩ := x
    exact ⟨z, y, xs, Paired.mapP r fun p q z => ⟨z.1, ht _ _ z.2.1, z.2.2⟩, ob, es, ep, k _ _ (.inl rfl) e, c⟩
  | set S n => obtain ⟨ob, es, ep, t, e, c⟩ := x; exact ⟨ob, es, ep, t, k _ _ (.inl rfl) e, c⟩
  | ins C dx fs =>
    obtain ⟨d, z, ne, e, mA, ⟨od, es, ep, e2, c⟩, r⟩ := x
    exact ⟨ho _ d, z, ne, k _ _ (.inl rfl) e, mA, ⟨od, es, ep, k _ _ (.inr d) e2, c⟩, r⟩
  | own y => obtain ⟨ob, e⟩ := x; exact ⟨ob, k _ _ (.inl rfl) e⟩
  | xd fs => obtain ⟨mA, ⟨od, es, ep, e, c⟩, r⟩ := x; exact ⟨mA, ⟨od, es, ep, k _ _ (.inl rfl) e, c⟩, r⟩
  | rng lo hi => obtain ⟨t, u, v, e⟩ := x; exact ⟨t, u, v, k _ _ (.inl rfl) e⟩
  | frz ob u ih => obtain ⟨e, q⟩ := x; exact ⟨k _ _ (.inl rfl) e, ih q⟩
  | tbl ps =>
    have e : h.get? a = some { cls := .none, data := .fields ps } := x
    show h'.get? a = some { cls := .none, data := .fields ps }
    exact k a _ (.inl rfl) e
  | met f y =>
    have e : h.get? a = some (PySem.W.methodObj (.ref f) (.ref y)) := x
    show h'.get? a = some (PySem.W.methodObj (.ref f) (.ref y))
    exact k a _ (.inl rfl) e
  | ext φ => obtain ⟨p, ⟨o, e⟩, st⟩ := x; exact ⟨st _ _ p fun o q => k _ _ (.inl rfl) q, ⟨o, k _ _ (.inl rfl) e⟩, st⟩
theorem HOk.lt (x : HOk P w H h) (e : H a = some o) : a < h.objs.size := (x a o e).lt
theorem HOk.fresh (x : HOk P w H h) (e : h.objs.size ≤ a) : H a = none := by
  cases q : H a with
  | none => rfl
  | some u => exact absurd (Nat.lt_of_lt_of_le (x.lt q) e) (Nat.lt_irrefl _)
/-- every object of the heap is kept -/
theorem HOk.kept (x : HOk P w H h) (k : ∀ b u, h.get? b = some u → h'.get? b = some u) : HOk P w H h' := fun a o e =>
  (x a o e).stay (fun b u _ q => k b u q) (fun _ q => q) fun _ _ q => q
/-- a new object is laid and tracked -/
theorem HOk.laid (x : HOk P w H h) (k : ∀ b u, h.get? b = some u → h'.get? b = some u) (hp : h.objs.size ≤ a) (new : ObjOk P w (upd H a o) h' a o) : HOk P w (upd H a o) h' := fun b u e => by
  have hn := x.fresh hp
  by_cases hb : b = a
  · subst hb; rw [upd_same] at e; cases e; exact new
  · rw [upd_ne hb] at e
    exact (x b u e).stay (fun c v _ q => k c v q) (fun c q => by rw [upd_ne (ne_of_none q hn)]; exact q) fun c xs q => by rw [upd_ne (ne_of_none q hn)]; exact q
end
/-- what may be read as u: it is u, or a known u -/
def Rd (H : Hp) (a : Addr) (u : HO) : Prop := H a = some u ∨ ∃ o, H a = some (.frz o u)
theorem Rd.ok {P : Program} {w : World} {H : Hp} {h : Heap} {a : Addr} {u : HO} (r : Rd H a u) (x : HOk P w H h) : ObjOk P w H h a u := by
  rcases r with r | ⟨o, r⟩
  · exact x a u r
  · obtain ⟨_, q⟩ := x a _ r
    exact q
/-- what may be written -/
def Mut : Option HO → Prop
  | some (.lst _) => True
  | some (.dK _) => True
  | some (.dT _) => True
  | some (.set _ _) => True
  | some (.ins _ _ _) => True
  | some (.ext _) => True
  | _ => False
section
variable {P : Program} {w : World} {H : Hp} {h h' : Heap} {x e : Addr} {o' : HO}
/-- the object at e is changed: x itself, or the dict of the instance x -/
theorem HOk.write (ok : HOk P w H h) (mu : Mut (H x)) (he : e = x ∨ H e = some (.own x)) (k : ∀ b u, b ≠ e → h.get? b = some u → h'.get? b = some u) (heo : ∃ u, h'.get? e = some u)
    (new : ObjOk P w (upd H x o') h' x o') : HOk P w (upd H x o') h' := fun b u q => by
  have nown : ∀ c y, H c = some (.own y) → c ≠ x := fun c y r z => by subst z; rw [r] at mu; exact mu
  have ntup : ∀ c xs, H c = some (.tup xs) → c ≠ x := fun c xs r z => by subst z; rw [r] at mu; exact mu
  by_cases hb : b = x
  · subst hb; rw [upd_same] at q; cases q; exact new
  · rw [upd_ne hb] at q
    by_cases hbe : b = e
    · have q' : H b = some (.own x) := by
        rcases he with z | z
        · exact absurd (hbe.trans z) hb
        · rw [hbe]; exact z
      rw [q] at q'; cases q'
      obtain ⟨v, hv⟩ := heo
      exact ⟨v, by rw [hbe]; exact hv⟩
    · refine (ok b u q).stay (fun c v hc r => k c v ?_ r) (fun c r => by rw [upd_ne (nown c b r)]; exact r) fun c xs r => by rw [upd_ne (ntup c xs r)]; exact r
      rcases hc with rfl | hc
      · exact hbe
      · rintro rfl
        rcases he with z | z
        · exact nown c b hc z
        · rw [hc] at z; cases z; exact hb rfl
end
/-! ### kept unless tracked; of the frames at fs (the callers') the slots may change (an exception that passes writes there); of the records at ex (iterators) nothing is said -/
structure Un (fs ex : List Addr) (H H' : Hp) (h h' : Heap) : Prop where
  keep : ∀ b o, h.get? b = some o → H b = none → b ∉ fs → b ∉ ex → h'.get? b = some o
  slot : ∀ b o, h.get? b = some o → H b = none → b ∈ fs → b ∉ ex → ∃ sl, h'.get? b = some { o with slots := sl }
  free : ∀ b o, h.get? b = some o → H b = none → b ∉ ex → H' b = none
  there : ∀ b o, h.get? b = some o → b ∉ ex → ∃ o', h'.get? b = some o'
  tups : ∀ b xs, H b = some (.tup xs) → H' b = some (.tup xs)
  frzs : ∀ b o u, H b = some (.frz o u) → H' b = some (.frz o u)
  tbls : ∀ b ps, H b = some (.tbl ps) → ∃ more, H' b = some (.tbl (ps ++ more))
section
variable {fs fs' ex ex' : List Addr} {H H1 H2 : Hp} {h h1 h2 h' : Heap} {a x e : Addr} {o : HO}
theorem Un.any (u : Un fs ex H H1 h h1) {b : Addr} {ob : Obj} (q : h.get? b = some ob) (n : H b = none) (hx : b ∉ ex) : ∃ sl, h1.get? b = some { ob with slots := sl } := by
  by_cases hb : b ∈ fs
  · exact u.slot b ob q n hb hx
  · exact ⟨ob.slots, u.keep b ob q n hb hx⟩
theorem Un.kept (k : ∀ b u, h.get? b = some u → h'.get? b = some u) : Un fs ex H H h h' :=
  ⟨fun b ob q _ _ _ => k b ob q, fun b ob q _ _ _ => ⟨ob.slots, k b ob q⟩, fun _ _ _ n _ => n, fun b ob q _ => ⟨ob, k b ob q⟩, fun _ _ q => q, fun _ _ _ q => q, fun _ ps q => ⟨#[], by rw [q]; simp⟩⟩
theorem Un.refl : Un fs ex H H h h := Un.kept fun _ _ q => q
theorem Un.laid (k : ∀ b u, h.get? b = some u → h'.get? b = some u) (hp : h.objs.size ≤ a) (hn : H a = none) : Un fs ex H (upd H a o) h h' where
  keep := fun b u q _ _ _ => k b u q
  slot := fun b u q _ _ _ => ⟨u.slots, k b u q⟩
  free := fun b u q n _ => by rw [upd_ne (Nat.ne_of_lt (Nat.lt_of_lt_of_le (Heap.lt_size q) hp))]; exact n
  there := fun b u q _ => ⟨u, k b u q⟩
  tups := fun b xs q => by rw [upd_ne (ne_of_none q hn)]; exact q
  frzs := fun b u xs q => by rw [upd_ne (ne_of_none q hn)]; exact q
  tbls := fun b ps q => ⟨#[], by rw [upd_ne (ne_of_none q hn), q]; simp⟩
theorem Un.write (mu : Mut (H x)) (he : e = x ∨ H e = some (.own x)) (k : ∀ b u, b ≠ e → h.get? b = some u → h'.get? b = some u) (heo : ∃ u, h'.get? e = some u) : Un fs ex H (upd H x o) h h' := by
  have hx : ∀ b, H b = none → b ≠ x := fun b n z => by subst z; rw [n] at mu; exact mu
  have hb : ∀ b, H b = none → b ≠ e := fun b n z => by
    subst z
    rcases he with r | r
    · exact hx b n r
    · rw [n] at r; cases r
  have hm : ∀ b u, H b = some u → ¬ Mut (some u) → b ≠ x := fun b u q nm z => by subst z; rw [q] at mu; exact nm mu
  refine ⟨fun b u q n _ _ => k b u (hb b n) q, fun b u q n _ _ => ⟨u.slots, k b u (hb b n) q⟩, fun b u q n _ => by rw [upd_ne (hx b n)]; exact n, fun b u q _ => ?_,
    fun b xs q => by rw [upd_ne (hm b _ q fun z => z)]; exact q, fun b u xs q => by rw [upd_ne (hm b _ q fun z => z)]; exact q, fun b ps q => ⟨#[], by rw [upd_ne (hm b _ q fun z => z), q]; simp⟩⟩
  by_cases hbe : b = e
  · subst hbe; exact heo
  · exact ⟨u, k b u hbe q⟩
end
/-! ### the heap without what is tracked -/
def trk (h : Heap) (H : Hp) : List Addr := (List.range h.objs.size).filter fun a => (H a).isSome
def hidT (h : Heap) (H : Hp) : Heap := PySem.W.hideAll h (trk h H)
theorem hidT_size (h : Heap) (H : Hp) : (hidT h H).objs.size = h.objs.size := PySem.W.hideAll_size _ _
theorem hidT_get {h : Heap} {H : Hp} {b : Addr} {o : Obj} (e : h.get? b = some o) (n : H b = none) : (hidT h H).get? b = some o :=
  PySem.W.hideAll_get _ e fun hm => by
    have q : (H b).isSome = true := (List.mem_filter.mp hm).2
    rw [n] at q; simp at q
theorem of_hidT {h : Heap} {H : Hp} {b : Addr} {o : Obj} (e : (hidT h H).get? b = some o) : h.get? b = some o ∧ H b = none := by
  have e' : h.get? b = some o := PySem.W.of_hideAll (trk h H) e
  refine ⟨e', ?_⟩
  cases q : H b with
  | none => rfl
  | some x =>
    have hm : b ∈ trk h H := List.mem_filter.mpr ⟨List.mem_range.mpr (Heap.lt_size e'), by simp [q]⟩
    have z : (hidT h H).get? b = none := PySem.W.hideAll_none (trk h H) hm
    rw [z] at e; cases e
end L2
namespace L2
open PySem PySem.Spec PyProof.Rows
/-- the module's facts, over the base: the heap at the law's entry without what is tracked there -/
structure Mod (K : PySem.W.Frag) (mg : Str → Option Value) (base : Heap) : Prop where
  kin : K.In base
  glob : base.Ns mainGlobals mg
  blt : ∃ mb, base.Ns builtinsNs mb ∧ ∀ x : Str, x ≠ "__name__" → mb x = bootBuiltins x
  nolimit : base.NoLimit
/-- the context: a def's body (or a comprehension's block) running. base: fixed through the whole law; s₀, H₀: the entry; outer: the frames whose slots others may change (a def's callers); stack: all frames that run;
   ex: iterators that were made ahead of the entry and are walked here (a comprehension's); fn: the names whose cells were made at the entry (a def: all; a comprehension's block: its own); calm: not within an except suite; pn: pins that every state bears; xe: what is wanted of an exception that leaves the code -/
structure Cx where
  prog : Program
  w : World
  K : PySem.W.Frag
  mg : Str → Option Value
  base : Heap
  A : Around
  N : List Str
  s₀ : Shared
  H₀ : Hp
  env : Env
  outer : List Env
  stack : List Env
  ex : List Addr
  fn : Str → Bool
  calm : Bool
  pn : List (Addr × Obj)
  xe : Value → Shared → Prop
/-- the callers' frames -/
def frs (l : List Env) : List Addr := l.filterMap (·.frame)
abbrev Cx.fs (X : Cx) : List Addr := frs X.outer
def Vis (sc : Scope) (x : Str) : Prop := sc.names.lookup x = some .local ∨ sc.names.lookup x = some .cell ∨ sc.names.lookup x = some .free
def Loc (sc : Scope) (x : Str) : Prop := sc.names.lookup x = some .local ∨ sc.names.lookup x = some .cell
def Look (env : Env) (h : Heap) (m : Str → Option Value) (x : Str) (u : Value) : Prop :=
  (env.kindOf x = some .local ∧ m x = some u) ∨ ((env.kindOf x = some .cell ∨ env.kindOf x = some .free) ∧ ∃ c, env.cells.lookup x = some c ∧ h.IsCell c (some u))
structure Cx.Ok (X : Cx) : Prop where
  mod : Mod X.K X.mg X.base
  kind : X.env.scope.kind = .function
  glob : X.env.globals = mainGlobals
  blt : X.env.builtins = builtinsNs
  above : X.s₀.heap.objs.size ≤ X.env.locals
  inj : ∀ x y c, X.env.cells.lookup x = some c → X.env.cells.lookup y = some c → x = y
  has : ∀ x, (X.env.kindOf x = some .cell ∨ X.env.kindOf x = some .free) → ∃ c, X.env.cells.lookup x = some c
  cab : ∀ x c, X.fn x = true → X.env.cells.lookup x = some c → X.s₀.heap.objs.size ≤ c
  hd : X.calm = true → X.A.handled = none
  frames : X.A.frames = some X.stack
  stk : X.stack = X.outer ∨ (X.stack = X.env :: X.outer ∧ X.env.frame = some X.env.locals)
  exf : ∀ b ∈ X.ex, b ≠ X.env.locals ∧ ∀ x c, X.env.cells.lookup x = some c → c ≠ b
  bs : ∀ b o, X.base.get? b = some o → X.s₀.heap.get? b = some o ∧ X.H₀ b = none
  bsz : X.base.objs.size ≤ X.s₀.heap.objs.size
  noex : ∀ b o, X.base.get? b = some o → b ∉ X.ex
  exfs : ∀ b ∈ X.ex, b ∉ X.fs
  funs : X.s₀.heap.FunFrames X.base X.outer
  frf : ∀ b ∈ X.fs, X.H₀ b = none
structure Inv (X : Cx) (pins : List (Addr × Obj)) (σ : List (Option V)) (H : Hp) (s : Shared) : Prop where
  ok : X.Ok
  os : s.os = X.s₀.os
  bare : AllBare s.gens
  base : Un X.fs X.ex X.H₀ H X.s₀.heap s.heap
  loc : ∃ m, s.heap.Ns X.env.locals m ∧ ∀ (i : Nat) (x : Str) (v : V), X.N[i]? = some x → σ[i]? = some (some v) → Vis X.env.scope x → ∃ u, RelV v u ∧ Look X.env s.heap m x u
  cell : ∀ x c, X.env.cells.lookup x = some c → ∃ v, s.heap.IsCell c v
  free : H X.env.locals = none
  freeC : ∀ x c, X.env.cells.lookup x = some c → H c = none
  pin : ∀ p ∈ X.pn ++ pins, s.heap.get? p.1 = some p.2 ∧ H p.1 = none ∧ p.1 ≠ X.env.locals ∧ p.1 ∉ X.fs ∧ ∀ v, p.2.data ≠ .cell v
  hok : HOk X.prog X.w H s.heap
  len : σ.length = X.N.length
section
variable {X : Cx} {pins : List (Addr × Obj)} {σ : List (Option V)} {H H' : Hp} {s : Shared} {h' : Heap}
theorem Cx.Ok.nofr (ok : X.Ok) {b : Addr} {o : Obj} (e : X.base.get? b = some o) : b ∉ X.fs := fun hb => by
  have := (ok.funs.mem hb).1
  rw [e] at this; cases this
theorem Inv.bs (I : Inv X pins σ H s) : ∀ b o, X.base.get? b = some o → s.heap.get? b = some o ∧ H b = none := fun b o e =>
  ⟨I.base.keep b o (I.ok.bs b o e).1 (I.ok.bs b o e).2 (I.ok.nofr e) (I.ok.noex b o e), I.base.free b o (I.ok.bs b o e).1 (I.ok.bs b o e).2 (I.ok.noex b o e)⟩
theorem Inv.bk (I : Inv X pins σ H s) : ∀ b o, X.base.get? b = some o → s.heap.get? b = some o := fun b o e => (I.bs b o e).1
theorem Inv.mod (I : Inv X pins σ H s) : Mod X.K X.mg X.base := I.ok.mod
theorem Inv.kIn (I : Inv X pins σ H s) : X.K.In s.heap := I.ok.mod.kin.keeps I.bk
theorem Inv.lt (I : Inv X pins σ H s) : X.env.locals < s.heap.objs.size := let ⟨_, hn, _⟩ := I.loc; hn.lt
theorem Inv.sz (I : Inv X pins σ H s) : X.s₀.heap.objs.size ≤ s.heap.objs.size := Nat.le_trans I.ok.above (Nat.le_of_lt I.lt)
theorem Inv.nofs (I : Inv X pins σ H s) {a : Addr} (h : s.heap.objs.size ≤ a) : a ∉ X.fs := fun hb => by
  obtain ⟨_, o, ho, _⟩ := I.ok.funs.mem hb
  exact absurd (Nat.lt_of_lt_of_le (Heap.lt_size ho) (Nat.le_trans I.sz h)) (Nat.lt_irrefl _)
theorem Inv.cne (I : Inv X pins σ H s) : ∀ x c, X.env.cells.lookup x = some c → c ≠ X.env.locals := fun x c e z => by
  obtain ⟨v, o, ho, hd⟩ := I.cell x c e
  obtain ⟨m, ⟨o', es, ep, ho', hd', _⟩, _⟩ := I.loc
  rw [z, ho'] at ho; cases ho; rw [hd'] at hd; cases hd
theorem Inv.funs (I : Inv X pins σ H s) : s.heap.FunFrames X.base X.outer := by
  have all : ∀ (l : List Env), (∀ b ∈ frs l, b ∈ X.fs) → X.s₀.heap.FunFrames X.base l → s.heap.FunFrames X.base l := by
    intro l
    induction l with
    | nil => intro _ _; trivial
    | cons env r ih =>
      intro hs hl
      obtain ⟨hk, ⟨L, o, hf, hn, ho, hd⟩, hr⟩ := hl
      have hL : L ∈ X.fs := hs L (by unfold frs; rw [List.filterMap_cons, hf]; exact List.mem_cons_self)
      obtain ⟨sl, e⟩ := I.base.slot L o ho (I.ok.frf L hL) hL fun z => I.ok.exfs L z hL
      exact ⟨hk, ⟨L, _, hf, hn, e, hd⟩, ih (fun b hb => hs b (by unfold frs; rw [List.filterMap_cons, hf]; exact List.mem_cons_of_mem _ hb)) hr⟩
  exact all X.outer (fun _ hb => hb) I.ok.funs
/-- the frames that run, for a call -/
theorem Inv.stack (I : Inv X pins σ H s) : s.heap.FunFrames X.base X.stack := by
  rcases I.ok.stk with e | ⟨e, hf⟩
  · rw [e]; exact I.funs
  · rw [e]
    obtain ⟨m, hn, _⟩ := I.loc
    refine .cons (by rw [I.ok.kind]; decide) hf hn ?_ I.funs
    exact Heap.get?_none_of_le (Nat.le_trans I.ok.bsz I.ok.above)
theorem Inv.stkSub (I : Inv X pins σ H s) : ∀ b ∈ frs X.stack, b ∈ X.env.locals :: X.fs := fun b hb => by
  rcases I.ok.stk with e | ⟨e, hf⟩
  · rw [e] at hb; exact List.mem_cons_of_mem _ hb
  · rw [e] at hb
    unfold frs at hb
    rw [List.filterMap_cons, hf] at hb
    exact hb
theorem Inv.stkFree (I : Inv X pins σ H s) : ∀ b ∈ frs X.stack, H b = none := fun b hb => by
  rcases List.mem_cons.mp (I.stkSub b hb) with e | hb
  · rw [e]; exact I.free
  · obtain ⟨_, o, ho, _⟩ := I.ok.funs.mem hb
    exact I.base.free b o ho (I.ok.frf b hb) fun z => I.ok.exfs b z hb
/-- THE STEP: the untracked objects but the frame and the records at ch are kept (the callers' frames up to slots), the frame's map is kept, the new abstract heap is held -/
theorem Inv.step {g' : Array GenState} {t' : Nat} {d' : Drawn} {ch : List Addr} (I : Inv X pins σ H s)
    (hch : ∀ b ∈ ch, (b ∈ X.ex ∨ X.s₀.heap.objs.size ≤ b) ∧ b ≠ X.env.locals ∧ (∀ x c, X.env.cells.lookup x = some c → c ≠ b) ∧ ∀ p ∈ X.pn ++ pins, p.1 ≠ b)
    (keep : ∀ b o, b ≠ X.env.locals → b ∉ X.fs → b ∉ ch → s.heap.get? b = some o → H b = none → h'.get? b = some o)
    (slot : ∀ b o, b ≠ X.env.locals → b ∈ X.fs → b ∉ ch → s.heap.get? b = some o → H b = none → ∃ sl, h'.get? b = some { o with slots := sl }) (free : ∀ b o, b ∉ ch → s.heap.get? b = some o → H b = none → H' b = none)
    (there : ∀ b o, b ∉ ch → s.heap.get? b = some o → ∃ o', h'.get? b = some o')
    (tups : ∀ b xs, H b = some (.tup xs) → H' b = some (.tup xs)) (frzs : ∀ b o u, H b = some (.frz o u) → H' b = some (.frz o u)) (tbls : ∀ b ps, H b = some (.tbl ps) → ∃ more, H' b = some (.tbl (ps ++ more)))
    (ns : ∀ m, s.heap.Ns X.env.locals m → h'.Ns X.env.locals m) (hok : HOk X.prog X.w H' h') (hg : AllBare g') :
    Inv X pins σ H' { s with heap := h', gens := g', drawn := d', toks := t' } := by
  have neL : ∀ b o, X.s₀.heap.get? b = some o → b ≠ X.env.locals := fun b o e => Nat.ne_of_lt (Nat.lt_of_lt_of_le (Heap.lt_size e) I.ok.above)
  have neC : ∀ b o, X.s₀.heap.get? b = some o → b ∉ X.ex → b ∉ ch := fun b o e hx hb => by
    rcases (hch b hb).1 with z | z
    · exact hx z
    · exact absurd (Nat.lt_of_lt_of_le (Heap.lt_size e) z) (Nat.lt_irrefl _)
  have cellK : ∀ x c, X.env.cells.lookup x = some c → ∀ v, s.heap.IsCell c v → h'.IsCell c v := fun x c e v ⟨o, ho, hd⟩ => by
    have nch : c ∉ ch := fun z => (hch c z).2.2.1 x c e rfl
    by_cases hc : c ∈ X.fs
    · obtain ⟨sl, q⟩ := slot c o (I.cne x c e) hc nch ho (I.freeC x c e)
      exact ⟨_, q, hd⟩
    · exact ⟨o, keep c o (I.cne x c e) hc nch ho (I.freeC x c e), hd⟩
  refine ⟨I.ok, I.os, hg, ⟨fun b o e n hb hx => ?_, fun b o e n hb hx => ?_, fun b o e n hx => ?_, fun b o e hx => ?_, fun b xs e => tups b xs (I.base.tups b xs e), fun b o xs e => frzs b o xs (I.base.frzs b o xs e), fun b ps e => ?_⟩, ?_, fun x c e => ?_, ?_, fun x c e => ?_, fun p hp => ?_, hok, I.len⟩
  · exact keep b o (neL b o e) hb (neC b o e hx) (I.base.keep b o e n hb hx) (I.base.free b o e n hx)
  · obtain ⟨sl, e1⟩ := I.base.slot b o e n hb hx
    obtain ⟨sl', e2⟩ := slot b _ (neL b o e) hb (neC b o e hx) e1 (I.base.free b o e n hx)
    exact ⟨sl', e2⟩
  · obtain ⟨o', e1⟩ := I.base.there b o e hx
    exact free b o' (neC b o e hx) e1 (I.base.free b o e n hx)
  · obtain ⟨o', e1⟩ := I.base.there b o e hx
    exact there b o' (neC b o e hx) e1
  · obtain ⟨m1, e1⟩ := I.base.tbls b ps e
    obtain ⟨m2, e2⟩ := tbls b _ e1
    exact ⟨m1 ++ m2, by rw [e2, Array.append_assoc]⟩
  · obtain ⟨m, hn, hl⟩ := I.loc
    refine ⟨m, ns m hn, fun i x v e1 e2 e3 => ?_⟩
    obtain ⟨u, r, l⟩ := hl i x v e1 e2 e3
    refine ⟨u, r, ?_⟩
    rcases l with l | ⟨k, c, e, z⟩
    · exact .inl l
    · exact .inr ⟨k, c, e, cellK x c e _ z⟩
  · obtain ⟨v, z⟩ := I.cell x c e
    exact ⟨v, cellK x c e v z⟩
  · obtain ⟨m, ⟨o, _, _, ho, _⟩, _⟩ := I.loc
    exact free _ o (fun z => (hch _ z).2.1 rfl) ho I.free
  · obtain ⟨v, o, ho, hd⟩ := I.cell x c e
    exact free c o (fun z => (hch c z).2.2.1 x c e rfl) ho (I.freeC x c e)
  · obtain ⟨e, n, ne, nf, d⟩ := I.pin p hp
    have nch : p.1 ∉ ch := fun z => (hch p.1 z).2.2.2 p hp rfl
    exact ⟨keep p.1 p.2 ne nf nch e n, free p.1 p.2 nch e n, ne, nf, d⟩
/-- .. where the frame's own object is kept too -/
theorem Inv.un {t' : Nat} (I : Inv X pins σ H s) (u : Un X.fs [] H H' s.heap h') (hok : HOk X.prog X.w H' h') : Inv X pins σ H' { s with heap := h', toks := t' } := by
  obtain ⟨m, ⟨o, es, ep, ho, r⟩, _⟩ := id I.loc
  obtain ⟨sl, hL⟩ := u.any ho I.free (by simp)
  exact I.step (g' := s.gens) (d' := s.drawn) (ch := []) (fun _ z => nomatch z) (fun b o _ hb _ e n => u.keep b o e n hb (by simp)) (fun b o _ hb _ e n => u.slot b o e n hb (by simp)) (fun b o _ e n => u.free b o e n (by simp)) (fun b o _ e => u.there b o e (by simp)) u.tups u.frzs u.tbls (fun m' hm => by
    obtain ⟨o', es', ep', ho', r'⟩ := hm
    rw [ho] at ho'; cases ho'
    exact ⟨_, es', ep', hL, r'⟩) hok I.bare
/-- behind a call (or a comprehension's block): the slots of this frame may have changed too, the records at ch may have turned -/
theorem Inv.call {g' : Array GenState} {t' : Nat} {d' : Drawn} {ch : List Addr} (I : Inv X pins σ H s) (u : Un (frs X.stack) ch H H' s.heap h') (hok : HOk X.prog X.w H' h') (hg : AllBare g')
    (hch : ∀ b ∈ ch, (b ∈ X.ex ∨ X.s₀.heap.objs.size ≤ b) ∧ b ≠ X.env.locals ∧ (∀ x c, X.env.cells.lookup x = some c → c ≠ b) ∧ ∀ p ∈ X.pn ++ pins, p.1 ≠ b) :
    Inv X pins σ H' { s with heap := h', gens := g', drawn := d', toks := t' } := by
  obtain ⟨m, ⟨o, es, ep, ho, r⟩, _⟩ := id I.loc
  obtain ⟨sl, hL⟩ := u.any ho I.free fun z => (hch _ z).2.1 rfl
  exact I.step (ch := ch) hch (fun b o hL hb hc e n => u.keep b o e n (fun z => (List.mem_cons.mp (I.stkSub b z)).elim hL hb) hc) (fun b o _ _ hc e n => u.any e n hc) (fun b o hc e n => u.free b o e n hc) (fun b o hc e => u.there b o e hc) u.tups u.frzs u.tbls (fun m' hm => by
    obtain ⟨o', es', ep', ho', r'⟩ := hm
    rw [ho] at ho'; cases ho'
    exact ⟨_, es', ep', hL, r'⟩) hok hg
/-- an untracked record of ours (an iterator) has turned -/
theorem Inv.turned {t' : Nat} {it : Addr} (I : Inv X pins σ H s) (k : ∀ b o, b ≠ it → s.heap.get? b = some o → h'.get? b = some o) (hn : H it = none) (hL : it ≠ X.env.locals)
    (h1 : it ∈ X.ex ∨ X.s₀.heap.objs.size ≤ it) (h2 : ∀ x c, X.env.cells.lookup x = some c → c ≠ it) (h3 : ∀ p ∈ X.pn ++ pins, p.1 ≠ it) : Inv X pins σ H { s with heap := h', toks := t' } := by
  have nit : ∀ b u, H b = some u → b ≠ it := fun b u e z => by rw [z, hn] at e; cases e
  refine I.step (g' := s.gens) (d' := s.drawn) (ch := [it]) (fun b hb => ?_) (fun b o _ _ hc e _ => k b o (fun z => hc (by simp [z])) e) (fun b o _ _ hc e _ => ⟨o.slots, k b o (fun z => hc (by simp [z])) e⟩) (fun _ _ _ _ n => n)
    (fun b o hc e => ⟨o, k b o (fun z => hc (by simp [z])) e⟩) (fun _ _ e => e) (fun _ _ _ e => e) (fun b ps e => ⟨#[], by rw [e]; simp⟩) (fun m hm => ?_) (fun b u e => ?_) I.bare
  · have e : b = it := by simpa using hb
    subst e
    exact ⟨h1, hL, h2, h3⟩
  · obtain ⟨o, es, ep, ho, r⟩ := hm
    exact ⟨o, es, ep, k _ o (Ne.symm hL) ho, r⟩
  · refine (I.hok b u e).stay (fun c v hc q => k c v ?_ q) (fun _ q => q) fun _ _ q => q
    rcases hc with z | z
    · rw [z]; exact nit b u e
    · exact nit c _ z
theorem Inv.tok (I : Inv X pins σ H s) (t : Nat) : Inv X pins σ H { s with toks := t } := I.un (h' := s.heap) (t' := t) Un.refl I.hok
/-- all objects kept -/
theorem Inv.kept {t' : Nat} (I : Inv X pins σ H s) (k : ∀ b u, s.heap.get? b = some u → h'.get? b = some u) : Inv X pins σ H { s with heap := h', toks := t' } := I.un (Un.kept k) (I.hok.kept k)
/-- a new object laid and tracked -/
theorem Inv.laid {a : Addr} {o : HO} {t' : Nat} (I : Inv X pins σ H s) (k : ∀ b u, s.heap.get? b = some u → h'.get? b = some u) (hp : s.heap.objs.size ≤ a) (new : ObjOk X.prog X.w (upd H a o) h' a o) :
    Inv X pins σ (upd H a o) { s with heap := h', toks := t' } := I.un (Un.laid k hp (I.hok.fresh hp)) (I.hok.laid k hp new)
/-- an object written -/
theorem Inv.write {x e : Addr} {o : HO} {t' : Nat} (I : Inv X pins σ H s) (mu : Mut (H x)) (he : e = x ∨ H e = some (.own x)) (k : ∀ b u, b ≠ e → s.heap.get? b = some u → h'.get? b = some u) (heo : ∃ u, h'.get? e = some u)
    (new : ObjOk X.prog X.w (upd H x o) h' x o) : Inv X pins σ (upd H x o) { s with heap := h', toks := t' } := I.un (Un.write mu he k heo) (I.hok.write mu he k heo new)
/-- forgetting slots, pins -/
theorem Inv.weak {σ' : List (Option V)} (I : Inv X pins σ H s) (hl : σ'.length = σ.length) (w : ∀ (i : Nat) v, σ'[i]? = some (some v) → σ[i]? = some (some v)) : Inv X pins σ' H s :=
  ⟨I.ok, I.os, I.bare, I.base, let ⟨m, hn, hl'⟩ := I.loc; ⟨m, hn, fun i x v e1 e2 e3 => hl' i x v e1 (w i v e2) e3⟩, I.cell, I.free, I.freeC, I.pin, I.hok, hl.trans I.len⟩
theorem Inv.pins_of {pins' : List (Addr × Obj)} (I : Inv X pins σ H s) (h : ∀ p ∈ pins', s.heap.get? p.1 = some p.2 ∧ H p.1 = none ∧ p.1 ≠ X.env.locals ∧ p.1 ∉ X.fs ∧ ∀ v, p.2.data ≠ .cell v) : Inv X pins' σ H s :=
  ⟨I.ok, I.os, I.bare, I.base, I.loc, I.cell, I.free, I.freeC, fun p hp => (List.mem_append.mp hp).elim (fun z => I.pin p (List.mem_append_left _ z)) (h p), I.hok, I.len⟩
theorem nodup_ix {N : List Str} (hN : N.Nodup) {i j : Nat} {x : Str} (a : N[i]? = some x) (b : N[j]? = some x) : i = j := by
  obtain ⟨h1, e1⟩ := List.getElem?_eq_some_iff.mp a
  obtain ⟨h2, e2⟩ := List.getElem?_eq_some_iff.mp b
  exact (List.getElem_inj hN).mp (e1.trans e2.symm)
/-- a name is stored; what changed -/
theorem store_ok2 {M : Model} {A : Around} {E : Value → Shared → Prop} {i : Nat} {x : Str} {v : V} {u : Value} {Q : Unit → Shared → Prop} (I : Inv X pins σ H s) (hN : X.N.Nodup) (hi : X.N[i]? = some x) (hx : Loc X.env.scope x) (r : RelV v u)
    (h : ∀ s', Inv X pins (σ.set i (some v)) H s' → (∃ a, Heap.SameBut a s.heap s'.heap ∧ (a = X.env.locals ∨ X.env.cells.lookup x = some a)) → Q () s') (hf : X.fn x = true ∨ X.env.scope.names.lookup x = some .local := by first | exact .inl rfl | exact .inr rfl | assumption) : wpAny M A (storeName X.env x u) Q E s := by
  obtain ⟨m, hn, hl⟩ := id I.loc
  have hcls : (X.env.scope.kind == .class || (X.env.scope.kind == .module && X.env.locals != X.env.globals)) = false := by rw [I.ok.kind]; rfl
  have hiσ : i < σ.length := by rw [I.len]; exact (List.getElem?_eq_some_iff.mp hi).1
  have cne := I.cne
  have tracked : ∀ {a : Addr} {h' : Heap}, (∃ o, s.heap.get? a = some o ∧ H a = none) → Heap.SameBut a s.heap h' → HOk X.prog X.w H h' := fun {a h'} ha hs b ob e => by
    obtain ⟨_, _, hfree⟩ := ha
    refine (I.hok b ob e).stay (fun c w' hc q => (hs.2 c ?_).trans q) (fun _ q => q) fun _ _ q => q
    rintro rfl
    rcases hc with rfl | hc
    · rw [hfree] at e; cases e
    · rw [hfree] at hc; cases hc
  rcases hx with hk | hk
  · refine wpAny_storeName_local hk hn (fun h' hn' hs => ?_) hcls
    obtain ⟨oL, _, _, hoL, _⟩ := id hn
    refine h _ ⟨I.ok, I.os, I.bare, ⟨fun b o e n hb hx => ?_, fun b o e n hb hx => ?_, I.base.free, fun b o e hx => ?_, I.base.tups, I.base.frzs, I.base.tbls⟩, ⟨_, hn', fun j y v' e1 e2 e3 => ?_⟩, fun y c e => ?_, I.free, I.freeC, fun p hp => ?_, tracked ⟨oL, hoL, I.free⟩ hs, by simpa using I.len⟩ ⟨_, hs, .inl rfl⟩
    · exact (hs.2 b (Nat.ne_of_lt (Nat.lt_of_lt_of_le (Heap.lt_size e) I.ok.above))).trans (I.base.keep b o e n hb hx)
    · obtain ⟨sl, e1⟩ := I.base.slot b o e n hb hx
      exact ⟨sl, (hs.2 b (Nat.ne_of_lt (Nat.lt_of_lt_of_le (Heap.lt_size e) I.ok.above))).trans e1⟩
    · obtain ⟨o', e1⟩ := I.base.there b o e hx
      exact ⟨o', (hs.2 b (Nat.ne_of_lt (Nat.lt_of_lt_of_le (Heap.lt_size e) I.ok.above))).trans e1⟩
    · by_cases hj : j = i
      · subst hj
        rw [hi] at e1; cases e1
        rw [List.getElem?_set_self hiσ] at e2
        cases e2
        exact ⟨u, r, .inl ⟨hk, by simp⟩⟩
      · rw [List.getElem?_set_ne (Ne.symm hj)] at e2
        obtain ⟨u', r', q⟩ := hl j y v' e1 e2 e3
        refine ⟨u', r', ?_⟩
        rcases q with ⟨k, e⟩ | ⟨k, c, e, z⟩
        · refine .inl ⟨k, ?_⟩
          have : y ≠ x := fun e => hj (nodup_ix hN e1 (e ▸ hi))
          simp [this, e]
        · exact .inr ⟨k, c, e, z.sameBut hs (cne y c e)⟩
    · obtain ⟨w', z⟩ := I.cell y c e
      exact ⟨w', z.sameBut hs (cne y c e)⟩
    · obtain ⟨e, n, ne, nf, d⟩ := I.pin p hp
      exact ⟨(hs.2 p.1 ne).trans e, n, ne, nf, d⟩
  · have hfn : X.fn x = true := by
      rcases hf with z | z
      · exact z
      · rw [z] at hk; cases hk
    obtain ⟨c, hc⟩ := I.ok.has x (.inl hk)
    obtain ⟨w', z⟩ := I.cell x c hc
    refine wpAny_storeName_cell I.ok.kind hk hc z (fun h' hc' hs => ?_)
    obtain ⟨oc, hoc, hocd⟩ := id z
    refine h { s with heap := h' } ⟨I.ok, I.os, I.bare, ⟨fun b o e n hb hx => ?_, fun b o e n hb hx => ?_, I.base.free, fun b o e hx => ?_, I.base.tups, I.base.frzs, I.base.tbls⟩, ⟨m, hn.sameBut hs (Ne.symm (cne x c hc)), fun j y v' e1 e2 e3 => ?_⟩, fun y c' e => ?_, I.free, I.freeC, fun p hp => ?_, tracked ⟨oc, hoc, I.freeC x c hc⟩ hs, by simpa using I.len⟩ ⟨c, hs, .inr hc⟩
    · exact (hs.2 b (Nat.ne_of_lt (Nat.lt_of_lt_of_le (Heap.lt_size e) (I.ok.cab x c hfn hc)))).trans (I.base.keep b o e n hb hx)
    · obtain ⟨sl, e1⟩ := I.base.slot b o e n hb hx
      exact ⟨sl, (hs.2 b (Nat.ne_of_lt (Nat.lt_of_lt_of_le (Heap.lt_size e) (I.ok.cab x c hfn hc)))).trans e1⟩
    · obtain ⟨o', e1⟩ := I.base.there b o e hx
      exact ⟨o', (hs.2 b (Nat.ne_of_lt (Nat.lt_of_lt_of_le (Heap.lt_size e) (I.ok.cab x c hfn hc)))).trans e1⟩
    · by_cases hj : j = i
      · subst hj
        rw [hi] at e1; cases e1
        rw [List.getElem?_set_self hiσ] at e2
        cases e2
        exact ⟨u, r, .inr ⟨.inl hk, c, hc, hc'⟩⟩
      · rw [List.getElem?_set_ne (Ne.symm hj)] at e2
        obtain ⟨u', r', q⟩ := hl j y v' e1 e2 e3
        refine ⟨u', r', ?_⟩
        rcases q with q | ⟨k, c', e, z'⟩
        · exact .inl q
        · refine .inr ⟨k, c', e, z'.sameBut hs ?_⟩
          rintro rfl
          exact hj (nodup_ix hN e1 (I.ok.inj _ _ _ e hc ▸ hi))
    · by_cases hcc : c' = c
      · subst hcc; exact ⟨_, hc'⟩
      · obtain ⟨w2, z2⟩ := I.cell y c' e
        exact ⟨w2, z2.sameBut hs hcc⟩
    · obtain ⟨e, n, ne, nf, d⟩ := I.pin p hp
      refine ⟨(hs.2 p.1 ?_).trans e, n, ne, nf, d⟩
      intro q
      rw [q, hoc] at e
      have q' : oc = p.2 := Option.some.inj e
      exact d w' (by rw [← q']; exact hocd)
theorem store_ok {M : Model} {A : Around} {E : Value → Shared → Prop} {i : Nat} {x : Str} {v : V} {u : Value} {Q : Unit → Shared → Prop} (I : Inv X pins σ H s) (hN : X.N.Nodup) (hi : X.N[i]? = some x) (hx : Loc X.env.scope x) (r : RelV v u)
    (h : ∀ s', Inv X pins (σ.set i (some v)) H s' → Q () s') (hf : X.fn x = true ∨ X.env.scope.names.lookup x = some .local := by first | exact .inl rfl | exact .inr rfl | assumption) : wpAny M A (storeName X.env x u) Q E s :=
  store_ok2 I hN hi hx r (fun s' I' _ => h s' I') hf
/-- behind a call or a block, the state as it is -/
theorem Inv.call' {s' : Shared} {ch : List Addr} (I : Inv X pins σ H s) (ho : s'.os = s.os) (u : Un (frs X.stack) ch H H' s.heap s'.heap) (hok : HOk X.prog X.w H' s'.heap) (hg : AllBare s'.gens)
    (hch : ∀ b ∈ ch, (b ∈ X.ex ∨ X.s₀.heap.objs.size ≤ b) ∧ b ≠ X.env.locals ∧ (∀ x c, X.env.cells.lookup x = some c → c ≠ b) ∧ ∀ p ∈ X.pn ++ pins, p.1 ≠ b) : Inv X pins σ H' s' := by
  obtain ⟨h', g', d', t', o'⟩ := s'
  have e : o' = s.os := ho
  subst e
  exact I.call (g' := g') (t' := t') (d' := d') u hok hg hch
end
/-! ### the judgements -/
/-- an exception: its class, its own dict's address (where it has one), the abstract heap behind it -/
abbrev XK := Value → Option Addr → Hp → Prop
abbrev St := List (Option V)
abbrev VK := V → Hp → Prop
/-- an expression's reading; a test's; an argument list's -/
abbrev TE := St → Hp → VK → Prop
abbrev TT := St → Hp → (Bool → Hp → Prop) → Prop
abbrev TA := St → Hp → (List V → Hp → Prop) → Prop
/-- what is wanted behind a statement -/
structure Ends where
  nx : St → Hp → Prop
  rt : VK
  bk : St → Hp → Prop := fun _ _ => False
  ct : St → Hp → Prop := fun _ _ => False
abbrev TS := Ends → St → Hp → Prop
def EP (X : Cx) (pins : List (Addr × Obj)) (σ : St) (Q : VK) (u : Value) (s' : Shared) : Prop := ∃ v H', Inv X pins σ H' s' ∧ RelV v u ∧ Q v H'
def TP (X : Cx) (pins : List (Addr × Obj)) (σ : St) (Q : Bool → Hp → Prop) (b : Bool) (s' : Shared) : Prop := ∃ H', Inv X pins σ H' s' ∧ Q b H'
def AP (X : Cx) (pins : List (Addr × Obj)) (σ : St) (Q : List V → Hp → Prop) (us : List Value) (s' : Shared) : Prop := ∃ vs H', Inv X pins σ H' s' ∧ Vals vs us ∧ Q vs H'
def SP (X : Cx) (pins : List (Addr × Obj)) (D : Ends) (f : Flow) (s' : Shared) : Prop :=
  match f with
  | .next => ∃ σ' H', Inv X pins σ' H' s' ∧ D.nx σ' H'
  | .brk => ∃ σ' H', Inv X pins σ' H' s' ∧ D.bk σ' H'
  | .cont => ∃ σ' H', Inv X pins σ' H' s' ∧ D.ct σ' H'
  | .ret u => ∃ v σ' H', Inv X pins σ' H' s' ∧ RelV v u ∧ D.rt v H'
def PE (X : Cx) (e : Expr) (t : TE) : Prop :=
  ∀ (pins : List (Addr × Obj)) (s : Shared) (σ : St) (H : Hp) (Q : VK), Inv X pins σ H s → t σ H Q → wpAny (model X.prog X.w) X.A (eval e X.env) (EP X pins σ Q) X.xe s
def PT (X : Cx) (e : Expr) (t : TT) : Prop :=
  ∀ (pins : List (Addr × Obj)) (s : Shared) (σ : St) (H : Hp) (Q : Bool → Hp → Prop), Inv X pins σ H s → t σ H Q → wpAny (model X.prog X.w) X.A (isTrue e X.env (eval e X.env)) (TP X pins σ Q) X.xe s
/-- a test whatever its 'whole' is (and, or) -/
def PW (X : Cx) (e : Expr) (t : TT) : Prop :=
  ∀ (whole : Sem Value) (pins : List (Addr × Obj)) (s : Shared) (σ : St) (H : Hp) (Q : Bool → Hp → Prop), Inv X pins σ H s → t σ H Q → wpAny (model X.prog X.w) X.A (isTrue e X.env whole) (TP X pins σ Q) X.xe s
theorem PW.pt {X : Cx} {e : Expr} {t : TT} (h : PW X e t) : PT X e t := h _
/-- an argument list (no star), from the left -/
def PA (X : Cx) (es : List Expr) (t : TA) : Prop :=
  ∀ (pos : Pos) (pins : List (Addr × Obj)) (s : Shared) (σ : St) (H : Hp) (Q : List V → Hp → Prop), Inv X pins σ H s → t σ H Q → wpAny (model X.prog X.w) X.A (spliced (backTo pos (starEach es X.env))) (AP X pins σ Q) X.xe s
def PS (X : Cx) (st : Stmt) (t : TS) : Prop :=
  ∀ (pins : List (Addr × Obj)) (s : Shared) (σ : St) (H : Hp) (D : Ends), Inv X pins σ H s → t D σ H → wpAny (model X.prog X.w) X.A (exec st X.env) (SP X pins D) X.xe s
def PSs (X : Cx) (st : List Stmt) (t : TS) : Prop :=
  ∀ (pins : List (Addr × Obj)) (s : Shared) (σ : St) (H : Hp) (D : Ends), Inv X pins σ H s → t D σ H → wpAny (model X.prog X.w) X.A (execs st X.env) (SP X pins D) X.xe s
/-- weaken the end -/
theorem thn {α : Type} {t : Sem α} {Q Q' : α → Shared → Prop} {M : Model} {A : Around} {E : Value → Shared → Prop} {s : Shared} (h : wpAny M A t Q E s) (hQ : ∀ a s, Q a s → Q' a s) : wpAny M A t Q' E s := wpAny_mono h hQ fun _ _ x => x
end L2
namespace L2
open PySem PySem.Spec PyProof.Rows
section
variable {X : Cx}
/-! ### names and constants -/
def tVar (i : Nat) : TE := fun σ H Q => ∃ v, σ[i]? = some (some v) ∧ Q v H
def tC (v : V) : TE := fun _ H Q => Q v H
theorem pe_var {i : Nat} {x : Str} {pos : Pos} (hN : X.N[i]? = some x) (hv : Vis X.env.scope x) (hd : (x == ("__debug__" : Str)) = false := by decide) (hcd : (x == ("__classdict__" : Str)) = false := by decide) : PE X (.Name x pos) (tVar i) := by
  intro pins s σ H Q I h
  obtain ⟨v, e, h⟩ := h
  obtain ⟨m, hn, hl⟩ := I.loc
  obtain ⟨u, r, l⟩ := hl i x v hN e hv
  have fin : EP X pins σ Q u s := ⟨v, H, I, r, h⟩
  rcases l with ⟨hk, hm⟩ | ⟨hk, c, hc, hcell⟩
  · exact wpAny_Name (wpAny_loadName_local I.ok.kind hk hn hm fin) hd
  · rcases hk with hk | hk
    · exact wpAny_Name (wpAny_loadName_cell I.ok.kind hk hc hcell fin) hd
    · exact wpAny_Name (wpAny_loadName_free I.ok.kind hk hc hcell fin hcd) hd
theorem pe_int {i j pos} : PE X (.Constant (.int i) j pos) (tC (.int i)) := fun _ _ _ H _ I h => wpAny_Constant_int ⟨.int i, H, I.tok _, ⟨_, rfl⟩, h⟩
theorem pe_bl {b j pos} : PE X (.Constant (.bool b) j pos) (tC (.bl b)) := fun _ _ _ H _ I h => Constant_bool ⟨.bl b, H, I, rfl, h⟩
theorem pe_non {j pos} : PE X (.Constant .none j pos) (tC .non) := fun _ _ _ H _ I h => Constant_none ⟨.non, H, I, rfl, h⟩
theorem pe_str {x j pos} : PE X (.Constant (.str x) j pos) (tC (.str x)) := fun _ _ _ H _ I h => Calls.Constant_str ⟨.str x, H, I.tok _, ⟨_, rfl⟩, h⟩
/-- a global name of the def -/
def Gl (X : Cx) (x : Str) : Prop := X.env.kindOf x = some .globalImplicit
theorem ld_glob {E : Value → Shared → Prop} {pins : List (Addr × Obj)} {s : Shared} {σ : St} {H : Hp} {x : Str} {u : Value} {pos : Pos} {Q : Value → Shared → Prop} (I : Inv X pins σ H s) (hg : Gl X x) (hm : X.mg x = some u) (h : Q u s)
    (hd : (x == ("__debug__" : Str)) = false := by decide) : wpAny (model X.prog X.w) X.A (eval (.Name x pos) X.env) Q E s :=
  Calls.Name_function_global I.ok.kind hg (Calls.loadGlobal_global (by rw [I.ok.glob]; exact I.mod.glob.keeps I.bk) hm h) hd
theorem ld_blt {E : Value → Shared → Prop} {pins : List (Addr × Obj)} {s : Shared} {σ : St} {H : Hp} {x : Str} {u : Value} {pos : Pos} {Q : Value → Shared → Prop} (I : Inv X pins σ H s) (hg : Gl X x) (hm : X.mg x = none) (hv : bootBuiltins x = some u) (h : Q u s)
    (hn : x ≠ "__name__" := by decide) (hd : (x == ("__debug__" : Str)) = false := by decide) : wpAny (model X.prog X.w) X.A (eval (.Name x pos) X.env) Q E s := by
  obtain ⟨mb, h1, h2⟩ := I.mod.blt
  exact Calls.Name_function_global I.ok.kind hg (Calls.loadGlobal_builtin (by rw [I.ok.glob]; exact I.mod.glob.keeps I.bk) hm (by rw [I.ok.blt]; exact h1.keeps I.bk) ((h2 x hn).trans hv) h) hd
/-- a module's constant, a class, a function, as a value -/
theorem pe_glob {x : Str} {v : V} {u : Value} {pos : Pos} (hg : Gl X x) (hm : X.mg x = some u) (r : RelV v u) (hd : (x == ("__debug__" : Str)) = false := by decide) : PE X (.Name x pos) (tC v) :=
  fun _ _ _ H _ I h => ld_glob I hg hm ⟨v, H, I, r, h⟩ hd
variable {a b : Expr} {ta tb : TE} {pos : Pos}
/-! ### comparisons -/
def PC (X : Cx) (op : CmpOp) (a b : Expr) (t : TE) : Prop :=
  ∀ (pins : List (Addr × Obj)) (s : Shared) (σ : St) (H : Hp) (Q : VK), Inv X pins σ H s → t σ H Q →
    wpAny (model X.prog X.w) X.A (eval a X.env) (fun v s₁ => wpAny (model X.prog X.w) X.A (eval b X.env) (fun u s₂ => wpAny (model X.prog X.w) X.A (compareOp op v u) (EP X pins σ Q) X.xe s₂) X.xe s₁) X.xe s
theorem nobehind (b : Expr) {op : CmpOp} (h : op ≠ .In) (h2 : op ≠ .NotIn) : behindInMarks op b = false := by
  have e1 : (op == CmpOp.In) = false := by cases op <;> first | rfl | exact absurd rfl h
  have e2 : (op == CmpOp.NotIn) = false := by cases op <;> first | rfl | exact absurd rfl h2
  cases b <;> simp [behindInMarks, e1, e2]
/-- is None -/
def tIsN (ta : TE) : TE := fun σ H Q => ta σ H fun x H1 => Q (.bl (decide (x = .non))) H1
def tNotN (ta : TE) : TE := fun σ H Q => ta σ H fun x H1 => Q (.bl (!decide (x = .non))) H1
theorem RelV.none_iff {x : V} {v : Value} (r : RelV x v) : (v == Value.none) = decide (x = .non) := by
  cases x with
  | non => cases r; rfl
  | bl _ => cases r; rfl
  | int _ => obtain ⟨t, rfl⟩ := r; rfl
  | str _ => obtain ⟨t, rfl⟩ := r; rfl
  | byt _ => obtain ⟨t, rfl⟩ := r; rfl
  | flt _ => obtain ⟨t, rfl⟩ := r; rfl
  | ref _ => cases r; rfl
  | ty _ => cases r; rfl
theorem pc_isN {j pos'} (ha : PE X a ta) : PC X .Is a (.Constant .none j pos') (tIsN ta) := by
  intro pins s σ H Q I h
  refine thn (ha pins s σ H _ I h) fun v s1 ⟨x, H1, I1, r1, q1⟩ => ?_
  exact Constant_none (is_none_gen ⟨.bl _, H1, I1, by rw [r1.none_iff]; rfl, q1⟩)
theorem pc_notN {j pos'} (ha : PE X a ta) : PC X .IsNot a (.Constant .none j pos') (tNotN ta) := by
  intro pins s σ H Q I h
  refine thn (ha pins s σ H _ I h) fun v s1 ⟨x, H1, I1, r1, q1⟩ => ?_
  exact Constant_none (isnot_none_gen ⟨.bl _, H1, I1, by rw [r1.none_iff]; rfl, q1⟩)
/-- a comparison as a value, as a test -/
def tB (t : TE) : TT := fun σ H Q => t σ H fun x H1 => ∃ c, x = .bl c ∧ Q c H1
theorem pt_cmp {op : CmpOp} {t : TE} (h : PC X op a b t) (h1 : behindInMarks op b = false := by first | exact nobehind _ (by decide) (by decide) | rfl) : PT X (.Compare a [op] [b] pos) (tB t) := by
  intro pins s σ H Q I hw
  refine wpAny_isTrue_Compare1 (thn (h pins s σ H _ I hw) fun v s1 h1 => thn h1 fun u s2 h2 => thn h2 fun c s3 ⟨x, H1, I1, r1, q1⟩ => ?_) h1
  obtain ⟨d, rfl, q⟩ := q1
  cases r1
  exact wpAny_truthy_bool ⟨H1, I1, q⟩
/-- an expression whose value is a bool, as a test -/
theorem pt_val {e : Expr} {t : TE} (h : PE X e t) (he : ∀ whole, isTrue e X.env whole = (do let v ← whole; standAt e.pos; holding [v] (truthy v)) := by intro _; rfl) : PT X e (tB t) := by
  intro pins s σ H Q I hw
  refine isTrue_plain (thn (h pins s σ H _ I hw) fun v s1 ⟨x, H1, I1, r1, q1⟩ => ?_) (he _)
  obtain ⟨d, rfl, q⟩ := q1
  cases r1
  exact wpAny_truthy_bool ⟨H1, I1, q⟩
/-! ### and, or, not -/
variable {tA tB' : TT} {rest : List Expr}
def tOr (t u : TT) : TT := fun σ H Q => t σ H fun c H1 => if c = true then Q true H1 else u σ H1 Q
def tNot (t : TT) : TT := fun σ H Q => t σ H fun c H1 => Q (!c) H1
theorem pw_or1 (ha : PT X a tA) : PW X (.BoolOp .Or [a] pos) tA := by
  intro wh pins s σ H Q I h
  refine isTrue_or (thn (ha pins s σ H Q I h) fun c s1 e => ?_)
  cases c with
  | false => exact isTrue_or_nil e
  | true => exact e
theorem pw_or (ha : PT X a tA) (hb : PW X (.BoolOp .Or (b :: rest) pos) tB') : PW X (.BoolOp .Or (a :: b :: rest) pos) (tOr tA tB') := by
  intro wh pins s σ H Q I h
  refine isTrue_or (thn (ha pins s σ H _ I h) fun c s1 ⟨H1, I1, q1⟩ => ?_)
  cases c with
  | true => exact ⟨H1, I1, q1⟩
  | false => exact hb wh pins s1 σ H1 Q I1 q1
theorem pt_not (ha : PT X a tA) : PT X (.UnaryOp .Not a pos) (tNot tA) := by
  intro pins s σ H Q I h
  exact isTrue_not (ha pins s σ H (fun c H1 => Q (!c) H1) I h)
/-- .. as values (bools) -/
def tAndV (ta tb : TE) : TE := fun σ H Q => ta σ H fun x H1 => ∃ c, x = .bl c ∧ if c = true then tb σ H1 Q else Q (.bl false) H1
theorem pe_one {op} {t : TE} (h : PE X a t) : PE X (.BoolOp op [a] pos) t := fun pins s σ H Q I hw => BoolOp_one (h pins s σ H Q I hw)
theorem pe_and (ha : PE X a ta) (hb : PE X (.BoolOp .And (b :: rest) pos) tb) : PE X (.BoolOp .And (a :: b :: rest) pos) (tAndV ta tb) := by
  intro pins s σ H Q I h
  refine BoolOp_and (thn (ha pins s σ H _ I h) fun v s1 ⟨x, H1, I1, r1, q1⟩ => ?_)
  obtain ⟨c, rfl, q1⟩ := q1
  cases r1
  refine wpAny_truthy_bool ?_
  cases c with
  | true => exact hb pins s1 σ H1 Q I1 q1
  | false => exact ⟨.bl false, H1, I1, rfl, q1⟩
end
end L2
namespace L2
open PySem PySem.Spec PyProof.Rows
/-! ### a list, a tuple that is read: tracked, frozen, or an object of the module -/
def SqL (K : PySem.W.Frag) (H : Hp) (a : Addr) (xs : List V) : Prop :=
  Rd H a (.lst xs) ∨
    ∃ (o : Obj) (its : Array Value) (n : Nat), K.lookup a = some o ∧ o.cls = .type "list" ∧ o.dict = none ∧ o.data = .seq its n ∧ its.size ≤ sizeLine ∧ Vals xs its.toList
def SqT (K : PySem.W.Frag) (H : Hp) (a : Addr) (xs : List V) : Prop :=
  Rd H a (.tup xs) ∨
    ∃ (o : Obj) (its : Array Value) (n : Nat), K.lookup a = some o ∧ o.cls = .type "tuple" ∧ o.data = .seq its n ∧ its.size ≤ sizeLine ∧ Vals xs its.toList
def absV : Value → Option V
  | .none => some .non
  | .bool b => some (.bl b)
  | .int i _ => some (.int i)
  | .str x _ => some (.str x)
  | .bytes b _ => some (.byt b)
  | .float b _ => some (.flt b)
  | .ref a => some (.ref a)
  | .type n => some (.ty n)
  | _ => none
theorem RelV.abs {x : V} {u : Value} (r : RelV x u) : absV u = some x := by
  cases x with
  | non => cases r; rfl
  | bl _ => cases r; rfl
  | int _ => obtain ⟨t, rfl⟩ := r; rfl
  | str _ => obtain ⟨t, rfl⟩ := r; rfl
  | byt _ => obtain ⟨t, rfl⟩ := r; rfl
  | flt _ => obtain ⟨t, rfl⟩ := r; rfl
  | ref _ => cases r; rfl
  | ty _ => cases r; rfl
theorem RelV.inj {x y : V} {u : Value} (r : RelV x u) (q : RelV y u) : x = y := Option.some.inj (r.abs.symm.trans q.abs)
theorem Vals.inj : ∀ {xs ys : List V} {us : List Value}, Vals xs us → Vals ys us → xs = ys
  | _, _, _, .nil, .nil => rfl
  | _, _, _, .cons r t, .cons r' t' => by rw [r.inj r', Vals.inj t t']
section
variable {X : Cx} {pins : List (Addr × Obj)} {σ : St} {H : Hp} {s : Shared} {a : Addr} {xs ys : List V}
theorem SqL.of {K : PySem.W.Frag} (h : H a = some (.lst xs)) : SqL K H a xs := .inl (.inl h)
theorem SqT.of {K : PySem.W.Frag} (h : H a = some (.tup xs)) : SqT K H a xs := .inl (.inl h)
theorem Inv.list (I : Inv X pins σ H s) (h : SqL X.K H a xs) : ∃ its : List Value, Vals xs its ∧ PlainL s.heap a its.toArray ∧ xs.length ≤ sizeLine := by
  rcases h with h | ⟨o, its, n, hk, hc, hd, hs, hz, r⟩
  · obtain ⟨z, its, n, r, e⟩ := h.ok I.hok
    exact ⟨its, r, ⟨_, n, e, rfl, rfl, rfl⟩, z⟩
  · refine ⟨its.toList, r, ⟨o, n, I.kIn a o hk, hc, hd, by simpa using hs⟩, ?_⟩
    have e := r.length
    simp only [Array.length_toList] at e
    (first | lia | omega)
theorem Inv.tuple (I : Inv X pins σ H s) (h : SqT X.K H a xs) : ∃ its : List Value, Vals xs its ∧ IsTup s.heap a its.toArray ∧ xs.length ≤ sizeLine := by
  rcases h with h | ⟨o, its, n, hk, hc, hs, hz, r⟩
  · obtain ⟨z, its, r, p⟩ := h.ok I.hok
    exact ⟨its, r, p, z⟩
  · refine ⟨its.toList, r, ⟨o, I.kIn a o hk, hc, n, by simpa using hs⟩, ?_⟩
    have e := r.length
    simp only [Array.length_toList] at e
    (first | lia | omega)
theorem Inv.list_inj (I : Inv X pins σ H s) (h : SqL X.K H a xs) (h' : SqL X.K H a ys) : xs = ys := by
  obtain ⟨its, r, ⟨o, n, e, _, _, d⟩, _⟩ := I.list h
  obtain ⟨its', r', ⟨o', n', e', _, _, d'⟩, _⟩ := I.list h'
  rw [e] at e'; cases e'
  rw [d] at d'
  injection d' with d1 _
  have : its = its' := by simpa using congrArg Array.toList d1
  subst this
  exact r.inj r'
end
/-! ### another wish about exceptions -/
abbrev Cx.wish (X : Cx) (E : Value → Shared → Prop) : Cx := { X with xe := E }
/-- no exception leaves -/
abbrev Cx.nox (X : Cx) : Cx := X.wish fun _ _ => False
theorem Cx.Ok.wish {X : Cx} (ok : X.Ok) (E : Value → Shared → Prop) : (X.wish E).Ok :=
  ⟨ok.mod, ok.kind, ok.glob, ok.blt, ok.above, ok.inj, ok.has, ok.cab, ok.hd, ok.frames, ok.stk, ok.exf, ok.bs, ok.bsz, ok.noex, ok.exfs, ok.funs, ok.frf⟩
theorem Cx.Ok.unwish {X : Cx} {E : Value → Shared → Prop} (ok : (X.wish E).Ok) : X.Ok :=
  ⟨ok.mod, ok.kind, ok.glob, ok.blt, ok.above, ok.inj, ok.has, ok.cab, ok.hd, ok.frames, ok.stk, ok.exf, ok.bs, ok.bsz, ok.noex, ok.exfs, ok.funs, ok.frf⟩
section
variable {X : Cx} {pins : List (Addr × Obj)} {σ : St} {H : Hp} {s : Shared} {E : Value → Shared → Prop}
theorem Inv.wish (I : Inv X pins σ H s) (E : Value → Shared → Prop) : Inv (X.wish E) pins σ H s := ⟨I.ok.wish E, I.os, I.bare, I.base, I.loc, I.cell, I.free, I.freeC, I.pin, I.hok, I.len⟩
theorem Inv.unwish (I : Inv (X.wish E) pins σ H s) : Inv X pins σ H s := ⟨I.ok.unwish, I.os, I.bare, I.base, I.loc, I.cell, I.free, I.freeC, I.pin, I.hok, I.len⟩
theorem SP.unwish {D : Ends} {f : Flow} {s' : Shared} (h : SP (X.wish E) pins D f s') : SP X pins D f s' := by
  cases f with
  | next => obtain ⟨σ', H', I, q⟩ := h; exact ⟨σ', H', I.unwish, q⟩
  | brk => obtain ⟨σ', H', I, q⟩ := h; exact ⟨σ', H', I.unwish, q⟩
  | cont => obtain ⟨σ', H', I, q⟩ := h; exact ⟨σ', H', I.unwish, q⟩
  | ret u => obtain ⟨v, σ', H', I, r, q⟩ := h; exact ⟨v, σ', H', I.unwish, r, q⟩
theorem PSs.nox {st : List Stmt} {t : TS} (h : PSs X.nox st t) : PSs X st t := fun pins s σ H D I hw =>
  wpAny_mono (h pins s σ H D (I.wish _) hw) (fun _ _ q => q.unwish) fun _ _ z => False.elim z
end
/-! ### blocks and small statements -/
section
variable {X : Cx} {st : Stmt} {rest : List Stmt} {t u : TS} {e : Expr} {te : TE} {pos : Pos}
def tNext : TS := fun D σ H => D.nx σ H
def tSeq (t u : TS) : TS := fun D σ H => t { D with nx := u D } σ H
theorem pss_nil : PSs X [] tNext := fun _ _ σ H _ I h => wpAny_execs_nil ⟨σ, H, I, h⟩
theorem pss_cons (h1 : PS X st t) (h2 : PSs X rest u) : PSs X (st :: rest) (tSeq t u) := by
  intro pins s σ H D I h
  refine wpAny_execs_cons (thn (h1 pins s σ H { D with nx := u D } I h) fun f s1 q => ?_)
  cases f with
  | next =>
    obtain ⟨σ', H', I', q⟩ := q
    exact h2 pins s1 σ' H' D I' q
  | ret v => exact q
  | brk => exact q
  | cont => exact q
theorem pss_one (h1 : PS X st t) : PSs X [st] t := by
  intro pins s σ H D I h
  refine wpAny_execs_cons (thn (h1 pins s σ H D I h) fun f s1 q => ?_)
  cases f with
  | next => exact wpAny_execs_nil q
  | ret v => exact q
  | brk => exact q
  | cont => exact q
/-- in a def's body nothing is shown -/
theorem Inv.quiet {pins : List (Addr × Obj)} {σ : St} {H : Hp} {s : Shared} (I : Inv X pins σ H s) : interactive X.env = false := by simp [interactive, I.ok.kind]
/-- an expression whose value is dropped -/
def tDrop (te : TE) : TS := fun D σ H => te σ H fun _ H1 => D.nx σ H1
theorem ps_expr (he : PE X e te) (hs : swapsWith e none pos.line X.env = pure false := by rfl) : PS X (.Expr e pos) (tDrop te) := by
  intro pins s σ H D I h
  exact wpAny_Expr_any (thn (he pins s σ H _ I h) fun v s1 ⟨x, H1, I1, r1, q1⟩ => ⟨σ, H1, I1, q1⟩) I.quiet hs
def tRet (te : TE) : TS := fun D σ H => te σ H D.rt
theorem ps_ret (he : PE X e te) : PS X (.Return (some e) pos) (tRet te) := by
  intro pins s σ H D I h
  exact wpAny_Return_some (thn (he pins s σ H _ I h) fun v s1 ⟨x, H1, I1, r1, q1⟩ => ⟨x, σ, H1, I1, r1, q1⟩)
def tIfS (c : TT) (t u : TS) : TS := fun D σ H => c σ H fun b H1 => if b = true then t D σ H1 else u D σ H1
theorem ps_if {c : Expr} {a b : List Stmt} {tc : TT} (hc : PT X c tc) (ha : PSs X a t) (hb : PSs X b u) : PS X (.If c a b pos) (tIfS tc t u) := by
  intro pins s σ H D I h
  refine wpAny_If (thn (hc pins s σ H _ I h) fun d s1 ⟨H1, I1, q1⟩ => ?_)
  cases d with
  | true => exact ha pins s1 σ H1 D I1 q1
  | false => exact hb pins s1 σ H1 D I1 q1
end
/-! ### targets -/
abbrev TG := V → St → Hp → (St → Hp → Prop) → Prop
abbrev TGs := List V → St → Hp → (St → Hp → Prop) → Prop
def PG (X : Cx) (target : Expr) (t : TG) : Prop :=
  ∀ (pins : List (Addr × Obj)) (s : Shared) (σ : St) (H : Hp) (v : V) (u : Value) (Q : St → Hp → Prop), Inv X pins σ H s → RelV v u → t v σ H Q →
    wpAny (model X.prog X.w) X.A (assign target X.env u) (fun _ s' => ∃ σ' H', Inv X pins σ' H' s' ∧ Q σ' H') X.xe s
/-- several targets, one after another -/
def PGs (X : Cx) (ts : List Expr) (t : TGs) : Prop :=
  ∀ (pins : List (Addr × Obj)) (s : Shared) (σ : St) (H : Hp) (vs : List V) (us : List Value) (Q : St → Hp → Prop), Inv X pins σ H s → Vals vs us → t vs σ H Q →
    wpAny (model X.prog X.w) X.A (assignInOrder ((assignEach ts X.env).map (·.2)) us) (fun _ s' => ∃ σ' H', Inv X pins σ' H' s' ∧ Q σ' H') X.xe s
/-- o[i] = v, by values -/
abbrev TSet := V → V → V → Hp → (Hp → Prop) → Prop
def PSet (X : Cx) (t : TSet) : Prop :=
  ∀ (pins : List (Addr × Obj)) (s : Shared) (σ : St) (H : Hp) (o i v : V) (ov iv u : Value) (Q : Hp → Prop), Inv X pins σ H s → RelV o ov → RelV i iv → RelV v u → t o i v H Q →
    wpAny (model X.prog X.w) X.A (setItem ov iv u) (fun _ s' => ∃ H', Inv X pins σ H' s' ∧ Q H') X.xe s
/-- a op= b, by values -/
abbrev TIp := V → V → Hp → VK → Prop
def PIp (X : Cx) (op : Operator) (t : TIp) : Prop :=
  ∀ (pins : List (Addr × Obj)) (s : Shared) (σ : St) (H : Hp) (x y : V) (v u : Value) (Q : VK), Inv X pins σ H s → RelV x v → RelV y u → t x y H Q →
    wpAny (model X.prog X.w) X.A (inplaceOp op v u) (EP X pins σ Q) X.xe s
section
variable {X : Cx} {pos : Pos}
def gName (i : Nat) : TG := fun v σ H Q => Q (σ.set i (some v)) H
theorem pg_name {i : Nat} {x : Str} (hN : X.N.Nodup) (hi : X.N[i]? = some x) (hx : Loc X.env.scope x) (hf : X.fn x = true ∨ X.env.scope.names.lookup x = some .local := by first | exact .inl rfl | exact .inr rfl | assumption) : PG X (.Name x pos) (gName i) := by
  intro pins s σ H v u Q I r h
  exact wpAny_assign_Name (store_ok I hN hi hx r (fun s' I' => ⟨_, H, I', h⟩) hf)
def gNil : TGs := fun vs σ H Q => vs = [] ∧ Q σ H
def gCons (t : TG) (u : TGs) : TGs := fun vs σ H Q => ∃ v r, vs = v :: r ∧ t v σ H fun σ' H' => u r σ' H' Q
theorem pgs_nil : PGs X [] gNil := by
  intro pins s σ H vs us Q I r h
  obtain ⟨e, h⟩ := h
  subst e
  cases r
  exact assignInOrder_nil ⟨σ, H, I, h⟩
theorem pgs_cons {e : Expr} {es : List Expr} {t : TG} {u : TGs} (h1 : PG X e t) (h2 : PGs X es u)
    (hs : (assignEach (e :: es) X.env).map (·.2) = assign e X.env :: (assignEach es X.env).map (·.2) := by rfl) : PGs X (e :: es) (gCons t u) := by
  intro pins s σ H vs us Q I r h
  obtain ⟨v, vr, e1, h⟩ := h
  subst e1
  cases r with
  | cons r rr =>
    rw [hs]
    refine assignInOrder_cons (thn (h1 pins s σ H _ _ _ I r h) fun _ s1 ⟨σ1, H1, I1, q1⟩ => ?_)
    exact h2 pins s1 σ1 H1 _ _ Q I1 rr q1
/-- (a, b, ..) = a tuple of that length -/
def gTup (K : PySem.W.Frag) (n : Nat) (t : TGs) : TG := fun v σ H Q => ∃ a xs, v = .ref a ∧ SqT K H a xs ∧ xs.length = n ∧ t xs σ H Q
theorem pg_tup {es : List Expr} {k : Nat} {t : TGs} {n : Nat} (hc : X.calm = true) (h : PGs X es t)
    (hn : (assignEach es X.env).length = n := by rfl) (hst : (assignEach es X.env).findIdx? (·.1) = none := by rfl) : PG X (.Tuple es k pos) (gTup X.K n t) := by
  intro pins s σ H v u Q I r hw
  obtain ⟨a, xs, e1, hq, hl, hw⟩ := hw
  subst e1
  cases r
  obtain ⟨its, rv, ht, hz⟩ := I.tuple hq
  refine assign_Tuple_tuple (I.ok.hd hc) ht (by simp [hn, ← hl, rv.length]) hst fun h' hx => ?_
  have I1 : Inv X pins σ H { s with heap := h' } := I.kept (t' := s.toks) fun b o e => hx b o (Nat.ne_of_lt (Heap.lt_size e)) e
  exact h pins _ σ H xs _ Q I1 (by simpa using rv) hw
/-- o[i] = .. -/
def gSub (to ti : TE) (t : TSet) : TG := fun v σ H Q => to σ H fun o H1 => ti σ H1 fun i H2 => t o i v H2 fun H3 => Q σ H3
theorem pg_sub {o i : Expr} {to ti : TE} {t : TSet} (ho : PE X o to) (hi : PE X i ti) (hs : PSet X t)
    (ha : ∀ v, assign (.Subscript o i pos) X.env v = (do
      let ov ← holding [v] (eval o X.env)
      let iv ← holding [v, ov] (eval i X.env)
      standAt pos
      holding [v, ov, iv] (setItem ov iv v)
      release [v, ov, iv] []) := by intro _; rfl) : PG X (.Subscript o i pos) (gSub to ti t) := by
  intro pins s σ H v u Q I r h
  rw [ha]
  refine wpAny_bind (wpAny_holding (thn (ho pins s σ H _ I h) fun ov s1 ⟨x, H1, I1, r1, q1⟩ => ?_))
  refine wpAny_bind (wpAny_holding (thn (hi pins s1 σ H1 _ I1 q1) fun iv s2 ⟨y, H2, I2, r2, q2⟩ => ?_))
  refine wpAny_bind (wpAny_standAt (wpAny_bind (wpAny_holding (thn (hs pins s2 σ H2 x y v ov iv u _ I2 r1 r2 r q2) fun _ s3 ⟨H3, I3, q3⟩ => ?_))))
  exact wpAny_release ⟨σ, H3, I3, q3⟩
/-- target = value -/
def tAsg (te : TE) (g : TG) : TS := fun D σ H => te σ H fun x H1 => g x σ H1 D.nx
theorem ps_asg {tg e : Expr} {te : TE} {g : TG} (he : PE X e te) (hg : PG X tg g) (hs : swapsWithSole [tg] e pos.line X.env = pure false := by rfl) (hw : swappedStores [tg] e X.env = pure none := by rfl)
    (h1 : (assignEach [tg] X.env).map (·.2) = [assign tg X.env] := by rfl) : PS X (.Assign [tg] e pos) (tAsg te g) := by
  intro pins s σ H D I h
  refine wpAny_Assign_stores (thn (he pins s σ H _ I h) fun v s1 ⟨x, H1, I1, r1, q1⟩ => ?_) hs hw
  rw [h1]
  exact thn (hg pins s1 σ H1 x v _ I1 r1 q1) fun _ s2 q => q
/-- name = value -/
theorem ps_set {i : Nat} {x : Str} {e : Expr} {te : TE} {pos' : Pos} (hN : X.N.Nodup) (hi : X.N[i]? = some x) (hx : Loc X.env.scope x) (he : PE X e te) (hs : swapsWith e (some (.Name x pos')) pos.line X.env = pure false := by rfl) (hf : X.fn x = true ∨ X.env.scope.names.lookup x = some .local := by first | exact .inl rfl | exact .inr rfl | assumption) :
    PS X (.Assign [.Name x pos'] e pos) (tAsg te (gName i)) := by
  intro pins s σ H D I h
  refine wpAny_Assign_Name (thn (he pins s σ H _ I h) fun v s1 ⟨y, H1, I1, r1, q1⟩ => ?_) hs
  exact store_ok I1 hN hi hx r1 (fun s2 I2 => ⟨_, H1, I2, q1⟩) hf
/-- o[i] op= e -/
def tAugS (to ti te : TE) (tget : V → V → Hp → VK → Prop) (tip : TIp) (tset : TSet) : TS := fun D σ H => to σ H fun o H1 => ti σ H1 fun i H2 => tget o i H2 fun x H3 => te σ H3 fun y H4 => tip x y H4 fun z H5 => tset o i z H5 fun H6 => D.nx σ H6
/-- o[i], by values -/
def PGet (X : Cx) (t : V → V → Hp → VK → Prop) : Prop :=
  ∀ (pins : List (Addr × Obj)) (s : Shared) (σ : St) (H : Hp) (o i : V) (ov iv : Value) (Q : VK), Inv X pins σ H s → RelV o ov → RelV i iv → t o i H Q →
    wpAny (model X.prog X.w) X.A (getItem ov iv) (EP X pins σ Q) X.xe s
theorem ps_augS {o i e : Expr} {to ti te : TE} {tget : V → V → Hp → VK → Prop} {tip : TIp} {tset : TSet} {op : Operator} {tpos : Pos} (ho : PE X o to) (hi : PE X i ti) (hg : PGet X tget) (he : PE X e te) (hp : PIp X op tip) (hs : PSet X tset)
    (ha : ∀ ov iv new, augStore i ov iv new = (do holding [new, ov, iv] (setItem ov iv new); release [new, ov, iv] []; pure .next) := by intros; rfl) : PS X (.AugAssign (.Subscript o i tpos) op e pos) (tAugS to ti te tget tip tset) := by
  intro pins s σ H D I h
  refine wpAny_AugAssign_SubscriptAny (thn (ho pins s σ H _ I h) fun ov s1 ⟨x1, H1, I1, r1, q1⟩ => ?_) ha
  refine thn (hi pins s1 σ H1 _ I1 q1) fun iv s2 ⟨x2, H2, I2, r2, q2⟩ => ?_
  refine thn (hg pins s2 σ H2 x1 x2 ov iv _ I2 r1 r2 q2) fun old s3 ⟨x3, H3, I3, r3, q3⟩ => ?_
  refine thn (he pins s3 σ H3 _ I3 q3) fun v s4 ⟨x4, H4, I4, r4, q4⟩ => ?_
  refine thn (hp pins s4 σ H4 x3 x4 old v _ I4 r3 r4 q4) fun new s5 ⟨x5, H5, I5, r5, q5⟩ => ?_
  exact thn (hs pins s5 σ H5 x1 x2 x5 ov iv new _ I5 r1 r2 r5 q5) fun _ s6 ⟨H6, I6, q6⟩ => ⟨σ, H6, I6, q6⟩
/-- ints -/
def ipI (f : Int → Int → Int) : TIp := fun x y H Q => ∃ i j, x = .int i ∧ y = .int j ∧ Q (.int (f i j)) H
theorem ip_add : PIp X .Add (ipI fun i j => i + j) := by
  intro pins s σ H x y v u Q I r1 r2 h
  obtain ⟨i, j, e1, e2, q⟩ := h
  subst e1; subst e2
  obtain ⟨t, rfl⟩ := r1
  obtain ⟨t', rfl⟩ := r2
  exact iadd_int ⟨.int _, H, I.tok _, ⟨_, rfl⟩, q⟩
end
/-! ### while -/
section
variable {X : Cx} {pos : Pos}
end
/-! ### what a loop or a comprehension walks -/
/-- at turn i: it yields x (the heap may grow), or it stops -/
structure It where
  go : Nat → Hp → Prop
  yld : Nat → Hp → V → Hp → Prop
  stop : Nat → Hp → Prop
/-- the iterator's own objects may turn: they are not the frame's, not pinned, younger than the entry (or a comprehension's own) -/
def FpOk (X : Cx) (pins : List (Addr × Obj)) (H : Hp) (b : Addr) : Prop :=
  H b = none ∧ b ≠ X.env.locals ∧ b ∉ X.fs ∧ (b ∈ X.ex ∨ X.s₀.heap.objs.size ≤ b) ∧ (∀ x c, X.env.cells.lookup x = some c → c ≠ b) ∧ ∀ p ∈ X.pn ++ pins, p.1 ≠ b
theorem Inv.fpOk {X : Cx} {pins : List (Addr × Obj)} {σ : St} {H H' : Hp} {s : Shared} {b : Addr} (I : Inv X pins σ H s) (hb : s.heap.objs.size ≤ b) (hn : H' b = none) : FpOk X pins H' b := by
  refine ⟨hn, Nat.ne_of_gt (Nat.lt_of_lt_of_le I.lt hb), I.nofs hb, .inr (Nat.le_trans I.sz hb), fun x c e z => ?_, fun p hp z => ?_⟩
  · obtain ⟨v, q⟩ := I.cell x c e
    exact absurd (Nat.lt_of_lt_of_le q.lt (by rw [z]; exact hb)) (Nat.lt_irrefl _)
  · exact absurd (Nat.lt_of_lt_of_le (Heap.lt_size (I.pin p hp).1) (by rw [z]; exact hb)) (Nat.lt_irrefl _)
structure Turn (P : Program) (w : World) (K : PySem.W.Frag) (tg : Expr) (J : It) (fp : List Addr) (it : Addr) (tn : Nat → Heap → Prop) : Prop where
  mem : it ∈ fp
  obj : ∀ i h, tn i h → ∀ b ∈ fp, ∃ o, h.get? b = some o ∧ ∀ v, o.data ≠ .cell v
  keep : ∀ i h h', tn i h → (∀ b ∈ fp, ∀ o, h.get? b = some o → h'.get? b = some o) → tn i h'
  item : ∀ (X : Cx), X.prog = P → X.w = w → X.K = K → X.calm = true → ∀ (i : Nat) (pins : List (Addr × Obj)) (s : Shared) (σ : St) (H : Hp) (E : Value → Shared → Prop), Inv X pins σ H s → (∀ b ∈ fp, FpOk X pins H b) → tn i s.heap → J.go i H →
    wpAny (model P w) X.A (pyNext (.ref it)) (fun r s1 => ∃ u, r = some u ∧
      wpAny (model P w) X.A (letOwnedTupleGo tg (.ref it) u) (fun _ s2 => ∃ x H', Inv X pins σ H' s2 ∧ RelV x u ∧ J.yld i H x H' ∧ tn (i + 1) s2.heap ∧ ∀ b ∈ fp, H' b = none) E s1) E s
  done : ∀ (X : Cx), X.prog = P → X.w = w → X.K = K → X.calm = true → ∀ (i : Nat) (pins : List (Addr × Obj)) (s : Shared) (σ : St) (H : Hp) (E : Value → Shared → Prop), Inv X pins σ H s → (∀ b ∈ fp, FpOk X pins H b) → tn i s.heap → J.stop i H →
    wpAny (model P w) X.A (pyNext (.ref it)) (fun r s1 => r = none ∧ Inv X pins σ H s1) E s
  self : ∀ (A : Around) (i : Nat) (s : Shared) (Q : Value → Shared → Prop) (E : Value → Shared → Prop), tn i s.heap → Q (.ref it) s → wpAny (model P w) A (pyIter (.ref it)) Q E s
abbrev TI := St → Hp → (It → Hp → Prop) → Prop
/-- an iterator has come -/
def PIE (X : Cx) (pins : List (Addr × Obj)) (σ : St) (tg : Expr) (R : It → Hp → Prop) (itv : Value) (s2 : Shared) : Prop :=
  ∃ (it : Addr) (fp : List Addr) (tn : Nat → Heap → Prop) (J : It) (H' : Hp), itv = .ref it ∧ Inv X pins σ H' s2 ∧ Turn X.prog X.w X.K tg J fp it tn ∧ tn 0 s2.heap ∧ (∀ b ∈ fp, FpOk X pins H' b) ∧ R J H'
def PI (X : Cx) (tg iter : Expr) (wi : TI) : Prop :=
  ∀ (pins : List (Addr × Obj)) (s : Shared) (σ : St) (H : Hp) (R : It → Hp → Prop), Inv X pins σ H s → wi σ H R →
    wpAny (model X.prog X.w) X.A (eval iter X.env) (fun v s1 => wpAny (model X.prog X.w) X.A (pyIter v) (PIE X pins σ tg R) X.xe s1) X.xe s
/-- the step ahead of the store is nothing for an iterator that keeps no tuple -/
theorem go_of {M : Model} {A : Around} {E : Value → Shared → Prop} {s : Shared} {tg : Expr} {it : Addr} {u : Value} {o : Obj} {n : String} {vs : Array Value} {Q : Unit → Shared → Prop} (ho : s.heap.get? it = some o) (hc : o.cls = .type n) (hd : o.data = .fields vs)
    (hn : ["enumerate", "zip", "dict_itemiterator", "dict_reverseitemiterator", "odict_iterator", "itertools.zip_longest", "itertools.pairwise"].contains n = false) (hQ : Q () s) : wpAny M A (letOwnedTupleGo tg (.ref it) u) Q E s := by
  unfold letOwnedTupleGo
  cases tg <;> first
    | exact wpAny_pure hQ
    | (cases u <;> first
        | exact wpAny_pure hQ
        | (refine wpAny_bind (wpAny_load ho ?_)
           rw [hc, hd]
           show wpAny M A (if (["enumerate", "zip", "dict_itemiterator", "dict_reverseitemiterator", "odict_iterator", "itertools.zip_longest", "itertools.pairwise"].contains n && vs[0]? == some (rawInt _)) = true then _ else _) Q E s
           rw [if_neg (by intro h; rw [hn, Bool.false_and] at h; cases h)]
           exact wpAny_pure hQ))
/-- the list at a, as it stands at each turn (a loop may append to it) -/
def Itl (K : PySem.W.Frag) (a : Addr) : It :=
  ⟨fun i H => ∃ xs x, SqL K H a xs ∧ xs[i]? = some x, fun i H x H' => H' = H ∧ ∀ xs, SqL K H a xs → xs[i]? = some x, fun i H => ∃ xs, SqL K H a xs ∧ xs.length ≤ i⟩
/-- lo, lo + 1, .. (n of them) -/
def Itr (lo : Int) (n : Nat) : It := ⟨fun i _ => i < n, fun i H x H' => H' = H ∧ x = .int (lo + i), fun i _ => n ≤ i⟩
theorem turn_list {P : Program} {w : World} {K : PySem.W.Frag} {tg : Expr} (a it : Addr) : Turn P w K tg (Itl K a) [it] it (fun i h => h.IsListIter it a i) where
  mem := by simp
  obj := fun i h st b hb => by
    have e : b = it := by simpa using hb
    subst e
    obtain ⟨o, e, c, d⟩ := st
    exact ⟨o, e, fun v z => by rw [d] at z; cases z⟩
  keep := fun i h h' st k => st.at fun o e => k it (by simp) o e
  item := by
    intro X hP hw hK hc i pins s σ H E I hf st hg
    subst hP hw hK
    obtain ⟨xs, x, hq, hx⟩ := hg
    obtain ⟨its, rv, p, hz⟩ := I.list hq
    obtain ⟨u, hu, ru⟩ := rv.get hx
    obtain ⟨f0, f1, f2, f3, f4, f5⟩ := hf it (by simp)
    refine wpAny_pyNext_list_item st p.isList (x := u) (by simpa using hu) fun h' st' sb => ?_
    have I1 : Inv X pins σ H { s with heap := h' } := I.turned (t' := s.toks) (fun b o hb e => (sb.2 b hb).trans e) f0 f1 f3 f4 f5
    obtain ⟨o, e, c, d⟩ := id st'
    exact ⟨u, rfl, go_of (s := { s with heap := h' }) e c d (by decide) ⟨x, H, I1, ru, ⟨rfl, fun ys hy => by rw [I.list_inj hy hq]; exact hx⟩, st', fun b hb => (hf b hb).1⟩⟩
  done := by
    intro X hP hw hK hc i pins s σ H E I hf st hg
    subst hP hw hK
    obtain ⟨xs, hq, hx⟩ := hg
    obtain ⟨its, rv, p, hz⟩ := I.list hq
    obtain ⟨f0, f1, f2, f3, f4, f5⟩ := hf it (by simp)
    have hl := rv.length
    exact wpAny_pyNext_list_end (I.ok.hd hc) st p.isList (by simp; omega) fun h' eb => ⟨rfl, I.turned (t' := s.toks) (fun b o hb e => eb b o hb e) f0 f1 f3 f4 f5⟩
  self := fun _ _ _ _ _ st h => wpAny_pyIter_listiter st h
theorem turn_range {P : Program} {w : World} {K : PySem.W.Frag} {tg : Expr} (it : Addr) (lo : Int) (n : Nat) : Turn P w K tg (Itr lo n) [it] it (fun i h => IsRangeIter h it (lo + (i : Nat) * 1) ((n : Int) - (i : Nat)) 1) where
  mem := by simp
  obj := fun i h st b hb => by
    have e : b = it := by simpa using hb
    subst e
    exact ⟨_, st, fun v z => by
      have z' : Data.fields _ = Data.cell v := z
      cases z'⟩
  keep := fun i h h' st k => k it (by simp) _ st
  item := by
    intro X hP hw hK hc i pins s σ H E I hf st hg
    subst hP hw hK
    obtain ⟨f0, f1, f2, f3, f4, f5⟩ := hf it (by simp)
    have W := Walks.range (prog := X.prog) (w := X.w) (I.ok.hd hc) it lo 1 n
    refine W.item i s _ _ hg st fun v h' tk hv st' kk => ?_
    obtain ⟨t, rfl⟩ := hv
    have I1 : Inv X pins σ H { s with heap := h', toks := tk } := I.turned (fun b o hb e => kk b o (by simpa using hb) e) f0 f1 f3 f4 f5
    refine ⟨_, rfl, go_of (s := { s with heap := h', toks := tk }) (n := "range_iterator") st' rfl rfl (by decide) ⟨.int (lo + i), H, I1, ⟨t, ?_⟩, ⟨rfl, rfl⟩, st', fun b hb => (hf b hb).1⟩⟩
    rw [Int.mul_one]
  done := by
    intro X hP hw hK hc i pins s σ H E I hf st hg
    subst hP hw hK
    obtain ⟨f0, f1, f2, f3, f4, f5⟩ := hf it (by simp)
    exact wpAny_pyNext_range_end (I.ok.hd hc) st (by have : n ≤ i := hg; omega) fun h' eb => ⟨rfl, I.turned (t' := s.toks) (fun b o hb e => eb b o hb e) f0 f1 f3 f4 f5⟩
  self := fun _ _ _ _ _ st h => wpAny_pyIter_rangeiter st h
end L2
namespace L2
open PySem PySem.Spec PyProof.Rows
section
variable {X : Cx} {tg : Expr}
def iList (K : PySem.W.Frag) (tl : TE) : TI := fun σ H R => tl σ H fun x H1 => ∃ a, x = .ref a ∧ (∃ xs, SqL K H1 a xs) ∧ R (Itl K a) H1
theorem pi_list {l : Expr} {tl : TE} (hl : PE X l tl) : PI X tg l (iList X.K tl) := by
  intro pins s σ H R I h
  refine thn (hl pins s σ H _ I h) fun v s1 ⟨x, H1, I1, r1, q1⟩ => ?_
  obtain ⟨a, e, ⟨xs, hq⟩, q⟩ := q1
  subst e
  cases r1
  obtain ⟨its, rv, p, hz⟩ := I1.list hq
  refine wpAny_pyIter_list p.isList ?_
  refine ⟨s1.heap.objs.size, [s1.heap.objs.size], _, _, H1, rfl, I1.kept (t' := s1.toks) fun b o e => Heap.get?_push_of_some _ e, turn_list a _, ⟨_, Heap.get?_push_size _ rfl, rfl, rfl⟩, fun b hb => ?_, q⟩
  have e : b = s1.heap.objs.size := by simpa using hb
  subst e
  exact I1.fpOk (Nat.le_refl _) (I1.hok.fresh (Nat.le_refl _))
/-- a range object just made, walked -/
theorem range_it {pins : List (Addr × Obj)} {σ : St} {H : Hp} {s : Shared} {R : It → Hp → Prop} {E : Value → Shared → Prop} {lo hi : Int} {t u v : Tok} {tk : Nat} (I : Inv X pins σ H s) (h1 : -(2 ^ 62) ≤ lo) (h2 : lo < 2 ^ 62) (h3 : -(2 ^ 62) ≤ hi) (h4 : hi < 2 ^ 62)
    (q : R (Itr lo (hi - lo).toNat) H) : wpAny (model X.prog X.w) X.A (pyIter (.ref s.heap.objs.size)) (PIE X pins σ tg R) E { s with heap := s.heap.push { cls := .type "range", data := .fields #[.int lo t, .int hi u, .int 1 v] }, toks := tk } := by
  refine wpAny_pyIter_range (IsRange.new ..) (small_one h1 h2 h3 h4) ?_
  have I1 : Inv X pins σ H { s with heap := s.heap.push { cls := .type "range", data := .fields #[.int lo t, .int hi u, .int 1 v] }, toks := tk } := I.kept fun b o e => Heap.get?_push_of_some _ e
  refine ⟨(s.heap.push { cls := .type "range", data := .fields #[.int lo t, .int hi u, .int 1 v] }).objs.size, [(s.heap.push { cls := .type "range", data := .fields #[.int lo t, .int hi u, .int 1 v] }).objs.size], _, _, H, rfl,
    I1.kept (t' := tk) fun b o e => Heap.get?_push_of_some _ e, turn_range _ lo (hi - lo).toNat, ?_, fun b hb => ?_, q⟩
  · have e1 : lo + ((0 : Nat) : Int) * 1 = lo := by simp
    have e2 : (((hi - lo).toNat : Nat) : Int) - ((0 : Nat) : Int) = Builtin.Range.rangeSize lo hi 1 := by rw [rangeSize_one]; split <;> (first | lia | omega)
    show IsRangeIter _ _ (lo + ((0 : Nat) : Int) * 1) ((((hi - lo).toNat : Nat) : Int) - ((0 : Nat) : Int)) 1
    rw [e1, e2]
    exact Heap.get?_push_size _ rfl
  · have e : b = (s.heap.push { cls := .type "range", data := .fields #[.int lo t, .int hi u, .int 1 v] }).objs.size := by simpa using hb
    subst e
    exact I1.fpOk (Nat.le_refl _) (I1.hok.fresh (Nat.le_refl _))
def iRng1 (ta : TA) : TI := fun σ H R => ta σ H fun vs H1 => ∃ j : Int, vs = [.int j] ∧ -(2 ^ 62) ≤ j ∧ j < 2 ^ 62 ∧ R (Itr 0 j.toNat) H1
def iRng2 (ta : TA) : TI := fun σ H R => ta σ H fun vs H1 => ∃ i j : Int, vs = [.int i, .int j] ∧ (-(2 ^ 62) ≤ i ∧ i < 2 ^ 62 ∧ -(2 ^ 62) ≤ j ∧ j < 2 ^ 62) ∧ R (Itr i (j - i).toNat) H1
theorem pi_range1 {a : Expr} {ta : TA} {p pos : Pos} (hg : Gl X "range") (hm : X.mg "range" = none) (ha : PA X [a] ta) (hs : starEach [a] X.env = [(false, eval a X.env)] := by rfl) : PI X tg (.Call (.Name "range" p) [a] [] pos) (iRng1 ta) := by
  intro pins s σ H R I h
  refine Call_ (ld_blt I hg hm boot_range (PyProof.Rows.callWith_type1 (thn (ha pos pins s σ H _ I h) fun us s1 ⟨vs, H1, I1, r1, q1⟩ => ?_) hs rfl))
  obtain ⟨j, e, q1, q2, q⟩ := q1
  subst e
  cases r1 with
  | cons r rr =>
    cases rr
    obtain ⟨t, rfl⟩ := r
    exact call_range_1 (range_it I1 (by omega) (by omega) q1 q2 (by simpa using q))
theorem pi_range2 {a b : Expr} {ta : TA} {p pos : Pos} (hg : Gl X "range") (hm : X.mg "range" = none) (ha : PA X [a, b] ta) (hs : starEach [a, b] X.env = [(false, eval a X.env), (false, eval b X.env)] := by rfl) (hs2 : starEach [b] X.env = [(false, eval b X.env)] := by rfl) :
    PI X tg (.Call (.Name "range" p) [a, b] [] pos) (iRng2 ta) := by
  intro pins s σ H R I h
  refine Call_ (ld_blt I hg hm boot_range (PyProof.Rows.callWith_type1 (thn (ha pos pins s σ H _ I h) fun us s1 ⟨vs, H1, I1, r1, q1⟩ => ?_) (by rw [hs, hs2]) (by rw [hs2]; rfl)))
  obtain ⟨i, j, e, ⟨q1, q2, q3, q4⟩, q⟩ := q1
  subst e
  cases r1 with
  | cons r rr =>
    cases rr with
    | cons r' rr =>
      cases rr
      obtain ⟨t, rfl⟩ := r
      obtain ⟨t', rfl⟩ := r'
      exact call_range_2 (range_it I1 q1 q2 q3 q4 q)
/-! ### for -/
/-- W: the invariant by the turn and a measure; N: what the body is to reach -/
def tFor (wi : TI) (g : TG) (tb : TS) : TS := fun D σ H => wi σ H fun J H1 => ∃ W : Nat → Nat → St → Hp → Prop, (∃ m, W 0 m σ H1) ∧ ∀ i m σ H, W i m σ H →
  (J.stop i H ∧ D.nx σ H) ∨ (J.go i H ∧ ∃ N : St → Hp → Prop, (∀ σ' H', N σ' H' → ∃ m', m' < m ∧ W (i + 1) m' σ' H') ∧ ∀ x H', J.yld i H x H' → g x σ H' fun σ2 H2 => tb { D with nx := N, ct := N, bk := D.nx } σ2 H2)
/-- the records at fp as they stand -/
def pinsAt (fp : List Addr) (h : Heap) : List (Addr × Obj) := fp.filterMap fun b => (h.get? b).map fun o => (b, o)
theorem mem_pinsAt {fp : List Addr} {h : Heap} {b : Addr} {o : Obj} (hb : b ∈ fp) (e : h.get? b = some o) : (b, o) ∈ pinsAt fp h := List.mem_filterMap.mpr ⟨b, hb, by rw [e]; rfl⟩
theorem of_pinsAt {fp : List Addr} {h : Heap} {p : Addr × Obj} (hp : p ∈ pinsAt fp h) : p.1 ∈ fp ∧ h.get? p.1 = some p.2 := by
  obtain ⟨b, hb, e⟩ := List.mem_filterMap.mp hp
  cases q : h.get? b with
  | none => rw [q] at e; cases e
  | some o =>
    rw [q] at e
    have e' : (b, o) = p := Option.some.inj e
    subst e'
    exact ⟨hb, q⟩
theorem Inv.pinned {pins : List (Addr × Obj)} {σ : St} {H : Hp} {s : Shared} {fp : List Addr} (I : Inv X pins σ H s) (hf : ∀ b ∈ fp, FpOk X pins H b) (ho : ∀ b ∈ fp, ∃ o, s.heap.get? b = some o ∧ ∀ v, o.data ≠ .cell v) : Inv X (pins ++ pinsAt fp s.heap) σ H s :=
  I.pins_of fun p hp => (List.mem_append.mp hp).elim (fun z => I.pin p (List.mem_append_right _ z)) fun z => by
    obtain ⟨hb, e⟩ := of_pinsAt z
    obtain ⟨f0, f1, f2, _⟩ := hf p.1 hb
    obtain ⟨o, e', d⟩ := ho p.1 hb
    rw [e] at e'; cases e'
    exact ⟨e, f0, f1, f2, d⟩
theorem Inv.unpinned {pins pl : List (Addr × Obj)} {σ : St} {H : Hp} {s : Shared} (I : Inv X (pins ++ pl) σ H s) : Inv X pins σ H s := I.pins_of fun p hp => I.pin p (List.mem_append_right _ (List.mem_append_left _ hp))
theorem ps_for {iter : Expr} {body : List Stmt} {wi : TI} {g : TG} {tb : TS} {pos : Pos} (hp : PassesOwn (model X.prog X.w) X.A X.env X.xe) (hc : X.calm = true) (hi : PI X tg iter wi) (hg : PG X tg g) (hb : PSs X body tb)
    (hs : ∀ x, foldedSetIterable iter X.env x = pure x := by intro _; rfl) : PS X (.For tg iter body [] pos) (tFor wi g tb) := by
  intro pins s σ H D I h
  refine wpAny_For (thn (hi pins s σ H _ I h) fun v s1 h1 => thn h1 fun itv s2 h2 => ?_) hs
  obtain ⟨it, fp, tn, J, H2, e, I2, T, st2, f2, W, ⟨m0, w0⟩, turn⟩ := h2
  subst e
  -- what stays true of the iterator's objects through the loop
  have stat : ∀ {H' : Hp}, (∀ b ∈ fp, H' b = none) → ∀ b ∈ fp, FpOk X pins H' b := fun hn b hb => ⟨hn b hb, (f2 b hb).2⟩
  refine codeAny_forLoop_any (fun n s' => ∃ i σ' H', Inv X pins σ' H' s' ∧ tn i s'.heap ∧ (∀ b ∈ fp, H' b = none) ∧ W i n σ' H') ?_ m0 ⟨0, σ, H2, I2, st2, fun b hb => (f2 b hb).1, w0⟩
  rintro n s3 ⟨i, σ3, H3, I3, st3, fr3, w3⟩
  rcases turn i n σ3 H3 w3 with ⟨stop, qn⟩ | ⟨go, N, hN, step⟩
  · refine wpAny_passesOwn hp (thn (T.done X rfl rfl rfl hc i pins s3 σ3 H3 X.xe I3 (stat fr3) st3 stop) fun r s4 ⟨hr, I4⟩ => ?_)
    subst hr
    exact wpAny_execs_nil ⟨σ3, H3, I4, qn⟩
  · refine wpAny_passesOwn hp (thn (T.item X rfl rfl rfl hc i pins s3 σ3 H3 X.xe I3 (stat fr3) st3 go) fun r s4 ⟨u, hr, h4⟩ => ?_)
    subst hr
    refine wpAny_passesOwn hp (thn h4 fun _ s5 ⟨x, H5, I5, r5, y5, st5, fr5⟩ => ?_)
    have I5' := I5.pinned (stat fr5) (T.obj _ _ st5)
    refine wpAny_passesOwn hp (thn (hg _ s5 σ3 H5 x u _ I5' r5 (step x H5 y5)) fun _ s6 ⟨σ6, H6, I6, q6⟩ => ?_)
    refine wpAny_passesOwn hp (thn (hb _ s6 σ6 H6 _ I6 q6) fun f s7 q7 => ?_)
    have again : ∀ {σ7 : St} {H7 : Hp}, Inv X (pins ++ pinsAt fp s5.heap) σ7 H7 s7 → N σ7 H7 → ∃ m, m < n ∧ ∃ i σ' H', Inv X pins σ' H' s7 ∧ tn i s7.heap ∧ (∀ b ∈ fp, H' b = none) ∧ W i m σ' H' := fun {σ7 H7} I7 n7 => by
      obtain ⟨m', hm, w7⟩ := hN σ7 H7 n7
      refine ⟨m', hm, i + 1, σ7, H7, I7.unpinned, T.keep _ _ _ st5 fun b hb o e => (I7.pin (b, o) (List.mem_append_right _ (List.mem_append_right _ (mem_pinsAt hb e)))).1, fun b hb => ?_, w7⟩
      obtain ⟨o, e, d⟩ := T.obj _ _ st5 b hb
      exact (I7.pin (b, o) (List.mem_append_right _ (List.mem_append_right _ (mem_pinsAt hb e)))).2.1
    cases f with
    | next => obtain ⟨σ7, H7, I7, n7⟩ := q7; exact again I7 n7
    | cont => obtain ⟨σ7, H7, I7, n7⟩ := q7; exact again I7 n7
    | brk => obtain ⟨σ7, H7, I7, q7⟩ := q7; exact ⟨σ7, H7, I7.unpinned, q7⟩
    | ret v => obtain ⟨x7, σ7, H7, I7, r7, q7⟩ := q7; exact ⟨x7, σ7, H7, I7.unpinned, r7, q7⟩
end
/-! ### the forms one uses -/
/-- over a list that the body leaves as it is -/
theorem for_list {K : PySem.W.Frag} {a : Addr} {xs : List V} {g : TG} {tb : TS} {D : Ends} {σ : St} {H : Hp} (Pv : Nat → St → Hp → Prop) (h0 : Pv 0 σ H) (hl : ∀ i σ H, i ≤ xs.length → Pv i σ H → SqL K H a xs)
    (hs : ∀ i x σ H, xs[i]? = some x → Pv i σ H → g x σ H fun σ2 H2 => tb { D with nx := Pv (i + 1), ct := Pv (i + 1), bk := D.nx } σ2 H2) (hd : ∀ σ H, Pv xs.length σ H → D.nx σ H) :
    ∃ W : Nat → Nat → St → Hp → Prop, (∃ m, W 0 m σ H) ∧ ∀ i m σ H, W i m σ H →
      ((Itl K a).stop i H ∧ D.nx σ H) ∨ ((Itl K a).go i H ∧ ∃ N : St → Hp → Prop, (∀ σ' H', N σ' H' → ∃ m', m' < m ∧ W (i + 1) m' σ' H') ∧ ∀ x H', (Itl K a).yld i H x H' → g x σ H' fun σ2 H2 => tb { D with nx := N, ct := N, bk := D.nx } σ2 H2) := by
  refine ⟨fun i m σ H => m = xs.length - i ∧ i ≤ xs.length ∧ Pv i σ H, ⟨xs.length, by simp, Nat.zero_le _, h0⟩, ?_⟩
  rintro i m σ H ⟨rfl, hi, p⟩
  have q := hl i σ H hi p
  by_cases hlt : i < xs.length
  · refine .inr ⟨⟨xs, xs[i], q, by simp [hlt]⟩, Pv (i + 1), fun σ' H' p' => ⟨xs.length - (i + 1), by omega, rfl, hlt, p'⟩, fun x H' y => ?_⟩
    obtain ⟨e, y⟩ := y
    subst e
    exact hs i x σ _ (y xs q) p
  · have e : i = xs.length := by (first | lia | omega)
    subst e
    exact .inl ⟨⟨xs, q, Nat.le_refl _⟩, hd σ H p⟩
theorem for_range {lo : Int} {n : Nat} {g : TG} {tb : TS} {D : Ends} {σ : St} {H : Hp} (Pv : Nat → St → Hp → Prop) (h0 : Pv 0 σ H)
    (hs : ∀ i σ H, i < n → Pv i σ H → g (.int (lo + i)) σ H fun σ2 H2 => tb { D with nx := Pv (i + 1), ct := Pv (i + 1), bk := D.nx } σ2 H2) (hd : ∀ σ H, Pv n σ H → D.nx σ H) :
    ∃ W : Nat → Nat → St → Hp → Prop, (∃ m, W 0 m σ H) ∧ ∀ i m σ H, W i m σ H →
      ((Itr lo n).stop i H ∧ D.nx σ H) ∨ ((Itr lo n).go i H ∧ ∃ N : St → Hp → Prop, (∀ σ' H', N σ' H' → ∃ m', m' < m ∧ W (i + 1) m' σ' H') ∧ ∀ x H', (Itr lo n).yld i H x H' → g x σ H' fun σ2 H2 => tb { D with nx := N, ct := N, bk := D.nx } σ2 H2) := by
  refine ⟨fun i m σ H => m = n - i ∧ i ≤ n ∧ Pv i σ H, ⟨n, by simp, Nat.zero_le _, h0⟩, ?_⟩
  rintro i m σ H ⟨rfl, hi, p⟩
  by_cases hlt : i < n
  · refine .inr ⟨hlt, Pv (i + 1), fun σ' H' p' => ⟨n - (i + 1), by omega, rfl, hlt, p'⟩, fun x H' y => ?_⟩
    obtain ⟨e, y⟩ := y
    subst e y
    exact hs i σ _ hlt p
  · have e : i = n := by (first | lia | omega)
    subst e
    exact .inl ⟨Nat.le_refl _, hd σ H p⟩
end L2
namespace L2
open PySem PySem.Spec PyProof.Rows
abbrev R2 := V → V → Hp → VK → Prop
/-- a two-place operation on values: f is binaryOp op, inplaceOp op or compareOp op -/
def OpR (X : Cx) (f : Value → Value → Sem Value) (r : R2) : Prop :=
  ∀ (pins : List (Addr × Obj)) (s : Shared) (σ : St) (H : Hp) (x y : V) (v u : Value) (Q : VK), Inv X pins σ H s → RelV x v → RelV y u → r x y H Q →
    wpAny (model X.prog X.w) X.A (f v u) (EP X pins σ Q) X.xe s
/-- a one-place operation -/
def UnR (X : Cx) (f : Value → Sem Value) (r : V → Hp → VK → Prop) : Prop :=
  ∀ (pins : List (Addr × Obj)) (s : Shared) (σ : St) (H : Hp) (x : V) (v : Value) (Q : VK), Inv X pins σ H s → RelV x v → r x H Q →
    wpAny (model X.prog X.w) X.A (f v) (EP X pins σ Q) X.xe s
/-- a call of a value that is known (a builtin, a type) with values -/
def CallR (X : Cx) (f : Value) (r : List V → Hp → VK → Prop) : Prop :=
  ∀ (pins : List (Addr × Obj)) (s : Shared) (σ : St) (H : Hp) (xs : List V) (us : List Value) (Q : VK), Inv X pins σ H s → Vals xs us → r xs H Q →
    wpAny (model X.prog X.w) X.A (call f us) (EP X pins σ Q) X.xe s
def tOp (r : R2) (ta tb : TE) : TE := fun σ H Q => ta σ H fun x H1 => tb σ H1 fun y H2 => r x y H2 Q
def tUn (r : V → Hp → VK → Prop) (ta : TE) : TE := fun σ H Q => ta σ H fun x H1 => r x H1 Q
/-- ints in, under C, and a value out -/
def rI (C : Int → Int → Prop) (g : Int → Int → V) : R2 := fun x y H Q => ∃ i j, x = .int i ∧ y = .int j ∧ C i j ∧ Q (g i j) H
def rI0 (g : Int → Int → V) : R2 := fun x y H Q => ∃ i j, x = .int i ∧ y = .int j ∧ Q (g i j) H
def rU (g : Int → V) : V → Hp → VK → Prop := fun x H Q => ∃ i, x = .int i ∧ Q (g i) H
section
variable {X : Cx} {a b c : Expr} {ta tb tc : TE} {pos : Pos}
theorem binT (ha : PE X a ta) (hb : PE X b tb) {pins : List (Addr × Obj)} {s : Shared} {σ : St} {H : Hp} {R : V → V → Hp → Prop} (I : Inv X pins σ H s)
    (h : ta σ H fun x H1 => tb σ H1 fun y H2 => R x y H2) {Q : Value → Shared → Prop} {f : Value → Value → Sem Value}
    (hf : ∀ v u s2 x y H2, Inv X pins σ H2 s2 → RelV x v → RelV y u → R x y H2 → wpAny (model X.prog X.w) X.A (f v u) Q X.xe s2) :
    wpAny (model X.prog X.w) X.A (eval a X.env) (fun v s₁ => wpAny (model X.prog X.w) X.A (eval b X.env) (fun u s₂ => wpAny (model X.prog X.w) X.A (f v u) Q X.xe s₂) X.xe s₁) X.xe s := by
  refine thn (ha pins s σ H _ I h) fun v s1 ⟨x, H1, I1, r1, q1⟩ => ?_
  refine thn (hb pins s1 σ H1 _ I1 q1) fun u s2 ⟨y, H2, I2, r2, q2⟩ => ?_
  exact hf v u s2 x y H2 I2 r1 r2 q2
theorem pe_op {op : Operator} {r : R2} (ho : OpR X (binaryOp op) r) (ha : PE X a ta) (hb : PE X b tb) : PE X (.BinOp a op b pos) (tOp r ta tb) := by
  intro pins s σ H Q I h
  exact wpAny_BinOp (binT ha hb I h fun v u s2 x y H2 I2 rx ry q => ho pins s2 σ H2 x y v u Q I2 rx ry q)
theorem pe_un {op : UnaryOp} {r : V → Hp → VK → Prop} (ho : UnR X (unaryOp op) r) (ha : PE X a ta) : PE X (.UnaryOp op a pos) (tUn r ta) := by
  intro pins s σ H Q I h
  exact UnaryOp_ (thn (ha pins s σ H _ I h) fun v s1 ⟨x, H1, I1, r1, q1⟩ => ho pins s1 σ H1 x v Q I1 r1 q1)
/-! ### ints -/
theorem opI {f : Value → Value → Sem Value} {C : Int → Int → Prop} {g : Int → Int → Int}
    (rule : ∀ (i j : Int) (t u : Tok) (s : Shared) (Q : Value → Shared → Prop) (E : Value → Shared → Prop), C i j → Q (.int (g i j) s.toks) { s with toks := s.toks + 1 } → wpAny (model X.prog X.w) X.A (f (.int i t) (.int j u)) Q E s) :
    OpR X f (rI C fun i j => .int (g i j)) := by
  intro pins s σ H x y v u Q I rx ry h
  obtain ⟨i, j, rfl, rfl, hc, q⟩ := h
  obtain ⟨t, rfl⟩ := rx
  obtain ⟨t', rfl⟩ := ry
  exact rule i j t t' s _ _ hc ⟨.int (g i j), H, I.tok _, ⟨_, rfl⟩, q⟩
theorem opI0 {f : Value → Value → Sem Value} {g : Int → Int → Int}
    (rule : ∀ (i j : Int) (t u : Tok) (s : Shared) (Q : Value → Shared → Prop) (E : Value → Shared → Prop), Q (.int (g i j) s.toks) { s with toks := s.toks + 1 } → wpAny (model X.prog X.w) X.A (f (.int i t) (.int j u)) Q E s) :
    OpR X f (rI0 fun i j => .int (g i j)) := by
  intro pins s σ H x y v u Q I rx ry h
  obtain ⟨i, j, rfl, rfl, q⟩ := h
  obtain ⟨t, rfl⟩ := rx
  obtain ⟨t', rfl⟩ := ry
  exact rule i j t t' s _ _ ⟨.int (g i j), H, I.tok _, ⟨_, rfl⟩, q⟩
theorem opB0 {f : Value → Value → Sem Value} {g : Int → Int → Bool}
    (rule : ∀ (i j : Int) (t u : Tok) (s : Shared) (Q : Value → Shared → Prop) (E : Value → Shared → Prop), Q (.bool (g i j)) s → wpAny (model X.prog X.w) X.A (f (.int i t) (.int j u)) Q E s) :
    OpR X f (rI0 fun i j => .bl (g i j)) := by
  intro pins s σ H x y v u Q I rx ry h
  obtain ⟨i, j, rfl, rfl, q⟩ := h
  obtain ⟨t, rfl⟩ := rx
  obtain ⟨t', rfl⟩ := ry
  exact rule i j t t' s _ _ ⟨.bl (g i j), H, I, rfl, q⟩
def CDiv (i j : Int) : Prop := 0 < j ∧ j < 1073741824
def CMul (i j : Int) : Prop := (-(2 ^ 64) < i ∧ i < 2 ^ 64) ∨ (-(2 ^ 64) < j ∧ j < 2 ^ 64)
theorem CMul.ok {i j : Int} (h : CMul i j) : IntMulOk i j := by
  rcases h with ⟨h1, h2⟩ | ⟨h1, h2⟩
  · exact .of_left (intBits_le_64 h1 h2)
  · exact .of_right (intBits_le_64 h1 h2)
theorem op_add : OpR X (binaryOp .Add) (rI0 fun i j => .int (i + j)) := opI0 fun _ _ _ _ _ _ _ q => add_int q
theorem op_sub : OpR X (binaryOp .Sub) (rI0 fun i j => .int (i - j)) := opI0 fun _ _ _ _ _ _ _ q => sub_int q
theorem op_mul : OpR X (binaryOp .Mult) (rI CMul fun i j => .int (i * j)) := opI fun _ _ _ _ _ _ _ hc q => mul_int q hc.ok
/-- // by a positive divisor -/
theorem op_fdiv : OpR X (binaryOp .FloorDiv) (rI CDiv fun i j => .int (i / j)) := opI fun i j _ _ _ _ _ hc q => by
  have h1 : (0 : Int) < j := hc.1
  have h2 : j < 1073741824 := hc.2
  exact floordiv_int (by omega) (by rw [Int.fdiv_eq_ediv_of_nonneg i (by omega)]; exact q) (.inl (PyProof.noPylong_small (by omega)))
/-- % by a positive divisor of any size -/
theorem op_mod : OpR X (binaryOp .Mod) (rI (fun _ j => 0 < j) fun i j => .int (i % j)) := opI fun i j _ _ _ _ _ hc q => by
  have h1 : (0 : Int) < j := hc
  exact mod_int' (by omega) (by rw [Int.fmod_eq_emod_of_nonneg i (by omega)]; exact q)
theorem unI {f : Value → Sem Value} {g : Int → Int}
    (rule : ∀ (i : Int) (t : Tok) (s : Shared) (Q : Value → Shared → Prop) (E : Value → Shared → Prop), Q (.int (g i) s.toks) { s with toks := s.toks + 1 } → wpAny (model X.prog X.w) X.A (f (.int i t)) Q E s) :
    UnR X f (rU fun i => .int (g i)) := by
  intro pins s σ H x v Q I rx h
  obtain ⟨i, rfl, q⟩ := h
  obtain ⟨t, rfl⟩ := rx
  exact rule i t s _ _ ⟨.int (g i), H, I.tok _, ⟨_, rfl⟩, q⟩
theorem un_neg : UnR X (unaryOp .USub) (rU fun i => .int (-i)) := unI fun _ _ _ _ _ q => neg_int q
end
/-! ### comparisons -/
/-- the scalars that == tells apart as data does -/
def scal : V → V → Bool
  | .non, .non => true | .non, .int _ => true | .int _, .non => true | .non, .bl _ => true | .bl _, .non => true | .non, .str _ => true | .str _, .non => true
  | .int _, .int _ => true | .bl _, .bl _ => true | .str _, .str _ => true | .byt _, .byt _ => true
  | .int _, .str _ => true | .str _, .int _ => true | .bl _, .str _ => true | .str _, .bl _ => true
  | _, _ => false
def rEq : R2 := fun x y H Q => scal x y = true ∧ Q (.bl (decide (x = y))) H
def rNe : R2 := fun x y H Q => scal x y = true ∧ Q (.bl (!decide (x = y))) H
theorem dec_int {i j : Int} : decide (V.int i = V.int j) = (i == j) := by
  rw [Bool.eq_iff_iff]
  simp
theorem dec_bl {i j : Bool} : decide (V.bl i = V.bl j) = (i == j) := by
  rw [Bool.eq_iff_iff]
  simp
theorem dec_str {i j : Str} : decide (V.str i = V.str j) = (i == j) := by
  rw [Bool.eq_iff_iff]
  simp
theorem dec_byt {i j : Array UInt8} : decide (V.byt i = V.byt j) = (i.toList == j.toList) := by
  rw [Bool.eq_iff_iff]
  cases i
  cases j
  simp
section
variable {X : Cx} {a b c : Expr} {ta tb tc : TE} {pos : Pos}
theorem fin_bl {pins : List (Addr × Obj)} {σ : St} {H : Hp} {s : Shared} {Q : VK} {k k' : Bool} (I : Inv X pins σ H s) (q : Q (.bl k) H) (e : k = k') : EP X pins σ Q (.bool k') s := by
  subst e
  exact ⟨.bl k, H, I, rfl, q⟩
theorem op_eq : OpR X (compareOp .Eq) rEq := by
  intro pins s σ H x y v u Q I rx ry h
  obtain ⟨hs, q⟩ := h
  cases x with
  | non =>
    cases rx
    cases y with
    | non => cases ry; exact PySem.EqNone.eq_none_none (fin_bl I q (by simp))
    | bl j => cases ry; exact PySem.EqNone.eq_none_bool (fin_bl I q (by simp))
    | int j => obtain ⟨t', rfl⟩ := ry; exact PySem.EqNone.eq_none_int (fin_bl I q (by simp))
    | str j => obtain ⟨t', rfl⟩ := ry; exact PySem.EqNone.eq_none_str (fin_bl I q (by simp))
    | _ => exact absurd (show false = true from hs) Bool.false_ne_true
  | bl i =>
    cases rx
    cases y with
    | non => cases ry; exact PySem.EqNone.eq_bool_none (fin_bl I q (by simp))
    | bl j => cases ry; exact eq_bool (fin_bl I q dec_bl)
    | str j => obtain ⟨t', rfl⟩ := ry; exact PySem.EqMixed.eq_bool_str (fin_bl I q (by simp))
    | _ => exact absurd (show false = true from hs) Bool.false_ne_true
  | int i =>
    obtain ⟨t, rfl⟩ := rx
    cases y with
    | non => cases ry; exact PySem.EqNone.eq_int_none (fin_bl I q (by simp))
    | int j => obtain ⟨t', rfl⟩ := ry; exact eq_int (fin_bl I q dec_int)
    | str j => obtain ⟨t', rfl⟩ := ry; exact PySem.EqMixed.eq_int_str (fin_bl I q (by simp))
    | _ => exact absurd (show false = true from hs) Bool.false_ne_true
  | str i =>
    obtain ⟨t, rfl⟩ := rx
    cases y with
    | non => cases ry; exact PySem.EqNone.eq_str_none (fin_bl I q (by simp))
    | bl j => cases ry; exact PySem.EqMixed.eq_str_bool (fin_bl I q (by simp))
    | int j => obtain ⟨t', rfl⟩ := ry; exact PySem.EqMixed.eq_str_int (fin_bl I q (by simp))
    | str j => obtain ⟨t', rfl⟩ := ry; exact eq_str (fin_bl I q dec_str)
    | _ => exact absurd (show false = true from hs) Bool.false_ne_true
  | byt i =>
    obtain ⟨t, rfl⟩ := rx
    cases y with
    | byt j => obtain ⟨t', rfl⟩ := ry; exact PySem.W.eq_bytes (fin_bl I q dec_byt)
    | _ => exact absurd (show false = true from hs) Bool.false_ne_true
  | _ => cases y <;> exact absurd (show false = true from hs) Bool.false_ne_true
theorem op_ne : OpR X (compareOp .NotEq) rNe := by
  intro pins s σ H x y v u Q I rx ry h
  obtain ⟨hs, q⟩ := h
  cases x with
  | non =>
    cases rx
    cases y with
    | non => cases ry; exact PySem.EqNone.ne_none_none (fin_bl I q (by simp))
    | bl j => cases ry; exact PySem.EqNone.ne_none_bool (fin_bl I q (by simp))
    | int j => obtain ⟨t', rfl⟩ := ry; exact PySem.EqNone.ne_none_int (fin_bl I q (by simp))
    | str j => obtain ⟨t', rfl⟩ := ry; exact PySem.EqNone.ne_none_str (fin_bl I q (by simp))
    | _ => exact absurd (show false = true from hs) Bool.false_ne_true
  | bl i =>
    cases rx
    cases y with
    | non => cases ry; exact PySem.EqNone.ne_bool_none (fin_bl I q (by simp))
    | bl j => cases ry; exact ne_bool (fin_bl I q (congrArg not dec_bl))
    | str j => obtain ⟨t', rfl⟩ := ry; exact PySem.EqMixed.ne_bool_str (fin_bl I q (by simp))
    | _ => exact absurd (show false = true from hs) Bool.false_ne_true
  | int i =>
    obtain ⟨t, rfl⟩ := rx
    cases y with
    | non => cases ry; exact PySem.EqNone.ne_int_none (fin_bl I q (by simp))
    | int j => obtain ⟨t', rfl⟩ := ry; exact ne_int (fin_bl I q (congrArg not dec_int))
    | str j => obtain ⟨t', rfl⟩ := ry; exact PySem.EqMixed.ne_int_str (fin_bl I q (by simp))
    | _ => exact absurd (show false = true from hs) Bool.false_ne_true
  | str i =>
    obtain ⟨t, rfl⟩ := rx
    cases y with
    | non => cases ry; exact PySem.EqNone.ne_str_none (fin_bl I q (by simp))
    | bl j => cases ry; exact PySem.EqMixed.ne_str_bool (fin_bl I q (by simp))
    | int j => obtain ⟨t', rfl⟩ := ry; exact PySem.EqMixed.ne_str_int (fin_bl I q (by simp))
    | str j => obtain ⟨t', rfl⟩ := ry; exact ne_str (fin_bl I q (congrArg not dec_str))
    | _ => exact absurd (show false = true from hs) Bool.false_ne_true
  | byt i =>
    obtain ⟨t, rfl⟩ := rx
    cases y with
    | byt j => obtain ⟨t', rfl⟩ := ry; exact PySem.W.ne_bytes (fin_bl I q (congrArg not dec_byt))
    | _ => exact absurd (show false = true from hs) Bool.false_ne_true
  | _ => cases y <;> exact absurd (show false = true from hs) Bool.false_ne_true
theorem op_lt : OpR X (compareOp .Lt) (rI0 fun i j => .bl (decide (i < j))) := opB0 fun _ _ _ _ _ _ _ q => lt_int q
theorem op_le : OpR X (compareOp .LtE) (rI0 fun i j => .bl (decide (i ≤ j))) := opB0 fun _ _ _ _ _ _ _ q => le_int q
theorem op_gt : OpR X (compareOp .Gt) (rI0 fun i j => .bl (decide (j < i))) := opB0 fun _ _ _ _ _ _ _ q => gt_int q
theorem nomark (b : Expr) {op : CmpOp} (h : op ≠ .In := by decide) (h2 : op ≠ .NotIn := by decide) : behindInMarks op b = false := by
  have e1 : (op == CmpOp.In) = false := by cases op <;> first | rfl | exact absurd rfl h
  have e2 : (op == CmpOp.NotIn) = false := by cases op <;> first | rfl | exact absurd rfl h2
  cases b <;> simp [behindInMarks, e1, e2]
/-- a comparison as a value; hm: nomark b, or (for in, not in) by with_unfolding_all rfl -/
theorem pe_cmpR {op : CmpOp} {r : R2} (ho : OpR X (compareOp op) r) (ha : PE X a ta) (hb : PE X b tb) (hm : behindInMarks op b = false) : PE X (.Compare a [op] [b] pos) (tOp r ta tb) := by
  intro pins s σ H Q I h
  exact wpAny_Compare1 (binT ha hb I h fun v u s2 x y H2 I2 rx ry q => ho pins s2 σ H2 x y v u Q I2 rx ry q) hm
/-- a reading of a value as a test -/
def tTest (t : TE) : TT := fun σ H Q => t σ H fun x H' => ∃ k, x = .bl k ∧ Q k H'
theorem pt_cmpR {op : CmpOp} {r : R2} (ho : OpR X (compareOp op) r) (ha : PE X a ta) (hb : PE X b tb) (hm : behindInMarks op b = false) : PT X (.Compare a [op] [b] pos) (tTest (tOp r ta tb)) := by
  intro pins s σ H Q I h
  refine wpAny_isTrue_Compare1 (thn (ha pins s σ H _ I h) fun v s1 ⟨x, H1, I1, r1, q1⟩ => thn (hb pins s1 σ H1 _ I1 q1) fun u s2 ⟨y, H2, I2, r2, q2⟩ =>
    thn (ho pins s2 σ H2 x y v u _ I2 r1 r2 q2) fun c s3 ⟨z, H3, I3, r3, k, e, q3⟩ => ?_) hm
  subst e
  cases r3
  exact wpAny_truthy_bool ⟨H3, I3, q3⟩
/-- a op1 b op2 c -/
def tChain (r r' : R2) (ta tb tc : TE) : TE := fun σ H Q => ta σ H fun x H1 => tb σ H1 fun y H2 => r x y H2 fun z H3 => ∃ k, z = .bl k ∧
  (if k = true then tc σ H3 fun w' H4 => r' y w' H4 Q else Q (.bl false) H3)
theorem pt_chain {op op' : CmpOp} {r r' : R2} (ho : OpR X (compareOp op) r) (ho' : OpR X (compareOp op') r') (ha : PE X a ta) (hb : PE X b tb) (hc : PE X c tc)
    (hm : lastMarks [op, op'] [b, c] = false := by with_unfolding_all rfl) : PT X (.Compare a [op, op'] [b, c] pos) (tTest (tChain r r' ta tb tc)) := by
  intro pins s σ H Q I h
  refine isTrue_chain (thn (ha pins s σ H _ I h) fun v s1 ⟨x, H1, I1, r1, q1⟩ => test_link (thn (hb pins s1 σ H1 _ I1 q1) fun u s2 ⟨y, H2, I2, r2, q2⟩ =>
    thn (ho pins s2 σ H2 x y v u _ I2 r1 r2 q2) fun d s3 ⟨z, H3, I3, r3, k, e, q3⟩ => ?_)) hm
  subst e
  cases r3
  refine wpAny_truthy_bool ?_
  cases k with
  | false =>
    obtain ⟨k', e', q'⟩ := q3
    cases e'
    exact ite_ff ⟨H3, I3, q'⟩
  | true =>
    refine ite_tt (test_last (thn (hc pins s3 σ H3 _ I3 q3) fun w' s4 ⟨z', H4, I4, r4, q4⟩ => thn (ho' pins s4 σ H4 y z' u w' _ I4 r2 r4 q4) fun d' s5 ⟨z2, H5, I5, r5, k2, e2, q5⟩ => ?_))
    subst e2
    cases r5
    exact wpAny_truthy_bool ⟨H5, I5, q5⟩
theorem line63 : (sizeLine : Nat) < 2 ^ 63 := by rw [sizeLine_eq]; decide
/-! ### scalar builtins, by CallR -/
theorem vals1 {x : V} {us : List Value} (r : Vals [x] us) : ∃ u, us = [u] ∧ RelV x u := by
  cases r with
  | cons r1 r2 => cases r2; exact ⟨_, rfl, r1⟩
theorem call_abs : CallR X (.builtin "abs") (fun xs H Q => ∃ i, xs = [.int i] ∧ Q (.int (if i < 0 then -i else i)) H) := by
  intro pins s σ H xs us Q I r h
  obtain ⟨i, rfl, q⟩ := h
  obtain ⟨u, rfl, t, rfl⟩ := vals1 r
  exact call_abs_int fun u tk => ⟨.int (if i < 0 then -i else i), H, I.tok _, ⟨_, rfl⟩, q⟩
end
end L2
namespace L2
open PySem PySem.Spec PyProof.Rows
section
variable {prog : Program} {w : World} {A : Around} {E : Value → Shared → Prop} {s : Shared} {K : PySem.W.Frag} {x dx C f : Addr} {mA : Str → Option Value} {name : Str} {v : Value}
end
section
variable {P : Program} {w : World} {H H' : Hp} {h h' : Heap} {a C dx : Addr} {fs fs' : List (Str × V)}
end
section
variable {X : Cx} {pins : List (Addr × Obj)} {σ : St} {H : Hp} {s : Shared} {a C dx : Addr} {fs : List (Str × V)} {f : Str} {v : V} {A : Around} {E : Value → Shared → Prop}
end
section
variable {X : Cx} {o e value : Expr} {f : Str} {pos pos' tpos : Pos} {ta tv : TE}
end
/-! ### isinstance -/
section
variable {X : Cx} {pins : List (Addr × Obj)} {σ : St} {H : Hp} {s : Shared} {A : Around} {E : Value → Shared → Prop} {Q : Value → Shared → Prop} {c : Value} {b : Bool}
end
end L2
namespace L2
open PySem PySem.Spec PyProof.Rows
/-! ### room -/
structure Room (k : Nat) (A : Around) : Prop where
  hd : A.handled = none
  dp : A.depth + 3 * k + 5 < recursionLimit
  un : A.units + 16 * k + 200 < cLine
theorem Room.mono {j k : Nat} {A : Around} (r : Room k A) (h : j ≤ k) : Room j A := ⟨r.hd, by have := r.dp; omega, by have := r.un; omega⟩
theorem Room.deeper {k : Nat} {A : Around} (r : Room (k + 1) A) (env : Env) : Room k (A.deeper env) :=
  ⟨r.hd, by have := r.dp; show A.depth + 1 + 3 * k + 5 < _; omega, by have := r.un; show A.units + 3 + 16 * k + 200 < _; omega⟩
theorem Room.depth {k : Nat} {A : Around} (r : Room k A) : A.depth < recursionLimit := by have := r.dp; (first | lia | omega)
theorem Room.units {k : Nat} {A : Around} (r : Room k A) : A.units + 64 < cLine := by have := r.un; (first | lia | omega)
/-! ### argument lists and displays -/
def tNil : TA := fun _ H Q => Q [] H
def tCons (ta : TE) (tr : TA) : TA := fun σ H Q => ta σ H fun x H1 => tr σ H1 fun xs H2 => Q (x :: xs) H2
section
variable {X : Cx} {e : Expr} {es : List Expr} {te : TE} {t : TA} {pos : Pos}
theorem pa_nil : PA X [] tNil := fun _ _ _ _ H Q I h => Calls.spliced_nil ⟨[], H, I, .nil, h⟩
theorem pa_cons (ha : PE X e te) (hr : PA X es t) (hs : starEach (e :: es) X.env = (false, eval e X.env) :: starEach es X.env := by rfl) : PA X (e :: es) (tCons te t) := by
  intro pos pins s σ H Q I h
  rw [hs]
  show wpAny _ _ (spliced ((false, eval e X.env) :: backTo pos (starEach es X.env))) _ _ s
  refine Calls.spliced_cons (thn (ha pins s σ H _ I h) fun u s1 ⟨x, H1, I1, r1, q1⟩ => ?_)
  exact thn (hr pos pins s1 σ H1 _ I1 q1) fun us s2 ⟨xs, H2, I2, r2, q2⟩ => ⟨x :: xs, H2, I2, .cons r1 r2, q2⟩
/-- a tuple, a list of written items -/
def tTup (t : TA) : TE := fun σ H Q => t σ H fun xs H1 => xs.length ≤ sizeLine ∧ ∀ p, H1 p = none → Q (.ref p) (upd H1 p (.tup xs))
def tLst (t : TA) : TE := fun σ H Q => t σ H fun xs H1 => xs.length ≤ sizeLine ∧ ∀ p, H1 p = none → Q (.ref p) (upd H1 p (.lst xs))
theorem pe_tup {x1} (h : PA X es t) : PE X (.Tuple es x1 pos) (tTup t) := by
  intro pins s σ H Q I hq
  refine wpAny_Tuple_spliced (thn (h pos pins s σ H _ I hq) fun us s1 ⟨xs, H1, I1, r, z, q⟩ => ⟨by rw [← r.length]; exact z, ?_⟩)
  have hf : H1 s1.heap.objs.size = none := I1.hok.fresh (Nat.le_refl _)
  refine ⟨.ref s1.heap.objs.size, upd H1 s1.heap.objs.size (.tup xs), I1.laid (t' := s1.toks) (fun b u e => Heap.get?_push_of_some _ e) (Nat.le_refl _) ?_, rfl, q _ hf⟩
  exact ⟨z, us, r, ⟨_, Heap.get?_push_size _ rfl, rfl, _, rfl⟩⟩
theorem pe_lst (h : PA X es t) : PE X (.List es pos) (tLst t) := by
  intro pins s σ H Q I hq
  refine wpAny_List_spliced (thn (h pos pins s σ H _ I hq) fun us s1 ⟨xs, H1, I1, r, z, q⟩ => ⟨by rw [← r.length]; exact z, ?_⟩)
  have hf : H1 s1.heap.objs.size = none := I1.hok.fresh (Nat.le_refl _)
  refine ⟨.ref s1.heap.objs.size, upd H1 s1.heap.objs.size (.lst xs), I1.laid (t' := s1.toks) (fun b u e => Heap.get?_push_of_some _ e) (Nat.le_refl _) ?_, rfl, q _ hf⟩
  exact ⟨z, us, 0, r, Heap.get?_push_size _ rfl⟩
end
/-! ### what a def promises -/
/-- a def's promise: the bound arguments in the parameters' order, the heap, the wanted end, the wanted exception -/
abbrev Sp := List V → Hp → VK → XK → Prop
/-- how an exception lies behind a call (file 08 gives it): the callers' frames, abstract heap and state ahead of the call, the wish, the exception, the state -/
abbrev CXT := List Env → Hp → Shared → XK → Value → Shared → Prop
/-- the state at a call -/
structure Env0 (P : Program) (w : World) (K : PySem.W.Frag) (mg : Str → Option Value) (base : Heap) (A : Around) (outer : List Env) (s : Shared) (H : Hp) : Prop where
  frames : A.frames = some outer
  mod : Mod K mg base
  bs : ∀ b o, base.get? b = some o → s.heap.get? b = some o ∧ H b = none
  bsz : base.objs.size ≤ s.heap.objs.size
  funs : s.heap.FunFrames base outer
  frf : ∀ b ∈ frs outer, H b = none
  hok : HOk P w H s.heap
  bare : AllBare s.gens
/-- a call's end -/
def CE (outer : List Env) (P : Program) (w : World) (H : Hp) (s : Shared) (Q : VK) (u : Value) (s' : Shared) : Prop :=
  ∃ v H', s'.os = s.os ∧ AllBare s'.gens ∧ Un (frs outer) [] H H' s.heap s'.heap ∧ HOk P w H' s'.heap ∧ RelV v u ∧ Q v H'
def CR (CX : CXT) (outer : List Env) (P : Program) (w : World) (H : Hp) (s : Shared) (Q : VK) (E : XK) (r : Result) (s' : Shared) : Prop :=
  match r with
  | .ok (.ret u) => CE outer P w H s Q u s'
  | .ok _ => False
  | .error e => CX outer H s E e s'
structure FnOk (P : Program) (w : World) (K : PySem.W.Frag) (mg : Str → Option Value) (base : Heap) (CX : CXT) (k : Nat) (f : Addr) (fd : FuncData) (ps : List Str) (sp : Sp) : Prop where
  len : ∀ vs H Q E, sp vs H Q E → vs.length = ps.length
  run : ∀ (A : Around) (outer : List Env) (s : Shared) (H : Hp) (args : Args) (us : List Value) (vs : List V) (Q : VK) (E : XK), Room k A → Env0 P w K mg base A outer s H → BindsTo s fd args (ps.zip us) → Vals vs us → sp vs H Q E →
    codeAny (model P w) A (.call (.ref f) args) (CR CX outer P w H s Q E) s
theorem FnOk.mono {P : Program} {w : World} {K : PySem.W.Frag} {mg : Str → Option Value} {base : Heap} {CX : CXT} {j k : Nat} {f : Addr} {fd : FuncData} {ps : List Str} {sp : Sp} (F : FnOk P w K mg base CX j f fd ps sp) (h : j ≤ k) :
    FnOk P w K mg base CX k f fd ps sp := ⟨F.len, fun A outer s H args us vs Q E hr => F.run A outer s H args us vs Q E (hr.mono h)⟩
section
variable {X : Cx} {pins : List (Addr × Obj)} {σ : St} {H : Hp} {s s' : Shared}
/-- from a body: what a callee wants -/
theorem Inv.env0 (I : Inv X pins σ H s) : Env0 X.prog X.w X.K X.mg X.base X.A X.stack s H :=
  ⟨I.ok.frames, I.ok.mod, I.bs, Nat.le_trans I.ok.bsz I.sz, I.stack, I.stkFree, I.hok, I.bare⟩
/-- behind a call -/
theorem Inv.after {Q : VK} {u : Value} (I : Inv X pins σ H s) (h : CE X.stack X.prog X.w H s Q u s') : EP X pins σ Q u s' := by
  obtain ⟨v, H', os, bare, un, hok, r, q⟩ := h
  obtain ⟨hh, g, d, t, os'⟩ := s'
  obtain rfl : os' = s.os := os
  exact ⟨v, H', I.call (h' := hh) (g' := g) (d' := d) (t' := t) (ch := []) un hok bare (fun b z => absurd z (by simp)), r, q⟩
end
/-! ### calls -/
/-- f(..): the written arguments, then the defaults dvs; E: what is wanted of an exception -/
def tCall (sp : Sp) (dvs : List V) (E : XK) (t : TA) : TE := fun σ H Q => t σ H fun vs H1 => sp (vs ++ dvs) H1 Q E
/-- how the parameters are bound: us the positional arguments, kw the keywords' values by name, ds the defaults that fill up -/
def Binds (K : PySem.W.Frag) (fd : FuncData) (ps : List Str) (ds : List Value) : Prop :=
  ∀ (s : Shared) (us : List Value), K.In s.heap → (us ++ ds).length = ps.length → BindsTo s fd ⟨us, []⟩ (ps.zip (us ++ ds))
/-- every parameter is given -/
theorem Binds.all {K : PySem.W.Frag} {fd : FuncData} {ps : List Str} (h : ∀ us : List Value, us.length = ps.length → bindArgs fd ⟨us, []⟩ = pure (ps.zip us)) : Binds K fd ps [] := fun s us _ hl => by
  rw [List.append_nil] at hl ⊢
  exact .of_eq (h us hl)
/-- an exception of a callee reaches what this body wants of exceptions -/
def Passes (CX : CXT) (X : Cx) (E : XK) : Prop := ∀ (pins : List (Addr × Obj)) (σ : St) (H : Hp) (s : Shared) (e : Value) (s' : Shared), Inv X pins σ H s → CX X.stack H s E e s' → X.xe e s'
section
variable {X : Cx} {CX : CXT} {k : Nat} {f C : Addr} {fd : FuncData} {ps : List Str} {sp : Sp} {dvs : List V} {ds : List Value} {E : XK} {x m : Str} {p pos apos : Pos} {e o : Expr} {es : List Expr} {ta : TE} {t : TA}
/-- the callee runs -/
theorem run_fn {pins : List (Addr × Obj)} {σ : St} {H : Hp} {s : Shared} {Q : VK} {us : List Value} {vs : List V} (F : FnOk X.prog X.w X.K X.mg X.base CX k f fd ps sp) (hr : Room k X.A) (hb : Binds X.K fd ps ds) (hd : Vals dvs ds) (hx : Passes CX X E)
    (I : Inv X pins σ H s) (r : Vals vs us) (h : sp (vs ++ dvs) H Q E) : wpAny (model X.prog X.w) X.A (call (.ref f) us) (EP X pins σ Q) X.xe s := by
  have r2 : Vals (vs ++ dvs) (us ++ ds) := r.append hd
  have hl : (us ++ ds).length = ps.length := by rw [← r2.length]; exact F.len _ _ _ _ h
  refine wpAny_call (codeAny_mono (F.run X.A X.stack s H ⟨us, []⟩ (us ++ ds) (vs ++ dvs) Q E hr I.env0 (hb s us I.kIn hl) r2 h) fun r s' hq => ?_)
  cases r with
  | error e => exact hx pins σ H s e s' I hq
  | ok fl =>
    cases fl with
    | ret u => exact I.after hq
    | next => exact False.elim hq
    | brk => exact False.elim hq
    | cont => exact False.elim hq
theorem pe_call (F : FnOk X.prog X.w X.K X.mg X.base CX k f fd ps sp) (hr : Room k X.A) (hg : Gl X x) (hm : X.mg x = some (.ref f)) (hk : PySem.W.keepIn X.K (.ref f) = true) (hb : Binds X.K fd ps ds) (hd : Vals dvs ds) (hx : Passes CX X E)
    (ha : PA X (e :: es) t) (hdb : (x == ("__debug__" : Str)) = false := by decide) (he : starEach (e :: es) X.env = (false, eval e X.env) :: starEach es X.env := by rfl) (hpl : (backTo pos (starEach es X.env)).any (·.1) = false := by rfl) :
    PE X (.Call (.Name x p) (e :: es) [] pos) (tCall sp dvs E t) := by
  intro pins s σ H Q I h
  refine wpAny_Call_Name_kw (ld_glob I hg hm ?_ hdb)
  refine PySem.W.callWith_K (h₀ := X.base) I.ok.mod.kin hk (thn (ha pos pins s σ H _ I h) fun us s1 ⟨vs, H1, I1, r, q⟩ => ⟨I1.kIn, ?_⟩) he hpl
  exact run_fn F hr hb hd hx I1 r q
end
section
variable {X : Cx} {CX : CXT} {k : Nat} {f C : Addr} {fd : FuncData} {ps ks : List Str} {sp : Sp} {E : XK} {x m : Str} {p pos apos kpos : Pos} {e o : Expr} {es : List Expr} {kws : List Keyword} {te ta : TE} {t tk : TA} {nm : Option Str}
variable {g : List Value → List Value → List Value} {gV : List V → List V → List V}
end
/-! ### a def's body keeps its promise -/
/-- names: the parameters first -/
structure FnScope (N P : List Str) (sc : Scope) : Prop where
  kind : sc.kind = .function
  co : sc.isCoroutine = false
  gen : sc.isGenerator = false
  nd : N.Nodup
  pre : N.take P.length = P
  par : ∀ x ∈ P, sc.names.lookup x = some .local ∨ sc.names.lookup x = some .cell
  nofree : ∀ y ∈ sc.names, y.2 ≠ .free
theorem bindL_out {kindOf : Str → Option NameKind} {x : Str} : ∀ {binds : List (Str × Value)} {m : Str → Option Value}, (∀ v, (x, v) ∉ binds) → bindL kindOf binds m x = m x
  | [], _, _ => rfl
  | (n, v) :: r, m, h => by
    unfold bindL
    rw [bindL_out fun w hw => h w (List.mem_cons_of_mem _ hw)]
    split
    · have : x ≠ n := by rintro rfl; exact h v List.mem_cons_self
      simp [this]
    · rfl
theorem bindC_out {kindOf : Str → Option NameKind} {x : Str} : ∀ {binds : List (Str × Value)} {m : Str → Option Value}, (∀ v, (x, v) ∉ binds) → bindC kindOf binds m x = m x
  | [], _, _ => rfl
  | (n, v) :: r, m, h => by
    unfold bindC
    rw [bindC_out fun w hw => h w (List.mem_cons_of_mem _ hw)]
    split
    · rfl
    · have : x ≠ n := by rintro rfl; exact h v List.mem_cons_self
      simp [this]
theorem bindL_get {kindOf : Str → Option NameKind} {x : Str} {v : Value} : ∀ {P : List Str} {vs : List Value} {i : Nat} {m : Str → Option Value}, P.Nodup → P[i]? = some x → vs[i]? = some v → kindOf x = some .local →
    bindL kindOf (P.zip vs) m x = some v
  | [], _, _, _, _, h, _, _ => by simp at h
  | _ :: _, [], _, _, _, _, h, _ => by simp at h
  | p :: P, w :: vs, 0, m, nd, h1, h2, hk => by
    simp at h1 h2; subst h1; subst h2
    show bindL kindOf ((p, w) :: P.zip vs) m p = _
    unfold bindL
    rw [bindL_out fun v hv => (List.nodup_cons.mp nd).1 (List.of_mem_zip hv).1, if_pos hk]
    simp
  | p :: P, w :: vs, i + 1, m, nd, h1, h2, hk => by
    show bindL kindOf ((p, w) :: P.zip vs) m x = _
    unfold bindL
    exact bindL_get (i := i) (List.nodup_cons.mp nd).2 (by simpa using h1) (by simpa using h2) hk
theorem bindC_get {kindOf : Str → Option NameKind} {x : Str} {v : Value} : ∀ {P : List Str} {vs : List Value} {i : Nat} {m : Str → Option Value}, P.Nodup → P[i]? = some x → vs[i]? = some v → kindOf x ≠ some .local →
    bindC kindOf (P.zip vs) m x = some v
  | [], _, _, _, _, h, _, _ => by simp at h
  | _ :: _, [], _, _, _, _, h, _ => by simp at h
  | p :: P, w :: vs, 0, m, nd, h1, h2, hk => by
    simp at h1 h2; subst h1; subst h2
    show bindC kindOf ((p, w) :: P.zip vs) m p = _
    unfold bindC
    rw [bindC_out fun v hv => (List.nodup_cons.mp nd).1 (List.of_mem_zip hv).1, if_neg hk]
    simp
  | p :: P, w :: vs, i + 1, m, nd, h1, h2, hk => by
    show bindC kindOf ((p, w) :: P.zip vs) m x = _
    unfold bindC
    exact bindC_get (i := i) (List.nodup_cons.mp nd).2 (by simpa using h1) (by simpa using h2) hk
/-- the names' values at the entry -/
def start (N : List Str) (vs : List V) : St := vs.map some ++ List.replicate (N.length - vs.length) none
/-- the context of a def's body, at its entry; an exception leaves the frame, then lies as CX says -/
def cxOf (CX : CXT) (P : Program) (w : World) (K : PySem.W.Frag) (mg : Str → Option Value) (base : Heap) (N : List Str) (qual : Str) (scope : Scope) (f : Addr) (cd : Value) (A : Around) (outer : List Env) (s : Shared) (H : Hp) (E : XK) : Cx where
  prog := P
  w := w
  K := K
  mg := mg
  base := base
  A := A.deeper (envOfC qual scope s.heap.objs.size f cd)
  N := N
  s₀ := s
  H₀ := H
  env := envOfC qual scope s.heap.objs.size f cd
  outer := outer
  stack := envOfC qual scope s.heap.objs.size f cd :: outer
  ex := []
  calm := true
  fn := fun _ => true
  pn := []
  xe := fun e s' => wpAny (model P w) (A.deeper (envOfC qual scope s.heap.objs.size f cd)) (leaving (envOfC qual scope s.heap.objs.size f cd) e) (fun _ s'' => CX outer H s E e s'') (fun e' s'' => CX outer H s E e' s'') s'
theorem cell_has {sc : Scope} {n : Nat} {x : Str} (h : sc.names.lookup x = some .cell) : ∃ c, (cellsFrom n sc.names []).lookup x = some c := by
  have q := PySem.W.cellsFrom_some sc.names n [] (.inl h)
  exact Option.isSome_iff_exists.mp q
theorem inv_start {CX : CXT} {P : Program} {w : World} {K : PySem.W.Frag} {mg : Str → Option Value} {base : Heap} {N ps : List Str} {qual : Str} {scope : Scope} {f : Addr} {cd : Value} {A : Around} {outer : List Env} {s s1 : Shared} {H : Hp} {E : XK} {us : List Value} {vs : List V}
    (S : FnScope N ps scope) (hd : A.handled = none) (e0 : Env0 P w K mg base A outer s H) (hl : vs.length = ps.length) (r : Vals vs us)
    (x : InCallC s s.heap.objs.size (bindL (envOfC qual scope s.heap.objs.size f cd).kindOf (ps.zip us) fun _ => none) (cellsFrom (s.heap.objs.size + 1) scope.names []) (bindC (envOfC qual scope s.heap.objs.size f cd).kindOf (ps.zip us) fun _ => none) s1) :
    Inv (cxOf CX P w K mg base N qual scope f cd A outer s H E) [] (start N vs) H s1 := by
  have hpl : ps.length ≤ N.length := by have := congrArg List.length S.pre; rw [List.length_take] at this; (first | lia | omega)
  obtain ⟨h1, tk, rfl, hk⟩ := x.done
  have noA : ∀ b : Addr, b ∉ (cxOf CX P w K mg base N qual scope f cd A outer s H E).ex := fun b z => absurd (show b ∈ ([] : List Addr) from z) (by simp)
  refine ⟨⟨e0.mod, S.kind, rfl, rfl, Nat.le_refl _, fun y z c h1 h2 => ?_, fun y hy => ?_, fun y c _ h => ?_, fun _ => hd, Around.frames_deeper e0.frames, .inr ⟨rfl, rfl⟩, fun b z => absurd z (noA b), e0.bs, e0.bsz, fun b _ _ => noA b, fun b z => absurd z (noA b), e0.funs, e0.frf⟩,
    rfl, e0.bare, Un.kept hk, ⟨_, x.toInCall.ns, fun i y v h1 h2 h3 => ?_⟩, fun y c h => ⟨_, x.cell y c h⟩, e0.hok.fresh (Nat.le_refl _), fun y c h => ?_, fun p hp => absurd (show p ∈ ([] : List (Addr × Obj)) from hp) (by simp), e0.hok.kept hk, ?_⟩
  · exact name_of_addr x.apart (PySem.mem_of_lookup h1) (PySem.mem_of_lookup h2)
  · have hy : scope.names.lookup y = some .cell ∨ scope.names.lookup y = some .free := hy
    rcases hy with hy | hy
    · exact cell_has hy
    · exact absurd rfl (S.nofree _ (PySem.mem_of_lookup hy))
  · exact Nat.le_of_lt (x.above y c (PySem.mem_of_lookup h))
  · have hi : i < vs.length := by
      unfold start at h2
      by_cases hi : i < vs.length
      · exact hi
      · rw [List.getElem?_append_right (by simpa using hi)] at h2
        rw [List.getElem?_replicate] at h2
        split at h2 <;> cases h2
    have ha : vs[i]? = some v := by
      unfold start at h2
      rw [List.getElem?_append_left (by simpa using hi), List.getElem?_map] at h2
      cases e : vs[i]? with
      | none => rw [e] at h2; cases h2
      | some a => rw [e] at h2; cases h2; rfl
    obtain ⟨u, hu, rv⟩ := r.get ha
    have hp : ps[i]? = some y := by
      rw [← S.pre, List.getElem?_take_of_lt (by omega)]; exact h1
    have ndP : ps.Nodup := by rw [← S.pre]; exact S.nd.sublist (List.take_sublist _ _)
    refine ⟨u, rv, ?_⟩
    rcases S.par y (List.mem_of_getElem? hp) with k | k
    · exact .inl ⟨k, bindL_get ndP hp hu k⟩
    · obtain ⟨c, e⟩ := cell_has (n := s.heap.objs.size + 1) k
      refine .inr ⟨.inl k, c, e, ?_⟩
      have q := x.cell y c e
      rw [bindC_get ndP hp hu (by show scope.names.lookup y ≠ _; rw [k]; decide)] at q
      exact q
  · exact e0.hok.fresh (Nat.le_of_lt (x.above y c (PySem.mem_of_lookup h)))
  · unfold start
    show _ = N.length
    rw [List.length_append, List.length_map, List.length_replicate]
    (first | lia | omega)
/-- THE RULE: a def (or a method) of the text, by its body. The body's reading t is chosen for each entry; it is run at the parameters' values -/
theorem fn_of {CX : CXT} {P : Program} {w : World} {K : PySem.W.Frag} {mg : Str → Option Value} {base : Heap} {k : Nat} {f : Addr} {name qual : Str} {params : Arguments} {body : List Stmt} {scope : Scope} {dV kV doc pm cdv ct oc : Value} {an od : Option Addr}
    {osl : Array (Option Value)} {N ps : List Str} {sp : Sp} (lk : K.lookup f = some ⟨oc, od, .func (PySem.W.fnOf name qual params body scope dV kV doc pm an cdv ct), osl⟩) (hcd : PySem.W.codeIn K cdv qual = true) (S : FnScope N ps scope)
    (len : ∀ vs H Q E, sp vs H Q E → vs.length = ps.length)
    (hbody : ∀ (A : Around) (outer : List Env) (s : Shared) (H : Hp) (vs : List V) (Q : VK) (E : XK), Room k (A.deeper (envOfC qual scope s.heap.objs.size f cdv)) → sp vs H Q E →
      ∃ t, PSs (cxOf CX P w K mg base N qual scope f cdv A outer s H E) body t ∧ t { nx := fun _ H' => Q .non H', rt := Q } (start N vs) H) :
    FnOk P w K mg base CX (k + 1) f (PySem.W.fnOf name qual params body scope dV kV doc pm an cdv ct) ps sp := by
  refine ⟨len, fun A outer s H args us vs Q E hr e0 hb r hsp => ?_⟩
  have hl := len _ _ _ _ hsp
  have KX : K.In s.heap := e0.mod.kin.keeps fun b o e => (e0.bs b o e).1
  have lim : s.heap.NoLimit := e0.mod.nolimit.keeps fun b o e => (e0.bs b o e).1
  have hkind : ∀ y ∈ ps.zip us, scope.names.lookup y.1 = some .local ∨ (scope.names.lookup y.1 = some .cell ∧ ((cellsFrom (s.heap.objs.size + 1) scope.names []).lookup y.1).isSome = true) := fun ⟨n, v⟩ hy => by
    rcases S.par n (List.of_mem_zip hy).1 with q | q
    · exact .inl q
    · exact .inr ⟨q, PySem.W.cellsFrom_some _ _ _ (.inl q)⟩
  refine codeAny_call_function hr.depth (KX _ _ lk) rfl S.co S.gen rfl (PySem.W.codeRec_of KX hcd) (hb _ _ _ _ ?_)
  refine wpAny_newFunctionEnv_cells S.kind hkind fun env he s1 x => ?_
  subst he
  refine ⟨lim.keeps x.toInCall.keep, codeAny_func ?_⟩
  obtain ⟨t, ht, hq⟩ := hbody A outer s H vs Q E (hr.deeper _) hsp
  have I : Inv (cxOf CX P w K mg base N qual scope f cdv A outer s H E) [] (start N vs) H s1 := inv_start S hr.hd e0 hl r x
  refine wpAny_mono (ht [] s1 (start N vs) H _ I hq) (fun fl s' hs => ?_) fun e s' hs => hs
  have fin : ∀ {σ' : St} {H' : Hp} {v : V} {u : Value}, Inv (cxOf CX P w K mg base N qual scope f cdv A outer s H E) [] σ' H' s' → RelV v u → Q v H' → CE outer P w H s Q u s' :=
    fun {σ' H' v u} J rv q => ⟨v, H', J.os, J.bare, J.base, J.hok, rv, q⟩
  cases fl with
  | ret u =>
    obtain ⟨v, σ', H', J, rv, q⟩ := hs
    exact fin J rv q
  | next =>
    obtain ⟨σ', H', J, q⟩ := hs
    exact fin (v := V.non) (u := Value.none) J rfl q
  | brk =>
    obtain ⟨_, _, _, q⟩ := hs
    exact False.elim q
  | cont =>
    obtain ⟨_, _, _, q⟩ := hs
    exact False.elim q
end L2
namespace L2
open PySem PySem.Spec PyProof.Rows
section
variable {X : Cx} {x : Str} {p pos : Pos} {e : Expr} {es : List Expr} {t : TA} {id T : String} {r : List V → Hp → VK → Prop}
def tCB (r : List V → Hp → VK → Prop) (t : TA) : TE := fun σ H Q => t σ H fun vs H1 => r vs H1 Q
/-- f(e, ..), f a built-in function -/
theorem pe_callB (hc : CallR X (.builtin id) r) (hg : Gl X x) (hm : X.mg x = none) (hv : bootBuiltins x = some (.builtin id)) (ha : PA X (e :: es) t) (hn : x ≠ "__name__" := by decide) (hdb : (x == ("__debug__" : Str)) = false := by decide)
    (he : starEach (e :: es) X.env = (false, eval e X.env) :: starEach es X.env := by rfl) (hpl : (backTo pos (starEach es X.env)).any (·.1) = false := by rfl) : PE X (.Call (.Name x p) (e :: es) [] pos) (tCB r t) := by
  intro pins s σ H Q I h
  refine wpAny_Call_Name_kw (ld_blt I hg hm hv ?_ hn hdb)
  exact PyProof.Rows.callWith_builtin1 (thn (ha pos pins s σ H _ I h) fun us s1 ⟨vs, H1, I1, r1, q1⟩ => hc pins s1 σ H1 vs us Q I1 r1 q1) he hpl
/-- T(e, ..), T a built-in type -/
theorem pe_callTy (hc : CallR X (.type T) r) (hg : Gl X x) (hm : X.mg x = none) (hv : bootBuiltins x = some (.type T)) (ha : PA X (e :: es) t) (hn : x ≠ "__name__" := by decide) (hdb : (x == ("__debug__" : Str)) = false := by decide)
    (he : starEach (e :: es) X.env = (false, eval e X.env) :: starEach es X.env := by rfl) (hpl : (backTo pos (starEach es X.env)).any (·.1) = false := by rfl) : PE X (.Call (.Name x p) (e :: es) [] pos) (tCB r t) := by
  intro pins s σ H Q I h
  refine wpAny_Call_Name_kw (ld_blt I hg hm hv ?_ hn hdb)
  exact PyProof.Rows.callWith_type1 (thn (ha pos pins s σ H _ I h) fun us s1 ⟨vs, H1, I1, r1, q1⟩ => hc pins s1 σ H1 vs us Q I1 r1 q1) he hpl
end
end L2
namespace HT
open PySem PyProof.Rows
section
open PySem.SeqAt
open PySem.AutoSeq1 (wpAny_loadPart')
open PySem.MeetsSeq PySem.MeetsSeq2 PySem.MeetsSeq3
end
section
variable {prog : Program} {w : World} {A : Around} {E : Value → Shared → Prop} {s : Shared}
/-! ### t[a:b], not the whole -/
/-- a slice's bound as a place among n (d where it is left out) -/
def sIx (n d : Nat) : Option Int → Nat
  | none => d
  | some v => if v < 0 then (v + (n : Int)).toNat else min v.toNat n
end
end HT
namespace L2
open PySem PySem.Spec PyProof.Rows
/-! ### the parts of a slice -/
abbrev TO := St → Hp → (Option Int → Hp → Prop) → Prop
/-- a slice's part (left out, or an int) -/
def PO (X : Cx) (e : Option Expr) (t : TO) : Prop :=
  ∀ (pins : List (Addr × Obj)) (s : Shared) (σ : St) (H : Hp) (Q : Option Int → Hp → Prop), Inv X pins σ H s → t σ H Q →
    wpAny (model X.prog X.w) X.A (evalPart e X.env) (fun u s' => ∃ o H', Inv X pins σ H' s' ∧ IsPart u o ∧ Q o H') X.xe s
def tNoPart : TO := fun _ H Q => Q none H
def tPart (t : TE) : TO := fun σ H Q => t σ H fun x H1 => ∃ i, x = .int i ∧ Q (some i) H1
section
variable {X : Cx} {e : Expr} {te : TE} {lo hi : Option Expr} {tl th : TO} {pos p2 : Pos}
theorem po_none : PO X none tNoPart := by
  intro pins s σ H Q I h
  rw [evalPart_none]
  exact wpAny_pure ⟨none, H, I, .none, h⟩
theorem po_some (h : PE X e te) : PO X (some e) (tPart te) := by
  intro pins s σ H Q I hw
  rw [evalPart_some]
  refine thn (h pins s σ H _ I hw) fun u s1 ⟨x, H1, I1, r1, q1⟩ => ?_
  obtain ⟨i, rfl, q⟩ := q1
  obtain ⟨t, rfl⟩ := r1
  exact ⟨some i, H1, I1, .int i t, q⟩
/-- what a slice of a value is, by values: the slice object stands at sl -/
def SlR (X : Cx) (r : V → Option Int → Option Int → Hp → VK → Prop) : Prop :=
  ∀ (pins : List (Addr × Obj)) (s : Shared) (σ : St) (H : Hp) (x : V) (v vl vu : Value) (lo hi : Option Int) (sl : Addr) (Q : VK), Inv X pins σ H s → RelV x v → s.heap.IsSliceOf sl vl vu .none → IsPart vl lo → IsPart vu hi → r x lo hi H Q →
    ∃ T id, typeLookup (.type T) "__getitem__" = pure (some (.builtin id)) ∧ s.TypeIs v T ∧ wpAny (model X.prog X.w) X.A (getItem v (.ref sl)) (EP X pins σ Q) X.xe s
def tSl (r : V → Option Int → Option Int → Hp → VK → Prop) (te : TE) (tl th : TO) : TE := fun σ H Q => te σ H fun x H1 => tl σ H1 fun l H2 => th σ H2 fun u H3 => r x l u H3 Q
/-- a[lo:hi], any a -/
theorem pe_slice {r : V → Option Int → Option Int → Hp → VK → Prop} (hr : SlR X r) (he : PE X e te) (hl : PO X lo tl) (hu : PO X hi th) : PE X (.Subscript e (.Slice lo hi none p2) pos) (tSl r te tl th) := by
  intro pins s σ H Q I h
  refine Subscript_ (thn (he pins s σ H _ I h) fun v s1 ⟨x, H1, I1, r1, q1⟩ => ?_)
  refine wpAny_Slice (thn (hl pins s1 σ H1 _ I1 q1) fun vl s2 ⟨l, H2, I2, pl, q2⟩ => thn (hu pins s2 σ H2 _ I2 q2) fun vu s3 ⟨u, H3, I3, pu, q3⟩ => ?_)
  rw [evalPart_none]
  refine wpAny_pure ?_
  have I4 : Inv X pins σ H3 { s3 with heap := s3.heap.push { cls := .type "slice", data := .fields #[vl, vu, .none] } } := I3.kept (t' := s3.toks) fun b ob q => Heap.get?_push_of_some _ q
  obtain ⟨T, id, hT, ht, hg⟩ := hr pins { s3 with heap := s3.heap.push { cls := .type "slice", data := .fields #[vl, vu, .none] } } σ H3 x v vl vu l u s3.heap.objs.size Q I4 r1 (Heap.IsSliceOf.new ..) pl pu q3
  show wpAny (model X.prog X.w) X.A (subscriptTail e (.Slice lo hi none p2) v (.ref s3.heap.objs.size)) (EP X pins σ Q) X.xe { s3 with heap := s3.heap.push { cls := .type "slice", data := .fields #[vl, vu, .none] } }
  exact tail_any (ops := [.ref s3.heap.objs.size, v]) ht hT hg (by with_unfolding_all rfl)
/-- the items of xs[lo:hi] -/
def cutV (xs : List V) (lo hi : Option Int) : List V := (xs.drop (HT.sIx xs.length 0 lo)).take (HT.sIx xs.length xs.length hi - HT.sIx xs.length 0 lo)
theorem cutV_length (xs : List V) (lo hi : Option Int) : (cutV xs lo hi).length ≤ xs.length := by
  unfold cutV
  rw [List.length_take, List.length_drop]
  (first | lia | omega)
end
end L2
namespace L2
open PySem PySem.Spec PyProof.Rows
/-! ### places -/
/-- the place that an index of any sign means -/
def ixN (n : Nat) (i : Int) : Option Nat := if 0 ≤ i then (if i < n then some i.toNat else none) else if -(n : Int) ≤ i then some (i + n).toNat else none
def atI {α : Type} (xs : List α) (i : Int) : Option α := (ixN xs.length i).bind fun j => xs[j]?
theorem ixN_seq {n : Nat} {i : Int} {j : Nat} (h : ixN n i = some j) : seqIndex? i n = some j ∧ j < n ∧ -(n : Int) ≤ i ∧ i < n := by
  unfold ixN at h
  by_cases h0 : 0 ≤ i
  · rw [if_pos h0] at h
    by_cases h1 : i < n
    · rw [if_pos h1] at h
      have e : i.toNat = j := Option.some.inj h
      exact ⟨by rw [seqIndex_of h0 h1, e], by omega, by omega, h1⟩
    · rw [if_neg h1] at h; cases h
  · rw [if_neg h0] at h
    by_cases h1 : -(n : Int) ≤ i
    · rw [if_pos h1] at h
      have e : (i + n).toNat = j := Option.some.inj h
      exact ⟨by rw [seqIndex_neg (by omega) h1, e], by omega, h1, by omega⟩
    · rw [if_neg h1] at h; cases h
theorem atI_get {α : Type} {xs : List α} {i : Int} {v : α} (h : atI xs i = some v) : ∃ j, seqIndex? i xs.length = some j ∧ xs[j]? = some v ∧ j < xs.length ∧ -(xs.length : Int) ≤ i ∧ i < xs.length := by
  unfold atI at h
  cases e : ixN xs.length i with
  | none => rw [e] at h; cases h
  | some j =>
    rw [e] at h
    obtain ⟨h1, h2, h3, h4⟩ := ixN_seq e
    exact ⟨j, h1, h, h2, h3, h4⟩
theorem atI_nat {α : Type} {xs : List α} {j : Nat} {v : α} (h : xs[j]? = some v) : atI xs (j : Int) = some v := by
  have hj : j < xs.length := (List.getElem?_eq_some_iff.mp h).1
  have e : ixN xs.length (j : Int) = some j := by
    unfold ixN
    rw [if_pos (by omega), if_pos (by omega)]; simp
  unfold atI; rw [e]; exact h
theorem atI_last {α : Type} (xs : List α) (v : α) : atI (xs ++ [v]) (-1) = some v := by
  have hl : (xs ++ [v]).length = xs.length + 1 := by simp
  have e : ixN (xs ++ [v]).length (-1) = some xs.length := by
    unfold ixN
    rw [hl, if_neg (by decide), if_pos (by omega)]
    congr 1
    (first | lia | omega)
  unfold atI
  rw [e]
  show (xs ++ [v])[xs.length]? = some v
  simp
/-! ### what may be subscripted -/
/-- what stands as an index of a plain subscript -/
def PlainIx (b : Expr) : Prop := ∀ o i, subscripted b false o i = operate [o, i] (getItem o i)
/-- a subscript by values -/
def IxR (X : Cx) (r : R2) : Prop :=
  ∀ (value slice : Expr) (pins : List (Addr × Obj)) (s : Shared) (σ : St) (H : Hp) (x y : V) (v u : Value) (Q : VK), Inv X pins σ H s → RelV x v → RelV y u → r x y H Q →
    subscripted slice false v u = operate [v, u] (getItem v u) → wpAny (model X.prog X.w) X.A (subscriptTail value slice v u) (EP X pins σ Q) X.xe s
/-- a call of a builtin's method by values: the receiver, the arguments -/
def MtR (X : Cx) (id : String) (r : V → List V → Hp → VK → Prop) : Prop :=
  ∀ (pins : List (Addr × Obj)) (s : Shared) (σ : St) (H : Hp) (x : V) (xs : List V) (v : Value) (us : List Value) (Q : VK), Inv X pins σ H s → RelV x v → Vals xs us → r x xs H Q →
    wpAny (model X.prog X.w) X.A (call (.builtin id) (v :: us)) (EP X pins σ Q) X.xe s
section
variable {X : Cx} {a b : Expr} {ta tb : TE} {pos : Pos}
/-- a[b] -/
theorem pe_ix {r : R2} (hr : IxR X r) (ha : PE X a ta) (hb : PE X b tb) (hs : PlainIx b) : PE X (.Subscript a b pos) (tOp r ta tb) := by
  intro pins s σ H Q I h
  exact Subscript_ (binT ha hb I h fun v u s2 x y H2 I2 rx ry q => hr a b pins s2 σ H2 x y v u Q I2 rx ry q (hs _ _))
def rIxL (K : PySem.W.Frag) : R2 := fun x y H Q => ∃ p xs i v, x = .ref p ∧ y = .int i ∧ SqL K H p xs ∧ atI xs i = some v ∧ Q v H
def rIxT (K : PySem.W.Frag) : R2 := fun x y H Q => ∃ p xs i v, x = .ref p ∧ y = .int i ∧ SqT K H p xs ∧ atI xs i = some v ∧ Q v H
theorem ix_list : IxR X (rIxL X.K) := by
  intro value slice pins s σ H x y v u Q I rx ry h hs
  obtain ⟨p, xs, i, z, rfl, rfl, hq, he, q⟩ := h
  cases rx
  obtain ⟨t, rfl⟩ := ry
  obtain ⟨its, r, pl, hz⟩ := I.list hq
  obtain ⟨j, h1, h2, h3, h4, h5⟩ := atI_get he
  obtain ⟨w, ew, rw'⟩ := r.get h2
  have hl := r.length
  have hn := line63
  have fin : EP X pins σ Q w s := ⟨z, H, I, rw', q⟩
  by_cases h0 : 0 ≤ i
  · have hj : i.toNat = j := by
      rw [seqIndex_of h0 h5] at h1
      exact Option.some.inj h1
    exact item_listR pl.isList h0 (by omega) (by rw [hj]; simpa using ew) fin hs
  · have hj : (i + (its.toArray.size : Int)).toNat = j := by
      rw [seqIndex_neg (by omega) h4] at h1
      rw [List.size_toArray, ← hl]
      exact Option.some.inj h1
    exact subscriptTail_builtinR (x := w) pl.isList.typeIs slot_list_getitem.lookup
      (wpAny_getItem_list_neg (Q := fun r s' => r = w ∧ EP X pins σ Q r s') pl.isList (by omega) (by rw [List.size_toArray] <;> omega) (by omega) (by rw [hj]; simpa using ew) ⟨rfl, fin⟩) hs
theorem ix_tup : IxR X (rIxT X.K) := by
  intro value slice pins s σ H x y v u Q I rx ry h hs
  obtain ⟨p, xs, i, z, rfl, rfl, hq, he, q⟩ := h
  cases rx
  obtain ⟨t, rfl⟩ := ry
  obtain ⟨its, r, pl, hz⟩ := I.tuple hq
  obtain ⟨j, h1, h2, h3, h4, h5⟩ := atI_get he
  obtain ⟨w, ew, rw'⟩ := r.get h2
  have hl := r.length
  have hn := line63
  have fin : EP X pins σ Q w s := ⟨z, H, I, rw', q⟩
  exact subscriptTail_builtinR (x := w) pl.typeIs slot_tuple_getitem.lookup
    (getItem_tuple (j := j) (Q := fun r s' => r = w ∧ EP X pins σ Q r s') pl (by omega) (by omega) (by rw [List.size_toArray, ← hl]; exact h1) (by simpa using ew) ⟨rfl, fin⟩) hs
/-! ### xs[i] = v, any sign -/
/-- the list's object behind a store -/
theorem mapSeq_set (its : List Value) (n j : Nat) (u : Value) : Obj.mapSeq (·.setIfInBounds j u) { cls := .type "list", data := .seq its.toArray n } = { cls := .type "list", data := .seq (its.set j u).toArray n } := by
  simp [Obj.mapSeq]
theorem Inv.lst {pins : List (Addr × Obj)} {σ : St} {H : Hp} {s : Shared} {p : Addr} {xs : List V} (I : Inv X pins σ H s) (h : H p = some (.lst xs)) :
    ∃ (its : List Value) (n : Nat), Vals xs its ∧ s.heap.get? p = some { cls := .type "list", data := .seq its.toArray n } ∧ xs.length ≤ sizeLine := by
  obtain ⟨z, its, n, r, e⟩ := I.hok p _ h
  exact ⟨its, n, r, e, z⟩
/-- the list at p is written by an update of its object -/
theorem Inv.lstUpd {pins : List (Addr × Obj)} {σ : St} {H : Hp} {s : Shared} {p : Addr} {xs ys : List V} {its its' : List Value} {n n' : Nat} {f : Obj → Obj} (I : Inv X pins σ H s) (h : H p = some (.lst xs))
    (ho : s.heap.get? p = some { cls := .type "list", data := .seq its.toArray n }) (hf : f { cls := .type "list", data := .seq its.toArray n } = { cls := .type "list", data := .seq its'.toArray n' }) (r : Vals ys its') (hz : ys.length ≤ sizeLine) (t : Nat) :
    Inv X pins σ (upd H p (.lst ys)) { s with heap := s.heap.update p f, toks := t } := by
  have e : (s.heap.update p f).get? p = some { cls := .type "list", data := .seq its'.toArray n' } := by
    rw [Heap.get?_update_self f ho (by rw [hf] <;> rfl), hf]
  refine I.write (x := p) (e := p) (by rw [h]; trivial) (.inl rfl) (fun b u hb q => (Heap.get?_update_other _ _ (Ne.symm hb)).trans q) ⟨_, e⟩ ?_
  exact ⟨hz, its', n', r, e⟩
def rSetL : V → V → V → Hp → (Hp → Prop) → Prop := fun o i v H Q => ∃ p xs k j, o = .ref p ∧ i = .int k ∧ H p = some (.lst xs) ∧ ixN xs.length k = some j ∧ Q (upd H p (.lst (xs.set j v)))
theorem set_list : PSet X rSetL := by
  intro pins s σ H o i v ov iv u Q I ro ri rv h
  obtain ⟨p, xs, k, j, rfl, rfl, hp, hj, q⟩ := h
  cases ro
  obtain ⟨t, rfl⟩ := ri
  obtain ⟨its, n, r, ho, hz⟩ := I.lst hp
  obtain ⟨h1, h2, h3, h4⟩ := ixN_seq hj
  have hl := r.length
  have hn := line63
  have I' : Inv X pins σ (upd H p (.lst (xs.set j v))) { s with heap := s.heap.update p (Obj.mapSeq (·.setIfInBounds j u)) } :=
    I.lstUpd hp ho (mapSeq_set its n j u) (r.set rv j) (by rw [List.length_set]; exact hz) s.toks
  by_cases h0 : 0 ≤ k
  · have hk : k.toNat = j := by
      rw [seqIndex_of h0 h4] at h1
      exact Option.some.inj h1
    exact PySem.W.ki_setAt ho h0 (by omega) (by rw [List.size_toArray, ← hl]; exact h4) (by rw [hk]; exact ⟨_, I', q⟩)
  · have hk : (k + (its.toArray.size : Int)).toNat = j := by
      rw [seqIndex_neg (by omega) h3] at h1
      rw [List.size_toArray, ← hl]
      exact Option.some.inj h1
    exact PySem.W.ki_setBack ho (by omega) (by rw [List.size_toArray, ← hl]; exact h3) (by omega) (by rw [hk]; exact ⟨_, I', q⟩)
/-! ### slices -/
theorem slice_bounds (lo hi : Option Int) (n : Nat) : (sliceBounds lo hi none n).1 = ((HT.sIx n 0 lo : Nat) : Int) ∧ (sliceBounds lo hi none n).2.1 = ((HT.sIx n n hi : Nat) : Int) ∧ (sliceBounds lo hi none n).2.2 = 1 := by
  refine ⟨?_, ?_, rfl⟩
  · cases lo with
    | none => simp [sliceBounds, HT.sIx]
    | some i =>
      simp only [sliceBounds, HT.sIx, Option.getD_none, show (1 : Int) > 0 by decide, if_true]
      by_cases h : i < 0
      · simp only [h, if_true] <;> (first | lia | omega)
      · simp only [h, if_false] <;> (first | lia | omega)
  · cases hi with
    | none => simp [sliceBounds, HT.sIx]
    | some i =>
      simp only [sliceBounds, HT.sIx, Option.getD_none, show (1 : Int) > 0 by decide, if_true]
      by_cases h : i < 0
      · simp only [h, if_true] <;> (first | lia | omega)
      · simp only [h, if_false] <;> (first | lia | omega)
theorem slicePick_cut (its : List Value) (lo hi : Option Int) : slicePick its.toArray lo hi none = ((its.drop (HT.sIx its.length 0 lo)).take (HT.sIx its.length its.length hi - HT.sIx its.length 0 lo)).toArray := by
  obtain ⟨h1, h2, h3⟩ := slice_bounds lo hi its.toArray.size
  unfold slicePick
  rw [h1, h2, h3]
  simp only [sliceRange_one, pick_run, List.size_toArray] <;> rfl
/-- xs[lo:hi] of a list: a new list -/
def rSlL (K : PySem.W.Frag) : V → Option Int → Option Int → Hp → VK → Prop := fun x lo hi H Q => ∃ a xs, x = .ref a ∧ SqL K H a xs ∧ ∀ p, H p = none → Q (.ref p) (upd H p (.lst (cutV xs lo hi)))
theorem sl_list : SlR X (rSlL X.K) := by
  intro pins s σ H x v vl vu lo hi sl Q I rx hs pl pu h
  obtain ⟨a, xs, rfl, hx, q⟩ := h
  cases rx
  obtain ⟨its, r, ht, hz⟩ := I.list hx
  have hlen := r.length
  refine ⟨"list", _, slot_list_getitem.lookup, ht.isList.typeIs, ?_⟩
  refine wpAny_getItem_list_slice ht.isList hs pl pu .none (by simp) ?_ (by rw [List.size_toArray] <;> omega)
  rw [slicePick_cut, ← hlen]
  refine ⟨.ref s.heap.objs.size, _, I.laid (t' := s.toks) (o := .lst (cutV xs lo hi)) (fun b ob q => Heap.get?_push_of_some _ q) (Nat.le_refl _) ?_, rfl, q _ (I.hok.fresh (Nat.le_refl _))⟩
  exact ⟨Nat.le_trans (cutV_length xs lo hi) hz, _, 0, (r.drop (HT.sIx xs.length 0 lo)).take (HT.sIx xs.length xs.length hi - HT.sIx xs.length 0 lo), Heap.get?_push_size _ rfl⟩
/-! ### in, not in: flat items -/
def flatV : V → Bool
  | .non => true
  | .bl _ => true
  | .int _ => true
  | .str _ => true
  | _ => false
/-- == of flat values -/
def eqV : V → V → Bool
  | .non, .non => true
  | .bl a, .bl b => a == b
  | .bl a, .int b => (if a then 1 else 0) == b
  | .int a, .bl b => a == (if b then 1 else 0)
  | .int a, .int b => a == b
  | .str a, .str b => a == b
  | _, _ => false
theorem eqAt_V {A : Around} {s : Shared} {y x : V} {u v : Value} (ry : RelV y u) (rx : RelV x v) (fy : flatV y = true) (fx : flatV x = true) : SeqAt.EqAt A s u v (eqV y x) := by
  cases y with
  | non =>
    cases ry
    cases x with
    | non => cases rx; exact SeqAt.EqAt.same _
    | bl b => cases rx; exact SeqAt.EqAt.none_bool b
    | int b => obtain ⟨t, rfl⟩ := rx; exact SeqAt.EqAt.none_int b t
    | str b => obtain ⟨t, rfl⟩ := rx; exact SeqAt.EqAt.none_str b t
    | _ => exact absurd (show false = true from fx) Bool.false_ne_true
  | bl a =>
    cases ry
    cases x with
    | non => cases rx; exact SeqAt.EqAt.bool_none a
    | bl b => cases rx; exact SeqAt.EqAt.bool_bool a b
    | int b => obtain ⟨t, rfl⟩ := rx; exact SeqAt.EqAt.bool_int a b t
    | str b => obtain ⟨t, rfl⟩ := rx; exact SeqAt.EqAt.bool_str a b t
    | _ => exact absurd (show false = true from fx) Bool.false_ne_true
  | int a =>
    obtain ⟨t', rfl⟩ := ry
    cases x with
    | non => cases rx; exact SeqAt.EqAt.int_none a t'
    | bl b => cases rx; exact SeqAt.EqAt.int_bool a t' b
    | int b => obtain ⟨t, rfl⟩ := rx; exact SeqAt.EqAt.int_int a t' b t
    | str b => obtain ⟨t, rfl⟩ := rx; exact SeqAt.EqAt.int_str a t' b t
    | _ => exact absurd (show false = true from fx) Bool.false_ne_true
  | str a =>
    obtain ⟨t', rfl⟩ := ry
    cases x with
    | non => cases rx; exact SeqAt.EqAt.str_none a t'
    | bl b => cases rx; exact SeqAt.EqAt.str_bool a t' b
    | int b => obtain ⟨t, rfl⟩ := rx; exact SeqAt.EqAt.str_int a t' b t
    | str b => obtain ⟨t, rfl⟩ := rx; exact SeqAt.EqAt.str_str a t' b t
    | _ => exact absurd (show false = true from fx) Bool.false_ne_true
  | _ => exact absurd (show false = true from fy) Bool.false_ne_true
/-- the items' answers, read off the values (a value's own answer does not lean on its token) -/
def eqU (x : V) (u : Value) : Bool := match u with
  | .none => eqV .non x
  | .bool b => eqV (.bl b) x
  | .int i _ => eqV (.int i) x
  | .str z _ => eqV (.str z) x
  | _ => false
theorem eqU_of {x y : V} {u : Value} (r : RelV y u) (f : flatV y = true) : eqU x u = eqV y x := by
  cases y with
  | non => cases r; rfl
  | bl b => cases r; rfl
  | int i => obtain ⟨t, rfl⟩ := r; rfl
  | str z => obtain ⟨t, rfl⟩ := r; rfl
  | _ => exact absurd (show false = true from f) Bool.false_ne_true
theorem any_eqU {x : V} : ∀ {xs : List V} {us : List Value}, Vals xs us → xs.all flatV = true → us.any (eqU x) = xs.any fun y => eqV y x
  | _, _, .nil, _ => rfl
  | y :: xs, u :: us, .cons r t, f => by
    rw [List.all_cons, Bool.and_eq_true] at f
    rw [List.any_cons, List.any_cons, eqU_of r f.1, any_eqU t f.2]
theorem mem_eqAt {A : Around} {s : Shared} {x : V} {v : Value} (rx : RelV x v) (fx : flatV x = true) : ∀ {xs : List V} {us : List Value}, Vals xs us → xs.all flatV = true → ∀ u ∈ us, SeqAt.EqAt A s u v (eqU x u)
  | _, _, .nil, _ => fun u hu => by cases hu
  | y :: xs, u :: us, .cons r t, f => fun u' hu => by
    rw [List.all_cons, Bool.and_eq_true] at f
    rcases List.mem_cons.mp hu with rfl | hu
    · rw [eqU_of r f.1]; exact eqAt_V r rx f.1 fx
    · exact mem_eqAt rx fx t f.2 u' hu
def inV (x : V) (xs : List V) : Bool := xs.any fun y => eqV y x
/-- x in a list or tuple of flat items -/
def rIn (K : PySem.W.Frag) (neg : Bool) : R2 := fun x y H Q => ∃ p xs, y = .ref p ∧ (SqL K H p xs ∨ SqT K H p xs) ∧ flatV x = true ∧ xs.all flatV = true ∧ Q (.bl (if neg then !inV x xs else inV x xs)) H
theorem op_notIn_seq : OpR X (compareOp .NotIn) (rIn X.K true) := by
  intro pins s σ H x y v u Q I rx ry h
  obtain ⟨p, xs, rfl, hq, fx, fs, q⟩ := h
  cases ry
  rcases hq with hq | hq
  · obtain ⟨its, r, pl, hz⟩ := I.list hq
    refine SeqAt.notIn_listAt (eqU x) pl.isList (fun w hw => mem_eqAt rx fx r fs w (by simpa using hw)) ⟨.bl _, H, I, rfl, ?_⟩
    rw [show its.toArray.any (eqU x) = its.any (eqU x) by simp, any_eqU r fs]
    exact q
  · obtain ⟨its, r, pl, hz⟩ := I.tuple hq
    refine SeqAt.notIn_tupleAt (eqU x) pl (fun w hw => mem_eqAt rx fx r fs w (by simpa using hw)) ⟨.bl _, H, I, rfl, ?_⟩
    rw [show its.toArray.any (eqU x) = its.any (eqU x) by simp, any_eqU r fs]
    exact q
/-! ### len, list(x), tuple(x) of any list or tuple that is read -/
theorem call_len_seq : CallR X (.builtin "len") (fun xs H Q => ∃ p ys, xs = [.ref p] ∧ (SqL X.K H p ys ∨ SqT X.K H p ys) ∧ Q (.int ys.length) H) := by
  intro pins s σ H xs us Q I r h
  obtain ⟨p, ys, rfl, hq, q⟩ := h
  obtain ⟨u, rfl, rx⟩ := vals1 r
  cases rx
  have hn := line63
  rcases hq with hq | hq
  · obtain ⟨its, r', pl, hz⟩ := I.list hq
    have hlen := r'.length
    exact Calls.call_len_list pl.isList (by simp only [List.size_toArray] <;> omega) ⟨.int ys.length, H, I.tok _, ⟨s.toks + 1, by rw [List.size_toArray, hlen]⟩, q⟩
  · obtain ⟨its, r', pl, hz⟩ := I.tuple hq
    have hlen := r'.length
    exact len_tuple pl (by simp only [List.size_toArray] <;> omega) ⟨.int ys.length, H, I.tok _, ⟨s.toks + 1, by rw [List.size_toArray, hlen]⟩, q⟩
theorem call_list_of : CallR X (.type "list") (fun xs H Q => ∃ p ys, xs = [.ref p] ∧ (SqL X.K H p ys ∨ SqT X.K H p ys) ∧ ∀ l, H l = none → Q (.ref l) (upd H l (.lst ys))) := by
  intro pins s σ H xs us Q I r h
  obtain ⟨p, ys, rfl, hq, q⟩ := h
  obtain ⟨u, rfl, rx⟩ := vals1 r
  cases rx
  have fin : ∀ (its : List Value), Vals ys its → ys.length ≤ sizeLine → ∀ (h' : Heap) (c' : Nat), (∀ b o', s.heap.get? b = some o' → h'.get? b = some o') →
      h'.get? s.heap.objs.size = some { cls := .type "list", dict := none, data := .seq its.toArray c', slots := #[] } → EP X pins σ Q (.ref s.heap.objs.size) { s with heap := h' } := fun its r' hz h' c' kp e =>
    ⟨.ref s.heap.objs.size, _, I.laid (t' := s.toks) kp (Nat.le_refl _) (show ObjOk X.prog X.w _ h' _ (.lst ys) from ⟨hz, its, c', r', e⟩), rfl, q _ (I.hok.fresh (Nat.le_refl _))⟩
  rcases hq with hq | hq
  · obtain ⟨its, r', pl, hz⟩ := I.list hq
    have hlen := r'.length
    obtain ⟨o, ho, hc, n, hd⟩ := pl.isList
    exact call_list_seq p (.inl rfl) ho hc hd (fun h' c' kp e => fin its r' hz h' c' kp e) (by simp only [List.size_toArray] <;> omega)
  · obtain ⟨its, r', pl, hz⟩ := I.tuple hq
    have hlen := r'.length
    obtain ⟨o, ho, hc, n, hd⟩ := pl
    exact call_list_seq p (.inr rfl) ho hc hd (fun h' c' kp e => fin its r' hz h' c' kp e) (by simp only [List.size_toArray] <;> omega)
/-! ### the call of a builtin's method: o.m(..) -/
/-- the value is of that builtin type -/
def tyV (K : PySem.W.Frag) (T : String) (x : V) (H : Hp) : Prop := match x with
  | .str _ => T = "str"
  | .int _ => T = "int"
  | .ref p => (T = "list" ∧ ∃ xs, SqL K H p xs) ∨ (T = "tuple" ∧ ∃ o, K.lookup p = some o ∧ o.cls = .type "tuple" ∧ o.dict = none) ∨
      (T = "dict" ∧ ((∃ kvs, H p = some (.dK kvs)) ∨ ∃ kvs, H p = some (.dT kvs))) ∨ (T = "set" ∧ ∃ S n, H p = some (.set S n))
  | _ => False
theorem tyV_is {pins : List (Addr × Obj)} {σ : St} {H : Hp} {s : Shared} {T : String} {x : V} {v : Value} (I : Inv X pins σ H s) (r : RelV x v) (ty : tyV X.K T x H) :
    s.TypeIs v T ∧ ∀ a, v = .ref a → ∃ ob, s.heap.get? a = some ob ∧ ob.dict = none := by
  cases x with
  | str z =>
    obtain ⟨t, rfl⟩ := r
    cases (show T = "str" from ty)
    exact ⟨typeIs_str s z t, fun _ e => nomatch e⟩
  | int i =>
    obtain ⟨t, rfl⟩ := r
    cases (show T = "int" from ty)
    exact ⟨typeIs_int s i t, fun _ e => nomatch e⟩
  | ref p =>
    cases r
    rcases ty with ⟨rfl, xs, hq⟩ | ⟨rfl, o, hk, hc, hd⟩ | ⟨rfl, hk⟩ | ⟨rfl, S, n, hk⟩
    · obtain ⟨its, _, pl, _⟩ := I.list hq
      refine ⟨pl.isList.typeIs, fun a e => ?_⟩
      cases e
      obtain ⟨o, n, e, c, hd, _⟩ := pl
      exact ⟨o, e, hd⟩
    · refine ⟨⟨o, I.kIn p o hk, hc⟩, fun a e => ?_⟩
      cases e
      exact ⟨o, I.kIn _ o hk, hd⟩
    · have z : ∃ o, s.heap.get? p = some o ∧ o.ExactDict := by
        rcases hk with ⟨kvs, hk⟩ | ⟨kvs, hk⟩
        · obtain ⟨_, _, _, _, o, _, _, e, ex, _⟩ := I.hok p _ hk
          exact ⟨o, e, ex⟩
        · obtain ⟨_, _, _, _, o, _, _, e, ex, _⟩ := I.hok p _ hk
          exact ⟨o, e, ex⟩
      obtain ⟨o, e, ex⟩ := z
      refine ⟨⟨o, e, ex.1⟩, fun a e2 => ?_⟩
      cases e2
      exact ⟨o, e, ex.2.1⟩
    · obtain ⟨o, _, _, _, e, ex, _⟩ := I.hok p _ hk
      refine ⟨⟨o, e, ex.1⟩, fun a e2 => ?_⟩
      cases e2
      exact ⟨o, e, ex.2.1⟩
  | _ => exact False.elim ty
def tBM (K : PySem.W.Frag) (T : String) (r : V → List V → Hp → VK → Prop) (to : TE) (t : TA) : TE := fun σ H Q => to σ H fun x H1 => tyV K T x H1 ∧ t σ H1 fun xs H2 => r x xs H2 Q
variable {o e : Expr} {es : List Expr} {to : TE} {t : TA} {name : Str} {apos cpos : Pos} {T id : String} {r : V → List V → Hp → VK → Prop}
theorem pe_bm (pa : PlainAttrs T) (slot : Slot T name id) (hty : typeOf (.builtin id) = pure (.type "method_descriptor")) (hm : MtR X id r) (ho : PE X o to) (ha : PA X (e :: es) t)
    (hbase : attributeBase o name X.env (eval o X.env) = eval o X.env := by rfl)
    (hfew : ((backTo cpos (starEach (e :: es) X.env)).all (fun x => !x.1) && (backToKw cpos (keywordEach [] X.env)).all (fun x => x.1.isSome)
      && decide ((e :: es).length + ([] : List Keyword).length + (if ([] : List Keyword).isEmpty then 0 else 1) < 30)) = true := by rfl)
    (hline : (apos.endLine == cpos.line) = true := by rfl) (hs : starEach (e :: es) X.env = (false, eval e X.env) :: starEach es X.env := by rfl) (hplain : (backTo cpos (starEach es X.env)).any (·.1) = false := by rfl) :
    PE X (.Call (.Attribute o name apos) (e :: es) [] cpos) (tBM X.K T r to t) := by
  intro pins s σ H Q I h
  refine wpAny_Call_method_late hbase hfew hline rfl (thn (ho pins s σ H _ I h) fun v s1 ⟨x, H1, I1, r1, ty, q1⟩ => ?_)
  obtain ⟨h1, h2⟩ := tyV_is I1 r1 ty
  refine ⟨T, id, pa, slot, hty, h1, h2, ?_⟩
  have hA := ha cpos pins s1 σ H1 _ I1 q1
  rw [hs] at hA ⊢
  refine Calls.callWith_builtin (by show (false || (backTo cpos (starEach es X.env)).any (·.1)) = false; rw [hplain] <;> rfl) (Calls.evalArgs_plain ?_)
  exact thn hA fun us s2 ⟨vs, H2, I2, r2, q2⟩ => hm pins s2 σ H2 x vs v us Q I2 r1 r2 q2
/- xs.append(e), list.index on a module's tuple .. are MtR facts of 06m -/
end
end L2
namespace L2
open PySem PySem.Spec PyProof.Rows
def MtM (X : Cx) (id : String) (r : V → List V → Hp → VK → Prop) : Prop :=
  ∀ (pins : List (Addr × Obj)) (s : Shared) (σ : St) (H : Hp) (x : V) (xs : List V) (v : Value) (us : List Value) (Q : VK), Inv X pins σ H s → RelV x v → Vals xs us → r x xs H Q →
    wpAny (model X.prog X.w) X.A (call (.builtin id) (v :: us)) (EP X pins σ Q) X.xe s
/-! ### lists of values -/
theorem Vals.one : ∀ {x : V} {us : List Value}, Vals [x] us → ∃ u, us = [u] ∧ RelV x u
  | _, _, .cons r .nil => ⟨_, rfl, r⟩
theorem Vals.eraseIdx : ∀ {xs : List V} {us : List Value} (i : Nat), Vals xs us → Vals (xs.eraseIdx i) (us.eraseIdx i)
  | _, _, _, .nil => .nil
  | _, _, 0, .cons _ t => t
  | _, _, i + 1, .cons r t => .cons r (Vals.eraseIdx i t)
theorem Vals.rep {xs : List V} {us : List Value} (h : Vals xs us) : ∀ k : Nat, Vals (List.replicate k xs).flatten (List.replicate k us).flatten
  | 0 => .nil
  | k + 1 => by
    rw [List.replicate_succ, List.replicate_succ, List.flatten_cons, List.flatten_cons]
    exact Vals.append h (Vals.rep h k)
theorem foldl_rep (its : List Value) : ∀ (k : Nat) (acc : List Value),
    List.foldl (fun x1 x2 => x1 ++ x2) acc.toArray (List.replicate k its.toArray) = (acc ++ (List.replicate k its).flatten).toArray
  | 0, acc => by simp
  | k + 1, acc => by
    have e : acc.toArray ++ its.toArray = (acc ++ its).toArray := by simp
    have e2 : (acc ++ its) ++ (List.replicate k its).flatten = acc ++ (List.replicate (k + 1) its).flatten := by
      rw [List.replicate_succ, List.flatten_cons, List.append_assoc]
    rw [← e2, ← foldl_rep its k (acc ++ its), ← e, List.replicate_succ, List.foldl_cons]
section
variable {X : Cx} {pins : List (Addr × Obj)} {σ : St} {H : Hp} {s : Shared} {l b : Addr} {xs ys zs : List V}
/-! ### the two steps: a tracked list is rewritten, a new list is laid -/
theorem Inv.lset {its its' : List Value} {n : Nat} {f : Array Value → Array Value} {t' : Nat} (I : Inv X pins σ H s) (hH : H l = some (.lst xs))
    (e : s.heap.get? l = some { cls := .type "list", data := .seq its.toArray n }) (hf : f its.toArray = its'.toArray) (hv : Vals ys its') (hz : ys.length ≤ sizeLine) :
    Inv X pins σ (upd H l (.lst ys)) { s with heap := s.heap.update l (Obj.mapSeq f), toks := t' } := by
  have q := PySem.IsL.update e f
  rw [hf] at q
  refine I.write (x := l) (e := l) (by rw [hH]; exact trivial) (.inl rfl) (fun b' u hb hu => (Heap.get?_update_other s.heap (Obj.mapSeq f) (Ne.symm hb)).trans hu) ⟨_, q⟩ ?_
  exact ⟨hz, its', _, hv, q⟩
theorem Inv.lnew {its : List Value} {t' : Nat} (I : Inv X pins σ H s) (hv : Vals ys its) (hz : ys.length ≤ sizeLine) :
    Inv X pins σ (upd H s.heap.objs.size (.lst ys)) { s with heap := s.heap.push { cls := .type "list", data := .seq its.toArray }, toks := t' } :=
  I.laid (fun _ _ q => Heap.get?_push_of_some _ q) (Nat.le_refl _) ⟨hz, its, 0, hv, Heap.get?_push_size _ rfl⟩
theorem Inv.fresh (I : Inv X pins σ H s) : H s.heap.objs.size = none := I.hok.fresh (Nat.le_refl _)
theorem Inv.lstM (I : Inv X pins σ H s) (hH : H l = some (.lst xs)) : xs.length ≤ sizeLine ∧ ∃ (its : List Value) (n : Nat), Vals xs its ∧ xs.length = its.length ∧ s.heap.get? l = some { cls := .type "list", data := .seq its.toArray n } := by
  obtain ⟨z, its, n, r, e⟩ := I.hok l _ hH
  exact ⟨z, its, n, r, r.length, e⟩
theorem notLongL {n : Nat} (h : n ≤ sizeLine) : Builtin.List.listTooLong n = false := by
  unfold Builtin.List.listTooLong
  exact decide_eq_false (by omega)
end
section
variable {X : Cx}
/-! ### methods -/
def rAppend : V → List V → Hp → VK → Prop := fun x vs H Q => ∃ l xs y, x = .ref l ∧ vs = [y] ∧ H l = some (.lst xs) ∧ xs.length < sizeLine ∧ Q .non (upd H l (.lst (xs ++ [y])))
theorem mt_append : MtM X "list.append" rAppend := by
  intro pins s σ H x vs v us Q I rx rv h
  obtain ⟨l, xs, y, rfl, rfl, hH, hz, q⟩ := h
  cases rx
  obtain ⟨u, rfl, ru⟩ := rv.one
  obtain ⟨z, its, n, r, hl, e⟩ := I.lstM hH
  refine call_meets F.slot_list_append ⟨_, e, rfl⟩ F.entry_list_append (F.args_list_append_2 _ _) (PySem.list_append l its.toArray n u (by rw [List.size_toArray]; omega)) ⟨e, ?_⟩
  refine ⟨.non, _, I.lset (its' := its ++ [u]) hH e (by simp) (r.append (.cons ru .nil)) ?_, rfl, q⟩
  rw [List.length_append, List.length_singleton]
  (first | lia | omega)
def rExtend : V → List V → Hp → VK → Prop := fun x vs H Q => ∃ l b xs zs, x = .ref l ∧ vs = [.ref b] ∧ H l = some (.lst xs) ∧ H b = some (.lst zs) ∧ xs.length + zs.length ≤ sizeLine ∧ Q .non (upd H l (.lst (xs ++ zs)))
theorem mt_extend : MtM X "list.extend" rExtend := by
  intro pins s σ H x vs v us Q I rx rv h
  obtain ⟨l, b, xs, zs, rfl, rfl, hH, hB, hz, q⟩ := h
  cases rx
  obtain ⟨u, rfl, ru⟩ := rv.one
  cases ru
  obtain ⟨z, its, n, r, hl, e⟩ := I.lstM hH
  obtain ⟨z2, its2, n2, r2, hl2, e2⟩ := I.lstM hB
  have hsz : its.toArray.size + its2.toArray.size ≤ sizeLine := by rw [List.size_toArray, List.size_toArray]; (first | lia | omega)
  have hlong : ¬ (!its.toArray.isEmpty && Builtin.List.listTooLong (its.toArray.size + its2.toArray.size)) = true := by
    rw [notLongL hsz, Bool.and_false]
    exact Bool.false_ne_true
  refine call_meets F.slot_list_extend ⟨_, e, rfl⟩ F.entry_list_extend (F.args_list_extend_2 _ _)
    (AutoSeq1.list_extend_list_list_0 l its.toArray n b its2.toArray n2 hlong (by rw [List.size_toArray]; omega) (by omega)) ⟨e, e2, ?_⟩
  refine ⟨.non, _, I.lset (its' := its ++ its2) hH e (by simp) (r.append r2) ?_, rfl, q⟩
  rw [List.length_append]
  (first | lia | omega)
/-! ### list + list, list += list, list * int -/
def rCat : R2 := fun x y H Q => ∃ l b xs zs, x = .ref l ∧ y = .ref b ∧ H l = some (.lst xs) ∧ H b = some (.lst zs) ∧ xs.length + zs.length ≤ sizeLine ∧ ∀ p, H p = none → Q (.ref p) (upd H p (.lst (xs ++ zs)))
theorem op_cat : OpR X (binaryOp .Add) rCat := by
  intro pins s σ H x y v u Q I rx ry h
  obtain ⟨l, b, xs, zs, rfl, rfl, hH, hB, hz, q⟩ := h
  cases rx
  cases ry
  obtain ⟨z, its, n, r, hl, e⟩ := I.lstM hH
  obtain ⟨z2, its2, n2, r2, hl2, e2⟩ := I.lstM hB
  refine PySem.P.add_list e e2 ?_ (by rw [List.size_toArray, List.size_toArray]; omega)
  have ea : its.toArray ++ its2.toArray = (its ++ its2).toArray := by simp
  rw [ea]
  exact ⟨.ref _, _, I.lnew (t' := s.toks) (r.append r2) (by rw [List.length_append]; omega), rfl, q _ I.fresh⟩
/-- a list times an int (a negative one is nothing) -/
def rRep : R2 := fun x y H Q => ∃ l k xs, x = .ref l ∧ y = .int k ∧ H l = some (.lst xs) ∧ -(2 ^ 63) ≤ k ∧ k < 2 ^ 63 ∧ xs.length * k.toNat ≤ sizeLine ∧
  ∀ p, H p = none → Q (.ref p) (upd H p (.lst (List.replicate k.toNat xs).flatten))
theorem len_rep {α : Type} (xs : List α) (k : Nat) : (List.replicate k xs).flatten.length = k * xs.length := by
  induction k with
  | zero => simp
  | succ k ih => rw [List.replicate_succ, List.flatten_cons, List.length_append, ih, Nat.succ_mul, Nat.add_comm]
theorem op_rep : OpR X (binaryOp .Mult) rRep := by
  intro pins s σ H x y v u Q I rx ry h
  obtain ⟨l, k, xs, rfl, rfl, hH, h1, h2, hz, q⟩ := h
  cases rx
  obtain ⟨t, rfl⟩ := ry
  obtain ⟨z, its, n, r, hl, e⟩ := I.lstM hH
  have hlen : its.toArray.size * k.toNat ≤ sizeLine := by rw [List.size_toArray, ← hl]; exact hz
  have hcap : ¬ its.toArray.size * k.toNat > (2 ^ 63 - 1) / 8 := by
    have : (sizeLine : Nat) ≤ (2 ^ 63 - 1) / 8 := by decide
    (first | lia | omega)
  have hfit : ¬ (!Builtin.List.listFitsIndex k) = true := by
    rw [fitsIndex_both h1 h2]
    exact Bool.false_ne_true
  have hlong : ¬ Builtin.List.listTooLong (its.toArray.size * k.toNat) = true := by
    rw [notLongL hlen]
    exact Bool.false_ne_true
  have hnew : List.foldl (fun x1 x2 => x1 ++ x2) #[] (List.replicate (if its.toArray.isEmpty = true then 0 else k.toNat) its.toArray) = (List.replicate k.toNat its).flatten.toArray := by
    have f0 : ∀ m : Nat, List.foldl (fun x1 x2 => x1 ++ x2) #[] (List.replicate m its.toArray) = (List.replicate m its).flatten.toArray := fun m => by
      have := foldl_rep its m []
      rw [List.nil_append] at this
      exact this
    rw [f0]
    cases its with
    | nil => simp
    | cons a r' => rw [if_neg (by simp)]
  refine wpAny_binaryOp_repeat_ref (T := "list") (U := "int") (by decide) ⟨_, e, rfl⟩ (fun s' => typeIs_int s' k t) noFill_list_mul F.fills_int_mul F.slot_int_rmul repeat_list F.slot_int_index.lookup
    (call_meets F.slot_int_rmul (typeIs_int s k t) F.entry_int_rmul (F.args_int_rmul_2 _ _) (int___rmul___int_list k t l its.toArray n)
      ⟨e, rfl, ⟨_, e, rfl⟩, call_meets F.slot_list_mul ⟨_, e, rfl⟩ F.entry_list_mul (F.args_list_mul_2 _ _) (AutoListH.list___mul___list_int_3 l its.toArray n k t hfit hcap hlong) ⟨e, ?_⟩⟩)
  rw [hnew]
  exact ⟨.ref _, _, I.lnew (t' := s.toks) (r.rep k.toNat) (by rw [len_rep, Nat.mul_comm]; exact hz), rfl, q _ I.fresh⟩
end
/-! ### xs[a:b] = ys -/
section
variable {prog : Program} {w : World} {A : Around} {E : Value → Shared → Prop} {s : Shared}
end
section
variable {X : Cx}
end
end L2
namespace Att
open PySem PySem.W PySem.Calls PyProof.Rows
/-! ### the script -/
theorem ints_of_wellAll {P : Params} {h : Heap} : ∀ (ns : List Int) (vs : List Value), WellAll P h vs (ns.map WData.int) → IntsAre vs ns := by
  intro ns
  induction ns with
  | nil =>
    intro vs w
    rw [List.map_nil] at w
    cases w
    exact .nil
  | cons n ns ih =>
    intro vs w
    rw [List.map_cons] at w
    cases w with
    | cons a b =>
      cases a
      exact .cons _ _ (ih _ b)
theorem script_of {l : OpenLaw} {n : Nat} (hn : l.most = some n) {P : Params} {h : Heap} {args : List WData} {vals : List Value}
    (hpre : l.row.toRowW.claim.pre args = true) (hwl : WellAll P h vals args) :
    ∃ a vs ns, vals = [Value.ref a] ∧ args = [WData.list (ns.map WData.int)] ∧ h.get? a = some { cls := .type "list", data := .seq vs.toArray } ∧ IntsAre vs ns ∧ ns.length ≤ n := by
  have hsh : WShape.hasAll [] args [.list .int] = true := (pre_splitW hpre).1
  have hc : l.pre.holds [] { args := args } = true := (pre_splitW hpre).2
  obtain ⟨d, r, rfl, h1, h2⟩ := hasAllW_cons hsh
  obtain rfl := hasAllW_nil h2
  obtain ⟨xs, rfl, h3⟩ := hasW_list h1
  obtain ⟨ns, rfl⟩ := items_int h3
  have hlen : ns.length ≤ n := by
    unfold OpenLaw.pre at hc
    have h4 : (WTm.not (.lt (.lit (.int (n : Int))) (.len (.arg 0)))).holds [] { args := [.list (ns.map .int)] } = true := by
      have h4 := (holds_andW hc).1
      rw [hn] at h4
      exact h4
    have h5 := condW_of h4 (w_not (w_lt w_lit (w_len_list (w_arg rfl))))
    rw [List.length_map] at h5
    refine Nat.le_of_not_lt fun q => ?_
    have q' : (n : Int) < ((ns.length : Nat) : Int) := by omega
    first
      | (rw [decide_eq_true q'] at h5; exact absurd h5 (by decide))
      | (simp at h5; omega)
  cases hwl with
  | cons w1 w2 =>
    cases w2
    cases w1 with
    | list ho hall => exact ⟨_, _, ns, rfl, rfl, ho, ints_of_wellAll ns _ hall, hlen⟩
theorem post_true (l : OpenLaw) (args : List WData) : l.row.toRowW.claim.post args (.bool true) args = true :=
  postW_of (r := l.row.toRowW) (X := (true == true))
    (show WShape.has [] (.bool true) .bool = true by first | rfl | decide | simp [WShape.has, WShape.arms, WShape.armsAll])
    (show (WTm.eq .res (.lit (.bool true))).value [] { args := args, res := some (.bool true), after := args } = some (.bool (true == true)) from w_eq_bool (w_res rfl) w_lit) rfl
/-- the same from a codeAny of the CALL (for a layer whose function contracts speak of calls) -/
theorem attach_call {l : OpenLaw} {n : Nat} {q : Program} {loose : List Str} {XP : (Str → Option Value) → Heap → Prop} {YP : World → Heap → Prop} {d : DefRec}
    (hn : l.most = some n) (hdf : d.params.defaults = [])
    (call : ∀ (w : World) (s₀ s₁ : Shared) (mg mb : Str → Option Value) (fa : Addr) (o : Obj) (pm cd doc : Value) (a : Addr) (vs : List Value) (ns : List Int),
      Ground q loose [] XP w s₀ mg mb s₁.heap → YP w s₁.heap →
      s₁.heap.get? fa = some o → o.data = .func (docDef d.name d.params d.body d.scope pm cd doc) → s₁.heap.CodeRec cd d.name → mg d.name = some (.ref fa) →
      s₁.heap.get? a = some { cls := .type "list", data := .seq vs.toArray } → IntsAre vs ns → ns.length ≤ n → s₁.gens = #[] →
      codeAny (model l.prog w) callerA (.call (.ref fa) ⟨[.ref a], []⟩) (fun r s' => r = .ok (.ret (.bool true)) ∧ OldK s₁.heap s'.heap ∧ s'.os = s₁.os ∧ AllBare s'.gens) s₁) :
    WalkO q loose XP YP l.row.toRowW d [] (fun f vs => PySem.call f vs) := by
  intro w s₀ s₁ mg mb G Y fa o pm cd doc dV kV ho hd hcd hD hmg hg args vals as hpre hlay hrd hwl hlo
  obtain rfl : dV = .none := Dflts.none hD hdf
  obtain rfl : kV = .none := Dflts.noKw hD
  obtain ⟨a, vs, ns, rfl, rfl, hobj, hints, hlen⟩ := script_of hn hpre hwl
  refine enter_call (codeAny_mono (call w s₀ s₁ mg mb fa o pm cd doc a vs ns G Y ho (fd_plain hd) hcd hmg hobj hints hlen hg) fun r s' hq => ?_)
  obtain ⟨rfl, h2, h3, h4⟩ := hq
  exact ⟨.inl ⟨.bool true, .bool true, [], rfl, fun _ => rfl, .bool true, post_true l _, fun _ => ⟨List.Pairwise.nil, fun _ hm => (nomatch hm)⟩⟩, h2, h3, h4⟩
/-! ### rules over ANY heap (no ledger) from facts about the written part K: the library's own take a ledger (News) for what they write -/
section
variable {prog : Program} {w : World} {A : Around} {E : Value → Shared → Prop} {s : Shared} {K : Frag}
end
end Att
namespace L2
open PySem PySem.Spec PyProof.Rows
theorem vals_ints : ∀ {vs : List Value} {ns : List Int}, IntsAre vs ns → Vals (ns.map V.int) vs
  | _, _, .nil => .nil
  | _, _, .cons n t h => .cons ⟨t, rfl⟩ (vals_ints h)
/-- nothing is tracked but the script, known to the object (or it is an object of the module) -/
def Only (H : Hp) : Prop := ∀ b, H b = none ∨ ∃ o xs, H b = some (.frz o (.lst xs))
/-- THE HEAD: the law's promise, at the heap behind the top. F, the promise of the law's def, may use that base is part of the heap (so K.In base, base.Ns mainGlobals mg stand in Mod) -/
theorem law_call {P : Program} {w : World} {K : PySem.W.Frag} {mg mb : Str → Option Value} {CX : CXT} {k : Nat} {fa a : Addr} {fd : FuncData} {x : Str} {sp : Sp} {s₁ : Shared} {vs : List Value} {ns : List Int}
    (KX : K.In s₁.heap) (hns : s₁.heap.Ns mainGlobals mg) (hb : s₁.heap.Ns builtinsNs mb) (hbb : ∀ x : Str, x ≠ "__name__" → mb x = bootBuiltins x) (hlim : s₁.heap.NoLimit) (hg : s₁.gens = #[])
    (ha : s₁.heap.get? a = some { cls := .type "list", data := .seq vs.toArray }) (hi : IntsAre vs ns) (hl : ns.length ≤ sizeLine) (hr : Room k callerA)
    (F : ∀ base : Heap, K.In base → base.Ns mainGlobals mg → FnOk P w K mg base CX k fa fd [x] sp) (hbind : ∀ (s : Shared) (u : Value), BindsTo s fd ⟨[u], []⟩ [(x, u)])
    (hsp : ∀ H : Hp, Only H → SqL K H a (ns.map V.int) → sp [.ref a] H (fun v _ => v = .bl true) fun _ _ _ => False)
    (hCX : ∀ H e s', CX [] H s₁ (fun _ _ _ => False) e s' → False) :
    codeAny (model P w) callerA (.call (.ref fa) ⟨[.ref a], []⟩) (fun r s' => r = .ok (.ret (.bool true)) ∧ OldK s₁.heap s'.heap ∧ s'.os = s₁.os ∧ AllBare s'.gens) s₁ := by
  have rv := vals_ints hi
  have lenV := hi.length
  -- from an abstract heap in which nothing but the script may be tracked
  have core : ∀ H : Hp, Only H → SqL K H a (ns.map V.int) → HOk P w H s₁.heap → (∀ b, H b ≠ none → b = a) → (H a ≠ none → K.lookup a = none) →
      codeAny (model P w) callerA (.call (.ref fa) ⟨[.ref a], []⟩) (fun r s' => r = .ok (.ret (.bool true)) ∧ OldK s₁.heap s'.heap ∧ s'.os = s₁.os ∧ AllBare s'.gens) s₁ := by
    intro H hO hS hok hA hK
    have base_of : ∀ {b : Addr} {o : Obj}, s₁.heap.get? b = some o → H b = none → (hidT s₁.heap H).get? b = some o := fun e n => hidT_get e n
    have noA : ∀ {b : Addr} {o : Obj} {es : Array DictEntry} {ep : Nat}, s₁.heap.get? b = some o → o.data = .dict es ep → H b = none := fun {b o es ep} e d => by
      cases q : H b with
      | none => rfl
      | some u =>
        have e' : b = a := hA b (by rw [q]; simp)
        subst e'
        rw [ha] at e; cases e
        have d' : Data.seq vs.toArray _ = Data.dict es ep := d
        cases d'
    have nsK : ∀ {b : Addr} {m : Str → Option Value}, s₁.heap.Ns b m → (hidT s₁.heap H).Ns b m := fun {b m} ⟨o, es, ep, e, d, r⟩ => ⟨o, es, ep, base_of e (noA e d), d, r⟩
    have hKb : K.In (hidT s₁.heap H) := fun b o e => base_of (KX b o e) (by
      cases q : H b with
      | none => rfl
      | some u =>
        have e' : b = a := hA b (by rw [q]; simp)
        subst e'
        rw [hK (by rw [q]; simp)] at e; cases e)
    have hM : Mod K mg (hidT s₁.heap H) := ⟨hKb, nsK hns, ⟨mb, nsK hb, hbb⟩, let ⟨mc, h1, h2⟩ := hlim; ⟨mc, nsK h1, h2⟩⟩
    have e0 : Env0 P w K mg (hidT s₁.heap H) callerA [] s₁ H := ⟨rfl, hM, fun b o e => of_hidT e, Nat.le_of_eq (hidT_size _ _), trivial, fun b hb => absurd (show b ∈ ([] : List Addr) from hb) (by simp), hok, .of_eq hg⟩
    refine codeAny_mono ((F _ hKb (nsK hns)).run callerA [] s₁ H ⟨[.ref a], []⟩ [.ref a] [.ref a] _ _ hr e0 (hbind s₁ (.ref a)) (.cons rfl .nil) (hsp H hO hS)) fun r s' h => ?_
    cases r with
    | error e => exact (hCX H e s' h).elim
    | ok fl =>
      cases fl with
      | next => exact False.elim h
      | brk => exact False.elim h
      | cont => exact False.elim h
      | ret u =>
        obtain ⟨v, H', os, bare, un, hok', r', q⟩ := h
        have q' : v = .bl true := q
        subst q'
        obtain rfl : u = Value.bool true := r'
        refine ⟨rfl, OldK.of_keep fun b o e => ?_, os, bare⟩
        cases q : H b with
        | none => exact un.keep b o e q (by intro z; exact absurd (show b ∈ ([] : List Addr) from z) (by simp)) (by simp)
        | some u =>
          rcases hO b with z | ⟨ob, xs, z⟩
          · rw [q] at z; cases z
          · have z2 := un.frzs b ob _ z
            obtain ⟨e1, _⟩ := hok b _ z
            obtain ⟨e2, _⟩ := hok' b _ z2
            rw [e] at e1; cases e1
            exact e2
  cases hk : K.lookup a with
  | some o =>
    -- the script is one of the module's own objects
    have e := KX a o hk
    rw [ha] at e
    cases e
    refine core (fun _ => none) (fun _ => .inl rfl) (.inr ⟨_, vs.toArray, _, hk, rfl, rfl, rfl, by rw [List.size_toArray, lenV]; exact hl, by simpa using rv⟩) (fun b u z => by have z' : (none : Option HO) = some u := z; cases z') (fun b z => absurd rfl z) fun z => absurd rfl z
  | none =>
    refine core (fun b => if b = a then some (.frz { cls := .type "list", data := .seq vs.toArray } (.lst (ns.map V.int))) else none) (fun b => ?_) (.inl (.inr ⟨{ cls := .type "list", data := .seq vs.toArray }, if_pos rfl⟩)) (fun b u z => ?_) (fun b z => ?_) fun _ => hk
    · by_cases hb : b = a
      · exact .inr ⟨_, _, if_pos hb⟩
      · exact .inl (if_neg hb)
    · by_cases hb : b = a
      · have z' := (if_pos hb).symm.trans z
        cases z'
        subst hb
        exact ⟨ha, by rw [List.length_map]; exact hl, vs, _, rv, ha⟩
      · have z' := (if_neg hb).symm.trans z
        cases z'
    · by_cases hb : b = a
      · exact hb
      · exact absurd (if_neg hb) z
end L2
namespace L2
open PySem PySem.Spec PyProof.Rows
/-- the goal that k_head leaves (case hc), from the law's promise. F gives the function object fd (K's own) once, then the promise over every base -/
theorem walk_of {l : PySem.W.OpenLaw} {n k : Nat} {q : Program} {loose : List Str} {XP : (Str → Option Value) → Heap → Prop} {YP : World → Heap → Prop} {d : DefRec} {K : Params → PySem.W.Frag} {CX : World → CXT} {sp : World → Sp} {x : Str}
    (hn : l.most = some n) (hn2 : n ≤ sizeLine) (hdf : d.params.defaults = []) (hr : Room k callerA)
    (hY : ∀ (w : World) (h : Heap), YP w h → (K w.params).In h)
    (F : ∀ (w : World) (mg : Str → Option Value) (fa : Addr) (h : Heap), (K w.params).In h → h.Ns mainGlobals mg → mg d.name = some (.ref fa) →
      ∃ fd : FuncData, (∀ (s : Shared) (u : Value), BindsTo s fd ⟨[u], []⟩ [(x, u)]) ∧
        ∀ base : Heap, (K w.params).In base → base.Ns mainGlobals mg → FnOk l.prog w (K w.params) mg base (CX w) k fa fd [x] (sp w))
    (hsp : ∀ (w : World) (H : Hp) (a : Addr) (ns : List Int), ns.length ≤ n → Only H → SqL (K w.params) H a (ns.map V.int) → sp w [.ref a] H (fun v _ => v = .bl true) fun _ _ _ => False)
    (hCX : ∀ (w : World) (H : Hp) (s : Shared) (e : Value) (s' : Shared), CX w [] H s (fun _ _ _ => False) e s' → False) :
    PySem.W.WalkO q loose XP YP l.row.toRowW d [] (fun f vs => PySem.call f vs) := by
  refine Att.attach_call hn hdf fun w s₀ s₁ mg mb fa o pm cd doc a vs ns G Y ho hd hcd hmg hobj hints hlen hg => ?_
  have KX := hY w _ Y
  obtain ⟨fd, hb, hF⟩ := F w mg fa _ KX G.T.g hmg
  exact law_call KX G.T.g G.T.b G.T.builtins G.T.nolimit hg hobj hints (Nat.le_trans hlen hn2) hr hF hb (fun H hO hS => hsp w H a ns hlen hO hS) fun H e s' => hCX w H s₁ e s'
end L2
/- THE LAST THEOREM (shape; LID, My.* are yours):
   My.Adr: a structure of the addresses that your layer names (classes, functions); My.Txt K t: a structure (Prop) of the equations over K;
   My.txt_mk : {K} {implicit addresses ..} (e1 : nsIn K mainGlobals "law" = some (some (.ref f))) (e2 : K.lookup f = some ⟨oc, od, .func (fnOf "law" "law" params body scope dV kV doc pm an cdv ct), sl⟩) (e3 : codeIn K cdv "law" = true) .. : ∃ t, My.Txt K t
set_option maxRecDepth 100000 in
set_option maxHeartbeats 0 in
theorem PySem.Challenge.cw_LID_holds : PySem.Challenge.rw_LID.Holds := by
  w_on; o_law; k_head; (case hw => w_witness2)
  k_fill
  refine L2.walk_of (l := PySem.Challenge.rw_LID) (n := 63) (k := 40) (x := "script") (CX := fun w => ..) (sp := fun _ => My.sp_law) rfl (by decide) rfl ⟨rfl, by decide, by decide⟩ (fun w h Y => PySem.W.kIn_of Y) ?F ?S ?C
  case F =>
    intro w mg fa h KX G hmg
    have T : ∃ t, My.Txt (L2.KOf KX) t := by
      dsimp only [L2.KOf]                          -- K must stand as «<heap const> w.params» for k_is
      refine' My.txt_mk ?e1 ?e2 ?e3 ..
      (case e1 => PySem.W.k_is)                    -- in the order: a name -> its address -> its object -> its parts
      (case e2 => PySem.W.k_is)
      ..
    obtain ⟨t, T⟩ := T
    have e0 := hmg.symm.trans (PySem.W.mg_of KX G T.law)
    cases e0                                       -- fa is the law's own address
    exact ⟨_, fun s u => .of_eq rfl, fun base kb nb => My.law_fn T kb nb⟩     -- if «.of_eq rfl» comes too early: refine' ⟨_, ?b, fun base kb nb => My.law_fn T kb nb⟩; exact fun s u => .of_eq rfl
  case S => exact fun w H a ns hl hO hS => ..
  case C => exact ..
(the tactic k_is has no namespace: write k_is) -/
/-! SHORT WORDS over the layer: a def of the text, its body, what a loop and a test want. -/
namespace L2
open PySem PySem.Spec PyProof.Rows
def defArgs (s : Stmt) : Arguments := match s with
  | .FunctionDef _ a _ _ _ _ _ _ _ _ => a
  | _ => { posonlyargs := [], args := [], vararg := none, kwonlyargs := [], kw_defaults := [], kwarg := none, defaults := [] }
def defBody (s : Stmt) : List Stmt := match s with
  | .FunctionDef _ _ b _ _ _ _ _ _ _ => b
  | _ => []
def defScope (s : Stmt) : Scope := match s with
  | .FunctionDef _ _ _ _ _ _ sc _ _ _ => sc
  | _ => { kind := .function, names := [], isGenerator := false, isCoroutine := false }
/-! ### no exception leaves a def -/
abbrev CX0 : CXT := fun _ _ _ _ _ _ => False
abbrev E0 : XK := fun _ _ _ => False
theorem pass0 {X : Cx} : Passes CX0 X E0 := fun _ _ _ _ _ _ _ h => h.elim
/-! ### a def (or method) of the text as it stands behind the top -/
structure Fun (K : PySem.W.Frag) (x qual : Str) (st : Stmt) (f : Addr) (fd : FuncData) : Prop where
  ex : ∃ (oc : Value) (od : Option Addr) (kV doc pm : Value) (an : Option Addr) (cdv ct : Value) (osl : Array (Option Value)),
    fd = PySem.W.fnOf x qual (defArgs st) (defBody st) (defScope st) .none kV doc pm an cdv ct ∧ K.lookup f = some ⟨oc, od, .func fd, osl⟩ ∧ PySem.W.codeIn K cdv qual = true
  kp : PySem.W.keepIn K (.ref f) = true
section
variable {P : Program} {w : World} {K : PySem.W.Frag} {mg : Str → Option Value} {base : Heap}
/-- THE RULE for a def: its body as a term of rules, and the reading of that term -/
theorem Fun.ok {x qual : Str} {st : Stmt} {f : Addr} {fd : FuncData} {N ps : List Str} {k : Nat} {sp : Sp} (F : Fun K x qual st f fd) (S : FnScope N ps (defScope st)) (len : ∀ vs H Q E, sp vs H Q E → vs.length = ps.length)
    (hbody : ∀ (cdv : Value) (A : Around) (outer : List Env) (s : Shared) (H : Hp) (vs : List V) (Q : VK) (E : XK), Room k (A.deeper (envOfC qual (defScope st) s.heap.objs.size f cdv)) → sp vs H Q E →
      ∃ t, PSs (cxOf CX0 P w K mg base N qual (defScope st) f cdv A outer s H E).nox (defBody st) t ∧ t { nx := fun _ H' => Q .non H', rt := Q } (start N vs) H) : FnOk P w K mg base CX0 (k + 1) f fd ps sp := by
  obtain ⟨oc, od, kV, doc, pm, an, cdv, ct, osl, rfl, lk, hcd⟩ := F.ex
  refine fn_of lk hcd S len fun A outer s H vs Q E hr hsp => ?_
  obtain ⟨t, h, q⟩ := hbody cdv A outer s H vs Q E hr hsp
  exact ⟨t, h.nox, q⟩
/-- how its arguments bind (no defaults): h is «fun _ _ _ _ _ _ us hl => match us, hl with | [_, _], _ => rfl», one _ a parameter -/
theorem Fun.binds {x qual : Str} {st : Stmt} {f : Addr} {fd : FuncData} {ps : List Str} (F : Fun K x qual st f fd)
    (h : ∀ (kV doc pm : Value) (an : Option Addr) (cdv ct : Value) (us : List Value), us.length = ps.length → bindArgs (PySem.W.fnOf x qual (defArgs st) (defBody st) (defScope st) .none kV doc pm an cdv ct) ⟨us, []⟩ = pure (ps.zip us)) : Binds K fd ps [] := by
  obtain ⟨oc, od, kV, doc, pm, an, cdv, ct, osl, rfl, lk, hcd⟩ := F.ex
  exact .all (h kV doc pm an cdv ct)
theorem fun_mk {x qual : Str} {st : Stmt} {f : Addr} {oc : Value} {od an : Option Addr} {osl : Array (Option Value)} {kV doc pm cdv ct : Value} (l : K.lookup f = some ⟨oc, od, .func (PySem.W.fnOf x qual (defArgs st) (defBody st) (defScope st) .none kV doc pm an cdv ct), osl⟩)
    (c : PySem.W.codeIn K cdv qual = true) (k : PySem.W.keepIn K (.ref f) = true) : Fun K x qual st f (PySem.W.fnOf x qual (defArgs st) (defBody st) (defScope st) .none kV doc pm an cdv ct) := ⟨⟨oc, od, kV, doc, pm, an, cdv, ct, osl, rfl, l, c⟩, k⟩
end
theorem small1000 {n : Nat} (h : n ≤ 1000) : n < sizeLine := Nat.lt_of_le_of_lt h (by decide)
/-! ### expressions in short: the name that stands in the i-th slot -/
section
variable {X : Cx}
theorem pv (i : Nat) {x : Str} {pos : Pos} (hN : X.N[i]? = some x := by rfl) (hv : Vis X.env.scope x := by first | exact Or.inl rfl | exact Or.inr (Or.inl rfl) | exact Or.inr (Or.inr rfl)) (hd : (x == ("__debug__" : Str)) = false := by decide)
    (hcd : (x == ("__classdict__" : Str)) = false := by decide) : PE X (.Name x pos) (tVar i) := pe_var hN hv hd hcd
end
theorem iteT {A B : Prop} (h : A) : if true = true then A else B := by
  rw [if_pos rfl]
  exact h
theorem ite2 {c A B : Prop} [Decidable c] (h1 : c → A) (h2 : ¬ c → B) : if c then A else B := by
  by_cases h : c
  · rw [if_pos h]
    exact h1 h
  · rw [if_neg h]
    exact h2 h
/-! ### heaps -/
/-- all that was tracked is as it was -/
def Same (H H' : Hp) : Prop := ∀ b o, H b = some o → H' b = some o
theorem Same.refl (H : Hp) : Same H H := fun _ _ h => h
theorem Same.trans {H H1 H2 : Hp} (a : Same H H1) (b : Same H1 H2) : Same H H2 := fun c o h => b c o (a c o h)
theorem Same.free {H H' : Hp} (e : Same H H') {l : Addr} (h : H' l = Option.none) : H l = Option.none := by
  cases q : H l with
  | none => rfl
  | some o =>
    rw [e l o q] at h
    cases h
theorem Same.seq {K : PySem.W.Frag} {H H' : Hp} {a : Addr} {xs : List V} (e : Same H H') (h : SqL K H a xs) : SqL K H' a xs := by
  rcases h with (h | ⟨o, h⟩) | h
  · exact .inl (.inl (e _ _ h))
  · exact .inl (.inr ⟨o, e _ _ h⟩)
  · exact .inr h
end L2
/-! A LIST COMPREHENSION OF ONE CLAUSE, over the hand layer: the block has a context of its own. -/
namespace L2
open PySem PySem.Spec PyProof.Rows
section
variable {prog : Program} {w : World} {A : Around} {R : Result → Shared → Prop} {s : Shared}
/-- the tests of a clause -/
abbrev tests (ifs : List Expr) (env : Env) : Sem Bool := forIn ifs true fun c r => if r = true then do let ok ← isTrue c env (eval c env); pure (ForInStep.yield ok) else pure (ForInStep.yield r)
theorem comp_loop {elt target iter : Expr} {ifs : List Expr} {scope : Scope} {pos : Pos} {it acc : Value} {env : Env} (I : Nat → Shared → Prop)
    (turn : ∀ n s, I n s → wpAny (model prog w) A (pyNext it) (fun r s₁ => match r with
      | none => R (.ok .next) s₁
      | some v => wpAny (model prog w) A (letOwnedTupleGo target it v) (fun _ s₁' => wpAny (model prog w) A (assign target env v) (fun _ s₂ =>
          wpAny (model prog w) A (tests ifs env) (fun ok s₃ =>
            if ok = true then wpAny (model prog w) A (eval elt env) (fun x s₄ =>
              wpAny (model prog w) A (call (.builtin "list.append") [acc, x]) (fun _ s₅ => ∃ m, m < n ∧ I m s₅) (fun _ _ => False) s₄) (fun _ _ => False) s₃
            else ∃ m, m < n ∧ I m s₃) (fun _ _ => False) s₂) (fun _ _ => False) s₁') (fun _ _ => False) s₁) (fun _ _ => False) s)
    (n : Nat) (h : I n s) :
    codeAny (model prog w) A (.compLoop (.ListComp elt [⟨target, iter, ifs, 0⟩] scope pos) 0 it acc env) R s := by
  refine codeAny_loop rfl I (fun n s hI => ?_) n h
  show wpAny _ A ((compTurn (.ListComp elt [⟨target, iter, ifs, 0⟩] scope pos) 0 it acc env).onRaise (fun x => do noteFrame x env; theTreesLotGoes x)) _ _ s
  refine wpAny_noted ?_
  rw [compTurn_list]
  refine wpAny_bind (wpAny_standAt (wpAny_bind (wpAny_mono (turn n s hI) (fun r s₁ h₁ => ?_) fun _ _ h' => h'.elim)))
  cases r with
  | none => exact wpAny_pure h₁
  | some v =>
    refine wpAny_bind (wpAny_mono h₁ (fun _ s₁' h₁' => ?_) fun _ _ h' => h'.elim)
    refine wpAny_bind (wpAny_mono h₁' (fun _ s₂ h₂ => wpAny_bind (wpAny_mono h₂ (fun ok s₃ h₃ => ?_) fun _ _ h' => h'.elim)) fun _ _ h' => h'.elim)
    cases ok with
    | false => exact wpAny_pure ⟨rfl, h₃⟩
    | true =>
      exact wpAny_bind (wpAny_bind (wpAny_mono h₃ (fun x s₄ h₄ => wpAny_bind (wpAny_mono h₄ (fun _ s₅ h₅ => wpAny_pure (wpAny_pure ⟨rfl, h₅⟩)) fun _ _ h' => h'.elim)) fun _ _ h' => h'.elim))
end
/-! ### the closure of the block -/
def closeL (env : Env) : List (Str × NameKind) → List (Str × Addr) → List (Str × Addr)
  | [], cs => cs
  | (n, k) :: r, cs => closeL env r (if k == .free then match env.cells.lookup n with | some c => (n, c) :: cs | none => cs else cs)
theorem closure_go (env : Env) : ∀ (names : List (Str × NameKind)) (cs : List (Str × Addr)), (∀ p ∈ names, p.2 = .free → ∃ c, env.cells.lookup p.1 = some c) →
    (forIn names cs (fun (x : Str × NameKind) (cs : List (Str × Addr)) => match x with
      | (name, kind) => if (kind == NameKind.free) = true then (do let a ← cellOf env name; pure (ForInStep.yield ((name, a) :: cs))) else (pure (ForInStep.yield cs) : Sem (ForInStep (List (Str × Addr))))) : Sem (List (Str × Addr))) = pure (closeL env names cs)
  | [], cs, _ => by rw [List.forIn_nil]; rfl
  | (n, k) :: r, cs, h => by
    have ih := fun cs' => closure_go env r cs' fun p hp => h p (List.mem_cons_of_mem _ hp)
    rw [List.forIn_cons]
    by_cases hk : (k == NameKind.free) = true
    · obtain ⟨c, hc⟩ := h (n, k) List.mem_cons_self (by simpa using hk)
      have hc' : env.cells.lookup n = some c := hc
      have e : cellOf env n = pure c := by unfold cellOf; rw [hc']
      simp only [closeL, hk, if_true, e, hc']
      exact ih _
    · simp only [closeL, hk]
      exact ih _
theorem closure_eq {scope : Scope} {env : Env} (h : ∀ p ∈ scope.names, p.2 = .free → ∃ c, env.cells.lookup p.1 = some c) : closureFor scope env = pure (closeL env scope.names []) := by
  unfold closureFor
  have e := closure_go env scope.names [] h
  exact (congrArg (fun m : Sem (List (Str × Addr)) => m >>= fun cs => pure cs) e)
theorem closeL_mem (env : Env) {n : Str} {c : Addr} : ∀ (names : List (Str × NameKind)) (cs : List (Str × Addr)), (n, c) ∈ closeL env names cs → (n, c) ∈ cs ∨ env.cells.lookup n = some c
  | [], cs, h => .inl h
  | (m, k) :: r, cs, h => by
    rcases closeL_mem env r _ h with q | q
    · by_cases hk : (k == NameKind.free) = true
      · rw [if_pos hk] at q
        cases e : env.cells.lookup m with
        | none => rw [e] at q; exact .inl q
        | some c' =>
          rw [e] at q
          rcases List.mem_cons.mp q with z | z
          · cases z; exact .inr e
          · exact .inl z
      · rw [if_neg hk] at q; exact .inl q
    · exact .inr q
theorem closeL_keep (env : Env) {p : Str × Addr} : ∀ (names : List (Str × NameKind)) (cs : List (Str × Addr)), p ∈ cs → p ∈ closeL env names cs
  | [], _, h => h
  | (m, k) :: r, cs, h => by
    refine closeL_keep env r _ ?_
    split
    · split
      · exact List.mem_cons_of_mem _ h
      · exact h
    · exact h
theorem closeL_has (env : Env) {n : Str} {c : Addr} (hc : env.cells.lookup n = some c) : ∀ (names : List (Str × NameKind)) (cs : List (Str × Addr)), (n, NameKind.free) ∈ names → (n, c) ∈ closeL env names cs
  | [], _, h => nomatch h
  | (m, k) :: r, cs, h => by
    rcases List.mem_cons.mp h with z | z
    · cases z
      refine closeL_keep env r _ ?_
      rw [if_pos (by rfl), hc]
      exact List.mem_cons_self
    · exact closeL_has env hc r _ z
theorem lookup_of_mem {n : Str} {c : Addr} : ∀ {l : List (Str × Addr)}, (n, c) ∈ l → ∃ c', l.lookup n = some c'
  | [], h => nomatch h
  | (m, d) :: r, h => by
    rw [List.lookup_cons]
    cases e : n == m with
    | true => exact ⟨d, rfl⟩
    | false =>
      rcases List.mem_cons.mp h with z | z
      · cases z; simp at e
      · exact lookup_of_mem z
theorem closeL_lookup {env : Env} {names : List (Str × NameKind)} {n : Str} {c : Addr} (h : (closeL env names []).lookup n = some c) : env.cells.lookup n = some c := by
  rcases closeL_mem env names [] (PySem.mem_of_lookup h) with z | z
  · exact nomatch z
  · exact z
theorem closeL_some {env : Env} {names : List (Str × NameKind)} {n : Str} {c : Addr} (hc : env.cells.lookup n = some c) (h : (n, NameKind.free) ∈ names) : (closeL env names []).lookup n = some c := by
  obtain ⟨c', e⟩ := lookup_of_mem (closeL_has env hc names [] h)
  rw [e]
  exact (closeL_lookup e).symm.trans hc
theorem mem_of_lookupK {n : Str} {k : NameKind} : ∀ {l : List (Str × NameKind)}, l.lookup n = some k → (n, k) ∈ l
  | [], h => by simp at h
  | (m, d) :: r, h => by
    rw [List.lookup_cons] at h
    cases e : n == m with
    | true =>
      rw [e] at h
      cases h
      rw [eq_of_beq e]
      exact List.mem_cons_self
    | false =>
      rw [e] at h
      exact List.mem_cons_of_mem _ (mem_of_lookupK h)
/-- a name that is free in the block stays a captured one -/
theorem relabel_free {env : Env} {n : Str} : ∀ {names : List (Str × NameKind)}, names.lookup n = some .free →
    (names.map fun (n, k) => if (k == NameKind.free && env.scope.kind == .function && env.kindOf n == some .cell) then (n, NameKind.cell) else (n, k)).lookup n = some .cell ∨
    (names.map fun (n, k) => if (k == NameKind.free && env.scope.kind == .function && env.kindOf n == some .cell) then (n, NameKind.cell) else (n, k)).lookup n = some .free
  | [], h => by simp at h
  | (m, k) :: r, h => by
    have ih := @relabel_free env n r
    rw [List.map_cons]
    rw [List.lookup_cons] at h
    cases e : n == m with
    | true =>
      rw [e] at h
      cases h
      by_cases hc : (NameKind.free == NameKind.free && env.scope.kind == .function && env.kindOf m == some .cell) = true
      · left; show List.lookup n ((if _ then _ else _) :: _) = _; rw [if_pos hc, List.lookup_cons, e]
      · right; show List.lookup n ((if _ then _ else _) :: _) = _; rw [if_neg hc, List.lookup_cons, e]
    | false =>
      rw [e] at h
      have e2 : ∀ l : List (Str × NameKind), List.lookup n ((if (k == NameKind.free && env.scope.kind == .function && env.kindOf m == some .cell) = true then (m, NameKind.cell) else (m, k)) :: l) = l.lookup n := fun l => by
        by_cases hc : (k == NameKind.free && env.scope.kind == .function && env.kindOf m == some .cell) = true
        · rw [if_pos hc, List.lookup_cons, e]
        · rw [if_neg hc, List.lookup_cons, e]
      show List.lookup n ((if _ then _ else _) :: _) = _ ∨ List.lookup n ((if _ then _ else _) :: _) = _
      rw [e2]
      exact ih h
/-- a captured name of the block is one of the text's captured names -/
theorem relabel_back {env : Env} {n : Str} {k' : NameKind} (hk' : k' = .cell ∨ k' = .free) : ∀ {names : List (Str × NameKind)},
    (names.map fun (n, k) => if (k == NameKind.free && env.scope.kind == .function && env.kindOf n == some .cell) then (n, NameKind.cell) else (n, k)).lookup n = some k' →
    names.lookup n = some .free ∨ names.lookup n = some .cell
  | [], h => by simp at h
  | (m, k) :: r, h => by
    have ih := @relabel_back env n k' hk' r
    rw [List.map_cons] at h
    have h : List.lookup n ((if (k == NameKind.free && env.scope.kind == .function && env.kindOf m == some .cell) = true then (m, NameKind.cell) else (m, k)) :: _) = some k' := h
    rw [List.lookup_cons]
    cases e : n == m with
    | true =>
      by_cases hc : (k == NameKind.free && env.scope.kind == .function && env.kindOf m == some .cell) = true
      · left
        have : k = .free := by
          simp only [Bool.and_eq_true, beq_iff_eq] at hc
          exact hc.1.1
        rw [this]
      · rw [if_neg hc, List.lookup_cons, e] at h
        have h : some k = some k' := h
        cases h
        rcases hk' with z | z
        · right; rw [z]
        · left; rw [z]
    | false =>
      have e2 : ∀ l : List (Str × NameKind), List.lookup n ((if (k == NameKind.free && env.scope.kind == .function && env.kindOf m == some .cell) = true then (m, NameKind.cell) else (m, k)) :: l) = l.lookup n := fun l => by
        by_cases hc : (k == NameKind.free && env.scope.kind == .function && env.kindOf m == some .cell) = true
        · rw [if_pos hc, List.lookup_cons, e]
        · rw [if_neg hc, List.lookup_cons, e]
      rw [e2] at h
      exact ih h
/-! ### the block's context -/
/-- what is asked of the block's scope: osc the scope around, M the names taken from there with their slots, N the slots around -/
structure CompSc (scope osc : Scope) (M : List (Str × Nat)) (N : List Str) : Prop where
  kind : scope.kind = .function
  nocell : ∀ p ∈ scope.names, p.2 ≠ .cell
  free : ∀ p ∈ scope.names, p.2 = .free → osc.names.lookup p.1 = some .cell ∨ osc.names.lookup p.1 = some .free
  loc : ∀ p ∈ scope.names, p.2 = .local → scope.names.lookup p.1 = some .local
  imp : ∀ p ∈ M, N[p.2]? = some p.1 ∧ scope.names.lookup p.1 = some .free
def impS (M : List (Str × Nat)) (σ : St) : St := M.map fun p => (σ[p.2]?).join
def Cx.comp (X : Cx) (scope : Scope) (Ns : List Str) (s : Shared) (H : Hp) (ex : List Addr) : Cx :=
  { X with N := Ns, s₀ := s, H₀ := H, env := compEnvC scope (closeL X.env scope.names []) s.heap.objs.size X.env, outer := X.stack, ex := ex, fn := fun _ => false, pn := [], xe := fun _ _ => False }
section
variable {X : Cx} {pins : List (Addr × Obj)} {σ : St} {H : Hp} {s : Shared} {scope : Scope} {own : List Str} {M : List (Str × Nat)} {ex : List Addr}
theorem inv_comp {h' : Heap} {tk : Nat} {m : Str → Option Value} (I : Inv X pins σ H s) (S : CompSc scope X.env.scope M X.N) (hex : ∀ b ∈ ex, FpOk X pins H b ∧ b < s.heap.objs.size)
    (hns : h'.Ns s.heap.objs.size m) (hkp : ∀ b o, s.heap.get? b = some o → h'.get? b = some o) :
    Inv (X.comp scope (own ++ M.map (·.1)) s H ex) [] (List.replicate own.length none ++ impS M σ) H { s with heap := h', toks := tk } := by
  have hfr : ∀ p ∈ scope.names, p.2 = .free → ∃ c, X.env.cells.lookup p.1 = some c := fun p hp hf => I.ok.has p.1 (S.free p hp hf)
  refine ⟨⟨I.ok.mod, S.kind, I.ok.glob, I.ok.blt, Nat.le_refl _, fun x y c h1 h2 => ?_, fun x hx => ?_, fun x c h _ => ?_, I.ok.hd, I.ok.frames, .inl rfl, fun b hb => ⟨?_, fun x c e => ?_⟩, I.bs, Nat.le_trans I.ok.bsz I.sz, fun b o e hb => ?_, fun b hb hfs => ?_, I.stack, I.stkFree⟩,
    rfl, I.bare, Un.kept hkp, ⟨m, hns, fun i x v e1 e2 e3 => ?_⟩, fun x c e => ?_, I.hok.fresh (Nat.le_refl _), fun x c e => I.freeC x c (closeL_lookup e), fun p hp => absurd (show p ∈ ([] : List (Addr × Obj)) from hp) (by simp), I.hok.kept hkp, ?_⟩
  · exact I.ok.inj x y c (closeL_lookup h1) (closeL_lookup h2)
  · have hx' : (relabel scope X.env).names.lookup x = some .cell ∨ (relabel scope X.env).names.lookup x = some .free := hx
    have hf : scope.names.lookup x = some .free := by
      rcases hx' with z | z
      · rcases relabel_back (.inl rfl) z with q | q
        · exact q
        · exact absurd rfl (S.nocell _ (mem_of_lookupK q))
      · rcases relabel_back (.inr rfl) z with q | q
        · exact q
        · exact absurd rfl (S.nocell _ (mem_of_lookupK q))
    have hm := mem_of_lookupK hf
    obtain ⟨c, hc⟩ := hfr _ hm rfl
    exact ⟨c, closeL_some hc hm⟩
  · exact absurd (show false = true from h) (by decide)
  · exact Nat.ne_of_lt (hex b hb).2
  · exact (hex b hb).1.2.2.2.2.1 x c (closeL_lookup e)
  · have hb' : b ∈ ex := hb
    have e' : X.base.get? b = some o := e
    rcases (hex b hb').1.2.2.2.1 with z | z
    · exact I.ok.noex b o e' z
    · exact absurd (Nat.lt_of_lt_of_le (Heap.lt_size e') (Nat.le_trans I.ok.bsz z)) (Nat.lt_irrefl _)
  · rcases List.mem_cons.mp (I.stkSub b hfs) with z | z
    · exact (hex b hb).1.2.1 z
    · exact (hex b hb).1.2.2.1 z
  · have e1' : (own ++ M.map (·.1))[i]? = some x := e1
    have hi : own.length ≤ i := by
      refine Nat.le_of_not_lt fun hlt => ?_
      rw [List.getElem?_append_left (by simpa using hlt), List.getElem?_replicate] at e2
      split at e2 <;> cases e2
    rw [List.getElem?_append_right hi, List.getElem?_map] at e1'
    rw [List.getElem?_append_right (by simpa using hi), List.length_replicate, impS, List.getElem?_map] at e2
    cases hp : M[i - own.length]? with
    | none => rw [hp] at e1'; cases e1'
    | some p =>
      rw [hp] at e1' e2
      have e1'' : p.1 = x := Option.some.inj e1'
      have e2' : (σ[p.2]?).join = some v := Option.some.inj e2
      obtain ⟨hN, hF⟩ := S.imp p (List.mem_of_getElem? hp)
      subst e1''
      have e2'' : σ[p.2]? = some (some v) := by
        cases q : σ[p.2]? with
        | none => rw [q] at e2'; cases e2'
        | some o => rw [q] at e2'; exact congrArg some e2'
      have hm := mem_of_lookupK hF
      have hcf := S.free _ hm rfl
      obtain ⟨m0, hn0, hl0⟩ := I.loc
      obtain ⟨u, ru, lk⟩ := hl0 p.2 p.1 v hN e2'' (.inr hcf)
      refine ⟨u, ru, .inr ⟨relabel_free hF, ?_⟩⟩
      rcases lk with ⟨kl, _⟩ | ⟨_, c, ec, z⟩
      · have kl' : X.env.scope.names.lookup p.1 = some .local := kl
        rcases hcf with q | q <;> (rw [q] at kl'; cases kl')
      · obtain ⟨oc, ho, hd⟩ := z
        exact ⟨c, closeL_some ec hm, oc, hkp c oc ho, hd⟩
  · obtain ⟨v, oc, ho, hd⟩ := I.cell x c (closeL_lookup e)
    exact ⟨v, oc, hkp c oc ho, hd⟩
  · show (List.replicate own.length none ++ impS M σ).length = (own ++ M.map (·.1)).length
    rw [List.length_append, List.length_append, List.length_replicate, impS, List.length_map, List.length_map]
end
/-- an untracked object that was not there at the start may change -/
theorem Un.sameBut {fs ex : List Addr} {H H' : Hp} {h h' h'' : Heap} {C : Addr} (u : Un fs ex H H' h h') (hs : Heap.SameBut C h' h'') (hC : h.get? C = none) : Un fs ex H H' h h'' where
  keep := fun b o e n f x => (hs.2 b (by rintro rfl; rw [hC] at e; cases e)).trans (u.keep b o e n f x)
  slot := fun b o e n f x => by
    obtain ⟨sl, q⟩ := u.slot b o e n f x
    exact ⟨sl, (hs.2 b (by rintro rfl; rw [hC] at e; cases e)).trans q⟩
  free := u.free
  there := fun b o e x => by
    obtain ⟨o', q⟩ := u.there b o e x
    exact ⟨o', (hs.2 b (by rintro rfl; rw [hC] at e; cases e)).trans q⟩
  tups := u.tups
  frzs := u.frzs
  tbls := u.tbls
theorem HOk.sameBut {P : Program} {w : World} {H : Hp} {h h' : Heap} {C : Addr} (ok : HOk P w H h) (hs : Heap.SameBut C h h') (hC : H C = none) : HOk P w H h' := fun b ob e => by
  refine (ok b ob e).stay (fun c w' hc q => (hs.2 c ?_).trans q) (fun _ q => q) fun _ _ q => q
  rintro rfl
  rcases hc with rfl | hc
  · rw [hC] at e; cases e
  · rw [hC] at hc; cases hc
/-! ### the tests -/
def PF (X : Cx) (ifs : List Expr) (t : TT) : Prop :=
  ∀ (pins : List (Addr × Obj)) (s : Shared) (σ : St) (H : Hp) (Q : Bool → Hp → Prop), Inv X pins σ H s → t σ H Q → wpAny (model X.prog X.w) X.A (tests ifs X.env) (TP X pins σ Q) X.xe s
def tYes : TT := fun _ H Q => Q true H
theorem pf_nil {X : Cx} : PF X [] tYes := fun pins s σ H Q I h => wpAny_tests_nil ⟨H, I, h⟩
theorem pf_one {X : Cx} {c : Expr} {t : TT} (hc : PT X c t) : PF X [c] t := fun pins s σ H Q I h => wpAny_tests_one (hc pins s σ H Q I h)
/-! ### the rule -/
/-- the block's loop, by an invariant: D the list that grows -/
def CBG (J : It) (σ0 : St) (g : TG) (tt : TT) (te : TE) (Q : VK) (H1 : Hp) (D : Addr) : Prop :=
  ∃ W : Nat → Nat → Hp → Prop, (∃ m, W 0 m (upd H1 D (.lst []))) ∧ ∀ i m H2, W i m H2 →
    (J.stop i H2 ∧ Q (.ref D) H2) ∨ (J.go i H2 ∧ ∀ x H3, J.yld i H2 x H3 → g x σ0 H3 fun σ4 H4 =>
      (∀ (i : Nat) v, σ0[i]? = some (some v) → σ4[i]? = some (some v)) ∧
      tt σ4 H4 fun c H5 => if c = true then te σ4 H5 fun v H6 => ∃ ys, H6 D = some (.lst ys) ∧ ys.length < sizeLine ∧ ∃ m', m' < m ∧ W (i + 1) m' (upd H6 D (.lst (ys ++ [v]))) else ∃ m', m' < m ∧ W (i + 1) m' H5)
def tComp (own : Nat) (M : List (Str × Nat)) (wi : TI) (g : TG) (tt : TT) (te : TE) : TE := fun σ H Q => wi σ H fun J H1 => ∀ D, H1 D = none → CBG J (List.replicate own none ++ impS M σ) g tt te Q H1 D
section
variable {X : Cx} {tg iter elt : Expr} {ifs : List Expr} {scope osc : Scope} {pos : Pos} {own : List Str} {M : List (Str × Nat)} {wi : TI} {g : TG} {tt : TT} {te : TE}
/-- the block, behind the iterator's making -/
theorem comp_block {pins : List (Addr × Obj)} {s2 : Shared} {σ : St} {H2 : Hp} {J : It} {fp : List Addr} {it : Addr} {tn : Nat → Heap → Prop} {Q : Nat → Hp → Prop} {RR : Value → Addr → Result → Shared → Prop} {E : Value → Shared → Prop}
    (I2 : Inv X pins σ H2 s2) (hc : X.calm = true) (S : CompSc scope X.env.scope M X.N) (T : Turn X.prog X.w X.K tg J fp it tn) (st2 : tn 0 s2.heap) (f2 : ∀ b ∈ fp, FpOk X pins H2 b)
    (hg : ∀ s H, PG (X.comp scope (own ++ M.map (·.1)) s H fp) tg g) (hf : ∀ s H, PF (X.comp scope (own ++ M.map (·.1)) s H fp) ifs tt) (he : ∀ s H, PE (X.comp scope (own ++ M.map (·.1)) s H fp) elt te)
    (hw : ∀ D, H2 D = none → ∃ W : Nat → Nat → Hp → Prop, (∃ m, W 0 m (upd H2 D (.lst []))) ∧ ∀ i m H2, W i m H2 →
      (J.stop i H2 ∧ Q D H2) ∨ (J.go i H2 ∧ ∀ x H3, J.yld i H2 x H3 → g x (List.replicate own.length none ++ impS M σ) H3 fun σ4 H4 =>
        (∀ (i : Nat) v, (List.replicate own.length none ++ impS M σ)[i]? = some (some v) → σ4[i]? = some (some v)) ∧
        tt σ4 H4 fun c H5 => if c = true then te σ4 H5 fun v H6 => ∃ ys, H6 D = some (.lst ys) ∧ ys.length < sizeLine ∧ ∃ m', m' < m ∧ W (i + 1) m' (upd H6 D (.lst (ys ++ [v]))) else ∃ m', m' < m ∧ W (i + 1) m' H5))
    (hR : ∀ D C s' H', (∃ m, s'.heap.Ns C m) → FpOk X pins H' C → Q D H' → (∀ h'', Heap.SameBut C s'.heap h'' → Inv X pins σ H' { s' with heap := h'' }) → RR (.ref D) C (.ok .next) s') :
    wpAny (model X.prog X.w) X.A (newList []) (fun acc s₃ => wpAny (model X.prog X.w) X.A (newFunctionEnv scope X.env.globals (closeL X.env scope.names []) [] X.env.qual none .none (some X.env)) (fun cenv s₄ =>
      codeAny (model X.prog X.w) X.A (.compStart (.ListComp elt [⟨tg, iter, ifs, 0⟩] scope pos) 0 (.ref it) acc { cenv with scope := relabel scope X.env }) (RR acc cenv.locals) s₄) E s₃) E s2 := by
  refine wpAny_newObj_type (wpAny_newFunctionEnv S.nocell (by intro y hy; simp at hy) (fun h₁ hns₁ hsb₁ => ?_) S.kind)
  dsimp only at hns₁ hsb₁ ⊢
  obtain ⟨D, hD⟩ : ∃ D, D = s2.heap.objs.size := ⟨_, rfl⟩
  have fD : H2 D = none := I2.hok.fresh (Nat.le_of_eq hD.symm)
  have I3 : Inv X pins σ (upd H2 D (.lst [])) { s2 with heap := s2.heap.push { cls := .type "list", dict := none, data := .seq ([] : List Value).toArray } } :=
    I2.laid (t' := s2.toks) (fun b u e => Heap.get?_push_of_some _ e) (Nat.le_of_eq hD.symm) ⟨Nat.zero_le _, [], 0, .nil, by rw [hD]; exact Heap.get?_push_size _ rfl⟩
  obtain ⟨s3, hs3⟩ : ∃ s3 : Shared, s3 = { s2 with heap := s2.heap.push { cls := .type "list", dict := none, data := .seq ([] : List Value).toArray } } := ⟨_, rfl⟩
  have hsz3 : s3.heap.objs.size = D + 1 := by rw [hs3, hD]; exact Heap.size_push _ _
  rw [← hs3] at I3
  have hns₁' : h₁.Ns s3.heap.objs.size (fun _ => none) := by rw [hs3]; exact hns₁
  have hsb₁' : Heap.SameBut s3.heap.objs.size (s3.heap.push { cls := .type "dict", data := .dict #[] }) h₁ := by rw [hs3]; exact hsb₁
  have hk3 : ∀ b o, s3.heap.get? b = some o → h₁.get? b = some o := fun b o e => (hsb₁'.2 b (Nat.ne_of_lt (Heap.lt_size e))).trans (Heap.get?_push_of_some _ e)
  have tn3 : tn 0 s3.heap := T.keep _ _ _ st2 fun b hb o e => by rw [hs3]; exact Heap.get?_push_of_some _ e
  have hlt3 : ∀ b ∈ fp, b < s3.heap.objs.size := fun b hb => by
    obtain ⟨o, e, _⟩ := T.obj _ _ tn3 b hb
    exact Heap.lt_size e
  have neD : ∀ b ∈ fp, b ≠ D := fun b hb z => by
    obtain ⟨o, e, _⟩ := T.obj _ _ st2 b hb
    rw [z, hD] at e
    exact absurd (Heap.lt_size e) (Nat.lt_irrefl _)
  have f3 : ∀ b ∈ fp, FpOk X pins (upd H2 D (.lst [])) b := fun b hb => ⟨by rw [upd_ne (neD b hb)]; exact (f2 b hb).1, (f2 b hb).2⟩
  obtain ⟨Y, hY⟩ : ∃ Y : Cx, Y = X.comp scope (own ++ M.map (·.1)) s3 (upd H2 D (.lst [])) fp := ⟨_, rfl⟩
  have Yp : Y.prog = X.prog := by rw [hY]; rfl
  have IY : Inv Y [] (List.replicate own.length none ++ impS M σ) (upd H2 D (.lst [])) { s3 with heap := h₁, toks := s2.toks + 0 } := by
    rw [hY]
    exact inv_comp I3 S (fun b hb => ⟨f3 b hb, hlt3 b hb⟩) hns₁' hk3
  have fpY : ∀ {H' : Hp}, (∀ b ∈ fp, H' b = none) → ∀ b ∈ fp, FpOk Y [] H' b := fun {H'} hn b hb => by
    refine ⟨hn b hb, ?_, ?_, .inl ?_, fun x c e => ?_, fun p hp => ?_⟩
    · rw [hY]; exact Nat.ne_of_lt (hlt3 b hb)
    · rw [hY]
      intro hfs
      rcases List.mem_cons.mp (I3.stkSub b hfs) with z | z
      · exact (f2 b hb).2.1 z
      · exact (f2 b hb).2.2.1 z
    · rw [hY]; exact hb
    · rw [hY] at e
      exact (f2 b hb).2.2.2.2.1 x c (closeL_lookup e)
    · rw [hY] at hp
      exact absurd (show p ∈ ([] : List (Addr × Obj)) from hp) (by simp)
  obtain ⟨W, ⟨m0, w0⟩, turn⟩ := hw D fD
  have neC : s3.heap.objs.size ≠ X.env.locals := Nat.ne_of_gt I3.lt
  -- behind the block
  have back : ∀ {σ' : St} {H' : Hp} {s' : Shared} {h'' : Heap}, Inv Y [] σ' H' s' → Heap.SameBut s3.heap.objs.size s'.heap h'' → Inv X pins σ H' { s' with heap := h'' } := fun {σ' H' s' h''} K hs => by
    have u : Un (frs X.stack) fp (upd H2 D (.lst [])) H' s3.heap s'.heap := by
      have := K.base
      rw [hY] at this
      exact this
    have ho : s'.os = s3.os := by
      have := K.os
      rw [hY] at this
      exact this
    have fC : H' s3.heap.objs.size = none := by
      have := K.free
      rw [hY] at this
      exact this
    have hok : HOk X.prog X.w H' s'.heap := by
      have := K.hok
      rw [hY] at this
      exact this
    refine I3.call' (s' := { s' with heap := h'' }) (ch := fp) ho (u.sameBut hs (Heap.get?_none_of_le (Nat.le_refl _))) (hok.sameBut hs fC) K.bare fun b hb => ?_
    obtain ⟨_, b1, _, b3, b4, b5⟩ := f2 b hb
    exact ⟨b3, b1, b4, b5⟩
  have envY : Y.env = compEnvC scope (closeL X.env scope.names []) s3.heap.objs.size X.env := by rw [hY]; rfl
  have key : codeAny (model X.prog X.w) X.A (.compLoop (.ListComp elt [⟨tg, iter, ifs, 0⟩] scope pos) 0 (.ref it) (.ref D) Y.env) (RR (.ref D) s3.heap.objs.size) { s3 with heap := h₁, toks := s2.toks + 0 } := by
    refine comp_loop (fun n s' => ∃ i H', Inv Y [] (List.replicate own.length none ++ impS M σ) H' s' ∧ tn i s'.heap ∧ (∀ b ∈ fp, H' b = none) ∧ W i n H') ?_ m0
      ⟨0, _, IY, T.keep _ _ _ tn3 fun b hb o e => hk3 b o e, fun b hb => (f3 b hb).1, w0⟩
    rintro n s4 ⟨i, H4, I4, st4, fr4, w4⟩
    have hcY : Y.calm = true := by rw [hY]; exact hc
    have eP : Y.prog = X.prog := Yp
    have eW : Y.w = X.w := by rw [hY]; rfl
    have eK : Y.K = X.K := by rw [hY]; rfl
    have eA : Y.A = X.A := by rw [hY]; rfl
    have eE : Y.xe = fun _ _ => False := by rw [hY]; rfl
    rcases turn i n H4 w4 with ⟨stop, qn⟩ | ⟨go, step⟩
    · have q := T.done Y eP eW eK hcY i [] s4 _ H4 (fun _ _ => False) I4 (fpY fr4) st4 stop
      rw [eA] at q
      refine thn q fun r s5 ⟨hr, I5⟩ => ?_
      subst hr
      refine hR D _ s5 H4 ?_ (I3.fpOk (Nat.le_refl _) ?_) qn fun h'' hs => back I5 hs
      · obtain ⟨m, hn, _⟩ := I5.loc
        rw [envY] at hn
        exact ⟨m, hn⟩
      · have := I5.free
        rw [envY] at this
        exact this
    · have q := T.item Y eP eW eK hcY i [] s4 _ H4 (fun _ _ => False) I4 (fpY fr4) st4 go
      rw [eA] at q
      refine thn q fun r s5 ⟨u, hr, h5⟩ => ?_
      subst hr
      refine thn h5 fun _ s6 ⟨x, H6, I6, r6, y6, st6, fr6⟩ => ?_
      have I6' := I6.pinned (fpY fr6) (T.obj _ _ st6)
      have again : ∀ {σ7 : St} {H7 : Hp} {s7 : Shared}, (∀ (i : Nat) v, (List.replicate own.length none ++ impS M σ)[i]? = some (some v) → σ7[i]? = some (some v)) → Inv Y ([] ++ pinsAt fp s6.heap) σ7 H7 s7 →
          (∃ m', m' < n ∧ W (i + 1) m' H7) → ∃ m, m < n ∧ ∃ i H', Inv Y [] (List.replicate own.length none ++ impS M σ) H' s7 ∧ tn i s7.heap ∧ (∀ b ∈ fp, H' b = none) ∧ W i m H' := fun {σ7 H7 s7} kp I7 w7 => by
        obtain ⟨m', hm, w7⟩ := w7
        refine ⟨m', hm, i + 1, H7, I7.unpinned.weak (by rw [I6.len, I7.len]) kp, T.keep _ _ _ st6 fun b hb o e => (I7.pin (b, o) (List.mem_append_right _ (List.mem_append_right _ (mem_pinsAt hb e)))).1, fun b hb => ?_, w7⟩
        obtain ⟨o, e, d⟩ := T.obj _ _ st6 b hb
        exact (I7.pin (b, o) (List.mem_append_right _ (List.mem_append_right _ (mem_pinsAt hb e)))).2.1
      have qg := hg s3 (upd H2 D (.lst [])) _ s6 _ H6 x u _ (by rw [← hY]; exact I6') r6 (step x H6 y6)
      rw [← hY] at qg
      rw [eP, eW, eA, eE] at qg
      refine thn qg fun _ s7 ⟨σ7, H7, I7, k7, q7⟩ => ?_
      have qf := hf s3 (upd H2 D (.lst [])) _ s7 σ7 H7 _ (by rw [← hY]; exact I7) q7
      rw [← hY] at qf
      rw [eP, eW, eA, eE] at qf
      refine thn qf fun ok s8 ⟨H8, I8, q8⟩ => ?_
      cases ok with
      | false =>
        rw [if_neg Bool.false_ne_true] at q8 ⊢
        exact again k7 I8 q8
      | true =>
        rw [if_pos rfl] at q8 ⊢
        have qe := he s3 (upd H2 D (.lst [])) _ s8 σ7 H8 _ (by rw [← hY]; exact I8) q8
        rw [← hY] at qe
        rw [eP, eW, eA, eE] at qe
        refine thn qe fun v s9 ⟨xv, H9, I9, r9, ys, hys, hz, q9⟩ => ?_
        have qa := mt_append (X := Y) _ s9 σ7 H9 (.ref D) [xv] (.ref D) [v] (fun _ H10 => ∃ m', m' < n ∧ W (i + 1) m' H10) I9 rfl (.cons r9 .nil) ⟨D, ys, xv, rfl, rfl, hys, hz, q9⟩
        rw [eP, eW, eA, eE] at qa
        exact thn qa fun _ s10 ⟨_, H10, I10, _, q10⟩ => again k7 I10 q10
  have hst : codeAny (model X.prog X.w) X.A (.compStart (.ListComp elt [⟨tg, iter, ifs, 0⟩] scope pos) 0 (.ref it) (.ref D) Y.env) (RR (.ref D) s3.heap.objs.size) { s3 with heap := h₁, toks := s2.toks + 0 } :=
    codeAny_compStart_list key (T.self _ 0 _ _ _ (T.keep _ _ _ tn3 fun b hb o e => hk3 b o e) key)
  rw [envY] at hst
  subst hs3
  subst hD
  exact hst
theorem comp_closure {pins : List (Addr × Obj)} {s : Shared} {σ : St} {H : Hp} (I : Inv X pins σ H s) (S : CompSc scope X.env.scope M X.N) : closureFor scope X.env = pure (closeL X.env scope.names []) :=
  closure_eq fun p hp hf => I.ok.has p.1 (S.free p hp hf)
/-- [elt for tg in iter if ..] -/
theorem pe_comp {N : List Str} (own : List Str) (M : List (Str × Nat)) (hc : X.calm = true) (hi : PI X tg iter wi) (S : CompSc scope osc M N)
    (hg : ∀ s H ex, PG (X.comp scope (own ++ M.map (·.1)) s H ex) tg g) (hf : ∀ s H ex, PF (X.comp scope (own ++ M.map (·.1)) s H ex) ifs tt) (he : ∀ s H ex, PE (X.comp scope (own ++ M.map (·.1)) s H ex) elt te)
    (hsc : X.env.scope = osc := by rfl) (hN : X.N = N := by rfl) (hs : ∀ x, foldedSetIterable iter X.env x = pure x := by intro _; rfl) : PE X (.ListComp elt [⟨tg, iter, ifs, 0⟩] scope pos) (tComp own.length M wi g tt te) := by
  subst hsc
  subst hN
  intro pins s σ H Q I h
  rw [eval_ListComp]
  refine wpAny_comprehension_free (use := none) rfl hs (comp_closure I S) S.kind S.loc (thn (hi pins s σ H _ I h) fun v s1 h1 => thn h1 fun itv s2 h2 => ?_)
  obtain ⟨it, fp, tn, J, H2, e, I2, T, st2, f2, hw⟩ := h2
  subst e
  refine comp_block (own := own) (Q := fun D H' => Q (.ref D) H') (RR := fun acc C => compPost (model X.prog X.w) X.A X.xe none (EP X pins σ Q) acc C) I2 hc S T st2 f2 (fun s H => hg s H fp) (fun s H => hf s H fp) (fun s H => he s H fp) hw ?_
  intro D C s' H' hn _ q back
  obtain ⟨m, hn⟩ := hn
  exact ⟨m, hn, fun h'' hs'' => ⟨.ref D, H', back h'' hs'', rfl, q⟩⟩
/-- name = [elt for tg in iter if ..], both on one row -/
theorem ps_comp {N : List Str} {i : Nat} {y : Str} {py spos : Pos} (own : List Str) (M : List (Str × Nat)) (hnd : X.N.Nodup) (hi' : X.N[i]? = some y) (hy : X.env.scope.names.lookup y = some .local)
    (hsw : swapsWith (.ListComp elt [⟨tg, iter, ifs, 0⟩] scope pos) (some (.Name y py)) spos.line X.env = pure true)
    (hc : X.calm = true) (hi : PI X tg iter wi) (S : CompSc scope osc M N)
    (hg : ∀ s H ex, PG (X.comp scope (own ++ M.map (·.1)) s H ex) tg g) (hf : ∀ s H ex, PF (X.comp scope (own ++ M.map (·.1)) s H ex) ifs tt) (he : ∀ s H ex, PE (X.comp scope (own ++ M.map (·.1)) s H ex) elt te)
    (hsc : X.env.scope = osc := by rfl) (hN : X.N = N := by rfl) (hs : ∀ x, foldedSetIterable iter X.env x = pure x := by intro _; rfl) :
    PS X (.Assign [.Name y py] (.ListComp elt [⟨tg, iter, ifs, 0⟩] scope pos) spos) (tAsg (tComp own.length M wi g tt te) (gName i)) := by
  subst hsc
  subst hN
  intro pins s σ H D I h
  rw [exec_Assign_Name_used _ _ _ _ hsw]
  refine wpAny_bind (wpAny_standAt (wpAny_bind ?_))
  show wpAny _ X.A (do let _ ← comprehension (.ListComp elt [⟨tg, iter, ifs, 0⟩] scope pos) scope X.env _ (newList []) false (eval iter X.env) (some (assign (.Name y py) X.env))) _ _ s
  refine wpAny_bind (wpAny_mono (wpAny_comprehension_free (use := some (assign (.Name y py) X.env)) (Q := fun _ s' => SP X pins D .next s') rfl hs (comp_closure I S) S.kind S.loc
    (thn (hi pins s σ H _ I h) fun v s1 h1 => thn h1 fun itv s2 h2 => ?_)) (fun _ s' hq => wpAny_pure (wpAny_pure hq)) fun _ _ e => e)
  obtain ⟨it, fp, tn, J, H2, e, I2, T, st2, f2, hw⟩ := h2
  subst e
  refine comp_block (own := own) (Q := fun L H' => D.nx (σ.set i (some (.ref L))) H') (RR := fun acc C => compPost (model X.prog X.w) X.A X.xe (some (assign (.Name y py) X.env)) (fun _ s' => SP X pins D .next s') acc C) I2 hc S T st2 f2 (fun s H => hg s H fp) (fun s H => hf s H fp) (fun s H => he s H fp) hw ?_
  intro L C s' H' hn fC q back
  obtain ⟨m, hn⟩ := hn
  obtain ⟨c0, c1, c2, c3, c4, c5⟩ := fC
  have I' : Inv X pins σ H' s' := back s'.heap (Heap.SameBut.refl ..)
  show wpAny _ X.A (assign (.Name y py) X.env (.ref L)) _ _ s'
  refine wpAny_assign_Name (store_ok2 I' hnd hi' (.inl hy) (v := .ref L) rfl (fun s'' I'' ⟨a, sb, ha⟩ => ?_) (.inr hy))
  have aC : C ≠ a := by
    rcases ha with z | z
    · rw [z]; exact c1
    · exact fun e => c4 y a z e.symm
  refine ⟨m, hn.sameBut sb aC, fun h3 hs3 => ⟨_, H', I''.turned (t' := s''.toks) (fun b o hb e => (hs3.2 b hb).trans e) c0 c1 c3 c4 c5, q⟩⟩
end
/-! ### the forms one uses -/
theorem keep1 {l : St} {a : Option V} (i : Nat) (v : V) (h : (none :: l)[i]? = some (some v)) : (a :: l)[i]? = some (some v) := by
  cases i with
  | zero => cases h
  | succ i => simpa using h
end L2
/-! MORE RULES over the hand layer: data compared at any depth, sorted, count, remove, all, isinstance, enumerate, reversed. -/
namespace L2
open PySem PySem.Spec PyProof.Rows
/-! ### data, read off the abstract heap -/
mutual
inductive Dt (K : PySem.W.Frag) (H : Hp) : V → PyData → Prop where
  | non : Dt K H .non .none
  | bl (b : Bool) : Dt K H (.bl b) (.bool b)
  | int (i : Int) : Dt K H (.int i) (.int i)
  | str (x : Str) : Dt K H (.str x) (.str x)
  | lst {a : Addr} {xs : List V} {ds : List PyData} : SqL K H a xs → DtAll K H xs ds → Dt K H (.ref a) (.list ds)
  | tup {a : Addr} {xs : List V} {ds : List PyData} : SqT K H a xs → DtAll K H xs ds → Dt K H (.ref a) (.tuple ds)
inductive DtAll (K : PySem.W.Frag) (H : Hp) : List V → List PyData → Prop where
  | nil : DtAll K H [] []
  | cons {x : V} {xs : List V} {d : PyData} {ds : List PyData} : Dt K H x d → DtAll K H xs ds → DtAll K H (x :: xs) (d :: ds)
end
section
variable {X : Cx} {pins : List (Addr × Obj)} {σ : St} {H : Hp} {s : Shared}
mutual
theorem Inv.reads (I : Inv X pins σ H s) {v : V} {d : PyData} {u : Value} : Dt X.K H v d → RelV v u → ∃ as, Reads s.heap u d as
  | .non, r => by cases (show u = Value.none from r); exact ⟨_, .none⟩
  | .bl b, r => by cases (show u = Value.bool b from r); exact ⟨_, .bool b⟩
  | .int i, r => by obtain ⟨t, rfl⟩ := (show ∃ t, u = Value.int i t from r); exact ⟨_, .int i t⟩
  | .str x, r => by obtain ⟨t, rfl⟩ := (show ∃ t, u = Value.str x t from r); exact ⟨_, .str x t⟩
  | .lst (a := a) h hs, r => by
    cases (show u = Value.ref a from r)
    obtain ⟨its, rv, ⟨o, n, e, c, dd, dt⟩, z⟩ := I.list h
    obtain ⟨as, q⟩ := I.readsAll hs rv
    exact ⟨_, .list e c dt (by simpa using q)⟩
  | .tup (a := a) h hs, r => by
    cases (show u = Value.ref a from r)
    obtain ⟨its, rv, ⟨o, e, c, n, dt⟩, z⟩ := I.tuple h
    obtain ⟨as, q⟩ := I.readsAll hs rv
    exact ⟨_, .tuple e c dt (by simpa using q)⟩
theorem Inv.readsAll (I : Inv X pins σ H s) {vs : List V} {ds : List PyData} {us : List Value} : DtAll X.K H vs ds → Vals vs us → ∃ as, ReadsAll s.heap us ds as
  | .nil, r => by cases r; exact ⟨_, .nil⟩
  | .cons h hs, r => by
    cases r with
    | cons r1 r2 =>
      obtain ⟨as, q⟩ := I.reads h r1
      obtain ⟨bs, q2⟩ := I.readsAll hs r2
      exact ⟨_, .cons q q2⟩
end
end
theorem dt_ints {K : PySem.W.Frag} {H : Hp} : ∀ ns : List Int, DtAll K H (ns.map V.int) (ns.map PyData.int)
  | [] => .nil
  | n :: r => .cons (.int n) (dt_ints r)
def rEqD (K : PySem.W.Frag) : R2 := fun x y H Q => ∃ dx dy, Dt K H x dx ∧ Dt K H y dy ∧ SeqAt.shaped dx = true ∧ SeqAt.shaped dy = true ∧ Q (.bl (PyData.eqv dx dy)) H
def rNeD (K : PySem.W.Frag) : R2 := fun x y H Q => ∃ dx dy, Dt K H x dx ∧ Dt K H y dy ∧ SeqAt.shaped dx = true ∧ SeqAt.shaped dy = true ∧ Q (.bl (!PyData.eqv dx dy)) H
section
variable {X : Cx}
theorem op_eqD (hu : X.A.units + 64 < cLine) : OpR X (compareOp .Eq) (rEqD X.K) := by
  intro pins s σ H x y v u Q I rx ry h
  obtain ⟨dx, dy, h1, h2, s1, s2, q⟩ := h
  obtain ⟨as, ra⟩ := I.reads h1 rx
  obtain ⟨bs, rb⟩ := I.reads h2 ry
  exact SeqAt.compareEq_shaped ra rb s1 s2 hu ⟨.bl _, H, I, rfl, q⟩
theorem op_neD (hu : X.A.units + 64 < cLine) : OpR X (compareOp .NotEq) (rNeD X.K) := by
  intro pins s σ H x y v u Q I rx ry h
  obtain ⟨dx, dy, h1, h2, s1, s2, q⟩ := h
  obtain ⟨as, ra⟩ := I.reads h1 rx
  obtain ⟨bs, rb⟩ := I.reads h2 ry
  exact SeqAt.compareNe_shaped ra rb s1 s2 hu ⟨.bl _, H, I, rfl, q⟩
end
/-! ### what == says of lists of ints -/
theorem eqvAll_ints : ∀ ns ms : List Int, PyData.eqvAll (ns.map PyData.int) (ms.map PyData.int) = decide (ns = ms)
  | [], [] => by simp [PyData.eqvAll]
  | [], _ :: _ => by simp [PyData.eqvAll]
  | _ :: _, [] => by simp [PyData.eqvAll]
  | n :: ns, m :: ms => by
    rw [List.map_cons, List.map_cons, PyData.eqvAll, eqvAll_ints ns ms]
    rw [Bool.eq_iff_iff]
    simp [PyData.eqv]
theorem eqv_ints (ns ms : List Int) : PyData.eqv (.list (ns.map PyData.int)) (.list (ms.map PyData.int)) = decide (ns = ms) := by
  rw [PyData.eqv]; exact eqvAll_ints ns ms
theorem canAll_ints : ∀ ns : List Int, PyData.canLayAll0 (ns.map PyData.int) = true
  | [] => rfl
  | n :: r => by rw [List.map_cons, PyData.canLayAll0, canAll_ints r]; rfl
theorem depth_ints : ∀ ns : List Int, PyData.depthAll (ns.map PyData.int) ≤ 1
  | [] => by simp [PyData.depthAll]
  | n :: r => by
    have := depth_ints r
    rw [List.map_cons, PyData.depthAll]
    simp only [PyData.depth]
    (first | lia | omega)
theorem shaped_ints (ns : List Int) : SeqAt.shaped (.list (ns.map PyData.int)) = true := by
  have h1 := canAll_ints ns
  have h2 := depth_ints ns
  unfold SeqAt.shaped
  rw [Bool.and_eq_true]
  refine ⟨by rw [PyData.canLay0]; exact h1, decide_eq_true ?_⟩
  rw [PyData.depth]
  (first | lia | omega)
/-! ### sorted -/
theorem ints_vals : ∀ {ns : List Int} {vs : List Value}, Vals (ns.map V.int) vs → IntsAre vs ns
  | [], _, .nil => .nil
  | n :: ns, _, .cons ⟨t, e⟩ r => by subst e; exact .cons n t (ints_vals r)
section
variable {X : Cx}
/-! ### count, remove of lists of ints -/
def isI (k : Int) : Value → Bool
  | .int i _ => i == k
  | _ => false
theorem count_isI {k : Int} : ∀ {vs : List Value} {ns : List Int}, IntsAre vs ns → vs.countP (isI k) = ns.count k
  | _, _, .nil => rfl
  | _, _, .cons n t h => by
    rw [List.countP_cons, List.count_cons, count_isI h]; rfl
theorem mem_ints {vs : List Value} {ns : List Int} (h : IntsAre vs ns) : ∀ v ∈ vs, ∃ i t, v = .int i t := by
  induction h with
  | nil => intro v hv; cases hv
  | cons n t _ ih =>
    intro v hv
    rcases List.mem_cons.mp hv with rfl | hv
    · exact ⟨n, t, rfl⟩
    · exact ih v hv
def rCount (K : PySem.W.Frag) : V → List V → Hp → VK → Prop := fun x vs H Q => ∃ (l : Addr) (ns : List Int) (k : Int), x = .ref l ∧ vs = [.int k] ∧ SqL K H l (ns.map V.int) ∧ Q (.int ((ns.count k : Nat) : Int)) H
theorem mt_count : MtM X "list.count" (rCount X.K) := by
  intro pins s σ H x vs v us Q I rx rv h
  obtain ⟨l, ns, k, rfl, rfl, hl, q⟩ := h
  cases (show v = Value.ref l from rx)
  obtain ⟨u, rfl, ru⟩ := rv.one
  obtain ⟨t, rfl⟩ := (show ∃ t, u = Value.int k t from ru)
  obtain ⟨its, r, ⟨⟨c, dd, dt, sl⟩, n, e, hc, hd, hdt⟩, hz⟩ := I.list hl
  have hc' : c = .type "list" := hc
  have hdt' : dt = .seq its.toArray n := hdt
  subst hc' hdt'
  have hi := ints_vals r
  refine call_meets F.slot_list_count ⟨_, e, rfl⟩ F.entry_list_count (F.args_list_count_2 _ _) (SeqAt.list_countAt l its.toArray n dd sl (.int k t) (isI k)) ⟨e, fun y hy => ?_, ?_⟩
  · obtain ⟨i, t', rfl⟩ := mem_ints hi y (by simpa using hy)
    exact SeqAt.EqAt.int_int i t' k t
  · refine ⟨.int ((ns.count k : Nat) : Int), H, I.tok _, ⟨s.toks, ?_⟩, q⟩
    rw [← count_isI hi]
theorem erase_at {k : Int} : ∀ {ns : List Int}, k ∈ ns → ∃ j, ns[j]? = some k ∧ (∀ m, m < j → ns[m]? ≠ some k) ∧ ns.eraseIdx j = ns.erase k
  | [], h => nomatch h
  | n :: r, h => by
    by_cases e : n = k
    · subst e
      exact ⟨0, rfl, fun m hm => absurd hm (Nat.not_lt_zero _), by simp⟩
    · have h' : k ∈ r := by
        rcases List.mem_cons.mp h with z | z
        · exact absurd z.symm e
        · exact z
      obtain ⟨j, h1, h2, h3⟩ := erase_at h'
      refine ⟨j + 1, by simpa using h1, fun m hm => ?_, ?_⟩
      · cases m with
        | zero => simpa using e
        | succ m => simpa using h2 m (by omega)
      · rw [List.eraseIdx_cons_succ, h3, List.erase_cons_tail (by simpa using e)]
def rRemove : V → List V → Hp → VK → Prop := fun x vs H Q => ∃ (l : Addr) (ns : List Int) (k : Int), x = .ref l ∧ vs = [.int k] ∧ H l = some (.lst (ns.map V.int)) ∧ k ∈ ns ∧ Q .non (upd H l (.lst ((ns.erase k).map V.int)))
theorem ints_at {vs : List Value} {ns : List Int} (h : IntsAre vs ns) : ∀ (i : Nat) (v : Value), vs[i]? = some v → ∃ n t, ns[i]? = some n ∧ v = .int n t := by
  induction h with
  | nil => intro i v hv; simp at hv
  | cons n t _ ih =>
    intro i v hv
    cases i with
    | zero => simp at hv; exact ⟨n, t, rfl, hv.symm⟩
    | succ i => exact ih i v (by simpa using hv)
theorem erase_map {α β : Type} (f : α → β) : ∀ (l : List α) (j : Nat), (l.map f).eraseIdx j = (l.eraseIdx j).map f
  | [], _ => rfl
  | _ :: _, 0 => rfl
  | a :: l, j + 1 => by rw [List.map_cons, List.eraseIdx_cons_succ, erase_map f l j, List.eraseIdx_cons_succ, List.map_cons]
theorem mt_remove : MtM X "list.remove" rRemove := by
  intro pins s σ H x vs v us Q I rx rv h
  obtain ⟨l, ns, k, rfl, rfl, hH, hk, q⟩ := h
  cases (show v = Value.ref l from rx)
  obtain ⟨u, rfl, ru⟩ := rv.one
  obtain ⟨t, rfl⟩ := (show ∃ t, u = Value.int k t from ru)
  obtain ⟨z, its, n, r, hl, e⟩ := I.lstM hH
  have hi := ints_vals r
  obtain ⟨j, j1, j2, j3⟩ := erase_at hk
  have hlen : its.length = ns.length := by rw [← hl, List.length_map]
  have hj : j < its.toArray.size := by
    rw [List.size_toArray, hlen]
    exact (List.getElem?_eq_some_iff.mp j1).1
  have at_ : ∀ (m : Nat) (hm : m < its.toArray.size), ∃ i t', ns[m]? = some i ∧ its.toArray[m] = .int i t' := fun m hm => by
    have e1 : its[m]? = some its.toArray[m] := by simp at hm ⊢
    exact ints_at hi m _ e1
  refine call_meets F.slot_list_remove ⟨_, e, rfl⟩ F.entry_list_remove (F.args_list_remove_2 _ _) (MeetsSeq.list_remove l its.toArray n (.int k t) (isI k) (fun y hy => ?_) j hj ?_ (fun m hm hmj => ?_) (by rw [List.size_toArray]; omega)) ⟨e, ?_⟩
  · obtain ⟨i, t', rfl⟩ := mem_ints hi y (by simpa using hy)
    exact MeetsSeq.EqGives.int i k t' t
  · obtain ⟨i, t', h1, h2⟩ := at_ j hj
    rw [j1] at h1
    cases h1
    rw [h2]; simp [isI]
  · obtain ⟨i, t', h1, h2⟩ := at_ m hm
    rw [h2]
    have := j2 m hmj
    rw [h1] at this
    simp [isI]
    intro z
    exact this (by rw [z])
  · refine ⟨.non, _, I.lset (its' := its.eraseIdx j) (t' := s.toks) hH e ?_ ?_ ?_, rfl, q⟩
    · show its.toArray.eraseIdxIfInBounds j = (its.eraseIdx j).toArray
      rw [List.eraseIdxIfInBounds_toArray]
    · have := r.eraseIdx j
      rw [erase_map, j3] at this
      exact this
    · have := List.length_erase_le (a := k) (l := ns)
      rw [List.length_map] at z ⊢
      (first | lia | omega)
/-! ### all of a list of bools -/
def rAll (K : PySem.W.Frag) : List V → Hp → VK → Prop := fun xs H Q => ∃ (p : Addr) (bs : List Bool), xs = [.ref p] ∧ SqL K H p (bs.map V.bl) ∧ Q (.bl (bs.all id)) H
theorem range_all {α : Type} (f : α → Bool) (d : α) : ∀ bs : List α, ((List.range bs.length).all fun i => f (bs.getD i d)) = bs.all f
  | [] => rfl
  | b :: r => by
    rw [List.length_cons, List.range_succ_eq_map, List.all_cons, List.all_cons, List.all_map, ← range_all f d r]
    rfl
theorem call_all (hc : X.calm = true) : CallR X (.builtin "all") (rAll X.K) := by
  intro pins s σ H xs us Q I r h
  obtain ⟨p, bs, rfl, hp, q⟩ := h
  obtain ⟨u, rfl, ru⟩ := r.one
  cases (show u = Value.ref p from ru)
  obtain ⟨its, rv, pl, hz⟩ := I.list hp
  have hlen : its.length = bs.length := by rw [← rv.length, List.length_map]
  refine call_all_walk (wpAny_pyIter_list pl.isList ?_)
  have hne : p ≠ s.heap.objs.size := by
    obtain ⟨o, n, e, _⟩ := pl
    exact Nat.ne_of_lt (Heap.lt_size e)
  refine ⟨_, _, _, _, _, _, fun i => bs.getD i true, rfl, Walks.list (show X.A.in1.handled = none from I.ok.hd hc) s.heap.objs.size p hne its.toArray, ⟨⟨_, Heap.get?_push_size _ rfl, rfl, rfl⟩, ?_⟩, ?_, ?_⟩
  · obtain ⟨o, n, e, c, d, dt⟩ := pl
    exact ⟨o, Heap.get?_push_of_some _ e, c, n, dt⟩
  · intro i v s' Q' E' hv hq
    have hv' : its[i]? = some v := by simpa using hv
    have hi : i < bs.length := by rw [← hlen]; exact (List.getElem?_eq_some_iff.mp hv').1
    have hb : (bs.map V.bl)[i]? = some (V.bl (bs.getD i true)) := by
      rw [List.getElem?_map, List.getElem?_eq_getElem hi]
      simp [List.getD_eq_getElem?_getD, hi]
    obtain ⟨u, hu, ru⟩ := rv.get hb
    rw [hv'] at hu
    cases hu
    cases (show v = Value.bool _ from ru)
    exact wpAny_truthy_bool hq
  · intro h' tk hk
    refine ⟨.bl (bs.all id), H, I.kept (t' := tk) fun b o e => ?_, ?_, q⟩
    · exact hk b o (by simp; exact Nat.ne_of_lt (Heap.lt_size e)) (Heap.get?_push_of_some _ e)
    · show Value.bool _ = Value.bool _
      rw [List.size_toArray, hlen]
      exact congrArg Value.bool (range_all id true bs)
/-! ### o[i] read for an augmented store -/
def rGetL (K : PySem.W.Frag) : V → V → Hp → VK → Prop := fun o i H Q => ∃ p xs k v, o = .ref p ∧ i = .int k ∧ 0 ≤ k ∧ SqL K H p xs ∧ xs[k.toNat]? = some v ∧ Q v H
theorem get_listG : PGet X (rGetL X.K) := by
  intro pins s σ H o i ov iv Q I ro ri h
  obtain ⟨p, xs, k, v, rfl, rfl, h0, hp, hv, q⟩ := h
  cases (show ov = Value.ref p from ro)
  obtain ⟨t, rfl⟩ := (show ∃ t, iv = Value.int k t from ri)
  obtain ⟨its, rv, pl, hz⟩ := I.list hp
  obtain ⟨u, hu, ru⟩ := rv.get hv
  have hlt := (List.getElem?_eq_some_iff.mp hv).1
  have hn := line63
  exact wpAny_getItem_list pl.isList h0 (by omega) (by simpa using hu) ⟨v, H, I, ru, q⟩
end
/-! ### for .. in reversed(xs) -/
/-- the list at a from its end; n its length -/
def Itv (K : PySem.W.Frag) (a : Addr) (n : Nat) : It :=
  ⟨fun i H => ∃ xs x, SqL K H a xs ∧ xs.length = n ∧ i < n ∧ xs[n - 1 - i]? = some x, fun i H x H' => H' = H ∧ ∀ xs, SqL K H a xs → xs[n - 1 - i]? = some x, fun i H => i = n⟩
theorem turn_rev {P : Program} {w : World} {K : PySem.W.Frag} {tg : Expr} (a it : Addr) (n : Nat) : Turn P w K tg (Itv K a n) [it] it (fun i h => h.IsRevIter it a ((n : Int) - 1 - (i : Nat))) where
  mem := by simp
  obj := fun i h st b hb => by
    have e : b = it := by simpa using hb
    subst e
    obtain ⟨o, e, c, d⟩ := st
    exact ⟨o, e, fun v z => by rw [d] at z; cases z⟩
  keep := fun i h h' st k => st.at fun o e => k it (by simp) o e
  item := by
    intro X hP hw hK hc i pins s σ H E I hf st hg
    subst hP hw hK
    obtain ⟨xs, x, hq, hl, hi, hx⟩ := hg
    obtain ⟨its, rv, p, hz⟩ := I.list hq
    obtain ⟨u, hu, ru⟩ := rv.get hx
    obtain ⟨f0, f1, f2, f3, f4, f5⟩ := hf it (by simp)
    have ei : (n : Int) - 1 - (i : Nat) = ((n - 1 - i : Nat) : Int) := by (first | lia | omega)
    rw [ei] at st
    refine wpAny_pyNext_rev_item st p.isList (x := u) (by simpa using hu) fun h' st' sb => ?_
    have I1 : Inv X pins σ H { s with heap := h' } := I.turned (t' := s.toks) (fun b o hb e => (sb.2 b hb).trans e) f0 f1 f3 f4 f5
    obtain ⟨o, e, c, d⟩ := id st'
    refine ⟨u, rfl, go_of (s := { s with heap := h' }) e c d (by decide) ⟨x, H, I1, ru, ⟨rfl, fun ys hy => by rw [I.list_inj hy hq]; exact hx⟩, ?_, fun b hb => (hf b hb).1⟩⟩
    have e2 : (n : Int) - 1 - ((i + 1 : Nat) : Int) = ((n - 1 - i : Nat) : Int) - 1 := by (first | lia | omega)
    show Heap.IsRevIter _ _ _ ((n : Int) - 1 - ((i + 1 : Nat) : Int))
    rw [e2]
    exact st'
  done := by
    intro X hP hw hK hc i pins s σ H E I hf st hg
    subst hP hw hK
    obtain ⟨f0, f1, f2, f3, f4, f5⟩ := hf it (by simp)
    have hg' : i = n := hg
    have ei : (n : Int) - 1 - (i : Nat) = -1 := by (first | lia | omega)
    rw [ei] at st
    exact wpAny_pyNext_rev_end (I.ok.hd hc) st fun h' eb => ⟨rfl, I.turned (t' := s.toks) (fun b o hb e => eb b o hb e) f0 f1 f3 f4 f5⟩
  self := fun _ _ _ _ _ st h => wpAny_pyIter_revIter st h
section
variable {X : Cx} {tg : Expr}
def iRev (K : PySem.W.Frag) (ta : TA) : TI := fun σ H R => ta σ H fun vs H1 => ∃ a xs, vs = [.ref a] ∧ SqL K H1 a xs ∧ R (Itv K a xs.length) H1
theorem pi_rev {a : Expr} {ta : TA} {p pos : Pos} (hg : Gl X "reversed") (hm : X.mg "reversed" = none) (ha : PA X [a] ta) (hs : starEach [a] X.env = [(false, eval a X.env)] := by rfl) : PI X tg (.Call (.Name "reversed" p) [a] [] pos) (iRev X.K ta) := by
  intro pins s σ H R I h
  refine Call_ (ld_blt I hg hm PyProof.Rows.Boot.«reversed» (PyProof.Rows.callWith_type1 (thn (ha pos pins s σ H _ I h) fun us s1 ⟨vs, H1, I1, r1, q1⟩ => ?_) hs rfl))
  obtain ⟨l, xs, rfl, hl, q⟩ := q1
  obtain ⟨u, rfl, ru⟩ := r1.one
  cases (show u = Value.ref l from ru)
  obtain ⟨its, rv, pl, hz⟩ := I1.list hl
  refine PySem.call_reversed_list pl.isList (wpAny_pyIter_revIter ⟨_, Heap.get?_push_size _ rfl, rfl, rfl⟩ ?_)
  refine ⟨s1.heap.objs.size, [s1.heap.objs.size], _, _, H1, rfl, I1.kept (t' := s1.toks) fun b o e => Heap.get?_push_of_some _ e, turn_rev l _ xs.length, ?_, fun b hb => ?_, q⟩
  · have e1 : (xs.length : Int) - 1 - ((0 : Nat) : Int) = ((its.toArray.size : Nat) : Int) - 1 := by rw [List.size_toArray, rv.length]; (first | lia | omega)
    show Heap.IsRevIter _ _ _ ((xs.length : Int) - 1 - ((0 : Nat) : Int))
    rw [e1]
    exact ⟨_, Heap.get?_push_size _ rfl, rfl, rfl⟩
  · have e : b = s1.heap.objs.size := by simpa using hb
    subst e
    exact I1.fpOk (Nat.le_refl _) (I1.hok.fresh (Nat.le_refl _))
end
section
variable {X : Cx} {elts : List Expr} {k : Nat} {tp : Pos}
end
end L2
namespace Rg
/-! ### two lists in order, being merged: o what is laid down, u and v what is left -/
section
variable {α : Type} (kz : α → Int)
structure MG (w o u v : List α) : Prop where
  so : o.Pairwise fun a b => kz a ≤ kz b
  su : u.Pairwise fun a b => kz a ≤ kz b
  sv : v.Pairwise fun a b => kz a ≤ kz b
  ou : ∀ x ∈ o, ∀ y ∈ u, kz x ≤ kz y
  ov : ∀ x ∈ o, ∀ y ∈ v, kz x ≤ kz y
  pm : (o ++ u ++ v).Perm w
variable {kz} {w o u v : List α}
theorem MG.swap (h : MG kz w o u v) : MG kz w o v u := by
  refine ⟨h.so, h.sv, h.su, h.ov, h.ou, List.Perm.trans ?_ h.pm⟩
  rw [List.append_assoc, List.append_assoc]
  exact List.Perm.append_left _ List.perm_append_comm
/-- a piece of u is laid down -/
theorem MG.chunk (h : MG kz w o u v) (k : Nat) (hk : ∀ x ∈ u.take k, ∀ y ∈ v, kz x ≤ kz y) : MG kz w (o ++ u.take k) (u.drop k) v := by
  have e : u.take k ++ u.drop k = u := List.take_append_drop k u
  have su := h.su
  rw [← e, List.pairwise_append] at su
  refine ⟨?_, su.2.1, h.sv, ?_, ?_, ?_⟩
  · rw [List.pairwise_append]
    exact ⟨h.so, su.1, fun x hx y hy => h.ou x hx y (List.mem_of_mem_take hy)⟩
  · intro x hx y hy
    rcases List.mem_append.mp hx with z | z
    · exact h.ou x z y (List.mem_of_mem_drop hy)
    · exact su.2.2 x z y hy
  · intro x hx y hy
    rcases List.mem_append.mp hx with z | z
    · exact h.ov x z y hy
    · exact hk x z y hy
  · have := h.pm
    rw [List.append_assoc o, e]
    exact this
theorem MG.one {x : α} {u : List α} (h : MG kz w o (x :: u) v) (hk : ∀ y ∈ v, kz x ≤ kz y) : MG kz w (o ++ [x]) u v := by
  have := h.chunk 1 (by intro z hz; simp at hz; subst hz; exact hk)
  simpa using this
/-- laid down in order -/
def Done (kz : α → Int) (w r : List α) : Prop := r.Pairwise (fun a b => kz a ≤ kz b) ∧ r.Perm w
theorem MG.behind (h : MG kz w o u v) (hk : ∀ y ∈ v, ∀ x ∈ u, kz y ≤ kz x) : Done kz w (o ++ v ++ u) := by
  refine ⟨?_, ?_⟩
  · rw [List.pairwise_append, List.pairwise_append]
    refine ⟨⟨h.so, h.sv, h.ov⟩, h.su, fun x hx y hy => ?_⟩
    rcases List.mem_append.mp hx with z | z
    · exact h.ou x z y hy
    · exact hk x z y hy
  · exact h.swap.pm
theorem MG.ends (h : MG kz w o u v) (hk : u = [] ∨ v = []) : Done kz w (o ++ u ++ v) := by
  refine h.swap.behind fun y hy x hx => ?_
  rcases hk with z | z
  · rw [z] at hy; cases hy
  · rw [z] at hx; cases hx
/-- all from the i-th on are no less -/
theorem sorted_from {l : List α} (h : l.Pairwise fun a b => kz a ≤ kz b) {i j : Nat} {x y : α} (hi : l[i]? = some x) (hj : l[j]? = some y) (hij : i ≤ j) : kz x ≤ kz y := by
  by_cases e : i = j
  · subst e
    rw [hi] at hj
    cases hj
    exact Int.le_refl _
  · obtain ⟨h1, e1⟩ := List.getElem?_eq_some_iff.mp hi
    obtain ⟨h2, e2⟩ := List.getElem?_eq_some_iff.mp hj
    have := List.pairwise_iff_getElem.mp h i j h1 h2 (by omega)
    rw [e1, e2] at this
    exact this
end
theorem pairwise_rev {α : Type} {kz : α → Int} {l : List α} (h : l.Pairwise fun a b => kz a ≤ kz b) : l.reverse.Pairwise fun a b => -kz a ≤ -kz b := by
  rw [List.pairwise_reverse]
  exact h.imp fun {a b} q => by (first | lia | omega)
theorem done_rev {α : Type} {kz : α → Int} {w r : List α} (h : Done (fun a => -kz a) w r) : Done kz w r.reverse := by
  refine ⟨?_, (List.reverse_perm r).trans h.2⟩
  rw [List.pairwise_reverse]
  exact h.1.imp fun {a b} q => by have q' : -kz a ≤ -kz b := q; (first | lia | omega)
end Rg
/-! THE SORT OF THE MACHINE, for lists of any length: runs, galloping, merging. -/
namespace RgG
open PySem PyProof.Rows Rg
/-- the order that the keys stand in, told by ints -/
class KOrd where
  kz : Keyed → Int
  IntK : Keyed → Prop
abbrev kz [KOrd] (p : Keyed) : Int := KOrd.kz p
abbrev IntK [KOrd] (p : Keyed) : Prop := KOrd.IntK p
class KLt (prog : Program) (w : World) (A : Around) (s : Shared) [KOrd] : Prop where
  lt : ∀ {E : Value → Shared → Prop} {x y : Keyed} {st : SortSt} {Q : Option Bool → SortSt → Prop}, kindOf st = oneType' → IntK x → IntK y → Q (some (decide (kz x < kz y))) st → wpS (model prog w) A E s (lt' x y) Q st
variable [KOrd]
/-- the i-th key -/
def KG (xs : Array Keyed) (i : Nat) : Int := match xs[i]? with
  | some p => kz p
  | none => 0
def SortedG (xs : Array Keyed) (k : Nat) : Prop := ∀ i j, i ≤ j → j < k → KG xs i ≤ KG xs j
theorem KG_congr {xs ys : Array Keyed} {i j : Nat} (h : xs[i]? = ys[j]?) : KG xs i = KG ys j := by
  unfold KG
  rw [h]
theorem KG_bubble {xs : Array Keyed} {src d : Nat} (hs : src < xs.size) (hd : d ≤ src) (k : Nat) : KG (bubble xs src d) k = if k = src - d then KG xs src else if src - d < k ∧ k ≤ src then KG xs (k - 1) else KG xs k := by
  have e := getElem?_bubble hs d hd k
  split
  · rename_i h1
    rw [if_pos h1] at e
    exact KG_congr e
  · rename_i h1
    rw [if_neg h1] at e
    split
    · rename_i h2
      rw [if_pos h2] at e
      exact KG_congr e
    · rename_i h2
      rw [if_neg h2] at e
      exact KG_congr e
theorem KG_mirror {xs : Array Keyed} {i j : Nat} (hj : j ≤ xs.size) (k : Nat) : KG (mirror xs i j ((j - i) / 2)) k = if i ≤ k ∧ k < j then KG xs (i + j - 1 - k) else KG xs k := by
  have e := getElem?_mirror_all (i := i) hj k
  split
  · rename_i h1
    rw [if_pos h1] at e
    exact KG_congr e
  · rename_i h1
    rw [if_neg h1] at e
    exact KG_congr e
theorem KG_mirror_equal {xs : Array Keyed} {i j : Nat} (hj : j ≤ xs.size) (heq : ∀ k, i ≤ k → k < j → KG xs k = KG xs (j - 1)) (k : Nat) : KG (mirror xs i j ((j - i) / 2)) k = KG xs k := by
  rw [KG_mirror hj]
  split
  · rename_i h1
    rw [heq _ (by (first | lia | omega)) (by (first | lia | omega)), heq k (by (first | lia | omega)) (by (first | lia | omega))]
  · rfl
def gallop' : Bool → Keyed → Array Keyed → Nat → Nat → Nat → StateT SortSt Sem (Option Nat) := sortPriv% PySem.Builtin.gallop
def mergeLo' : Array Keyed → Array Keyed → StateT SortSt Sem (Array Keyed) := sortPriv% PySem.Builtin.mergeLo
def mergeHi' : Array Keyed → Array Keyed → StateT SortSt Sem (Array Keyed) := sortPriv% PySem.Builtin.mergeHi
section
variable {prog : Program} {w : World} {A : Around} {E : Value → Shared → Prop} {s : Shared} [KLt prog w A s]
theorem wpS_lt {x y : Keyed} {st : SortSt} {Q : Option Bool → SortSt → Prop} (hk : kindOf st = oneType') (hx : IntK x) (hy : IntK y) (h : Q (some (decide (kz x < kz y))) st) : wpS (model prog w) A E s (lt' x y) Q st := KLt.lt hk hx hy h
theorem wpS_elem {arr : Array Keyed} {i : Nat} {p : Keyed} {st : SortSt} {Q : Keyed → SortSt → Prop} (hi : arr[i]? = some p) (h : Q p st) : wpS (model prog w) A E s (elem' arr i) Q st := by
  rw [elem'_eq, hi]
  exact wpS_pure h
def bey (left : Bool) (key x : Keyed) : Bool := if left = true then decide (kz x < kz key) else !decide (kz key < kz x)
theorem wpS_bey {left : Bool} {key p : Keyed} {arr : Array Keyed} {j : Nat} {st : SortSt} {Q : Option Bool → SortSt → Prop} (hk : kindOf st = oneType') (hp : arr[j]? = some p) (ip : IntK p) (ik : IntK key) (h : Q (some (bey left key p)) st) :
    wpS (model prog w) A E s (elem' arr j >>= fun x => if left = true then lt' x key else lt' key x >>= fun r => pure (r.map fun b => !b)) Q st := by
  refine wpS_bind (wpS_elem hp ?_)
  unfold bey at h
  cases left with
  | true => exact wpS_lt hk ip ik h
  | false => exact wpS_bind (wpS_lt hk ik ip (wpS_pure h))
/-- how far beyond the key the i-th of a list in order stands -/
def beyL (left : Bool) (key : Keyed) (L : List Keyed) (i : Nat) : Bool := match L[i]? with
  | some p => bey left key p
  | none => false
theorem beyL_mono {left : Bool} {key : Keyed} {L : List Keyed} (hs : L.Pairwise fun a b => kz a ≤ kz b) {i j : Nat} (hij : i ≤ j) (hj : j < L.length) (h : beyL left key L j = true) : beyL left key L i = true := by
  have e1 : L[i]? = some (L[i]'(by (first | lia | omega))) := List.getElem?_eq_getElem (by (first | lia | omega))
  have e2 : L[j]? = some L[j] := List.getElem?_eq_getElem hj
  have hle := sorted_from hs e1 e2 hij
  unfold beyL at h ⊢
  rw [e2] at h
  rw [e1]
  dsimp only at h ⊢
  unfold bey at h ⊢
  cases left with
  | true => simp at h ⊢; (first | lia | omega)
  | false => simp at h ⊢; (first | lia | omega)
theorem wpS_gallop {left : Bool} {key : Keyed} {arr : Array Keyed} {base n hint : Nat} {L : List Keyed} {st : SortSt} {Q : Option Nat → SortSt → Prop} (hk : kindOf st = oneType') (ik : IntK key) (hlen : L.length = n)
    (hL : ∀ i, i < n → arr[base + i]? = L[i]?) (hs : L.Pairwise fun a b => kz a ≤ kz b) (hI : ∀ p ∈ L, IntK p) (hh : hint < n)
    (h : ∀ k, k ≤ n → (∀ i, i < k → beyL left key L i = true) → (∀ i, k ≤ i → i < n → beyL left key L i = false) → Q (some k) st) :
    wpS (model prog w) A E s (gallop' left key arr base n hint) Q st := by
  have ask : ∀ i (Q' : Option Bool → SortSt → Prop), i < n → Q' (some (beyL left key L i)) st →
      wpS (model prog w) A E s (elem' arr (base + i) >>= fun x => if left = true then lt' x key else lt' key x >>= fun r => pure (r.map fun b => !b)) Q' st := fun i Q' hi q => by
    have e : L[i]? = some (L[i]'(by (first | lia | omega))) := List.getElem?_eq_getElem (by (first | lia | omega))
    refine wpS_bey hk ((hL i hi).trans e) (hI _ (List.getElem_mem _)) ik ?_
    unfold beyL at q
    rw [e] at q
    exact q
  have mono : ∀ {i j}, i ≤ j → j < n → beyL left key L j = true → beyL left key L i = true := fun hij hj => beyL_mono hs hij (by (first | lia | omega))
  have anti : ∀ {i j}, i ≤ j → j < n → beyL left key L i = false → beyL left key L j = false := fun {i j} hij hj q => by
    cases e : beyL left key L j with
    | false => rfl
    | true => rw [mono hij hj e] at q; cases q
  generalize hB : beyL left key L = B at *
  refine wpS_bind (ask hint _ hh ?_)
  dsimp only
  cases hb : B hint with
  | true =>
    rw [if_pos rfl]
    refine wpS_bind (wpS_mono (wpS_forRange (I := fun x c st' => st' = st ∧ ∃ la ofs, c = (none, la, ofs) ∧ la < ofs ∧ x + 1 ≤ ofs ∧ hint + la < n ∧ B (hint + la) = true)
      (Q := fun c st' => st' = st ∧ ∃ la ofs, c = (none, la, ofs) ∧ la < ofs ∧ hint + la < n ∧ B (hint + la) = true ∧ (n ≤ hint + ofs ∨ (hint + ofs < n ∧ B (hint + ofs) = false))) ?step ?fin ?init) ?post)
    case init => exact ⟨rfl, 0, 1, rfl, by omega, by omega, by omega, hb⟩
    case fin =>
      rintro c st' ⟨rfl, la, ofs, rfl, h1, h2, h3, h4⟩
      exact ⟨rfl, la, ofs, rfl, h1, h3, h4, .inl (by (first | lia | omega))⟩
    case step =>
      rintro x c st' _ hx ⟨rfl, la, ofs, rfl, h1, h2, h3, h4⟩
      dsimp only
      by_cases hge : ofs ≥ n - hint
      · rw [if_pos hge]
        exact wpS_pure ⟨rfl, la, ofs, rfl, h1, h3, h4, .inl (by (first | lia | omega))⟩
      · rw [if_neg hge]
        refine wpS_bind (ask (hint + ofs) _ (by (first | lia | omega)) ?_)
        cases hm : B (hint + ofs) with
        | false => exact wpS_pure ⟨rfl, la, ofs, rfl, h1, h3, h4, .inr ⟨by omega, hm⟩⟩
        | true => exact wpS_pure ⟨rfl, ofs, 2 * ofs + 1, rfl, by omega, by omega, by omega, hm⟩
    case post =>
      rintro c st' ⟨rfl, la, ofs, rfl, h1, h3, h4, h5⟩
      dsimp only
      have f1 : hint + la + 1 ≤ hint + min ofs (n - hint) := by (first | lia | omega)
      have f2 : hint + min ofs (n - hint) ≤ n := by (first | lia | omega)
      have f3 : ∀ i, i < hint + la + 1 → B i = true := fun i hi => mono (by (first | lia | omega)) h3 h4
      have f4 : ∀ i, hint + min ofs (n - hint) ≤ i → i < n → B i = false := fun i hi hn => by
        rcases h5 with z | ⟨z1, z2⟩
        · (first | lia | omega)
        · exact anti (by (first | lia | omega)) hn z2
      generalize hint + la + 1 = lo at f1 f3 ⊢
      generalize hint + min ofs (n - hint) = hi at f1 f2 f4 ⊢
      refine wpS_bind (wpS_mono (wpS_forRange (I := fun x c st'' => st'' = st' ∧ ∃ lo hi, c = (none, lo, hi) ∧ lo ≤ hi ∧ hi ≤ n ∧ hi - lo ≤ n - x ∧ (∀ i, i < lo → B i = true) ∧ (∀ i, hi ≤ i → i < n → B i = false))
        (Q := fun c st'' => st'' = st' ∧ ∃ lo hi, c = (none, lo, hi) ∧ hi ≤ n ∧ (∀ i, i < hi → B i = true) ∧ (∀ i, hi ≤ i → i < n → B i = false)) ?s2 ?f2 ⟨rfl, lo, hi, rfl, f1, f2, by omega, f3, f4⟩) ?p2)
      case f2 =>
        rintro c st'' ⟨rfl, lo, hi, rfl, g1, g2, g3, g4, g5⟩
        have : lo = hi := by (first | lia | omega)
        subst this
        exact ⟨rfl, lo, lo, rfl, g2, g4, g5⟩
      case s2 =>
        rintro x c st'' _ hx ⟨rfl, lo, hi, rfl, g1, g2, g3, g4, g5⟩
        dsimp only
        by_cases hge : lo ≥ hi
        · rw [if_pos hge]
          have : lo = hi := by (first | lia | omega)
          subst this
          exact wpS_pure ⟨rfl, lo, lo, rfl, g2, g4, g5⟩
        · rw [if_neg hge]
          refine wpS_bind (ask (lo + (hi - lo) / 2) _ (by (first | lia | omega)) ?_)
          cases hm : B (lo + (hi - lo) / 2) with
          | true => exact wpS_pure ⟨rfl, lo + (hi - lo) / 2 + 1, hi, rfl, by omega, g2, by omega, fun i hi' => mono (by (first | lia | omega)) (by (first | lia | omega)) hm, g5⟩
          | false => exact wpS_pure ⟨rfl, lo, lo + (hi - lo) / 2, rfl, by omega, by omega, by omega, g4, fun i h1 h2 => anti h1 h2 hm⟩
      case p2 =>
        rintro c st'' ⟨rfl, lo, hi, rfl, g2, g4, g5⟩
        exact wpS_pure (h hi g2 g4 g5)
  | false =>
    rw [if_neg Bool.false_ne_true]
    refine wpS_bind (wpS_mono (wpS_forRange (I := fun x c st' => st' = st ∧ ∃ la ofs, c = (none, la, ofs) ∧ la < ofs ∧ x + 1 ≤ ofs ∧ la ≤ hint ∧ B (hint - la) = false)
      (Q := fun c st' => st' = st ∧ ∃ la ofs, c = (none, la, ofs) ∧ la < ofs ∧ la ≤ hint ∧ B (hint - la) = false ∧ (hint + 1 ≤ ofs ∨ (ofs ≤ hint ∧ B (hint - ofs) = true))) ?step ?fin ?init) ?post)
    case init => exact ⟨rfl, 0, 1, rfl, by omega, by omega, by omega, hb⟩
    case fin =>
      rintro c st' ⟨rfl, la, ofs, rfl, h1, h2, h3, h4⟩
      exact ⟨rfl, la, ofs, rfl, h1, h3, h4, .inl (by (first | lia | omega))⟩
    case step =>
      rintro x c st' _ hx ⟨rfl, la, ofs, rfl, h1, h2, h3, h4⟩
      dsimp only
      by_cases hge : ofs ≥ hint + 1
      · rw [if_pos hge]
        exact wpS_pure ⟨rfl, la, ofs, rfl, h1, h3, h4, .inl (by (first | lia | omega))⟩
      · rw [if_neg hge]
        refine wpS_bind (ask (hint - ofs) _ (by (first | lia | omega)) ?_)
        cases hm : B (hint - ofs) with
        | true => exact wpS_pure ⟨rfl, la, ofs, rfl, h1, h3, h4, .inr ⟨by omega, hm⟩⟩
        | false => exact wpS_pure ⟨rfl, ofs, 2 * ofs + 1, rfl, by omega, by omega, by omega, hm⟩
    case post =>
      rintro c st' ⟨rfl, la, ofs, rfl, h1, h3, h4, h5⟩
      dsimp only
      have f1 : hint + 1 - min ofs (hint + 1) ≤ hint - la := by (first | lia | omega)
      have f2 : hint - la ≤ n := by (first | lia | omega)
      have f3 : ∀ i, i < hint + 1 - min ofs (hint + 1) → B i = true := fun i hi => by
        rcases h5 with z | ⟨z1, z2⟩
        · (first | lia | omega)
        · exact mono (by (first | lia | omega)) (by (first | lia | omega)) z2
      have f4 : ∀ i, hint - la ≤ i → i < n → B i = false := fun i hi hn => anti hi hn h4
      generalize hint + 1 - min ofs (hint + 1) = lo at f1 f3 ⊢
      generalize hint - la = hi at f1 f2 f4 ⊢
      refine wpS_bind (wpS_mono (wpS_forRange (I := fun x c st'' => st'' = st' ∧ ∃ lo hi, c = (none, lo, hi) ∧ lo ≤ hi ∧ hi ≤ n ∧ hi - lo ≤ n - x ∧ (∀ i, i < lo → B i = true) ∧ (∀ i, hi ≤ i → i < n → B i = false))
        (Q := fun c st'' => st'' = st' ∧ ∃ lo hi, c = (none, lo, hi) ∧ hi ≤ n ∧ (∀ i, i < hi → B i = true) ∧ (∀ i, hi ≤ i → i < n → B i = false)) ?s2 ?f2 ⟨rfl, lo, hi, rfl, f1, f2, by omega, f3, f4⟩) ?p2)
      case f2 =>
        rintro c st'' ⟨rfl, lo, hi, rfl, g1, g2, g3, g4, g5⟩
        have : lo = hi := by (first | lia | omega)
        subst this
        exact ⟨rfl, lo, lo, rfl, g2, g4, g5⟩
      case s2 =>
        rintro x c st'' _ hx ⟨rfl, lo, hi, rfl, g1, g2, g3, g4, g5⟩
        dsimp only
        by_cases hge : lo ≥ hi
        · rw [if_pos hge]
          have : lo = hi := by (first | lia | omega)
          subst this
          exact wpS_pure ⟨rfl, lo, lo, rfl, g2, g4, g5⟩
        · rw [if_neg hge]
          refine wpS_bind (ask (lo + (hi - lo) / 2) _ (by (first | lia | omega)) ?_)
          cases hm : B (lo + (hi - lo) / 2) with
          | true => exact wpS_pure ⟨rfl, lo + (hi - lo) / 2 + 1, hi, rfl, by omega, g2, by omega, fun i hi' => mono (by (first | lia | omega)) (by (first | lia | omega)) hm, g5⟩
          | false => exact wpS_pure ⟨rfl, lo, lo + (hi - lo) / 2, rfl, by omega, by omega, by omega, g4, fun i h1 h2 => anti h1 h2 hm⟩
      case p2 =>
        rintro c st'' ⟨rfl, lo, hi, rfl, g2, g4, g5⟩
        exact wpS_pure (h hi g2 g4 g5)
end
end RgG
namespace RgG
open PySem PyProof.Rows Rg
variable [KOrd]
abbrev setG (st : SortSt) (g : Nat) : SortSt := SortSt.mk' (kindOf st) (arrOf st) (pendingOf st) g (failedOf st)
theorem ex_from (a : Array Keyed) (i : Nat) : (a.extract i a.size).toList = a.toList.drop i := by
  rw [Array.toList_extract, List.extract_eq_take_drop]
  exact List.take_of_length_le (by simp)
theorem ex_run (a : Array Keyed) (i k : Nat) : (a.extract i (i + k)).toList = (a.toList.drop i).take k := by
  rw [Array.toList_extract, List.extract_eq_take_drop]
  congr 1
  (first | lia | omega)
theorem ex_to (a : Array Keyed) (k : Nat) : (a.extract 0 k).toList = a.toList.take k := by
  rw [Array.toList_extract, List.extract_eq_take_drop]
  simp
theorem drop_at {l : List Keyed} {i : Nat} (h : i < l.length) : l.drop i = l[i] :: l.drop (i + 1) := List.drop_eq_getElem_cons h
theorem at_some (a : Array Keyed) {i : Nat} (h : i < a.size) : a[i]? = some (a.toList[i]'(by simpa using h)) := by simp [h]
theorem drop_le {l : List Keyed} (hs : l.Pairwise fun a b => kz a ≤ kz b) {i : Nat} (h : i < l.length) : ∀ x ∈ l.drop i, kz l[i] ≤ kz x := fun x hx => by
  obtain ⟨j, hj⟩ := List.mem_iff_getElem?.mp hx
  rw [List.getElem?_drop] at hj
  exact sorted_from hs (List.getElem?_eq_getElem h) hj (by (first | lia | omega))
/-- in a list in order, what stands ahead of k is not beyond the key's place -/
theorem bey_take {key : Keyed} {L : List Keyed} {left : Bool} {k : Nat} (h : ∀ i, i < k → beyL left key L i = true) : ∀ x ∈ L.take k, kz x ≤ kz key := fun x hx => by
  obtain ⟨j, hj⟩ := List.mem_iff_getElem?.mp hx
  have hlt : j < k := by
    have := (List.getElem?_eq_some_iff.mp hj).1
    rw [List.length_take] at this
    (first | lia | omega)
  rw [List.getElem?_take_of_lt hlt] at hj
  have q := h j hlt
  unfold beyL at q
  rw [hj] at q
  dsimp only at q
  unfold bey at q
  cases left with
  | true => simp at q; (first | lia | omega)
  | false => simp at q; (first | lia | omega)
theorem bey_drop {key : Keyed} {L : List Keyed} {left : Bool} {k n : Nat} (hn : L.length = n) (h : ∀ i, k ≤ i → i < n → beyL left key L i = false) : ∀ x ∈ L.drop k, kz key ≤ kz x := fun x hx => by
  obtain ⟨j, hj⟩ := List.mem_iff_getElem?.mp hx
  rw [List.getElem?_drop] at hj
  have q := h (k + j) (by (first | lia | omega)) (by rw [← hn]; exact (List.getElem?_eq_some_iff.mp hj).1)
  unfold beyL at q
  rw [hj] at q
  dsimp only at q
  unfold bey at q
  cases left with
  | true => simp at q; (first | lia | omega)
  | false => simp at q; (first | lia | omega)
section
variable {prog : Program} {w : World} {A : Around} {E : Value → Shared → Prop} {s : Shared} [KLt prog w A s]
theorem wpS_mergeLo {a b : Array Keyed} {st : SortSt} {Q : Array Keyed → SortSt → Prop} (hk : kindOf st = oneType') (sa : a.toList.Pairwise fun x y => kz x ≤ kz y) (sb : b.toList.Pairwise fun x y => kz x ≤ kz y)
    (Ia : ∀ p ∈ a.toList, IntK p) (Ib : ∀ p ∈ b.toList, IntK p) (na : 0 < a.size) (nb : 0 < b.size)
    (h0 : ∀ y x, b[0]? = some y → x ∈ a.toList → kz y ≤ kz x) (hl : ∀ y x, y ∈ b.toList → a[a.size - 1]? = some x → kz y ≤ kz x)
    (h : ∀ r g, Done kz (a.toList ++ b.toList) r.toList → Q r (setG st g)) : wpS (model prog w) A E s (mergeLo' a b) Q st := by
  have la : a.toList.length = a.size := by simp
  have lb : b.toList.length = b.size := by simp
  have lastA : ∀ {o : Array Keyed} {ia ib : Nat}, MG kz (a.toList ++ b.toList) o.toList (a.toList.drop ia) (b.toList.drop ib) → ia + 1 = a.size →
      Done kz (a.toList ++ b.toList) (o ++ b.extract ib b.size ++ a.extract ia a.size).toList := fun {o ia ib} m e => by
    rw [Array.toList_append, Array.toList_append, ex_from, ex_from]
    refine m.behind fun y hy x hx => ?_
    rw [drop_at (show ia < a.toList.length by (first | lia | omega)), List.drop_eq_nil_of_le (by (first | lia | omega))] at hx
    simp at hx
    subst hx
    exact hl y _ (List.mem_of_mem_drop hy) (by rw [at_some a (show a.size - 1 < a.size by (first | lia | omega))]; congr 2; omega)
  have ends : ∀ {o : Array Keyed} {ia ib : Nat}, MG kz (a.toList ++ b.toList) o.toList (a.toList.drop ia) (b.toList.drop ib) → (a.size ≤ ia ∨ b.size ≤ ib) →
      Done kz (a.toList ++ b.toList) (o ++ a.extract ia a.size ++ b.extract ib b.size).toList := fun {o ia ib} m e => by
    rw [Array.toList_append, Array.toList_append, ex_from, ex_from]
    refine m.ends ?_
    rcases e with z | z
    · exact .inl (List.drop_eq_nil_of_le (by (first | lia | omega)))
    · exact .inr (List.drop_eq_nil_of_le (by (first | lia | omega)))
  refine wpS_bind (wpS_lift (wpAny_rule ⟨rfl, ?_⟩))
  dsimp only
  refine wpS_bind (wpS_elem (at_some b nb) ?_)
  have m0 : MG kz (a.toList ++ b.toList) (#[b.toList[0]'(by (first | lia | omega))] : Array Keyed).toList (a.toList.drop 0) (b.toList.drop 1) := by
    refine ⟨List.pairwise_singleton _ _, by simpa using sa, ?_, fun x hx y hy => ?_, fun x hx y hy => ?_, ?_⟩
    · exact sb.sublist (List.drop_sublist _ _)
    · simp at hx hy; subst hx; exact h0 _ y (at_some b nb) (by simpa using hy)
    · simp at hx; subst hx; exact drop_le sb (by (first | lia | omega)) y (by simpa using List.mem_of_mem_drop hy)
    · have e : b.toList = b.toList[0]'(by (first | lia | omega)) :: b.toList.drop 1 := by have q := drop_at (l := b.toList) (i := 0) (by (first | lia | omega)); rw [List.drop_zero] at q; exact q
      generalize b.toList[0]'(by (first | lia | omega)) = y at *
      rw [e]
      simp only [List.drop_zero, List.cons_append, List.nil_append, List.drop_succ_cons]
      exact List.perm_middle.symm
  generalize b.toList[0]'(by (first | lia | omega)) = y0 at m0 ⊢
  by_cases e1 : (1 == b.size) = true
  · rw [if_pos e1]
    exact wpS_pure (h _ _ (ends m0 (.inr (by simp at e1; omega))))
  rw [if_neg e1]
  by_cases e2 : (0 + 1 == a.size) = true
  · rw [if_pos e2]
    exact wpS_pure (h _ _ (lastA m0 (by simp at e2; omega)))
  rw [if_neg e2]
  have b2 : 1 < b.size := by simp at e1; (first | lia | omega)
  have a2 : 0 + 1 < a.size := by simp at e2; (first | lia | omega)
  refine wpS_bind (wpS_get ?_)
  refine wpS_bind (wpS_mono (wpS_forRange (I := fun x c st' => (∃ g, st' = setG st g) ∧ ∃ o ia ib mg, c = (none, o, ia, ib, mg) ∧ MG kz (a.toList ++ b.toList) o.toList (a.toList.drop ia) (b.toList.drop ib) ∧ ia + 1 < a.size ∧ ib < b.size ∧ x ≤ ia + ib)
    (Q := fun c st' => (∃ g, st' = setG st g) ∧ ∃ r rest, c = (some r, rest) ∧ Done kz (a.toList ++ b.toList) r.toList) ?step ?fin ?init) ?post)
  case init => exact ⟨⟨_, rfl⟩, _, _, _, _, rfl, m0, a2, b2, Nat.zero_le _⟩
  case fin =>
    rintro c st' ⟨_, o, ia, ib, mg, _, _, g1, g2, g3⟩
    (first | lia | omega)
  case post =>
    rintro c st' ⟨⟨g, rfl⟩, r, rest, rfl, hd⟩
    exact wpS_pure (h r g hd)
  case step =>
    rintro x c st' _ hx ⟨⟨g, rfl⟩, o, ia, ib, mg, rfl, m, g1, g2, g3⟩
    dsimp only
    refine wpS_bind (wpS_mono (wpS_forRange (I := fun x' c st' => (∃ g, st' = setG st g) ∧ ∃ o ja jb ac bc, c = (none, o, ja, jb, ac, bc) ∧ MG kz (a.toList ++ b.toList) o.toList (a.toList.drop ja) (b.toList.drop jb) ∧ ja + 1 < a.size ∧ jb < b.size ∧ ia + ib + x' ≤ ja + jb)
      (Q := fun c st' => (∃ g, st' = setG st g) ∧ ((∃ r rest, c = (some r, rest) ∧ Done kz (a.toList ++ b.toList) r.toList) ∨
        ∃ o ja jb ac bc, c = (none, o, ja, jb, ac, bc) ∧ MG kz (a.toList ++ b.toList) o.toList (a.toList.drop ja) (b.toList.drop jb) ∧ ja + 1 < a.size ∧ jb < b.size ∧ ia + ib < ja + jb)) ?istep ?ifin ?iinit) ?ipost)
    case iinit => exact ⟨⟨g, rfl⟩, o, ia, ib, 0, 0, rfl, m, g1, g2, by omega⟩
    case ifin =>
      rintro c st' ⟨_, o, ja, jb, ac, bc, _, _, f1, f2, f3⟩
      (first | lia | omega)
    case istep =>
      rintro x' c st' _ hx' ⟨⟨g, rfl⟩, o, ja, jb, ac, bc, rfl, m, f1, f2, f3⟩
      dsimp only
      refine wpS_bind (wpS_elem (at_some b f2) ?_)
      refine wpS_bind (wpS_elem (at_some a (show ja < a.size by (first | lia | omega))) ?_)
      refine wpS_bind (wpS_lt hk (Ib _ (List.getElem_mem _)) (Ia _ (List.getElem_mem _)) ?_)
      dsimp only
      have ua := drop_at (l := a.toList) (i := ja) (by (first | lia | omega))
      have vb := drop_at (l := b.toList) (i := jb) (by (first | lia | omega))
      by_cases hw : kz (b.toList[jb]'(by (first | lia | omega))) < kz (a.toList[ja]'(by (first | lia | omega)))
      · rw [if_pos (decide_eq_true hw)]
        refine wpS_bind (wpS_elem (at_some b f2) ?_)
        have m' : MG kz (a.toList ++ b.toList) (o.push (b.toList[jb]'(by (first | lia | omega)))).toList (a.toList.drop ja) (b.toList.drop (jb + 1)) := by
          rw [Array.toList_push]
          rw [vb] at m
          refine (m.swap.one fun z hz => ?_).swap
          have := drop_le sa (show ja < a.toList.length by (first | lia | omega)) z hz
          (first | lia | omega)
        by_cases e3 : (jb + 1 == b.size) = true
        · rw [if_pos e3]
          exact wpS_pure ⟨⟨g, rfl⟩, .inl ⟨_, _, rfl, ends m' (.inr (by simp at e3; omega))⟩⟩
        · rw [if_neg e3]
          have e3' : jb + 1 < b.size := by simp at e3; (first | lia | omega)
          by_cases e4 : bc + 1 ≥ mg
          · rw [if_pos e4]
            exact wpS_pure ⟨⟨g, rfl⟩, .inr ⟨_, _, _, _, _, rfl, m', f1, e3', by omega⟩⟩
          · rw [if_neg e4]
            exact wpS_pure ⟨⟨g, rfl⟩, _, _, _, _, _, rfl, m', f1, e3', by omega⟩
      · rw [if_neg (by simpa using hw)]
        refine wpS_bind (wpS_elem (at_some a (show ja < a.size by (first | lia | omega))) ?_)
        have m' : MG kz (a.toList ++ b.toList) (o.push (a.toList[ja]'(by (first | lia | omega)))).toList (a.toList.drop (ja + 1)) (b.toList.drop jb) := by
          rw [Array.toList_push]
          rw [ua] at m
          refine m.one fun z hz => ?_
          have := drop_le sb (show jb < b.toList.length by (first | lia | omega)) z hz
          (first | lia | omega)
        by_cases e3 : (ja + 1 + 1 == a.size) = true
        · rw [if_pos e3]
          exact wpS_pure ⟨⟨g, rfl⟩, .inl ⟨_, _, rfl, lastA m' (by simp at e3; omega)⟩⟩
        · rw [if_neg e3]
          have e3' : ja + 1 + 1 < a.size := by simp at e3; (first | lia | omega)
          by_cases e4 : ac + 1 ≥ mg
          · rw [if_pos e4]
            exact wpS_pure ⟨⟨g, rfl⟩, .inr ⟨_, _, _, _, _, rfl, m', e3', f2, by omega⟩⟩
          · rw [if_neg e4]
            exact wpS_pure ⟨⟨g, rfl⟩, _, _, _, _, _, rfl, m', e3', f2, by omega⟩
    case ipost =>
      rintro c st' ⟨⟨g, rfl⟩, ⟨r, rest, rfl, hd⟩ | ⟨o, ja, jb, ac, bc, rfl, m, f1, f2, f3⟩⟩
      · exact wpS_pure ⟨⟨g, rfl⟩, r, _, rfl, hd⟩
      dsimp only
      refine wpS_bind (wpS_lift (wpAny_rule ⟨rfl, ?_⟩))
      refine wpS_bind (wpS_mono (wpS_forRange (I := fun x' c st' => (∃ g, st' = setG st g) ∧ ∃ o ia' ib' mg ac bc, c = (none, o, ia', ib', mg, ac, bc) ∧ MG kz (a.toList ++ b.toList) o.toList (a.toList.drop ia') (b.toList.drop ib') ∧ ia' + 1 < a.size ∧ ib' < b.size ∧ ja + jb + x' ≤ ia' + ib')
        (Q := fun c st' => (∃ g, st' = setG st g) ∧ ((∃ r rest, c = (some r, rest) ∧ Done kz (a.toList ++ b.toList) r.toList) ∨
          ∃ o ia' ib' mg ac bc, c = (none, o, ia', ib', mg, ac, bc) ∧ MG kz (a.toList ++ b.toList) o.toList (a.toList.drop ia') (b.toList.drop ib') ∧ ia' + 1 < a.size ∧ ib' < b.size ∧ ja + jb ≤ ia' + ib')) ?gstep ?gfin ?ginit) ?gpost)
      case ginit => exact ⟨⟨g, rfl⟩, o, ja, jb, _, _, _, rfl, m, f1, f2, by omega⟩
      case gfin =>
        rintro c st' ⟨_, o, ja, jb, mg, ac, bc, _, _, f1, f2, f3⟩
        (first | lia | omega)
      case gpost =>
        rintro c st' ⟨⟨g, rfl⟩, ⟨r, rest, rfl, hd⟩ | ⟨o, ia', ib', mg', ac', bc', rfl, m', f1', f2', f3'⟩⟩
        · exact wpS_pure ⟨⟨g, rfl⟩, r, _, rfl, hd⟩
        dsimp only
        refine wpS_bind (wpS_modify ?_)
        exact wpS_pure ⟨⟨_, rfl⟩, _, _, _, _, rfl, m', f1', f2', by omega⟩
      case gstep =>
        clear m f1 f2 f3
        rintro x' c st' _ hx' ⟨⟨g, rfl⟩, o, ia', ib', mg', ac', bc', rfl, m, f1, f2, f3⟩
        dsimp only
        by_cases hmg : mg' > 1
        case' pos => rw [if_pos hmg]
        case' neg => rw [if_neg hmg]
        all_goals
          refine wpS_bind (wpS_modify ?_)
          refine wpS_bind (wpS_elem (at_some b f2) ?_)
          have Ida : ∀ p ∈ a.toList.drop ia', IntK p := fun p hp => Ia p (List.mem_of_mem_drop hp)
          have sda : (a.toList.drop ia').Pairwise fun x y => kz x ≤ kz y := sa.sublist (List.drop_sublist _ _)
          refine wpS_bind (wpS_gallop (L := a.toList.drop ia') hk (Ib _ (List.getElem_mem _)) (by rw [List.length_drop, la]) (fun i hi => by rw [List.getElem?_drop, Array.getElem?_toList]) sda Ida (by (first | lia | omega)) fun k k1 k2 k3 => ?_)
          dsimp only
          have vb := drop_at (l := b.toList) (i := ib') (by (first | lia | omega))
          have tk := bey_take k2
          have dk := bey_drop (by rw [List.length_drop, la]) k3
          rw [List.drop_drop] at dk
          have hc : MG kz (a.toList ++ b.toList) (o ++ a.extract ia' (ia' + k)).toList (a.toList.drop (ia' + k)) (b.toList.drop ib') := by
            have := m.chunk k fun z hz y hy => ?_
            · rw [Array.toList_append, ex_run]
              have e8 := this
              rw [List.drop_drop] at e8
              exact e8
            · have h1 := tk z hz
              have h2 := drop_le sb (show ib' < b.toList.length by (first | lia | omega)) y hy
              (first | lia | omega)
          by_cases k0 : k > 0
          case' pos =>
            rw [if_pos k0]
            by_cases e1 : (ia' + k + 1 == a.size) = true
            · rw [if_pos e1]
              exact wpS_pure ⟨⟨_, rfl⟩, .inl ⟨_, _, rfl, lastA hc (by simp at e1; omega)⟩⟩
            rw [if_neg e1]
            by_cases e2 : (ia' + k == a.size) = true
            · rw [if_pos e2]
              exact wpS_pure ⟨⟨_, rfl⟩, .inl ⟨_, _, rfl, ends hc (.inl (by simp at e2; omega))⟩⟩
            rw [if_neg e2]
            have e3 : ia' + k + 1 < a.size := by simp at e1 e2; (first | lia | omega)
            have e4 : ia' ≤ ia' + k := by (first | lia | omega)
          case' neg =>
            rw [if_neg k0]
            have kk : k = 0 := by (first | lia | omega)
            subst kk
            have e3 : ia' + 0 + 1 < a.size := by (first | lia | omega)
            have e4 : ia' ≤ ia' + 0 := by (first | lia | omega)
            have eo : o ++ a.extract ia' (ia' + 0) = o := by apply Array.toList_inj.mp; rw [Array.toList_append, ex_run]; simp
            rw [eo] at hc
            rw [show ia' + 0 = ia' from rfl] at hc dk e3 e4
          case' pos => generalize o ++ a.extract ia' (ia' + k) = O at hc ⊢; generalize ia' + k = J at hc dk e3 e4 ⊢
          case' neg => generalize o = O at hc ⊢; revert hc dk e3 e4; generalize hJ : ia' = J; intro dk e3 e4 hc; rw [hJ] at f3
          all_goals
            refine wpS_bind (wpS_elem (at_some b f2) ?_)
            have m2 : MG kz (a.toList ++ b.toList) (O.push (b.toList[ib']'(by (first | lia | omega)))).toList (a.toList.drop J) (b.toList.drop (ib' + 1)) := by
              rw [Array.toList_push]
              rw [vb] at hc
              exact (hc.swap.one fun z hz => dk z hz).swap
            by_cases e5 : (ib' + 1 == b.size) = true
            · rw [if_pos e5]
              exact wpS_pure ⟨⟨_, rfl⟩, .inl ⟨_, _, rfl, ends m2 (.inr (by simp at e5; omega))⟩⟩
            rw [if_neg e5]
            have e5' : ib' + 1 < b.size := by simp at e5; (first | lia | omega)
            refine wpS_bind (wpS_elem (at_some a (show J < a.size by (first | lia | omega))) ?_)
            have Idb : ∀ p ∈ b.toList.drop (ib' + 1), IntK p := fun p hp => Ib p (List.mem_of_mem_drop hp)
            have sdb : (b.toList.drop (ib' + 1)).Pairwise fun x y => kz x ≤ kz y := sb.sublist (List.drop_sublist _ _)
            refine wpS_bind (wpS_gallop (L := b.toList.drop (ib' + 1)) hk (Ia _ (List.getElem_mem _)) (by rw [List.length_drop, lb]) (fun i hi => by rw [List.getElem?_drop, Array.getElem?_toList]) sdb Idb (by (first | lia | omega)) fun k' k1' k2' k3' => ?_)
            dsimp only
            have ua := drop_at (l := a.toList) (i := J) (by (first | lia | omega))
            have tk' := bey_take k2'
            have dk' := bey_drop (by rw [List.length_drop, lb]) k3'
            rw [List.drop_drop] at dk'
            have hc' : MG kz (a.toList ++ b.toList) (O.push (b.toList[ib']'(by (first | lia | omega))) ++ b.extract (ib' + 1) (ib' + 1 + k')).toList (a.toList.drop J) (b.toList.drop (ib' + 1 + k')) := by
              have := m2.swap.chunk k' fun z hz y hy => ?_
              · rw [Array.toList_append, ex_run]
                have e8 := this.swap
                rw [List.drop_drop] at e8
                exact e8
              · have h1 := tk' z hz
                have h2 := drop_le sa (show J < a.toList.length by (first | lia | omega)) y hy
                (first | lia | omega)
            by_cases k0' : k' > 0
            case' pos =>
              rw [if_pos k0']
              by_cases e6 : (ib' + 1 + k' == b.size) = true
              · rw [if_pos e6]
                exact wpS_pure ⟨⟨_, rfl⟩, .inl ⟨_, _, rfl, ends hc' (.inr (by simp at e6; omega))⟩⟩
              rw [if_neg e6]
              have e6' : ib' + 1 + k' < b.size := by simp at e6; (first | lia | omega)
            case' neg =>
              rw [if_neg k0']
              have kk' : k' = 0 := by (first | lia | omega)
              subst kk'
              have e6' : ib' + 1 + 0 < b.size := e5'
              have eo' : O.push (b.toList[ib']'(by (first | lia | omega))) ++ b.extract (ib' + 1) (ib' + 1 + 0) = O.push (b.toList[ib']'(by (first | lia | omega))) := by apply Array.toList_inj.mp; rw [Array.toList_append, ex_run]; simp
              rw [eo'] at hc'
            all_goals
              refine wpS_bind (wpS_elem (at_some a (show J < a.size by (first | lia | omega))) ?_)
              rw [ua] at hc'
              have m3 := hc'.one fun z hz => dk' z hz
              rw [← Array.toList_push] at m3
              by_cases e7 : (J + 1 + 1 == a.size) = true
              · rw [if_pos e7]
                exact wpS_pure ⟨⟨_, rfl⟩, .inl ⟨_, _, rfl, lastA m3 (by simp at e7; omega)⟩⟩
              rw [if_neg e7]
              have e7' : J + 1 + 1 < a.size := by simp at e7; (first | lia | omega)
              split
              · exact wpS_pure ⟨⟨_, rfl⟩, .inr ⟨_, _, _, _, _, _, rfl, m3, e7', by omega, by omega⟩⟩
              · exact wpS_pure ⟨⟨_, rfl⟩, _, _, _, _, _, _, rfl, m3, e7', by omega, by omega⟩
end
end RgG
namespace RgG
open PySem PyProof.Rows Rg
variable [KOrd]
def nk (p : Keyed) : Int := -kz p
theorem rev_last {l : List Keyed} {n : Nat} (h1 : 0 < n) (h2 : n ≤ l.length) : (l.take n).reverse = (l[n - 1]'(by (first | lia | omega))) :: (l.take (n - 1)).reverse := by
  have e : l.take n = l.take (n - 1) ++ [l[n - 1]'(by (first | lia | omega))] := by
    have := List.take_succ (l := l) (i := n - 1)
    rw [show n - 1 + 1 = n by omega, List.getElem?_eq_getElem (by (first | lia | omega))] at this
    exact this
  rw [e, List.reverse_append]
  rfl
theorem rev_take {l : List Keyed} {n t : Nat} (h1 : t ≤ n) (h2 : n ≤ l.length) : (l.take n).reverse.take (n - t) = ((l.take n).drop t).reverse := by
  rw [List.take_reverse, List.length_take]
  congr 2
  (first | lia | omega)
theorem rev_drop {l : List Keyed} {n t : Nat} (h1 : t ≤ n) (h2 : n ≤ l.length) : (l.take n).reverse.drop (n - t) = (l.take t).reverse := by
  rw [List.drop_reverse, List.length_take, List.take_take]
  congr 2
  (first | lia | omega)
theorem ex_mid (a : Array Keyed) {t n : Nat} : (a.extract t n).toList = (a.toList.take n).drop t := by
  rw [Array.toList_extract, List.extract_eq_take_drop, List.drop_take]
theorem le_last {l : List Keyed} (hs : l.Pairwise fun a b => kz a ≤ kz b) {n : Nat} (h1 : 0 < n) (h2 : n ≤ l.length) : ∀ x ∈ l.take n, kz x ≤ kz (l[n - 1]'(by (first | lia | omega))) := fun x hx => by
  obtain ⟨j, hj⟩ := List.mem_iff_getElem?.mp hx
  have hlt : j < n := by
    have := (List.getElem?_eq_some_iff.mp hj).1
    rw [List.length_take] at this
    (first | lia | omega)
  rw [List.getElem?_take_of_lt hlt] at hj
  exact sorted_from hs hj (List.getElem?_eq_getElem (by (first | lia | omega))) (by (first | lia | omega))
section
variable {prog : Program} {w : World} {A : Around} {E : Value → Shared → Prop} {s : Shared} [KLt prog w A s]
theorem wpS_mergeHi {a b : Array Keyed} {st : SortSt} {Q : Array Keyed → SortSt → Prop} (hk : kindOf st = oneType') (sa : a.toList.Pairwise fun x y => kz x ≤ kz y) (sb : b.toList.Pairwise fun x y => kz x ≤ kz y)
    (Ia : ∀ p ∈ a.toList, IntK p) (Ib : ∀ p ∈ b.toList, IntK p) (na : 0 < a.size) (nb : 0 < b.size)
    (h0 : ∀ y x, b[0]? = some y → x ∈ a.toList → kz y ≤ kz x) (hl : ∀ y x, y ∈ b.toList → a[a.size - 1]? = some x → kz y ≤ kz x)
    (h : ∀ r g, Done kz (a.toList ++ b.toList) r.toList → Q r (setG st g)) : wpS (model prog w) A E s (mergeHi' a b) Q st := by
  have la : a.toList.length = a.size := by simp
  have lb : b.toList.length = b.size := by simp
  have firstB : ∀ {o : Array Keyed} {ia ib : Nat}, MG nk (a.toList ++ b.toList) o.toList (a.toList.take ia).reverse (b.toList.take ib).reverse → ib = 1 →
      Done kz (a.toList ++ b.toList) (b.extract 0 ib ++ a.extract 0 ia ++ o.reverse).toList := fun {o ia ib} m e => by
    have q := done_rev (kz := kz) (m.swap.behind fun y hy x hx => ?_)
    · rw [List.reverse_append, List.reverse_append, List.reverse_reverse, List.reverse_reverse, ← List.append_assoc] at q
      rw [Array.toList_append, Array.toList_append, ex_to, ex_to, Array.toList_reverse]
      exact q
    · have hy' : y ∈ a.toList := List.mem_of_mem_take (List.mem_reverse.mp hy)
      rw [e, rev_last (by (first | lia | omega)) (by (first | lia | omega))] at hx
      simp at hx
      subst hx
      have := h0 _ y (at_some b nb) hy'
      show -kz _ ≤ -kz _
      simp at this ⊢
      (first | lia | omega)
  have ends : ∀ {o : Array Keyed} {ia ib : Nat}, MG nk (a.toList ++ b.toList) o.toList (a.toList.take ia).reverse (b.toList.take ib).reverse → (ia = 0 ∨ ib = 0) →
      Done kz (a.toList ++ b.toList) (a.extract 0 ia ++ b.extract 0 ib ++ o.reverse).toList := fun {o ia ib} m e => by
    have q := done_rev (kz := kz) (m.swap.ends ?_)
    · rw [List.reverse_append, List.reverse_append, List.reverse_reverse, List.reverse_reverse, ← List.append_assoc] at q
      rw [Array.toList_append, Array.toList_append, ex_to, ex_to, Array.toList_reverse]
      exact q
    · rcases e with z | z
      · right; rw [z]; rfl
      · left; rw [z]; rfl
  refine wpS_bind (wpS_lift (wpAny_rule ⟨rfl, ?_⟩))
  dsimp only
  refine wpS_bind (wpS_elem (at_some a (show a.size - 1 < a.size by (first | lia | omega))) ?_)
  have m0 : MG nk (a.toList ++ b.toList) (#[a.toList[a.size - 1]'(by (first | lia | omega))] : Array Keyed).toList (a.toList.take (a.size - 1)).reverse (b.toList.take b.size).reverse := by
    have eb : b.toList.take b.size = b.toList := List.take_of_length_le (by (first | lia | omega))
    refine ⟨List.pairwise_singleton _ _, pairwise_rev (sa.sublist (List.take_sublist _ _)), by rw [eb]; exact pairwise_rev sb, fun x hx y hy => ?_, fun x hx y hy => ?_, ?_⟩
    · simp at hx
      subst hx
      have hy' := List.mem_of_mem_take (List.mem_reverse.mp hy)
      have := le_last sa (n := a.size) na (by (first | lia | omega)) y (by rw [List.take_of_length_le (by (first | lia | omega))]; exact hy')
      show -kz _ ≤ -kz _
      simp at this ⊢
      (first | lia | omega)
    · simp at hx
      subst hx
      rw [eb] at hy
      have := hl y _ (List.mem_reverse.mp hy) (at_some a (show a.size - 1 < a.size by (first | lia | omega)))
      show -kz _ ≤ -kz _
      simp at this ⊢
      (first | lia | omega)
    · have e := rev_last (l := a.toList) (n := a.size) na (by (first | lia | omega))
      rw [List.take_of_length_le (by (first | lia | omega))] at e
      rw [eb]
      have e2 : ([a.toList[a.size - 1]'(by (first | lia | omega))] ++ (a.toList.take (a.size - 1)).reverse) = a.toList.reverse := e.symm
      show ([a.toList[a.size - 1]'(by (first | lia | omega))] ++ (a.toList.take (a.size - 1)).reverse ++ b.toList.reverse).Perm _
      rw [e2]
      exact (List.reverse_perm _).append (List.reverse_perm _)
  generalize a.toList[a.size - 1]'(by (first | lia | omega)) = y0 at m0 ⊢
  by_cases e1 : (a.size - 1 == 0) = true
  · rw [if_pos e1]
    exact wpS_pure (h _ _ (ends m0 (.inl (by simp at e1; omega))))
  rw [if_neg e1]
  by_cases e2 : (b.size == 1) = true
  · rw [if_pos e2]
    exact wpS_pure (h _ _ (firstB m0 (by simp at e2; omega)))
  rw [if_neg e2]
  have b2 : 1 < b.size := by simp at e2; (first | lia | omega)
  have a2 : 0 < a.size - 1 := by simp at e1; (first | lia | omega)
  refine wpS_bind (wpS_get ?_)
  refine wpS_bind (wpS_mono (wpS_forRange (I := fun x c st' => (∃ g, st' = setG st g) ∧ ∃ ia ib o mg, c = (none, ia, ib, o, mg) ∧ MG nk (a.toList ++ b.toList) o.toList (a.toList.take ia).reverse (b.toList.take ib).reverse ∧ 0 < ia ∧ 1 < ib ∧ ia ≤ a.size ∧ ib ≤ b.size ∧ ia + ib + x ≤ a.size + b.size)
    (Q := fun c st' => (∃ g, st' = setG st g) ∧ ∃ r rest, c = (some r, rest) ∧ Done kz (a.toList ++ b.toList) r.toList) ?step ?fin ?init) ?post)
  case init => exact ⟨⟨_, rfl⟩, _, _, _, _, rfl, m0, a2, b2, by omega, by omega, by omega⟩
  case fin =>
    rintro c st' ⟨_, ia, ib, o, mg, _, _, g1, g2, g3, g4, g5⟩
    (first | lia | omega)
  case post =>
    rintro c st' ⟨⟨g, rfl⟩, r, rest, rfl, hd⟩
    exact wpS_pure (h r g hd)
  case step =>
    rintro x c st' _ hx ⟨⟨g, rfl⟩, ia, ib, o, mg, rfl, m, g1, g2, g3, g4, g5⟩
    dsimp only
    refine wpS_bind (wpS_mono (wpS_forRange (I := fun x' c st' => (∃ g, st' = setG st g) ∧ ∃ ja jb o ac bc, c = (none, ja, jb, o, ac, bc) ∧ MG nk (a.toList ++ b.toList) o.toList (a.toList.take ja).reverse (b.toList.take jb).reverse ∧ 0 < ja ∧ 1 < jb ∧ ja ≤ a.size ∧ jb ≤ b.size ∧ ja + jb + x' ≤ ia + ib)
      (Q := fun c st' => (∃ g, st' = setG st g) ∧ ((∃ r rest, c = (some r, rest) ∧ Done kz (a.toList ++ b.toList) r.toList) ∨
        ∃ ja jb o ac bc, c = (none, ja, jb, o, ac, bc) ∧ MG nk (a.toList ++ b.toList) o.toList (a.toList.take ja).reverse (b.toList.take jb).reverse ∧ 0 < ja ∧ 1 < jb ∧ ja ≤ a.size ∧ jb ≤ b.size ∧ ja + jb < ia + ib)) ?istep ?ifin ?iinit) ?ipost)
    case iinit => exact ⟨⟨g, rfl⟩, ia, ib, o, 0, 0, rfl, m, g1, g2, g3, g4, by omega⟩
    case ifin =>
      rintro c st' ⟨_, ja, jb, o, ac, bc, _, _, f1, f2, f3, f4, f5⟩
      (first | lia | omega)
    case istep =>
      clear m g1 g2
      rintro x' c st' _ hx' ⟨⟨g, rfl⟩, ja, jb, o, ac, bc, rfl, m, f1, f2, f3, f4, f5⟩
      dsimp only
      refine wpS_bind (wpS_elem (at_some b (show jb - 1 < b.size by (first | lia | omega))) ?_)
      refine wpS_bind (wpS_elem (at_some a (show ja - 1 < a.size by (first | lia | omega))) ?_)
      refine wpS_bind (wpS_lt hk (Ib _ (List.getElem_mem _)) (Ia _ (List.getElem_mem _)) ?_)
      dsimp only
      have ua := rev_last (l := a.toList) (n := ja) f1 (by (first | lia | omega))
      have vb := rev_last (l := b.toList) (n := jb) (by (first | lia | omega)) (by (first | lia | omega))
      by_cases hw : kz (b.toList[jb - 1]'(by (first | lia | omega))) < kz (a.toList[ja - 1]'(by (first | lia | omega)))
      · rw [if_pos (decide_eq_true hw)]
        refine wpS_bind (wpS_elem (at_some a (show ja - 1 < a.size by (first | lia | omega))) ?_)
        have m' : MG nk (a.toList ++ b.toList) (o.push (a.toList[ja - 1]'(by (first | lia | omega)))).toList (a.toList.take (ja - 1)).reverse (b.toList.take jb).reverse := by
          rw [Array.toList_push]
          rw [ua] at m
          refine m.one fun z hz => ?_
          have := le_last sb (n := jb) (by (first | lia | omega)) (by (first | lia | omega)) z (List.mem_reverse.mp hz)
          show -kz _ ≤ -kz _
          (first | lia | omega)
        by_cases e3 : (ja - 1 == 0) = true
        · rw [if_pos e3]
          exact wpS_pure ⟨⟨g, rfl⟩, .inl ⟨_, _, rfl, ends m' (.inl (by simp at e3; omega))⟩⟩
        · rw [if_neg e3]
          have e3' : 0 < ja - 1 := by simp at e3; (first | lia | omega)
          by_cases e4 : ac + 1 ≥ mg
          · rw [if_pos e4]
            exact wpS_pure ⟨⟨g, rfl⟩, .inr ⟨_, _, _, _, _, rfl, m', e3', f2, by omega, f4, by omega⟩⟩
          · rw [if_neg e4]
            exact wpS_pure ⟨⟨g, rfl⟩, _, _, _, _, _, rfl, m', e3', f2, by omega, f4, by omega⟩
      · rw [if_neg (by simpa using hw)]
        refine wpS_bind (wpS_elem (at_some b (show jb - 1 < b.size by (first | lia | omega))) ?_)
        have m' : MG nk (a.toList ++ b.toList) (o.push (b.toList[jb - 1]'(by (first | lia | omega)))).toList (a.toList.take ja).reverse (b.toList.take (jb - 1)).reverse := by
          rw [Array.toList_push]
          rw [vb] at m
          refine (m.swap.one fun z hz => ?_).swap
          have := le_last sa (n := ja) (by (first | lia | omega)) (by (first | lia | omega)) z (List.mem_reverse.mp hz)
          show -kz _ ≤ -kz _
          (first | lia | omega)
        by_cases e3 : (jb - 1 == 1) = true
        · rw [if_pos e3]
          exact wpS_pure ⟨⟨g, rfl⟩, .inl ⟨_, _, rfl, firstB m' (by simp at e3; omega)⟩⟩
        · rw [if_neg e3]
          have e3' : 1 < jb - 1 := by simp at e3; (first | lia | omega)
          by_cases e4 : bc + 1 ≥ mg
          · rw [if_pos e4]
            exact wpS_pure ⟨⟨g, rfl⟩, .inr ⟨_, _, _, _, _, rfl, m', f1, e3', f3, by omega, by omega⟩⟩
          · rw [if_neg e4]
            exact wpS_pure ⟨⟨g, rfl⟩, _, _, _, _, _, rfl, m', f1, e3', f3, by omega, by omega⟩
    case ipost =>
      clear m
      rintro c st' ⟨⟨g, rfl⟩, ⟨r, rest, rfl, hd⟩ | ⟨ja, jb, o, ac, bc, rfl, m, f1, f2, f3, f4, f5⟩⟩
      · exact wpS_pure ⟨⟨g, rfl⟩, r, _, rfl, hd⟩
      dsimp only
      refine wpS_bind (wpS_lift (wpAny_rule ⟨rfl, ?_⟩))
      refine wpS_bind (wpS_mono (wpS_forRange (I := fun x' c st' => (∃ g, st' = setG st g) ∧ ∃ ia' ib' o mg ac bc, c = (none, ia', ib', o, mg, ac, bc) ∧ MG nk (a.toList ++ b.toList) o.toList (a.toList.take ia').reverse (b.toList.take ib').reverse ∧ 0 < ia' ∧ 1 < ib' ∧ ia' ≤ a.size ∧ ib' ≤ b.size ∧ ia' + ib' + x' ≤ ja + jb)
        (Q := fun c st' => (∃ g, st' = setG st g) ∧ ((∃ r rest, c = (some r, rest) ∧ Done kz (a.toList ++ b.toList) r.toList) ∨
          ∃ ia' ib' o mg ac bc, c = (none, ia', ib', o, mg, ac, bc) ∧ MG nk (a.toList ++ b.toList) o.toList (a.toList.take ia').reverse (b.toList.take ib').reverse ∧ 0 < ia' ∧ 1 < ib' ∧ ia' ≤ a.size ∧ ib' ≤ b.size ∧ ia' + ib' ≤ ja + jb)) ?gstep ?gfin ?ginit) ?gpost)
      case ginit => exact ⟨⟨g, rfl⟩, ja, jb, o, _, _, _, rfl, m, f1, f2, f3, f4, by omega⟩
      case gfin =>
        rintro c st' ⟨_, ia', ib', o, mg, ac, bc, _, _, f1, f2, f3, f4, f5⟩
        (first | lia | omega)
      case gpost =>
        clear m
        rintro c st' ⟨⟨g, rfl⟩, ⟨r, rest, rfl, hd⟩ | ⟨ia', ib', o, mg', ac', bc', rfl, m', f1', f2', f3', f4', f5'⟩⟩
        · exact wpS_pure ⟨⟨g, rfl⟩, r, _, rfl, hd⟩
        dsimp only
        refine wpS_bind (wpS_modify ?_)
        exact wpS_pure ⟨⟨_, rfl⟩, _, _, _, _, rfl, m', f1', f2', f3', f4', by omega⟩
      case gstep =>
        clear m f1 f2 f3 f4
        rintro x' c st' _ hx' ⟨⟨g, rfl⟩, ia', ib', o, mg', ac', bc', rfl, m, f1, f2, f3, f4, f6⟩
        dsimp only
        by_cases hmg : mg' > 1
        case' pos => rw [if_pos hmg]
        case' neg => rw [if_neg hmg]
        all_goals
          refine wpS_bind (wpS_modify ?_)
          refine wpS_bind (wpS_elem (at_some b (show ib' - 1 < b.size by (first | lia | omega))) ?_)
          have Ida : ∀ p ∈ a.toList.take ia', IntK p := fun p hp => Ia p (List.mem_of_mem_take hp)
          have sda : (a.toList.take ia').Pairwise fun x y => kz x ≤ kz y := sa.sublist (List.take_sublist _ _)
          refine wpS_bind (wpS_gallop (L := a.toList.take ia') hk (Ib _ (List.getElem_mem _)) (by rw [List.length_take, la]; omega) (fun i hi => by rw [List.getElem?_take_of_lt hi, Array.getElem?_toList, Nat.zero_add]) sda Ida (by (first | lia | omega)) fun t k1 k2 k3 => ?_)
          dsimp only
          have vb := rev_last (l := b.toList) (n := ib') (by (first | lia | omega)) (by (first | lia | omega))
          have tk := bey_take k2
          have dk := bey_drop (by rw [List.length_take, la]; omega) k3
          rw [List.take_take, Nat.min_eq_left k1] at tk
          have hc : MG nk (a.toList ++ b.toList) (o ++ (a.extract t ia').reverse).toList (a.toList.take t).reverse (b.toList.take ib').reverse := by
            have := m.chunk (ia' - t) fun z hz y hy => ?_
            · rw [Array.toList_append, Array.toList_reverse, ex_mid]
              rw [rev_take k1 (by (first | lia | omega)), rev_drop k1 (by (first | lia | omega))] at this
              exact this
            · rw [rev_take k1 (by (first | lia | omega))] at hz
              have h1 := dk z (List.mem_reverse.mp hz)
              have h2 := le_last sb (n := ib') (by (first | lia | omega)) (by (first | lia | omega)) y (List.mem_reverse.mp hy)
              show -kz _ ≤ -kz _
              (first | lia | omega)
          by_cases k0 : ia' - t > 0
          case' pos =>
            rw [if_pos k0]
            by_cases e1 : (t == 0) = true
            · rw [if_pos e1]
              exact wpS_pure ⟨⟨_, rfl⟩, .inl ⟨_, _, rfl, ends hc (.inl (by simp at e1; omega))⟩⟩
            rw [if_neg e1]
            have e3 : 0 < t := by simp at e1; (first | lia | omega)
            have e4 : t ≤ ia' := by (first | lia | omega)
          case' neg =>
            rw [if_neg k0]
            have kk : ia' = t := by (first | lia | omega)
            subst kk
            have e3 : 0 < ia' := f1
            have e4 : ia' ≤ ia' := Nat.le_refl _
            have eo : o ++ (a.extract ia' ia').reverse = o := by apply Array.toList_inj.mp; rw [Array.toList_append, Array.toList_reverse, ex_mid]; simp
            rw [eo] at hc
          case' pos => generalize o ++ (a.extract t ia').reverse = O at hc ⊢; generalize t = J at hc tk e3 e4 ⊢
          case' neg => generalize o = O at hc ⊢; revert hc tk e3 e4; generalize hJ : ia' = J; intro tk e3 e4 hc; rw [hJ] at f6 f3
          all_goals
            refine wpS_bind (wpS_elem (at_some b (show ib' - 1 < b.size by (first | lia | omega))) ?_)
            have m2 : MG nk (a.toList ++ b.toList) (O.push (b.toList[ib' - 1]'(by (first | lia | omega)))).toList (a.toList.take J).reverse (b.toList.take (ib' - 1)).reverse := by
              rw [Array.toList_push]
              rw [vb] at hc
              refine (hc.swap.one fun z hz => ?_).swap
              have := tk z (List.mem_reverse.mp hz)
              show -kz _ ≤ -kz _
              (first | lia | omega)
            by_cases e5 : (ib' - 1 == 1) = true
            · rw [if_pos e5]
              exact wpS_pure ⟨⟨_, rfl⟩, .inl ⟨_, _, rfl, firstB m2 (by simp at e5; omega)⟩⟩
            rw [if_neg e5]
            have e5' : 1 < ib' - 1 := by simp at e5; (first | lia | omega)
            refine wpS_bind (wpS_elem (at_some a (show J - 1 < a.size by (first | lia | omega))) ?_)
            have Idb : ∀ p ∈ b.toList.take (ib' - 1), IntK p := fun p hp => Ib p (List.mem_of_mem_take hp)
            have sdb : (b.toList.take (ib' - 1)).Pairwise fun x y => kz x ≤ kz y := sb.sublist (List.take_sublist _ _)
            refine wpS_bind (wpS_gallop (L := b.toList.take (ib' - 1)) hk (Ia _ (List.getElem_mem _)) (by rw [List.length_take, lb]; omega) (fun i hi => by rw [List.getElem?_take_of_lt hi, Array.getElem?_toList, Nat.zero_add]) sdb Idb (by (first | lia | omega)) fun t' k1' k2' k3' => ?_)
            dsimp only
            have ua := rev_last (l := a.toList) (n := J) (by (first | lia | omega)) (by (first | lia | omega))
            have tk' := bey_take k2'
            have dk' := bey_drop (by rw [List.length_take, lb]; omega) k3'
            rw [List.take_take, Nat.min_eq_left k1'] at tk'
            have hc' : MG nk (a.toList ++ b.toList) (O.push (b.toList[ib' - 1]'(by (first | lia | omega))) ++ (b.extract t' (ib' - 1)).reverse).toList (a.toList.take J).reverse (b.toList.take t').reverse := by
              have := m2.swap.chunk (ib' - 1 - t') fun z hz y hy => ?_
              · rw [Array.toList_append, Array.toList_reverse, ex_mid]
                rw [rev_take k1' (by (first | lia | omega)), rev_drop k1' (by (first | lia | omega))] at this
                exact this.swap
              · rw [rev_take k1' (by (first | lia | omega))] at hz
                have h1 := dk' z (List.mem_reverse.mp hz)
                have h2 := le_last sa (n := J) (by (first | lia | omega)) (by (first | lia | omega)) y (List.mem_reverse.mp hy)
                show -kz _ ≤ -kz _
                (first | lia | omega)
            by_cases k0' : ib' - 1 - t' > 0
            case' pos =>
              rw [if_pos k0']
              by_cases e6 : (t' == 1) = true
              · rw [if_pos e6]
                exact wpS_pure ⟨⟨_, rfl⟩, .inl ⟨_, _, rfl, firstB hc' (by simp at e6; omega)⟩⟩
              rw [if_neg e6]
              by_cases e8 : (t' == 0) = true
              · rw [if_pos e8]
                exact wpS_pure ⟨⟨_, rfl⟩, .inl ⟨_, _, rfl, ends hc' (.inr (by simp at e8; omega))⟩⟩
              rw [if_neg e8]
              have e6' : 1 < t' := by simp at e6 e8; (first | lia | omega)
            case' neg =>
              rw [if_neg k0']
              have kk' : ib' - 1 = t' := by (first | lia | omega)
              rw [← kk'] at hc' tk' ⊢
              have e6' : 1 < ib' - 1 := e5'
              have eo' : O.push (b.toList[ib' - 1]'(by (first | lia | omega))) ++ (b.extract (ib' - 1) (ib' - 1)).reverse = O.push (b.toList[ib' - 1]'(by (first | lia | omega))) := by apply Array.toList_inj.mp; rw [Array.toList_append, Array.toList_reverse, ex_mid]; simp
              rw [eo'] at hc'
            all_goals
              refine wpS_bind (wpS_elem (at_some a (show J - 1 < a.size by (first | lia | omega))) ?_)
              rw [ua] at hc'
              have m3 := hc'.one fun z hz => by
                have := tk' z (List.mem_reverse.mp hz)
                show -kz _ ≤ -kz _
                (first | lia | omega)
              rw [← Array.toList_push] at m3
              by_cases e7 : (J - 1 == 0) = true
              · rw [if_pos e7]
                exact wpS_pure ⟨⟨_, rfl⟩, .inl ⟨_, _, rfl, ends m3 (.inl (by simp at e7; omega))⟩⟩
              rw [if_neg e7]
              have e7' : 0 < J - 1 := by simp at e7; (first | lia | omega)
              split
              · exact wpS_pure ⟨⟨_, rfl⟩, .inr ⟨_, _, _, _, _, _, rfl, m3, e7', e6', by omega, by omega, by omega⟩⟩
              · exact wpS_pure ⟨⟨_, rfl⟩, _, _, _, _, _, _, rfl, m3, e7', e6', by omega, by omega, by omega⟩
end
end RgG
namespace RgG
open PySem PyProof.Rows Rg
variable [KOrd]
def AllI (xs : Array Keyed) : Prop := ∀ p ∈ xs.toList, IntK p
theorem AllI.perm {xs ys : Array Keyed} (h : AllI xs) (p : ys.Perm xs) : AllI ys := fun q hq => h q ((Array.perm_iff_toList_perm.mp p).mem_iff.mp hq)
/-- rearranged within the n places from lo on -/
def Out (b : Array Keyed) (lo n : Nat) (xs : Array Keyed) : Prop := xs.Perm b ∧ ∀ k, (k < lo ∨ lo + n ≤ k) → xs[k]? = b[k]?
theorem Out.refl (b : Array Keyed) (lo n : Nat) : Out b lo n b := ⟨Array.Perm.refl _, fun _ _ => rfl⟩
theorem Out.size {b xs : Array Keyed} {lo n : Nat} (h : Out b lo n xs) : xs.size = b.size := h.1.size_eq
/-- in order from lo on -/
def SIn (xs : Array Keyed) (lo m : Nat) : Prop := ∀ i j, i ≤ j → j < m → KG xs (lo + i) ≤ KG xs (lo + j)
def NIn (xs : Array Keyed) (lo m : Nat) : Prop := ∀ i j, i ≤ j → j < m → KG xs (lo + j) ≤ KG xs (lo + i)
theorem Out.mirror {b xs : Array Keyed} {lo n i j : Nat} (h : Out b lo n xs) (hi : lo ≤ i) (hj : j ≤ lo + n) (hs : lo + n ≤ b.size) : Out b lo n (mirror xs i j ((j - i) / 2)) := by
  refine ⟨(mirror_perm _ _ _ _).trans h.1, fun k hk => ?_⟩
  rw [getElem?_mirror_all (by rw [h.size]; omega), if_neg (by (first | lia | omega))]
  exact h.2 k hk
theorem Out.bubble {b xs : Array Keyed} {lo n src d : Nat} (h : Out b lo n xs) (h1 : lo + d ≤ src) (h2 : src < lo + n) (hs : lo + n ≤ b.size) : Out b lo n (bubble xs src d) := by
  refine ⟨(bubble_perm _ _ _).trans h.1, fun k hk => ?_⟩
  rw [getElem?_bubble (by rw [h.size]; omega) d (by (first | lia | omega)), if_neg (by (first | lia | omega)), if_neg (by (first | lia | omega))]
  exact h.2 k hk
section
variable {prog : Program} {w : World} {A : Around} {E : Value → Shared → Prop} {s : Shared} [KLt prog w A s]
theorem wpS_st {α : Type} {m : StateT SortSt Sem α} {Q : α → SortSt → Prop} {st st' : SortSt} (e : st = st') (h : wpS (model prog w) A E s m Q st') : wpS (model prog w) A E s m Q st := by rw [e]; exact h
theorem wpS_ltA {st : SortSt} {i j : Nat} {Q : Option Bool → SortSt → Prop} (hk : kindOf st = oneType') (hI : AllI (arrOf st)) (hi : i < (arrOf st).size) (hj : j < (arrOf st).size)
    (h : Q (some (decide (KG (arrOf st) i < KG (arrOf st) j))) st) : wpS (model prog w) A E s (ltAt' i j) Q st := by
  rw [ltAt'_eq]
  refine wpS_bind (wpS_get ?_)
  refine wpS_bind (wpS_elem (at_some _ hi) (wpS_bind (wpS_elem (at_some _ hj) (wpS_lt hk (hI _ (List.getElem_mem _)) (hI _ (List.getElem_mem _)) ?_))))
  have e : ∀ {i : Nat} (hi : i < (arrOf st).size), KG (arrOf st) i = kz ((arrOf st).toList[i]'(by simpa using hi)) := fun {i} hi => by unfold KG; rw [at_some _ hi]
  rw [e hi, e hj] at h
  exact h
theorem wpS_rev {st : SortSt} {i j : Nat} {Q : Unit → SortSt → Prop} (h : Q () (setArr st (mirror (arrOf st) i j ((j - i) / 2)))) : wpS (model prog w) A E s (reverseSlice' i j) Q st := by
  rw [reverseSlice'_eq]; exact wpS_modify h
theorem wpS_run {st : SortSt} {lo nrem : Nat} {Q : Option Nat → SortSt → Prop} (hk : kindOf st = oneType') (hI : AllI (arrOf st)) (hn : lo + nrem ≤ (arrOf st).size) (h1 : 1 ≤ nrem)
    (h : ∀ m xs, Out (arrOf st) lo nrem xs → 1 ≤ m → m ≤ nrem → SIn xs lo m → Q (some m) (setArr st xs)) : wpS (model prog w) A E s (countRun' lo nrem) Q st := by
  have grow : ∀ {xs : Array Keyed} {x : Nat}, SIn xs lo x → ¬ KG xs (lo + x) < KG xs (lo + x - 1) → SIn xs lo (x + 1) := fun {xs x} hs hl i j hij hj => by
    by_cases e : j = x
    · subst e
      by_cases e2 : i = j
      · subst e2; exact Int.le_refl _
      · have a1 := hs i (j - 1) (by (first | lia | omega)) (by (first | lia | omega))
        rw [show lo + (j - 1) = lo + j - 1 by omega] at a1
        (first | lia | omega)
    · exact hs i j hij (by (first | lia | omega))
  refine wpS_bind (wpS_mono (wpS_forRange (I := fun x c st' => st' = st ∧ c = (none, x) ∧ SIn (arrOf st) lo x)
    (Q := fun c st' => st' = st ∧ ∃ n, c = (none, n) ∧ 1 ≤ n ∧ n ≤ nrem ∧ SIn (arrOf st) lo n ∧ (n = nrem ∨ KG (arrOf st) (lo + n) < KG (arrOf st) (lo + n - 1))) ?step ?fin ?init) ?post)
  case init => exact ⟨rfl, rfl, fun i j hij hj => by rw [show i = j by omega]; exact Int.le_refl _⟩
  case fin =>
    rintro c st' ⟨rfl, rfl, hs⟩
    rw [show max 1 nrem = nrem by omega] at hs ⊢
    exact ⟨rfl, nrem, rfl, h1, Nat.le_refl _, hs, .inl rfl⟩
  case step =>
    rintro x c st' hx1 hx2 ⟨rfl, rfl, hs⟩
    dsimp only
    refine wpS_bind (wpS_ltA hk hI (by (first | lia | omega)) (by (first | lia | omega)) ?_)
    by_cases hl : KG (arrOf st') (lo + x) < KG (arrOf st') (lo + x - 1)
    · simp only [hl, decide_true, if_true]
      exact wpS_pure ⟨rfl, x, rfl, hx1, by omega, hs, .inr hl⟩
    · simp only [hl, decide_false, Bool.false_eq_true, if_false]
      exact wpS_pure ⟨rfl, rfl, grow hs hl⟩
  case post =>
    rintro c st' ⟨rfl, n, rfl, n1, n2, hs, hor⟩
    dsimp only
    by_cases e1 : (n == nrem) = true
    · rw [if_pos e1]
      exact wpS_pure (h n _ (Out.refl _ _ _) n1 n2 hs)
    rw [if_neg e1]
    have e1' : n < nrem := by simp at e1; (first | lia | omega)
    have hlt := hor.resolve_left (by (first | lia | omega))
    by_cases n3 : n > 1
    case' pos =>
      rw [if_pos n3]
      refine wpS_bind (wpS_ltA hk hI (by (first | lia | omega)) (by (first | lia | omega)) ?_)
      dsimp only
      by_cases hr : KG (arrOf st') lo < KG (arrOf st') (lo + n - 1)
      · rw [if_pos (decide_eq_true hr)]
        exact wpS_pure (h n _ (Out.refl _ _ _) n1 n2 hs)
      rw [if_neg (by simpa using hr)]
      refine wpS_bind (wpS_rev ?_)
      have hall : ∀ k, lo ≤ k → k < lo + n → KG (arrOf st') k = KG (arrOf st') (lo + n - 1) := fun k k1 k2 => by
        have a1 := hs 0 (k - lo) (by (first | lia | omega)) (by (first | lia | omega))
        have a2 := hs (k - lo) (n - 1) (by (first | lia | omega)) (by (first | lia | omega))
        rw [show lo + (k - lo) = k by omega] at a1 a2
        rw [show lo + (n - 1) = lo + n - 1 by omega] at a2
        rw [Nat.add_zero] at a1
        (first | lia | omega)
      obtain ⟨ys, hys⟩ : ∃ ys, ys = mirror (arrOf st') lo (lo + n) ((lo + n - lo) / 2) := ⟨_, rfl⟩
      have oY : Out (arrOf st') lo nrem ys := by rw [hys]; exact (Out.refl _ _ _).mirror (Nat.le_refl _) (by (first | lia | omega)) hn
      have nY : NIn ys lo (n + 1) := by
        intro i j hij hj
        rw [hys, KG_mirror_equal (by (first | lia | omega)) hall, KG_mirror_equal (by (first | lia | omega)) hall]
        by_cases ej : j = n
        · by_cases ei : i = n
          · rw [ei, ej]; exact Int.le_refl _
          · rw [ej, hall (lo + i) (by (first | lia | omega)) (by (first | lia | omega))]
            (first | lia | omega)
        · rw [hall (lo + i) (by (first | lia | omega)) (by (first | lia | omega)), hall (lo + j) (by (first | lia | omega)) (by (first | lia | omega))]
          exact Int.le_refl _
      refine wpS_st (st' := setArr st' ys) (by rw [hys]) ?_
    case' neg =>
      rw [if_neg n3]
      have en : n = 1 := by (first | lia | omega)
      obtain ⟨ys, hys⟩ : ∃ ys, ys = arrOf st' := ⟨_, rfl⟩
      have oY : Out (arrOf st') lo nrem ys := by rw [hys]; exact Out.refl _ _ _
      have nY : NIn ys lo (n + 1) := by
        intro i j hij hj
        rw [hys]
        by_cases eij : i = j
        · rw [eij]; exact Int.le_refl _
        · have ei : i = 0 := by (first | lia | omega)
          have ej : j = n := by (first | lia | omega)
          rw [ei, ej, show lo + 0 = lo + n - 1 by omega]
          (first | lia | omega)
      refine wpS_st (st' := setArr st' ys) (by rw [hys]) ?_
    all_goals
      clear hys
      refine wpS_bind (wpS_lift (wpAny_rule ⟨rfl, ?_⟩))
      refine wpS_bind (wpS_mono (wpS_forRange (I := fun x c st'' => ∃ zs neq, st'' = setArr st' zs ∧ c = (none, x, neq) ∧ Out (arrOf st') lo nrem zs ∧ NIn zs lo x ∧ neq + 1 ≤ x ∧ (∀ k, lo + x - (neq + 1) ≤ k → k < lo + x → KG zs k = KG zs (lo + x - 1)))
        (Q := fun c st'' => ∃ zs m neq, st'' = setArr st' zs ∧ c = (none, m, neq) ∧ n + 1 ≤ m ∧ m ≤ nrem ∧ Out (arrOf st') lo nrem zs ∧ NIn zs lo m ∧ neq + 1 ≤ m ∧ (∀ k, lo + m - (neq + 1) ≤ k → k < lo + m → KG zs k = KG zs (lo + m - 1))) ?dstep ?dfin ?dinit) ?dpost)
      case dinit => exact ⟨ys, 0, rfl, rfl, oY, nY, by omega, fun k k1 k2 => by rw [show k = lo + (n + 1) - 1 by omega]⟩
      case dfin =>
        rintro c st'' ⟨zs, neq, rfl, rfl, o, ni, q1, q2⟩
        rw [show max (n + 1) nrem = nrem by omega] at ni q1 q2 ⊢
        exact ⟨zs, nrem, neq, rfl, rfl, by omega, Nat.le_refl _, o, ni, q1, q2⟩
      case dstep =>
        rintro x c st'' hx1 hx2 ⟨zs, neq, rfl, rfl, o, ni, q1, q2⟩
        dsimp only
        have hIz : AllI zs := hI.perm o.1
        have hsz : lo + nrem ≤ zs.size := by rw [o.size]; exact hn
        refine wpS_bind (wpS_ltA hk hIz (show lo + x < zs.size by (first | lia | omega)) (show lo + x - 1 < zs.size by (first | lia | omega)) ?_)
        dsimp only
        by_cases hl : KG zs (lo + x) < KG zs (lo + x - 1)
        · rw [if_pos (decide_eq_true hl)]
          have step1 : ∀ us : Array Keyed, (∀ k, KG us k = KG zs k) → NIn us lo (x + 1) := fun us hu i j hij hj => by
            rw [hu, hu]
            by_cases ej : j = x
            · by_cases ei : i = x
              · rw [ei, ej]; exact Int.le_refl _
              · have a1 := ni i (x - 1) (by (first | lia | omega)) (by (first | lia | omega))
                rw [show lo + (x - 1) = lo + x - 1 by omega] at a1
                rw [ej]
                (first | lia | omega)
            · exact ni i j hij (by (first | lia | omega))
          by_cases hq : neq > 0
          · rw [if_pos hq]
            refine wpS_bind (wpS_rev (wpS_pure ⟨_, 0, rfl, rfl, o.mirror (by (first | lia | omega)) (by (first | lia | omega)) hn, step1 _ (KG_mirror_equal (show lo + x ≤ zs.size by (first | lia | omega)) q2), by omega, fun k k1 k2 => by rw [show k = lo + (x + 1) - 1 by omega]⟩))
          · rw [if_neg hq]
            exact wpS_pure ⟨zs, 0, rfl, rfl, o, step1 _ fun _ => rfl, by omega, fun k k1 k2 => by rw [show k = lo + (x + 1) - 1 by omega]⟩
        · rw [if_neg (by simpa using hl)]
          refine wpS_bind (wpS_ltA hk hIz (show lo + x - 1 < zs.size by (first | lia | omega)) (show lo + x < zs.size by (first | lia | omega)) ?_)
          dsimp only
          by_cases hg : KG zs (lo + x - 1) < KG zs (lo + x)
          · rw [if_pos (decide_eq_true hg)]
            exact wpS_pure ⟨zs, x, neq, rfl, rfl, by omega, by omega, o, ni, q1, q2⟩
          · rw [if_neg (by simpa using hg)]
            have heq : KG zs (lo + x) = KG zs (lo + x - 1) := by (first | lia | omega)
            refine wpS_pure ⟨zs, neq + 1, rfl, rfl, o, fun i j hij hj => ?_, by omega, fun k k1 k2 => ?_⟩
            · by_cases ej : j = x
              · by_cases ei : i = x
                · rw [ei, ej]; exact Int.le_refl _
                · have a1 := ni i (x - 1) (by (first | lia | omega)) (by (first | lia | omega))
                  rw [show lo + (x - 1) = lo + x - 1 by omega] at a1
                  rw [ej]
                  (first | lia | omega)
              · exact ni i j hij (by (first | lia | omega))
            · rw [show lo + (x + 1) - 1 = lo + x by omega]
              by_cases ek : k = lo + x
              · rw [ek]
              · rw [heq]; exact q2 k (by (first | lia | omega)) (by (first | lia | omega))
      case dpost =>
        rintro c st'' ⟨zs, m, neq, rfl, rfl, m1, m2, o, ni, q1, q2⟩
        dsimp only
        have hsz : lo + nrem ≤ zs.size := by rw [o.size]; exact hn
        by_cases hq : neq > 0
        case' pos =>
          rw [if_pos hq]
          refine wpS_bind (wpS_rev ?_)
          obtain ⟨us, hus⟩ : ∃ us, us = mirror zs (lo + m - (neq + 1)) (lo + m) ((lo + m - (lo + m - (neq + 1))) / 2) := ⟨_, rfl⟩
          have oU : Out (arrOf st') lo nrem us := by rw [hus]; exact o.mirror (by (first | lia | omega)) (by (first | lia | omega)) hn
          have nU : NIn us lo m := fun i j hij hj => by rw [hus, KG_mirror_equal (by (first | lia | omega)) q2, KG_mirror_equal (by (first | lia | omega)) q2]; exact ni i j hij hj
          refine wpS_st (st' := setArr st' us) (by rw [hus]) ?_
        case' neg =>
          rw [if_neg hq]
          obtain ⟨us, hus⟩ : ∃ us, us = zs := ⟨_, rfl⟩
          have oU : Out (arrOf st') lo nrem us := by rw [hus]; exact o
          have nU : NIn us lo m := by rw [hus]; exact ni
          refine wpS_st (st' := setArr st' us) (by rw [hus]) ?_
        all_goals
          clear hus
          refine wpS_bind (wpS_rev ?_)
          have hsu : lo + nrem ≤ us.size := by rw [oU.size]; exact hn
          obtain ⟨vs, hvs⟩ : ∃ vs, vs = mirror us lo (lo + m) ((lo + m - lo) / 2) := ⟨_, rfl⟩
          have oV : Out (arrOf st') lo nrem vs := by rw [hvs]; exact oU.mirror (Nat.le_refl _) (by (first | lia | omega)) hn
          have sV : SIn vs lo m := fun i j hij hj => by
            rw [hvs, KG_mirror (by (first | lia | omega)), KG_mirror (by (first | lia | omega)), if_pos (by (first | lia | omega)), if_pos (by (first | lia | omega))]
            have a1 := nU (m - 1 - j) (m - 1 - i) (by (first | lia | omega)) (by (first | lia | omega))
            rw [show lo + (m - 1 - j) = lo + (lo + m) - 1 - (lo + j) by omega, show lo + (m - 1 - i) = lo + (lo + m) - 1 - (lo + i) by omega] at a1
            exact a1
          refine wpS_st (st' := setArr st' vs) (by rw [hvs]) ?_
          clear hvs
          have hIv : AllI vs := hI.perm oV.1
          have hsv : lo + nrem ≤ vs.size := by rw [oV.size]; exact hn
          refine wpS_bind (wpS_mono (wpS_forRange (I := fun x c st'' => st'' = setArr st' vs ∧ c = (none, x) ∧ SIn vs lo x)
            (Q := fun c st'' => st'' = setArr st' vs ∧ ∃ n', c = (none, n') ∧ 1 ≤ n' ∧ n' ≤ nrem ∧ SIn vs lo n') ?astep ?afin ⟨rfl, rfl, sV⟩) ?apost)
          case afin =>
            rintro c st'' ⟨rfl, rfl, hs'⟩
            rw [show max m nrem = nrem by omega] at hs' ⊢
            exact ⟨rfl, nrem, rfl, h1, Nat.le_refl _, hs'⟩
          case astep =>
            rintro x c st'' hx1 hx2 ⟨rfl, rfl, hs'⟩
            dsimp only
            refine wpS_bind (wpS_ltA hk hIv (show lo + x < vs.size by (first | lia | omega)) (show lo + x - 1 < vs.size by (first | lia | omega)) ?_)
            dsimp only
            by_cases hl : KG vs (lo + x) < KG vs (lo + x - 1)
            · rw [if_pos (decide_eq_true hl)]
              exact wpS_pure ⟨rfl, x, rfl, by omega, by omega, hs'⟩
            · rw [if_neg (by simpa using hl)]
              exact wpS_pure ⟨rfl, rfl, grow hs' hl⟩
          case apost =>
            rintro c st'' ⟨rfl, n', rfl, a1, a2, hs'⟩
            exact wpS_pure (h n' vs oV a1 a2 hs')
theorem wpS_bins {st : SortSt} {lo n ok : Nat} {Q : Bool → SortSt → Prop} (hk : kindOf st = oneType') (hI : AllI (arrOf st)) (hn : lo + n ≤ (arrOf st).size) (hok : ok ≤ n) (hs : SIn (arrOf st) lo ok)
    (h : ∀ xs, Out (arrOf st) lo n xs → SIn xs lo n → Q true (setArr st xs)) : wpS (model prog w) A E s (binarySort' lo n ok) Q st := by
  refine wpS_bind (wpS_mono (wpS_forRange (I := fun k c st' => ∃ xs, st' = setArr st xs ∧ c = (none, ()) ∧ Out (arrOf st) lo n xs ∧ SIn xs lo (min k n))
    (Q := fun c st' => ∃ xs, st' = setArr st xs ∧ c = (none, ()) ∧ Out (arrOf st) lo n xs ∧ SIn xs lo n) ?step ?fin ?init) ?post)
  case post =>
    rintro c st' ⟨xs, rfl, rfl, o, hs'⟩
    exact wpS_pure (h xs o hs')
  case init =>
    refine ⟨arrOf st, rfl, rfl, Out.refl _ _ _, fun i j hij hj => ?_⟩
    by_cases e : ok = 0
    · rw [show i = j by omega]; exact Int.le_refl _
    · exact hs i j hij (by (first | lia | omega))
  case fin =>
    rintro c st' ⟨xs, rfl, rfl, o, hs'⟩
    rw [show min (max (max ok 1) n) n = n by omega] at hs'
    exact ⟨xs, rfl, rfl, o, hs'⟩
  case step =>
    rintro k c st' hk1 hk2 ⟨xs, rfl, rfl, o, hs'⟩
    rw [show min k n = k by omega] at hs'
    have hIx : AllI xs := hI.perm o.1
    have hsz : lo + n ≤ xs.size := by rw [o.size]; exact hn
    refine wpS_bind (wpS_mono (wpS_forRange (I := fun x c st'' => st'' = setArr st xs ∧ ∃ l r, c = (none, l, r) ∧ l ≤ r ∧ r ≤ k ∧ r - l ≤ k - x ∧ (∀ i, i < l → KG xs (lo + i) ≤ KG xs (lo + k)) ∧ (∀ i, r ≤ i → i < k → KG xs (lo + k) < KG xs (lo + i)))
      (Q := fun c st'' => st'' = setArr st xs ∧ ∃ l r, c = (none, l, r) ∧ l ≤ k ∧ (∀ i, i < l → KG xs (lo + i) ≤ KG xs (lo + k)) ∧ (∀ i, l ≤ i → i < k → KG xs (lo + k) < KG xs (lo + i))) ?istep ?ifin ?iinit) ?ipost)
    case iinit => exact ⟨rfl, 0, k, rfl, by omega, by omega, by omega, fun i hi => by omega, fun i h1 h2 => by omega⟩
    case ifin =>
      rintro c st'' ⟨rfl, l, r, rfl, hlr, hrk, hm, hlo, hhi⟩
      have e : l = r := by (first | lia | omega)
      subst e
      exact ⟨rfl, l, l, rfl, hrk, hlo, hhi⟩
    case istep =>
      rintro x c st'' _ hxk ⟨rfl, l, r, rfl, hlr, hrk, hm, hlo, hhi⟩
      dsimp only
      by_cases hge : l ≥ r
      · rw [if_pos hge]
        have e : l = r := by (first | lia | omega)
        subst e
        exact wpS_pure ⟨rfl, l, l, rfl, hrk, hlo, hhi⟩
      · rw [if_neg hge]
        refine wpS_bind (wpS_ltA hk hIx (show lo + k < xs.size by (first | lia | omega)) (show lo + (l + r) / 2 < xs.size by (first | lia | omega)) ?_)
        dsimp only
        by_cases hless : KG xs (lo + k) < KG xs (lo + (l + r) / 2)
        · rw [if_pos (decide_eq_true hless)]
          refine wpS_pure ⟨rfl, l, (l + r) / 2, rfl, by omega, by omega, by omega, hlo, fun i h1 h2 => ?_⟩
          exact Int.lt_of_lt_of_le hless (hs' _ _ h1 h2)
        · rw [if_neg (by simpa using hless)]
          refine wpS_pure ⟨rfl, (l + r) / 2 + 1, r, rfl, by omega, by omega, by omega, fun i h1 => ?_, hhi⟩
          exact Int.le_trans (hs' i ((l + r) / 2) (by (first | lia | omega)) (by (first | lia | omega))) (Int.not_lt.mp hless)
    case ipost =>
      rintro c st'' ⟨rfl, l, r, rfl, hlk, hlo, hhi⟩
      refine wpS_bind (wpS_modify (wpS_pure ⟨bubble xs (lo + k) (lo + k - (lo + l)), rfl, rfl, o.bubble (by (first | lia | omega)) (by (first | lia | omega)) hn, ?_⟩))
      rw [show min (k + 1) n = k + 1 by omega]
      intro i j hij hj
      rw [KG_bubble (by (first | lia | omega)) (by (first | lia | omega)), KG_bubble (by (first | lia | omega)) (by (first | lia | omega)), show lo + k - (lo + k - (lo + l)) = lo + l by omega]
      by_cases c1 : lo + i = lo + l
      · rw [if_pos c1]
        by_cases c2 : lo + j = lo + l
        · rw [if_pos c2]; exact Int.le_refl _
        · rw [if_neg c2, if_pos (by (first | lia | omega)), show lo + j - 1 = lo + (j - 1) by omega]
          exact Int.le_of_lt (hhi _ (by (first | lia | omega)) (by (first | lia | omega)))
      · rw [if_neg c1]
        by_cases c3 : lo + l < lo + i ∧ lo + i ≤ lo + k
        · rw [if_pos c3, if_neg (by (first | lia | omega)), if_pos (by (first | lia | omega)), show lo + i - 1 = lo + (i - 1) by omega, show lo + j - 1 = lo + (j - 1) by omega]
          exact hs' _ _ (by (first | lia | omega)) (by (first | lia | omega))
        · rw [if_neg c3]
          by_cases c4 : lo + j = lo + l
          · rw [if_pos c4]; exact hlo _ (by (first | lia | omega))
          · rw [if_neg c4]
            by_cases c5 : lo + l < lo + j ∧ lo + j ≤ lo + k
            · rw [if_pos c5, show lo + j - 1 = lo + (j - 1) by omega]
              exact hs' _ _ (by (first | lia | omega)) (by (first | lia | omega))
            · rw [if_neg c5]; exact hs' _ _ (by (first | lia | omega)) (by (first | lia | omega))
end
end RgG
namespace RgG
open PySem PyProof.Rows Rg
variable [KOrd]
def Srt (xs : Array Keyed) (lo n : Nat) : Prop := ((xs.toList.drop lo).take n).Pairwise fun a b => kz a ≤ kz b
theorem split_drop (L : List Keyed) (p q : Nat) : (L.drop p).take q ++ L.drop (p + q) = L.drop p := by
  rw [← List.drop_drop]
  exact List.take_append_drop _ _
theorem out_of {b xs : Array Keyed} {P M M' R : List Keyed} {lo n : Nat} (hx : xs.toList = P ++ M' ++ R) (hb : b.toList = P ++ M ++ R) (hp : M'.Perm M) (hl : P.length = lo) (hn : M.length = n) : Out b lo n xs := by
  refine ⟨Array.perm_iff_toList_perm.mpr ?_, fun k hk => ?_⟩
  · rw [hx, hb]
    exact (hp.append_left P).append_right R
  · rw [← Array.getElem?_toList, ← Array.getElem?_toList, hx, hb]
    have hl' := hp.length_eq
    rcases hk with z | z
    · rw [List.append_assoc, List.append_assoc, List.getElem?_append_left (by (first | lia | omega)), List.getElem?_append_left (by (first | lia | omega))]
    · rw [List.getElem?_append_right (by rw [List.length_append]; omega), List.getElem?_append_right (by rw [List.length_append]; omega), List.length_append, List.length_append, hl']
theorem srt_of {xs : Array Keyed} {P M R : List Keyed} {lo n : Nat} (hx : xs.toList = P ++ M ++ R) (hl : P.length = lo) (hn : M.length = n) (h : M.Pairwise fun a b => kz a ≤ kz b) : Srt xs lo n := by
  unfold Srt
  rw [hx, List.append_assoc, List.drop_append_of_le_length (by (first | lia | omega)), List.drop_eq_nil_of_le (by (first | lia | omega)), List.nil_append, List.take_append_of_le_length (by (first | lia | omega)), List.take_of_length_le (by (first | lia | omega))]
  exact h
theorem Srt.same {xs ys : Array Keyed} {lo n : Nat} (h : Srt xs lo n) (e : ∀ k, lo ≤ k → k < lo + n → ys[k]? = xs[k]?) : Srt ys lo n := by
  unfold Srt at h ⊢
  have : (ys.toList.drop lo).take n = (xs.toList.drop lo).take n := by
    apply List.ext_getElem?
    intro i
    by_cases hi : i < n
    · rw [List.getElem?_take_of_lt hi, List.getElem?_take_of_lt hi, List.getElem?_drop, List.getElem?_drop, Array.getElem?_toList, Array.getElem?_toList]
      exact e _ (by (first | lia | omega)) (by (first | lia | omega))
    · rw [List.getElem?_eq_none (by rw [List.length_take]; omega), List.getElem?_eq_none (by rw [List.length_take]; omega)]
  rw [this]
  exact h
theorem srt_in {xs : Array Keyed} {lo n : Nat} (h : SIn xs lo n) (hs : lo + n ≤ xs.size) : Srt xs lo n := by
  unfold Srt
  rw [List.pairwise_iff_getElem]
  intro i j hi hj hij
  rw [List.length_take, List.length_drop] at hi hj
  have q := h i j (by (first | lia | omega)) (by (first | lia | omega))
  have e : ∀ {i : Nat} (hi : lo + i < xs.size), KG xs (lo + i) = kz (xs.toList[lo + i]'(by simpa using hi)) := fun {i} hi => by unfold KG; rw [at_some _ hi]
  have l1 : lo + i < xs.size := by (first | lia | omega)
  have l2 : lo + j < xs.size := by (first | lia | omega)
  rw [e l1, e l2] at q
  rw [List.getElem_take, List.getElem_drop, List.getElem_take, List.getElem_drop]
  exact q
theorem in_srt {xs : Array Keyed} {n : Nat} (h : Srt xs 0 n) (hs : n ≤ xs.size) : SortedG xs n := fun i j hij hj => by
  unfold Srt at h
  have e : ∀ {i : Nat} (hi : i < xs.size), KG xs i = kz (xs.toList[i]'(by simpa using hi)) := fun {i} hi => by unfold KG; rw [at_some _ hi]
  rw [e (show i < xs.size by (first | lia | omega)), e (show j < xs.size by (first | lia | omega))]
  have g : ∀ {i : Nat} (hi : i < n), ((xs.toList.drop 0).take n)[i]? = some (xs.toList[i]'(by simp; omega)) := fun {i} hi => by
    rw [List.getElem?_take_of_lt hi, List.drop_zero, List.getElem?_eq_getElem]
  exact sorted_from h (g (show i < n by (first | lia | omega))) (g hj) hij
theorem write_go : ∀ (r : List Keyed) (j : Nat) (a : Array Keyed) (base : Nat), base + j + r.length ≤ a.size →
    ((r.zipIdx j).foldl (fun (a : Array Keyed) (x : Keyed × Nat) => a.setIfInBounds (base + x.2) x.1) a).toList = a.toList.take (base + j) ++ r ++ a.toList.drop (base + j + r.length)
  | [], j, a, base, h => by simp
  | p :: r, j, a, base, h => by
    rw [List.length_cons] at h
    have ih := write_go r (j + 1) (a.setIfInBounds (base + j) p) base (by rw [Array.size_setIfInBounds]; omega)
    rw [List.zipIdx_cons, List.foldl_cons, ih]
    have e : (a.setIfInBounds (base + j) p).toList = a.toList.set (base + j) p := by simp
    have hlt : base + j < a.toList.length := by simp; (first | lia | omega)
    rw [e, List.length_cons]
    have e1 : (a.toList.set (base + j) p).take (base + (j + 1)) = a.toList.take (base + j) ++ [p] := by
      rw [show base + (j + 1) = base + j + 1 by omega, List.take_succ, List.take_set_of_le (by (first | lia | omega)), List.getElem?_set_self hlt]
      rfl
    have e2 : (a.toList.set (base + j) p).drop (base + (j + 1) + r.length) = a.toList.drop (base + j + (r.length + 1)) := by
      rw [List.drop_set_of_lt (by (first | lia | omega))]
      congr 1
      (first | lia | omega)
    rw [e1, e2]
    simp
section
variable {prog : Program} {w : World} {A : Around} {E : Value → Shared → Prop} {s : Shared} [KLt prog w A s]
abbrev merged (st : SortSt) (i sa n pw : Nat) (xs : Array Keyed) (g : Nat) : SortSt := SortSt.mk' (kindOf st) xs (((pendingOf st).setIfInBounds i (sa, n, pw)).eraseIdxIfInBounds (i + 1)) g (failedOf st)
theorem wpS_mergeAt {st : SortSt} {i sa na pw nb pw2 : Nat} {Q : Bool → SortSt → Prop} (hk : kindOf st = oneType') (hf : failedOf st = none) (hI : AllI (arrOf st))
    (p1 : (pendingOf st)[i]? = some (sa, na, pw)) (p2 : (pendingOf st)[i + 1]? = some (sa + na, nb, pw2)) (hna : 1 ≤ na) (hnb : 1 ≤ nb) (hsz : sa + na + nb ≤ (arrOf st).size)
    (s1 : Srt (arrOf st) sa na) (s2 : Srt (arrOf st) (sa + na) nb)
    (h : ∀ xs g, Out (arrOf st) sa (na + nb) xs → Srt xs sa (na + nb) → Q true (merged st i sa (na + nb) pw xs g)) : wpS (model prog w) A E s (mergeAt' i) Q st := by
  obtain ⟨L, hL⟩ : ∃ L, L = (arrOf st).toList := ⟨_, rfl⟩
  have lenL : L.length = (arrOf st).size := by rw [hL]; simp
  obtain ⟨P, hP⟩ : ∃ P, P = L.take sa := ⟨_, rfl⟩
  obtain ⟨U, hU⟩ : ∃ U, U = (L.drop sa).take na := ⟨_, rfl⟩
  obtain ⟨W, hW⟩ : ∃ W, W = (L.drop (sa + na)).take nb := ⟨_, rfl⟩
  obtain ⟨R, hR⟩ : ∃ R, R = L.drop (sa + na + nb) := ⟨_, rfl⟩
  have lP : P.length = sa := by rw [hP, List.length_take]; (first | lia | omega)
  have lU : U.length = na := by rw [hU, List.length_take, List.length_drop]; (first | lia | omega)
  have lW : W.length = nb := by rw [hW, List.length_take, List.length_drop]; (first | lia | omega)
  have whole : L = P ++ (U ++ W) ++ R := by
    have e1 : W ++ R = L.drop (sa + na) := by rw [hW, hR]; exact split_drop _ _ _
    have e2 : U ++ L.drop (sa + na) = L.drop sa := by rw [hU]; exact split_drop _ _ _
    rw [List.append_assoc, List.append_assoc, e1, e2, hP]
    exact (List.take_append_drop _ _).symm
  have sU : U.Pairwise fun a b => kz a ≤ kz b := by rw [hU, hL]; exact s1
  have sW : W.Pairwise fun a b => kz a ≤ kz b := by rw [hW, hL]; exact s2
  have IU : ∀ p ∈ U, IntK p := fun p hp => hI p (by rw [← hL, whole]; simp [hp])
  have IW : ∀ p ∈ W, IntK p := fun p hp => hI p (by rw [← hL, whole]; simp [hp])
  have atU : ∀ j, j < na → (arrOf st)[sa + j]? = U[j]? := fun j hj => by rw [hU, List.getElem?_take_of_lt hj, List.getElem?_drop, hL, Array.getElem?_toList]
  have atW : ∀ j, j < nb → (arrOf st)[sa + na + j]? = W[j]? := fun j hj => by rw [hW, List.getElem?_take_of_lt hj, List.getElem?_drop, hL, Array.getElem?_toList]
  have kW : (arrOf st)[sa + na]? = some (W[0]'(by (first | lia | omega))) := by have q := atW 0 (by (first | lia | omega)); rw [Nat.add_zero] at q; rw [q]; exact List.getElem?_eq_getElem (by (first | lia | omega))
  have kU : (arrOf st)[sa + na - 1]? = some (U[na - 1]'(by (first | lia | omega))) := by have q := atU (na - 1) (by (first | lia | omega)); rw [show sa + (na - 1) = sa + na - 1 by omega] at q; rw [q]; exact List.getElem?_eq_getElem (by (first | lia | omega))
  have W0 : ∀ y ∈ W, kz (W[0]'(by (first | lia | omega))) ≤ kz y := fun y hy => drop_le sW (i := 0) (by (first | lia | omega)) y (by simpa using hy)
  have Ul : ∀ x ∈ U, kz x ≤ kz (U[na - 1]'(by (first | lia | omega))) := fun x hx => le_last sU (n := na) (by (first | lia | omega)) (by (first | lia | omega)) x (by rw [List.take_of_length_le (by (first | lia | omega))]; exact hx)
  refine wpS_bind (wpS_get ?_)
  dsimp only
  rw [p1, p2]
  dsimp only
  refine wpS_bind (wpS_modify ?_)
  refine wpS_bind (wpS_elem kW ?_)
  refine wpS_bind (wpS_gallop (L := U) hk (IW _ (List.getElem_mem _)) lU atU sU IU (by (first | lia | omega)) fun k k1 k2 k3 => ?_)
  dsimp only
  have tk := bey_take k2
  have dk := bey_drop lU k3
  by_cases e1 : (na - k == 0) = true
  · rw [if_pos e1]
    have ek : k = na := by simp at e1; (first | lia | omega)
    refine wpS_pure (h (arrOf st) _ (Out.refl _ _ _) (srt_of (hL ▸ whole) lP (by rw [List.length_append]; omega) ?_))
    rw [List.pairwise_append]
    refine ⟨sU, sW, fun x hx y hy => ?_⟩
    have a1 := tk x (by rw [ek, List.take_of_length_le (by (first | lia | omega))]; exact hx)
    have a2 := W0 y hy
    (first | lia | omega)
  rw [if_neg e1]
  have ek : k < na := by simp at e1; (first | lia | omega)
  refine wpS_bind (wpS_elem (show (arrOf st)[sa + k + (na - k) - 1]? = _ by rw [show sa + k + (na - k) - 1 = sa + na - 1 by omega]; exact kU) ?_)
  refine wpS_bind (wpS_gallop (L := W) hk (IU _ (List.getElem_mem _)) lW atW sW IW (by (first | lia | omega)) fun t t1 t2 t3 => ?_)
  dsimp only
  have tt := bey_take t2
  have dt := bey_drop lW t3
  by_cases e2 : (t == 0) = true
  · rw [if_pos e2]
    have et : t = 0 := by simpa using e2
    refine wpS_pure (h (arrOf st) _ (Out.refl _ _ _) (srt_of (hL ▸ whole) lP (by rw [List.length_append]; omega) ?_))
    rw [List.pairwise_append]
    refine ⟨sU, sW, fun x hx y hy => ?_⟩
    have a1 := Ul x hx
    have a2 := dt y (by rw [et]; simpa using hy)
    (first | lia | omega)
  rw [if_neg e2]
  have et : 0 < t := by simp at e2; (first | lia | omega)
  have xl : ((arrOf st).extract (sa + k) (sa + na)).toList = U.drop k := by
    rw [ex_mid, ← hL, hU, List.drop_take, List.drop_take, List.drop_drop]
    congr 1
    (first | lia | omega)
  have yl : ((arrOf st).extract (sa + na) (sa + na + t)).toList = W.take t := by
    rw [ex_run, ← hL, hW, List.take_take, Nat.min_eq_left t1]
  have xs0 : 0 < ((arrOf st).extract (sa + k) (sa + na)).size := by rw [← Array.length_toList, xl, List.length_drop]; (first | lia | omega)
  have ys0 : 0 < ((arrOf st).extract (sa + na) (sa + na + t)).size := by rw [← Array.length_toList, yl, List.length_take]; (first | lia | omega)
  have c0 : ∀ y x, ((arrOf st).extract (sa + na) (sa + na + t))[0]? = some y → x ∈ ((arrOf st).extract (sa + k) (sa + na)).toList → kz y ≤ kz x := fun y x hy hx => by
    rw [xl] at hx
    rw [← Array.getElem?_toList, yl, List.getElem?_take_of_lt et, List.getElem?_eq_getElem (by (first | lia | omega))] at hy
    cases hy
    exact dk x hx
  have cl : ∀ y x, y ∈ ((arrOf st).extract (sa + na) (sa + na + t)).toList → ((arrOf st).extract (sa + k) (sa + na))[((arrOf st).extract (sa + k) (sa + na)).size - 1]? = some x → kz y ≤ kz x := fun y x hy hx => by
    rw [yl] at hy
    rw [← Array.getElem?_toList, ← Array.length_toList, xl, List.length_drop, List.getElem?_drop, lU, show k + (na - k - 1) = na - 1 by omega, List.getElem?_eq_getElem (by omega)] at hx
    cases hx
    exact tt y hy
  have fin : ∀ (r : Array Keyed) (g : Nat), Done kz (((arrOf st).extract (sa + k) (sa + na)).toList ++ ((arrOf st).extract (sa + na) (sa + na + t)).toList) r.toList →
      Q true (merged st i sa (na + nb) pw (r.toList.zipIdx.foldl (fun (a : Array Keyed) (x : Keyed × Nat) => a.setIfInBounds (sa + k + x.2) x.1) (arrOf st)) g) := fun r g hd => by
    obtain ⟨hd1, hd2⟩ := hd
    rw [xl, yl] at hd2
    have lr : r.toList.length = na - k + t := by rw [hd2.length_eq, List.length_append, List.length_drop, List.length_take]; (first | lia | omega)
    have wr := write_go r.toList 0 (arrOf st) (sa + k) (by rw [lr]; omega)
    rw [← hL] at wr
    have eT : L.take (sa + k + 0) = P ++ U.take k := by
      rw [Nat.add_zero, hP, hU, List.take_take, Nat.min_eq_left (by (first | lia | omega)), List.take_add]
    have eD : L.drop (sa + k + 0 + r.toList.length) = W.drop t ++ R := by
      have q := split_drop L (sa + na + t) (nb - t)
      rw [show sa + na + t + (nb - t) = sa + na + nb by omega] at q
      rw [lr, show sa + k + 0 + (na - k + t) = sa + na + t by omega, hW, hR, List.drop_take, List.drop_drop]
      exact q.symm
    have wr' : (r.toList.zipIdx.foldl (fun (a : Array Keyed) (x : Keyed × Nat) => a.setIfInBounds (sa + k + x.2) x.1) (arrOf st)).toList = P ++ (U.take k ++ r.toList ++ W.drop t) ++ R := by
      rw [wr, eT, eD]
      simp only [List.append_assoc]
    have pm : (U.take k ++ r.toList ++ W.drop t).Perm (U ++ W) := by
      have e3 : U ++ W = U.take k ++ (U.drop k ++ W.take t) ++ W.drop t := by
        rw [← List.append_assoc, List.take_append_drop, List.append_assoc, List.take_append_drop]
      rw [e3]
      exact (hd2.append_left _).append_right _
    refine h _ g (out_of wr' (hL ▸ whole) pm lP (by rw [List.length_append]; omega)) (srt_of wr' lP (by rw [pm.length_eq, List.length_append]; omega) ?_)
    have inM : ∀ z ∈ r.toList, z ∈ U.drop k ∨ z ∈ W.take t := fun z hz => List.mem_append.mp (hd2.mem_iff.mp hz)
    have eU : U.take k ++ U.drop k = U := List.take_append_drop _ _
    have eW : W.take t ++ W.drop t = W := List.take_append_drop _ _
    have pU := sU
    rw [← eU, List.pairwise_append] at pU
    have pW := sW
    rw [← eW, List.pairwise_append] at pW
    have lowhigh : ∀ x ∈ U.take k, ∀ y ∈ W, kz x ≤ kz y := fun x hx y hy => by
      have a1 := tk x hx
      have a2 := W0 y hy
      (first | lia | omega)
    rw [List.pairwise_append, List.pairwise_append]
    refine ⟨⟨pU.1, hd1, fun x hx y hy => ?_⟩, pW.2.1, fun x hx y hy => ?_⟩
    · rcases inM y hy with z | z
      · exact pU.2.2 x hx y z
      · exact lowhigh x hx y (List.mem_of_mem_take z)
    · rcases List.mem_append.mp hx with z | z
      · exact lowhigh x z y (List.mem_of_mem_drop hy)
      · rcases inM x z with q | q
        · have a1 := Ul x (List.mem_of_mem_drop q)
          have a2 := dt y hy
          (first | lia | omega)
        · exact pW.2.2 x q y hy
  have sx : ((arrOf st).extract (sa + k) (sa + na)).toList.Pairwise fun x y => kz x ≤ kz y := by rw [xl]; exact sU.sublist (List.drop_sublist _ _)
  have sy : ((arrOf st).extract (sa + na) (sa + na + t)).toList.Pairwise fun x y => kz x ≤ kz y := by rw [yl]; exact sW.sublist (List.take_sublist _ _)
  have Ix : ∀ p ∈ ((arrOf st).extract (sa + k) (sa + na)).toList, IntK p := by rw [xl]; exact fun p hp => IU p (List.mem_of_mem_drop hp)
  have Iy : ∀ p ∈ ((arrOf st).extract (sa + na) (sa + na + t)).toList, IntK p := by rw [yl]; exact fun p hp => IW p (List.mem_of_mem_take hp)
  by_cases e3 : na - k ≤ t
  · rw [if_pos e3]
    refine wpS_bind (wpS_mergeLo hk sx sy Ix Iy xs0 ys0 c0 cl fun r g hd => ?_)
    refine wpS_bind (wpS_modify ?_)
    refine wpS_bind (wpS_get (wpS_pure ?_))
    have q := fin r g hd
    rw [show (failedOf st).isNone = true by rw [hf]; rfl]
    exact q
  · rw [if_neg e3]
    refine wpS_bind (wpS_mergeHi hk sx sy Ix Iy xs0 ys0 c0 cl fun r g hd => ?_)
    refine wpS_bind (wpS_modify ?_)
    refine wpS_bind (wpS_get (wpS_pure ?_))
    have q := fin r g hd
    rw [show (failedOf st).isNone = true by rw [hf]; rfl]
    exact q
end
end RgG
namespace RgG
open PySem PyProof.Rows Rg
variable [KOrd]
/-! ### the runs that are pending: one behind another -/
def Cov : List (Nat × Nat × Nat) → Nat → Nat → Prop
  | [], a, b => a = b
  | (s, n, _) :: r, a, b => s = a ∧ 1 ≤ n ∧ Cov r (a + n) b
theorem cov_split : ∀ {p q : List (Nat × Nat × Nat)} {a b : Nat}, Cov (p ++ q) a b ↔ ∃ c, Cov p a c ∧ Cov q c b
  | [], q, a, b => ⟨fun h => ⟨a, rfl, h⟩, fun ⟨c, h1, h2⟩ => by cases (show a = c from h1); exact h2⟩
  | (s, n, w) :: p, q, a, b => by
    constructor
    · rintro ⟨h1, h2, h3⟩
      obtain ⟨c, h4, h5⟩ := cov_split.mp h3
      exact ⟨c, ⟨h1, h2, h4⟩, h5⟩
    · rintro ⟨c, ⟨h1, h2, h3⟩, h4⟩
      exact ⟨h1, h2, cov_split.mpr ⟨c, h3, h4⟩⟩
theorem cov_len : ∀ {p : List (Nat × Nat × Nat)} {a b : Nat}, Cov p a b → a + p.length ≤ b
  | [], a, b, h => by cases (show a = b from h); exact Nat.le_refl _
  | (s, n, w) :: p, a, b, ⟨_, h2, h3⟩ => by
    have := cov_len h3
    rw [List.length_cons]
    (first | lia | omega)
theorem cov_mem : ∀ {p : List (Nat × Nat × Nat)} {a b : Nat} {q : Nat × Nat × Nat}, Cov p a b → q ∈ p → a ≤ q.1 ∧ q.1 + q.2.1 ≤ b ∧ 1 ≤ q.2.1
  | [], _, _, _, _, h => nomatch h
  | (s, n, w) :: p, a, b, q, ⟨h1, h2, h3⟩, h => by
    have hl := cov_len h3
    rcases List.mem_cons.mp h with z | z
    · subst z
      exact ⟨by show a ≤ s; (first | lia | omega), by show s + n ≤ b; (first | lia | omega), h2⟩
    · have := cov_mem h3 z
      exact ⟨by omega, this.2.1, this.2.2⟩
theorem two_at {α : Type} {p : List α} {i : Nat} {x y : α} (h1 : p[i]? = some x) (h2 : p[i + 1]? = some y) : ∃ p1 p2, p = p1 ++ x :: y :: p2 ∧ p1.length = i := by
  obtain ⟨l1, e1⟩ := List.getElem?_eq_some_iff.mp h1
  obtain ⟨l2, e2⟩ := List.getElem?_eq_some_iff.mp h2
  refine ⟨p.take i, p.drop (i + 2), ?_, by rw [List.length_take]; (first | lia | omega)⟩
  have a1 := List.drop_eq_getElem_cons l1
  have a2 := List.drop_eq_getElem_cons l2
  rw [e1, a2, e2] at a1
  rw [← a1]
  exact (List.take_append_drop _ _).symm
theorem set_erase {α : Type} {p1 p2 : List α} {x y v : α} {i : Nat} (h : p1.length = i) : ((p1 ++ x :: y :: p2).set i v).eraseIdx (i + 1) = p1 ++ v :: p2 := by
  subst h
  induction p1 with
  | nil => rfl
  | cons a p1 ih => simpa using ih
structure SI (a₀ : Array Keyed) (st : SortSt) (stop : Nat) : Prop where
  perm : (arrOf st).Perm a₀
  kind : kindOf st = oneType'
  failed : failedOf st = none
  cov : Cov (pendingOf st).toList 0 stop
  runs : ∀ q ∈ (pendingOf st).toList, Srt (arrOf st) q.1 q.2.1
  le : stop ≤ a₀.size
section
variable {prog : Program} {w : World} {A : Around} {E : Value → Shared → Prop} {s : Shared} [KLt prog w A s] {a₀ : Array Keyed}
theorem SI.size {st : SortSt} {stop : Nat} (h : SI a₀ st stop) : (arrOf st).size = a₀.size := h.perm.size_eq
theorem wpS_merge {st : SortSt} {i stop : Nat} {Q : Bool → SortSt → Prop} (h : SI a₀ st stop) (hI : AllI a₀) (hi : i + 1 < (pendingOf st).size)
    (k : ∀ st', SI a₀ st' stop → (pendingOf st').size + 1 = (pendingOf st).size → (∀ k, stop ≤ k → (arrOf st')[k]? = (arrOf st)[k]?) → Q true st') : wpS (model prog w) A E s (mergeAt' i) Q st := by
  obtain ⟨⟨sa, na, pw⟩, hx⟩ : ∃ x, (pendingOf st).toList[i]? = some x := ⟨_, List.getElem?_eq_getElem (by simp; omega)⟩
  obtain ⟨⟨sb, nb, pw2⟩, hy⟩ : ∃ x, (pendingOf st).toList[i + 1]? = some x := ⟨_, List.getElem?_eq_getElem (by simp; omega)⟩
  obtain ⟨p1, p2, hp, hl⟩ := two_at hx hy
  have hc := h.cov
  rw [hp] at hc
  obtain ⟨c, c1, c2, c3, c4, c5, c6⟩ := cov_split.mp hc
  have e1 : sa = c := c2
  have e2 : sb = c + na := c4
  subst e1 e2
  have le1 := cov_len c6
  have hr := h.runs
  rw [hp] at hr
  have sz := h.size
  have hle := h.le
  have hset : (((pendingOf st).setIfInBounds i (sa, na + nb, pw)).eraseIdxIfInBounds (i + 1)).toList = p1 ++ (sa, na + nb, pw) :: p2 := by
    rw [Array.toList_eraseIdxIfInBounds, Array.toList_setIfInBounds, hp]
    exact set_erase hl
  refine wpS_mergeAt h.kind h.failed (hI.perm h.perm) (by rw [← Array.getElem?_toList]; exact hx) (by rw [← Array.getElem?_toList]; exact hy) c3 c5 (by (first | lia | omega)) (hr (sa, na, pw) (by simp)) (hr (sa + na, nb, pw2) (by simp)) fun xs g o hs => ?_
  refine k _ ⟨o.1.trans h.perm, h.kind, h.failed, ?_, fun q hq => ?_, h.le⟩ ?_ fun k' hk' => o.2 k' (.inr (by (first | lia | omega)))
  · show Cov (((pendingOf st).setIfInBounds i (sa, na + nb, pw)).eraseIdxIfInBounds (i + 1)).toList 0 stop
    rw [hset]
    exact cov_split.mpr ⟨sa, c1, rfl, by omega, by rw [← Nat.add_assoc]; exact c6⟩
  · have hq' : q ∈ (((pendingOf st).setIfInBounds i (sa, na + nb, pw)).eraseIdxIfInBounds (i + 1)).toList := hq
    rw [hset] at hq'
    rcases List.mem_append.mp hq' with z | z
    · have m := cov_mem c1 z
      exact (hr q (by simp [z])).same fun k' k1 k2 => o.2 k' (.inl (by (first | lia | omega)))
    · rcases List.mem_cons.mp z with z | z
      · subst z; exact hs
      · have m := cov_mem c6 z
        exact (hr q (by simp [z])).same fun k' k1 k2 => o.2 k' (.inr (by (first | lia | omega)))
  · have e3 : (((pendingOf st).setIfInBounds i (sa, na + nb, pw)).eraseIdxIfInBounds (i + 1)).size = (p1 ++ (sa, na + nb, pw) :: p2).length := by rw [← hset, Array.length_toList]
    have e4 : (pendingOf st).size = (p1 ++ (sa, na, pw) :: (sa + na, nb, pw2) :: p2).length := by rw [← hp, Array.length_toList]
    show (((pendingOf st).setIfInBounds i (sa, na + nb, pw)).eraseIdxIfInBounds (i + 1)).size + 1 = _
    rw [e3, e4]
    simp only [List.length_append, List.length_cons]
    (first | lia | omega)
theorem cov_modify {p : List (Nat × Nat × Nat)} {f : Nat × Nat × Nat → Nat × Nat × Nat} (hf : ∀ x, (f x).1 = x.1 ∧ (f x).2.1 = x.2.1) : ∀ {i a b : Nat}, Cov p a b → Cov (p.modify i f) a b := by
  induction p with
  | nil => intro i a b h; cases i <;> exact h
  | cons x p ih =>
    intro i a b h
    obtain ⟨s, n, w⟩ := x
    cases i with
    | zero =>
      have q := hf (s, n, w)
      show Cov (f (s, n, w) :: p) a b
      generalize f (s, n, w) = y at q
      obtain ⟨s', n', w'⟩ := y
      have q1 : s' = s := q.1
      have q2 : n' = n := q.2
      subst q1 q2
      exact h
    | succ i => exact ⟨h.1, h.2.1, ih h.2.2⟩
theorem mem_modify {p : List (Nat × Nat × Nat)} {f : Nat × Nat × Nat → Nat × Nat × Nat} (hf : ∀ x, (f x).1 = x.1 ∧ (f x).2.1 = x.2.1) : ∀ {i : Nat} {q : Nat × Nat × Nat}, q ∈ p.modify i f → ∃ x ∈ p, x.1 = q.1 ∧ x.2.1 = q.2.1 := by
  induction p with
  | nil => intro i q h; cases i <;> cases h
  | cons x p ih =>
    intro i q h
    cases i with
    | zero =>
      rcases List.mem_cons.mp (show q ∈ f x :: p from h) with z | z
      · exact ⟨x, List.mem_cons_self, by rw [z]; exact (hf x).1.symm, by rw [z]; exact (hf x).2.symm⟩
      · exact ⟨q, List.mem_cons_of_mem _ z, rfl, rfl⟩
    | succ i =>
      rcases List.mem_cons.mp (show q ∈ x :: p.modify i f from h) with z | z
      · exact ⟨x, List.mem_cons_self, by rw [z], by rw [z]⟩
      · obtain ⟨y, h1, h2⟩ := ih z
        exact ⟨y, List.mem_cons_of_mem _ h1, h2⟩
/-- a run is put behind the others -/
theorem SI.push {st : SortSt} {stop n : Nat} (h : SI a₀ st stop) (hn : 1 ≤ n) (hl : stop + n ≤ a₀.size) (hs : Srt (arrOf st) stop n) : SI a₀ (setPending st ((pendingOf st).push (stop, n, 0))) (stop + n) := by
  refine ⟨h.perm, h.kind, h.failed, ?_, fun q hq => ?_, hl⟩
  · show Cov ((pendingOf st).push (stop, n, 0)).toList 0 (stop + n)
    rw [Array.toList_push]
    exact cov_split.mpr ⟨stop, h.cov, rfl, hn, rfl⟩
  · have hq' : q ∈ ((pendingOf st).push (stop, n, 0)).toList := hq
    rw [Array.toList_push] at hq'
    rcases List.mem_append.mp hq' with z | z
    · exact h.runs q z
    · have z' : q = (stop, n, 0) := by simpa using z
      subst z'
      exact hs
theorem SI.marks {st : SortSt} {stop i pw : Nat} (h : SI a₀ st stop) : SI a₀ (setPending st ((pendingOf st).modify i fun x => (x.1, x.2.1, pw))) stop := by
  have e : ((pendingOf st).modify i fun x => (x.1, x.2.1, pw)).toList = (pendingOf st).toList.modify i fun x => (x.1, x.2.1, pw) := by simp
  refine ⟨h.perm, h.kind, h.failed, ?_, fun q hq => ?_, h.le⟩
  · show Cov ((pendingOf st).modify i fun x => (x.1, x.2.1, pw)).toList 0 stop
    rw [e]
    exact cov_modify (f := fun x => (x.1, x.2.1, pw)) (fun _ => ⟨rfl, rfl⟩) h.cov
  · have hq' : q ∈ ((pendingOf st).modify i fun x => (x.1, x.2.1, pw)).toList := hq
    rw [e] at hq'
    obtain ⟨x, h1, h2, h3⟩ := mem_modify (f := fun x => (x.1, x.2.1, pw)) (fun _ => ⟨rfl, rfl⟩) hq'
    have := h.runs x h1
    rw [h2, h3] at this
    exact this
/-- what is rearranged behind the runs does not touch them -/
theorem SI.out {st : SortSt} {stop m : Nat} {xs : Array Keyed} (h : SI a₀ st stop) (o : Out (arrOf st) stop m xs) : SI a₀ (setArr st xs) stop :=
  ⟨o.1.trans h.perm, h.kind, h.failed, h.cov, fun q hq => (h.runs q hq).same fun k k1 k2 => o.2 k (.inl (by have := cov_mem h.cov hq; omega)), h.le⟩
theorem wpS_sortAll {st : SortSt} {Q : Unit → SortSt → Prop} (h0 : AllI a₀) (hB : SBase a₀ st) (h2 : 2 ≤ a₀.size)
    (h : ∀ st', (arrOf st').Perm a₀ → failedOf st' = none → SortedG (arrOf st') a₀.size → Q () st') : wpS (model prog w) A E s sortRuns' Q st := by
  have hI : AllI a₀ := h0
  have start : SI a₀ st 0 := ⟨hB.perm, hB.kind, hB.failed, by rw [hB.pend]; rfl, (by rw [hB.pend]; intro q hq; cases hq), Nat.zero_le _⟩
  have hsz := hB.size
  refine wpS_bind (wpS_get ?_)
  dsimp only
  simp only [hsz]
  generalize sortPriv% PySem.Builtin.minRun = mr
  refine wpS_bind (wpS_mono (wpS_forRange (I := fun x c st' => ∃ lo, c = (none, lo) ∧ min x a₀.size ≤ lo ∧ SI a₀ st' lo) (Q := fun c st' => c = (none, a₀.size) ∧ SI a₀ st' a₀.size) ?step ?fin ⟨0, rfl, by omega, start⟩) ?post)
  case fin =>
    rintro c st' ⟨lo, rfl, h1, hS⟩
    have e : lo = a₀.size := by have := hS.le; (first | lia | omega)
    subst e
    exact ⟨rfl, hS⟩
  case step =>
    rintro x c st' _ hx ⟨lo, rfl, h1, hS⟩
    dsimp only
    have hle := hS.le
    by_cases hge : lo ≥ a₀.size
    · rw [if_pos hge]
      have e : lo = a₀.size := by (first | lia | omega)
      subst e
      exact wpS_pure ⟨rfl, hS⟩
    rw [if_neg hge]
    have hsz' := hS.size
    refine wpS_bind (wpS_run hS.kind (hI.perm hS.perm) (by (first | lia | omega)) (by (first | lia | omega)) fun m xs o m1 m2 sm => ?_)
    dsimp only
    have hS2 := hS.out o
    have sz2 : xs.size = a₀.size := by have := hS2.size; exact this
    generalize mr a₀.size a₀.size 0 = mn
    by_cases hm : m < mn
    case' pos =>
      rw [if_pos hm]
      refine wpS_bind (wpS_lift (wpAny_rule ⟨rfl, ?_⟩))
      refine wpS_bind (wpS_bins (st := setArr st' xs) hS2.kind (hI.perm hS2.perm) (show lo + min (a₀.size - lo) mn ≤ xs.size by (first | lia | omega)) (by (first | lia | omega)) sm fun ys o2 sy => ?_)
      have hS3 : SI a₀ (setArr (setArr st' xs) ys) lo := hS2.out o2
      have hY : Srt ys lo (min (a₀.size - lo) mn) := srt_in sy (by rw [o2.size]; show lo + min (a₀.size - lo) mn ≤ xs.size; omega)
      obtain ⟨n, hn⟩ : ∃ n, n = min (a₀.size - lo) mn := ⟨_, rfl⟩
      have n1 : 1 ≤ n := by (first | lia | omega)
      have n2 : lo + n ≤ a₀.size := by (first | lia | omega)
      rw [← hn] at hY ⊢
      obtain ⟨st3, hst3⟩ : ∃ st3, st3 = setArr (setArr st' xs) ys := ⟨_, rfl⟩
      rw [← hst3] at hS3 ⊢
      have hY3 : Srt (arrOf st3) lo n := by rw [hst3]; exact hY
      simp only [Bool.not_true, Bool.false_eq_true, if_false]
    case' neg =>
      rw [if_neg hm]
      have hS3 : SI a₀ (setArr st' xs) lo := hS2
      obtain ⟨n, hn⟩ : ∃ n, n = m := ⟨_, rfl⟩
      have n1 : 1 ≤ n := by (first | lia | omega)
      have n2 : lo + n ≤ a₀.size := by (first | lia | omega)
      have hY : Srt xs lo n := by rw [hn]; exact srt_in sm (by (first | lia | omega))
      rw [← hn]
      obtain ⟨st3, hst3⟩ : ∃ st3, st3 = setArr st' xs := ⟨_, rfl⟩
      rw [← hst3] at hS3 ⊢
      have hY3 : Srt (arrOf st3) lo n := by rw [hst3]; exact hY
    all_goals
      refine wpS_bind (wpS_get ?_)
      cases hb : (pendingOf st3).back? with
      | none =>
        dsimp only
        exact wpS_bind (wpS_modify (wpS_pure ⟨lo + n, rfl, by omega, hS3.push n1 n2 hY3⟩))
      | some last =>
        obtain ⟨s1, n1', pw1⟩ := last
        dsimp only
        generalize (sortPriv% PySem.Builtin.power) a₀.size (2 * s1 + n1') (2 * s1 + n1' + n1' + n) a₀.size = pw
        refine wpS_bind (wpS_mono (wpS_forRange (I := fun _ c st'' => c = (none, ()) ∧ SI a₀ st'' lo ∧ Srt (arrOf st'') lo n) (Q := fun c st'' => c = (none, ()) ∧ SI a₀ st'' lo ∧ Srt (arrOf st'') lo n) ?mstep (fun _ _ q => q) ⟨rfl, hS3, hY3⟩) ?mpost)
        case mstep =>
          rintro y c st'' _ hy ⟨rfl, hS4, hY4⟩
          refine wpS_bind (wpS_get ?_)
          by_cases hp : (pendingOf st'').size > 1
          · rw [if_pos hp]
            obtain ⟨⟨a, b, older⟩, hz⟩ : ∃ z, (pendingOf st'')[(pendingOf st'').size - 2]? = some z := ⟨_, Array.getElem?_eq_getElem (by (first | lia | omega))⟩
            rw [hz]
            dsimp only
            by_cases ho : older ≤ pw
            · rw [if_pos ho]; exact wpS_pure ⟨rfl, hS4, hY4⟩
            · rw [if_neg ho]
              refine wpS_bind (wpS_merge (i := (pendingOf st'').size - 2) hS4 hI (by (first | lia | omega)) fun st5 hS5 _ hk5 => ?_)
              simp only [Bool.not_true, Bool.false_eq_true, if_false]
              exact wpS_pure ⟨rfl, hS5, hY4.same fun k k1 _ => hk5 k k1⟩
          · rw [if_neg hp]
            exact wpS_pure ⟨rfl, hS4, hY4⟩
        case mpost =>
          rintro c st'' ⟨rfl, hS4, hY4⟩
          dsimp only
          refine wpS_bind (wpS_modify ?_)
          refine wpS_bind (wpS_modify (wpS_pure ⟨lo + n, rfl, by omega, ?_⟩))
          exact (SI.marks (i := (pendingOf st'').size - 1) (pw := pw) hS4).push n1 n2 hY4
  case post =>
    rintro c st' ⟨rfl, hS⟩
    dsimp only
    have len0 := cov_len hS.cov
    rw [Array.length_toList] at len0
    refine wpS_bind (wpS_mono (wpS_forRange (I := fun x c st'' => c = (none, ()) ∧ SI a₀ st'' a₀.size ∧ (pendingOf st'').size ≤ max 1 (a₀.size - x)) (Q := fun c st'' => c = (none, ()) ∧ SI a₀ st'' a₀.size ∧ (pendingOf st'').size ≤ 1) ?fstep ?ffin ⟨rfl, hS, by omega⟩) ?fpost)
    case ffin =>
      rintro c st'' ⟨rfl, hS', hp⟩
      exact ⟨rfl, hS', by omega⟩
    case fstep =>
      rintro x c st'' _ hx ⟨rfl, hS', hp⟩
      refine wpS_bind (wpS_get ?_)
      by_cases h3 : (pendingOf st'').size ≤ 1
      · rw [if_pos h3]; exact wpS_pure ⟨rfl, hS', h3⟩
      rw [if_neg h3]
      refine wpS_bind (wpS_merge hS' hI ?_ fun st5 hS5 hn5 _ => ?_)
      · have q : ∀ (c : Prop) [Decidable c] (n : Nat), (if c then n - 1 else n) ≤ n := fun c _ n => by split <;> (first | lia | omega)
        exact Nat.lt_of_le_of_lt (Nat.add_le_add_right (q _ ((pendingOf st'').size - 2)) 1) (by (first | lia | omega))
      · simp only [Bool.not_true, Bool.false_eq_true, if_false]
        exact wpS_pure ⟨rfl, hS5, by omega⟩
    case fpost =>
      rintro c st'' ⟨rfl, hS', hp⟩
      refine wpS_pure (h _ hS'.perm hS'.failed ?_)
      have hc := hS'.cov
      have hr := hS'.runs
      have hsz3 := hS'.size
      have hlen : (pendingOf st'').toList.length ≤ 1 := by simpa using hp
      match hq : (pendingOf st'').toList, hc, hr, hlen with
      | [], hc, _, _ => exact absurd (show 0 = a₀.size from hc) (by (first | lia | omega))
      | [(s1, n1, w1)], hc, hr, _ =>
        obtain ⟨c1, c2, c3⟩ := hc
        have e1 : s1 = 0 := c1
        have e2 : 0 + n1 = a₀.size := c3
        have q := hr (s1, n1, w1) (by simp)
        have q' : Srt (arrOf st'') s1 n1 := q
        rw [e1, show n1 = a₀.size by omega] at q'
        exact in_srt q' (by (first | lia | omega))
      | _ :: _ :: _, _, _, hl => simp at hl
end
end RgG
namespace Rg
open PySem PyProof.Rows
/-- ints, in their order -/
def ordI : RgG.KOrd where
  kz p := numOf p.1
  IntK p := ∃ n t, p.1 = .int n t
section
variable {prog : Program} {w : World} {A : Around} {E : Value → Shared → Prop} {s : Shared}
theorem ltI : @RgG.KLt prog w A s ordI := by
  letI := ordI
  refine ⟨fun {E x y st Q} hk hx hy h => ?_⟩
  obtain ⟨a, t, ea⟩ := hx
  obtain ⟨b, u, eb⟩ := hy
  rw [lt'_eq]
  refine wpS_bind (wpS_get ?_)
  rw [hk, keyLt'_oneType, ea, eb]
  refine wpS_bind (wpS_lift (wpAny_attempt (oneLt_int ⟨rfl, ?_⟩)))
  refine wpS_pure ?_
  have e1 : (RgG.kz x : Int) = a := by show numOf x.1 = a; rw [ea]; rfl
  have e2 : (RgG.kz y : Int) = b := by show numOf y.1 = b; rw [eb]; rfl
  rw [e1, e2] at h
  exact h
theorem sort_in_place {a : Addr} {vs : List Value} {ns : List Int} {n : Nat} {P : Fin → Shared → Prop} (ho : s.heap.get? a = some (seqObj "list" vs.toArray n)) (hI : IntsAre vs ns) (hz : vs.length ≤ sizeLine)
    (h : ∀ (out : Array Value) (ns' : List Int), IntsAre out.toList ns' → ns'.Perm ns → ns'.Pairwise (· ≤ ·) → P (.done (.ret .none)) { s with heap := sortedHeap s.heap a vs out }) :
    wpAny (model prog w) A (Builtin.«list.sort» ⟨[.ref a], []⟩) P E s := by
  by_cases small : vs.length < 64
  · exact list_sort_tree ho hI small h
  rw [list_sort_plain]
  have hlt : a < s.heap.objs.size := Heap.lt_size ho
  have size_vs : vs.toArray.size = vs.length := by simp
  refine wpAny_bind (listItems_at ho rfl (wpAny_bind (listUpdate_at ho rfl ?_ (by rw [size_vs]; exact hz) (Nat.zero_le _))))
  obtain ⟨e1, o1⟩ : ∃ e1, (s.heap.update a (Obj.mapSeq fun _ => #[])).get? a = some (seqObj "list" #[] e1) := ⟨_, get?_update_seq ho (fun _ => #[])⟩
  refine wpAny_bind (seqEpoch_at o1 rfl (wpAny_bind (wpAny_newTuple (wpAny_bind (wpAny_newList (wpAny_holding ?_))) (by simpa using hz))))
  have o6 : (((s.heap.update a (Obj.mapSeq fun _ => #[])).push (seqObj "tuple" vs.toArray 0)).push (seqObj "list" #[] 0)).get? a = some (seqObj "list" #[] e1) := by
    rw [Heap.get?_push_ne _ _ _ (by rw [size_push', Heap.size_update]; exact Nat.ne_of_lt (Nat.lt_succ_of_lt hlt)), Heap.get?_push_ne _ _ _ (by rw [Heap.size_update]; exact Nat.ne_of_lt hlt)]
    exact o1
  show wpAny (model prog w) A _ P E { s with heap := ((s.heap.update a (Obj.mapSeq fun _ => #[])).push (seqObj "tuple" vs.toArray 0)).push (seqObj "list" #[] 0) }
  dsimp only
  have two : ¬ vs.toArray.size < 2 := by rw [size_vs]; (first | lia | omega)
  rw [if_neg two, if_neg two]
  obtain ⟨v₁, v₂, rest, rfl⟩ : ∃ v₁ v₂ rest, vs = v₁ :: v₂ :: rest := by
    match vs, small with
    | [], q => simp at q
    | [_], q => simp at q
    | v₁ :: v₂ :: rest, _ => exact ⟨v₁, v₂, rest, rfl⟩
  rw [keyKind_ints hI]
  letI : RgG.KOrd := ordI
  haveI : RgG.KLt prog w A { s with heap := ((s.heap.update a (Obj.mapSeq fun _ => #[])).push (seqObj "tuple" (v₁ :: v₂ :: rest).toArray 0)).push (seqObj "list" #[] 0) } := ltI
  refine wpAny_bind (wpAny_pure (wpAny_bind (wpAny_mono (RgG.wpS_sortAll (a₀ := pairsOf (v₁ :: v₂ :: rest)) (st := SortSt.mk' oneType' ((v₁ :: v₂ :: rest).toArray.zip (v₁ :: v₂ :: rest).toArray) #[] 7 none)
    (Q := fun _ st' => (arrOf st').Perm (pairsOf (v₁ :: v₂ :: rest)) ∧ failedOf st' = none ∧ RgG.SortedG (arrOf st') (pairsOf (v₁ :: v₂ :: rest)).size)
    (fun p hp => hI.intKeys p hp) ⟨Array.Perm.refl _, rfl, rfl, rfl⟩ (by rw [pairsOf_size]; simp) fun st' q1 q2 q3 => ⟨q1, q2, q3⟩) ?_ fun _ _ e => e)))
  rintro ⟨⟨⟩, st'⟩ s' ⟨rfl, hp, hf, hs⟩
  dsimp only
  have sz : ((arrOf st').map (·.2)).size = (v₁ :: v₂ :: rest).length := (Array.size_map ..).trans (hp.size_eq.trans (pairsOf_size _))
  refine wpAny_bind (seqEpoch_at o6 rfl (wpAny_bind (listUpdate_at o6 rfl ?_ (hsz2 := by refine Nat.le_trans (Nat.le_of_eq sz) ?_; omega))))
  rw [hf]
  simp only [bne_self_eq_false, Bool.false_eq_true, if_false]
  obtain ⟨ns', r1, r2, r3⟩ := sorted_out hI hp (fun i j hij hj => hs i j hij hj)
  exact wpAny_pure (h _ ns' r1 r2 r3)
theorem sorted_any {l : Addr} {vs : List Value} {ns : List Int} {Q : Value → Shared → Prop} (hl : s.heap.IsList l vs.toArray) (hI : IntsAre vs ns) (hz : vs.length ≤ sizeLine)
    (h : ∀ (out : Array Value) (ns' : List Int), IntsAre out.toList ns' → ns'.Perm ns → ns'.Pairwise (· ≤ ·) → Q (.ref (s.heap.objs.size + 1)) { s with heap := sortedAll s.heap vs out }) :
    wpAny (model prog w) A (call (.builtin "sorted") [.ref l]) Q E s := by
  refine Calls.call_function_entry kind_sorted plain_sorted entry_sorted (args_sorted1 _) ?_
  unfold Builtin.«sorted»
  refine wpAny_bind (m := checkCount "sorted" 1 1 _) (wpAny_pure (wpAny_bind (collect_list hl (wpAny_bind (wpAny_newList ?_ hz)) hz)))
  have e1 : ((s.heap.push (seqObj "list" #[] 0)).update s.heap.objs.size (Obj.mapSeq (· ++ vs.toArray))).objs.size = s.heap.objs.size + 1 := by rw [Heap.size_update, size_push']
  have e2 : (((s.heap.push (seqObj "list" #[] 0)).update s.heap.objs.size (Obj.mapSeq (· ++ vs.toArray))).push (seqObj "list" vs.toArray 0)).get? (s.heap.objs.size + 1) = some (seqObj "list" vs.toArray 0) := by
    rw [← e1]; exact Heap.get?_push_size _ rfl
  show wpAny _ _ _ _ _ { s with heap := ((s.heap.push (seqObj "list" #[] 0)).update s.heap.objs.size (Obj.mapSeq (· ++ vs.toArray))).push (seqObj "list" vs.toArray 0) }
  rw [e1]
  refine wpAny_bind (wpAny_holding (wpAny_call_entry slot_list_sort ⟨_, e2, rfl⟩ entry_list_sort (sort_in_place e2 hI hz fun out ns' a1 a2 a3 => ⟨_, rfl, ?_⟩) (args_list_sort _)))
  exact wpAny_pure ⟨_, rfl, h out ns' a1 a2 a3⟩
end
end Rg
namespace Rg
/-! ### lists in order -/
def srt (l : List Int) : List Int := l.mergeSort fun a b => decide (a ≤ b)
theorem srt_perm (l : List Int) : (srt l).Perm l := List.mergeSort_perm l _
theorem srt_sorted (l : List Int) : (srt l).Pairwise (· ≤ ·) := by
  have h := List.pairwise_mergeSort (le := fun a b : Int => decide (a ≤ b)) (fun a b c h1 h2 => by simp at *; omega) (fun a b => by simp; omega) l
  exact h.imp (by simp)
theorem sorted_unique : ∀ {l m : List Int}, l.Perm m → l.Pairwise (· ≤ ·) → m.Pairwise (· ≤ ·) → l = m
  | [], m, p, _, _ => by simpa using p.symm
  | a :: l, [], p, _, _ => by simpa using p
  | a :: l, b :: m, p, hl, hm => by
    rw [List.pairwise_cons] at hl hm
    have h1 : a ∈ b :: m := p.mem_iff.mp List.mem_cons_self
    have h2 : b ∈ a :: l := p.mem_iff.mpr List.mem_cons_self
    have e : a = b := by
      rcases List.mem_cons.mp h1 with z | z
      · exact z
      · rcases List.mem_cons.mp h2 with y | y
        · exact y.symm
        · have := hl.1 b y
          have := hm.1 a z
          (first | lia | omega)
    subst e
    rw [sorted_unique (List.Perm.cons_inv p) hl.2 hm.2]
theorem srt_unique {l m : List Int} (p : l.Perm m) (h : l.Pairwise (· ≤ ·)) : l = srt m := sorted_unique (p.trans (srt_perm m).symm) h (srt_sorted m)
theorem srt_length (l : List Int) : (srt l).length = l.length := (srt_perm l).length_eq
theorem srt_mem {l : List Int} {x : Int} : x ∈ srt l ↔ x ∈ l := (srt_perm l).mem_iff
theorem srt_of_sorted {l : List Int} (h : l.Pairwise (· ≤ ·)) : srt l = l := (srt_unique (List.Perm.refl l) h).symm
/-! ### the distances between places -/
def fnd : List Int → List Int
  | [] => []
  | p :: r => r.map (· - p) ++ fnd r
def btw (ps : List Int) : List Int := ps.flatMap fun a => (ps.filter fun b => decide (a < b)).map (· - a)
theorem filter_gt {pre r : List Int} {a : Int} (h : (pre ++ a :: r).Pairwise (· < ·)) : (pre ++ a :: r).filter (fun b => decide (a < b)) = r := by
  rw [List.pairwise_append, List.pairwise_cons] at h
  obtain ⟨_, ⟨h2, _⟩, h3⟩ := h
  rw [List.filter_append, List.filter_cons]
  have e1 : pre.filter (fun b => decide (a < b)) = [] := by
    rw [List.filter_eq_nil_iff]
    intro b hb
    have := h3 b hb a List.mem_cons_self
    simp; (first | lia | omega)
  have e2 : r.filter (fun b => decide (a < b)) = r := by
    rw [List.filter_eq_self]
    intro b hb
    have := h2 b hb
    simpa using this
  rw [e1, e2]
  simp
theorem btw_go : ∀ (r pre : List Int), (pre ++ r).Pairwise (· < ·) → (r.flatMap fun a => ((pre ++ r).filter fun b => decide (a < b)).map (· - a)) = fnd r
  | [], _, _ => rfl
  | a :: r, pre, h => by
    have e : pre ++ a :: r = (pre ++ [a]) ++ r := by simp
    rw [List.flatMap_cons, filter_gt h]
    have ih := btw_go r (pre ++ [a]) (by rw [← e]; exact h)
    rw [← e] at ih
    rw [ih]
    rfl
theorem btw_fnd {ps : List Int} (h : ps.Pairwise (· < ·)) : btw ps = fnd ps := btw_go ps [] h
theorem fnd_pos : ∀ {ps : List Int}, ps.Pairwise (· < ·) → ∀ d ∈ fnd ps, 1 ≤ d
  | [], _, d, hd => nomatch hd
  | p :: r, h, d, hd => by
    rw [List.pairwise_cons] at h
    rcases List.mem_append.mp hd with z | z
    · obtain ⟨q, hq, rfl⟩ := List.mem_map.mp z
      have := h.1 q hq
      (first | lia | omega)
    · exact fnd_pos h.2 d z
theorem fnd_le : ∀ {ps : List Int} {m : Int}, (∀ p ∈ ps, 0 ≤ p ∧ p ≤ m) → ∀ d ∈ fnd ps, d ≤ m
  | [], _, _, d, hd => nomatch hd
  | p :: r, m, h, d, hd => by
    rcases List.mem_append.mp hd with z | z
    · obtain ⟨q, hq, rfl⟩ := List.mem_map.mp z
      have h1 := h p List.mem_cons_self
      have h2 := h q (List.mem_cons_of_mem _ hq)
      (first | lia | omega)
    · exact fnd_le (fun q hq => h q (List.mem_cons_of_mem _ hq)) d z
theorem fnd_length : ∀ ps : List Int, 2 * (fnd ps).length = ps.length * (ps.length - 1)
  | [] => rfl
  | p :: r => by
    have ih := fnd_length r
    show 2 * (r.map (· - p) ++ fnd r).length = (r.length + 1) * (r.length + 1 - 1)
    rw [List.length_append, List.length_map, Nat.mul_add, ih, Nat.add_sub_cancel]
    cases e : r.length with
    | zero => rfl
    | succ n =>
      rw [Nat.add_sub_cancel]
      simp only [Nat.add_mul, Nat.mul_add]
      (first | lia | omega)
theorem fnd_len21 {ps : List Int} (h : ps.length ≤ 7) : (fnd ps).length ≤ 21 := by
  have := fnd_length ps
  have e : ps.length * (ps.length - 1) ≤ 7 * 6 := Nat.mul_le_mul h (by omega)
  (first | lia | omega)
theorem fnd_len1225 {ps : List Int} (h : ps.length ≤ 50) : (fnd ps).length ≤ 1225 := by
  have := fnd_length ps
  have e : ps.length * (ps.length - 1) ≤ 50 * 49 := Nat.mul_le_mul h (by omega)
  (first | lia | omega)
/-! ### what is taken away -/
def lef : List Int → List Int → Option (List Int) × Option Int
  | g, [] => (some g, none)
  | g, d :: r => if d ∈ g then lef (g.erase d) r else (none, some d)
def lack (gaps needed : List Int) : Option Int := needed.find? fun g => decide (gaps.count g < needed.count g)
theorem find_congr {α : Type} {p q : α → Bool} : ∀ {l : List α}, (∀ x ∈ l, p x = q x) → l.find? p = l.find? q
  | [], _ => rfl
  | a :: l, h => by
    rw [List.find?_cons, List.find?_cons, h a List.mem_cons_self, find_congr fun x hx => h x (List.mem_cons_of_mem _ hx)]
theorem lef_lack : ∀ (needed gaps : List Int), needed.Pairwise (· ≤ ·) → (lef gaps needed).2 = lack gaps needed
  | [], _, _ => rfl
  | d :: r, gaps, hs => by
    rw [List.pairwise_cons] at hs
    unfold lef lack
    rw [List.find?_cons]
    by_cases hd : d ∈ gaps
    · rw [if_pos hd, lef_lack r (gaps.erase d) hs.2]
      have hc : 0 < gaps.count d := List.count_pos_iff.mpr hd
      have same : ∀ g, decide ((gaps.erase d).count g < r.count g) = decide (gaps.count g < (d :: r).count g) := fun g => by
        by_cases e : g = d
        · subst e
          rw [List.count_erase_self, List.count_cons_self]
          by_cases z : gaps.count g - 1 < r.count g
          · rw [decide_eq_true z, decide_eq_true (by omega)]
          · rw [decide_eq_false z, decide_eq_false (by omega)]
        · rw [List.count_erase_of_ne e, List.count_cons_of_ne (Ne.symm e)]
      unfold lack
      rw [find_congr (q := fun g => decide (gaps.count g < (d :: r).count g)) fun x _ => same x]
      cases hp : decide (gaps.count d < (d :: r).count d) with
      | false => rfl
      | true =>
        have hp' := of_decide_eq_true hp
        rw [List.count_cons_self] at hp'
        have hm : d ∈ r := List.count_pos_iff.mp (by omega)
        match r, hm, hs, hp with
        | x :: r', hm, hs, hp =>
          have : x = d := by
            rcases List.mem_cons.mp hm with z | z
            · exact z.symm
            · have h1 := hs.1 x List.mem_cons_self
              have h2 := (List.pairwise_cons.mp hs.2).1 d z
              (first | lia | omega)
          subst this
          rw [List.find?_cons, hp]
    · rw [if_neg hd]
      have : gaps.count d = 0 := List.count_eq_zero.mpr hd
      rw [this, List.count_cons_self, decide_eq_true (by omega)]
def takeAll (g needed : List Int) : List Int := needed.foldl List.erase g
theorem lef_none : ∀ (needed gaps : List Int), (lef gaps needed).2 = none → (lef gaps needed).1 = some (takeAll gaps needed)
  | [], _, _ => rfl
  | d :: r, gaps, h => by
    unfold lef at h ⊢
    by_cases hd : d ∈ gaps
    · rw [if_pos hd] at h ⊢
      exact lef_none r _ h
    · rw [if_neg hd] at h
      cases h
/-- the i-th one is there when the ones ahead of it are gone -/
theorem lef_step : ∀ (needed gaps : List Int), (lef gaps needed).2 = none → ∀ (i : Nat) (d : Int), needed[i]? = some d → d ∈ takeAll gaps (needed.take i)
  | [], _, _, i, d, hi => by simp at hi
  | e :: r, gaps, h, i, d, hi => by
    unfold lef at h
    by_cases hd : e ∈ gaps
    · rw [if_pos hd] at h
      cases i with
      | zero => simp at hi; subst hi; exact hd
      | succ i =>
        have := lef_step r _ h i d (by simpa using hi)
        simpa [takeAll] using this
    · rw [if_neg hd] at h
      cases h
theorem take_succ {α : Type} {l : List α} {i : Nat} {x : α} (h : l[i]? = some x) : l.take (i + 1) = l.take i ++ [x] := by
  rw [List.take_succ, h]; rfl
theorem takeAll_succ {gaps needed : List Int} {i : Nat} {d : Int} (h : needed[i]? = some d) : takeAll gaps (needed.take (i + 1)) = (takeAll gaps (needed.take i)).erase d := by
  rw [take_succ h]
  unfold takeAll
  rw [List.foldl_append]
  rfl
/-! ### counted -/
def bump (rows : List Int) (ds : List Int) : List Int := ds.foldl (fun r d => r.set d.toNat (r.getD d.toNat 0 + 1)) rows
theorem bump_len : ∀ (ds rows : List Int), (bump rows ds).length = rows.length
  | [], _ => rfl
  | d :: r, rows => (bump_len r _).trans List.length_set
theorem bump_at : ∀ (ds rows : List Int) (i : Nat), (∀ d ∈ ds, 0 ≤ d ∧ d.toNat < rows.length) → i < rows.length → (bump rows ds).getD i 0 = rows.getD i 0 + (ds.count (i : Int) : Nat)
  | [], _, _, _, _ => by simp [bump]
  | d :: r, rows, i, hd, hi => by
    have h0 := hd d List.mem_cons_self
    have hl : (rows.set d.toNat (rows.getD d.toNat 0 + 1)).length = rows.length := List.length_set
    have ih := bump_at r (rows.set d.toNat (rows.getD d.toNat 0 + 1)) i (fun x hx => by rw [hl]; exact hd x (List.mem_cons_of_mem _ hx)) (by rw [hl]; exact hi)
    show (bump (rows.set d.toNat (rows.getD d.toNat 0 + 1)) r).getD i 0 = _
    rw [ih, List.count_cons]
    by_cases e : d.toNat = i
    · have e' : (d == (i : Int)) = true := by simp; (first | lia | omega)
      have : (rows.set d.toNat (rows.getD d.toNat 0 + 1)).getD i 0 = rows.getD i 0 + 1 := by
        subst e
        simp [List.getD_eq_getElem?_getD, h0.2]
      rw [this, if_pos e']
      (first | lia | omega)
    · have e' : ¬ (d == (i : Int)) = true := by simp; (first | lia | omega)
      have : (rows.set d.toNat (rows.getD d.toNat 0 + 1)).getD i 0 = rows.getD i 0 := by
        simp [List.getD_eq_getElem?_getD, List.getElem?_set_ne e]
      rw [this, if_neg e']
      (first | lia | omega)
theorem ext_getD {l m : List Int} (hl : l.length = m.length) (h : ∀ i, i < l.length → l.getD i 0 = m.getD i 0) : l = m := by
  refine List.ext_getElem hl fun i h1 h2 => ?_
  have := h i h1
  simpa [List.getD_eq_getElem?_getD, h1, h2] using this
/-- all pairs (a, b) with b not ahead of a -/
def pairs (ps : List Int) : List Int := ps.flatMap fun a => (ps.filter fun b => decide (a ≤ b)).map (· - a)
theorem filter_ge {pre r : List Int} {a : Int} (h : (pre ++ a :: r).Pairwise (· < ·)) : (pre ++ a :: r).filter (fun b => decide (a ≤ b)) = a :: r := by
  rw [List.pairwise_append, List.pairwise_cons] at h
  obtain ⟨_, ⟨h2, _⟩, h3⟩ := h
  rw [List.filter_append, List.filter_cons]
  have e1 : pre.filter (fun b => decide (a ≤ b)) = [] := by
    rw [List.filter_eq_nil_iff]
    intro b hb
    have := h3 b hb a List.mem_cons_self
    simp; (first | lia | omega)
  have e2 : r.filter (fun b => decide (a ≤ b)) = r := by
    rw [List.filter_eq_self]
    intro b hb
    have := h2 b hb
    simp; (first | lia | omega)
  rw [e1, e2]
  simp
theorem pairs_go (d : Int) : ∀ (r pre : List Int), (pre ++ r).Pairwise (· < ·) → (r.flatMap fun a => ((pre ++ r).filter fun b => decide (a ≤ b)).map (· - a)).count d = (if d = 0 then r.length else 0) + (fnd r).count d
  | [], _, _ => by simp [fnd]
  | a :: r, pre, h => by
    have e : pre ++ a :: r = (pre ++ [a]) ++ r := by simp
    have ih := pairs_go d r (pre ++ [a]) (by rw [← e]; exact h)
    rw [← e] at ih
    rw [List.flatMap_cons, filter_ge h, List.count_append, ih]
    show ((a :: r).map (· - a)).count d + _ = _ + (r.map (· - a) ++ fnd r).count d
    rw [List.map_cons, List.count_cons, List.count_append, Int.sub_self, List.length_cons]
    by_cases z : d = 0
    · subst z; simp; (first | lia | omega)
    · have : ¬ ((0 : Int) == d) = true := by simp; (first | lia | omega)
      rw [if_neg this, if_neg z, if_neg z]
      (first | lia | omega)
theorem pairs_count {ps : List Int} (h : ps.Pairwise (· < ·)) (d : Int) : (pairs ps).count d = (if d = 0 then ps.length else 0) + (fnd ps).count d := pairs_go d ps [] h
end Rg
/-! THE FORMS ONE USES: heaps, comprehensions of plain elements, sorted of any length. -/
namespace L2
open PySem PySem.Spec PyProof.Rows
/-! ### heaps -/
theorem same_new {H : Hp} {p : Addr} (h : H p = none) (o : HO) : Same H (upd H p o) := fun b u q => by rw [upd_ne (ne_of_none q h)]; exact q
theorem same_upd {H H1 : Hp} {p : Addr} {o : HO} (h : Same H H1) (hp : H p = none) : Same H (upd H1 p o) := fun b u q => by rw [upd_ne (ne_of_none q hp)]; exact h b u q
/-- a list that is read is not one that was not there -/
theorem sq_ne {K : PySem.W.Frag} {H : Hp} {a p : Addr} {xs : List V} {o : HO} (h : SqL K H a xs) (hp : H p = none) : SqL K (upd H p o) a xs := (same_new hp o).seq h
/-! ### comprehensions of plain elements -/
/-- a comprehension's block of one name without a test -/
abbrev CB (J : It) (imp : St) (te : TE) (Q : VK) (H1 : Hp) (D : Addr) : Prop := CBG J (List.replicate 1 none ++ imp) (gName 0) tYes te Q H1 D
/-- over any source of n items x 0, x 1, ..: the list of the f's -/
theorem comp_n {J : It} {imp : St} {te : TE} {Q : VK} {H1 : Hp} {D : Addr} (n : Nat) (x f : Nat → V) (hn : n ≤ sizeLine)
    (hstop : ∀ ys, J.stop n (upd H1 D (.lst ys))) (hgo : ∀ i ys, i < n → J.go i (upd H1 D (.lst ys)) ∧ ∀ v H3, J.yld i (upd H1 D (.lst ys)) v H3 → v = x i ∧ H3 = upd H1 D (.lst ys))
    (hel : ∀ i ys (Q' : VK), i < n → Q' (f i) (upd H1 D (.lst ys)) → te (some (x i) :: imp) (upd H1 D (.lst ys)) Q')
    (hq : Q (.ref D) (upd H1 D (.lst ((List.range n).map f)))) : CB J imp te Q H1 D := by
  refine ⟨fun i m H2 => m = n - i ∧ i ≤ n ∧ H2 = upd H1 D (.lst ((List.range i).map f)), ⟨n, rfl, Nat.zero_le _, rfl⟩, ?_⟩
  rintro i m H2 ⟨rfl, hi, rfl⟩
  by_cases hlt : i < n
  · refine .inr ⟨(hgo i _ hlt).1, fun v H3 hy => ?_⟩
    obtain ⟨e1, e2⟩ := (hgo i _ hlt).2 v H3 hy
    subst e1 e2
    refine ⟨keep1, ?_⟩
    show te (some (x i) :: imp) (upd H1 D (.lst ((List.range i).map f))) _
    refine hel i _ _ hlt ⟨_, upd_same, ?_, n - (i + 1), by omega, rfl, hlt, ?_⟩
    · rw [List.length_map, List.length_range]; (first | lia | omega)
    · rw [upd_upd, List.range_succ, List.map_append]; rfl
  · have e : i = n := by (first | lia | omega)
    subst e
    exact .inl ⟨hstop _, hq⟩
/-- over a list -/
theorem comp_map {K : PySem.W.Frag} {a : Addr} {xs : List V} {imp : St} {te : TE} {Q : VK} {H1 : Hp} {D : Addr} (f : V → V) (hD : H1 D = none) (hx : SqL K H1 a xs) (hz : xs.length ≤ sizeLine)
    (hel : ∀ (i : Nat) x ys (Q' : VK), xs[i]? = some x → Q' (f x) (upd H1 D (.lst ys)) → te (some x :: imp) (upd H1 D (.lst ys)) Q')
    (hq : Q (.ref D) (upd H1 D (.lst (xs.map f)))) : CB (Itl K a) imp te Q H1 D := by
  have hx' : ∀ ys, SqL K (upd H1 D (.lst ys)) a xs := fun ys => sq_ne hx hD
  have get : ∀ i, i < xs.length → xs[i]? = some (xs.getD i .non) := fun i hi => by simp [List.getD_eq_getElem?_getD, hi]
  refine comp_n xs.length (fun i => xs.getD i .non) (fun i => f (xs.getD i .non)) hz (fun ys => ⟨xs, hx' ys, Nat.le_refl _⟩) (fun i ys hi => ⟨⟨xs, _, hx' ys, get i hi⟩, fun v H3 hy => ?_⟩) (fun i ys Q' hi q => hel i _ ys Q' (get i hi) q) ?_
  · obtain ⟨e, y⟩ := hy
    have := y xs (hx' ys)
    rw [get i hi] at this
    exact ⟨(Option.some.inj this).symm, e⟩
  · have e : (List.range xs.length).map (fun i => f (xs.getD i .non)) = xs.map f := by
      apply List.ext_getElem?
      intro i
      rw [List.getElem?_map, List.getElem?_map]
      by_cases hi : i < xs.length
      · rw [List.getElem?_range hi]; simp [List.getD_eq_getElem?_getD, hi]
      · rw [List.getElem?_eq_none (by simpa using hi), List.getElem?_eq_none (by omega)]; rfl
    rw [e]
    exact hq
/-- over a list from its end -/
theorem comp_rev {K : PySem.W.Frag} {a : Addr} {xs : List V} {imp : St} {te : TE} {Q : VK} {H1 : Hp} {D : Addr} (f : V → V) (hD : H1 D = none) (hx : SqL K H1 a xs) (hz : xs.length ≤ sizeLine)
    (hel : ∀ x ys (Q' : VK), x ∈ xs → Q' (f x) (upd H1 D (.lst ys)) → te (some x :: imp) (upd H1 D (.lst ys)) Q')
    (hq : Q (.ref D) (upd H1 D (.lst (xs.reverse.map f)))) : CB (Itv K a xs.length) imp te Q H1 D := by
  have hx' : ∀ ys, SqL K (upd H1 D (.lst ys)) a xs := fun ys => sq_ne hx hD
  have get : ∀ i, i < xs.length → xs[xs.length - 1 - i]? = some (xs.reverse.getD i .non) := fun i hi => by
    rw [List.getD_eq_getElem?_getD, List.getElem?_reverse hi]
    rw [List.getElem?_eq_getElem (by omega)]; rfl
  refine comp_n xs.length (fun i => xs.reverse.getD i .non) (fun i => f (xs.reverse.getD i .non)) hz (fun ys => rfl) (fun i ys hi => ⟨⟨xs, _, hx' ys, rfl, hi, get i hi⟩, fun v H3 hy => ?_⟩) (fun i ys Q' hi q => hel _ ys Q' (List.mem_of_getElem? (get i hi)) q) ?_
  · obtain ⟨e, y⟩ := hy
    have := y xs (hx' ys)
    rw [get i hi] at this
    exact ⟨(Option.some.inj this).symm, e⟩
  · have e : (List.range xs.length).map (fun i => f (xs.reverse.getD i .non)) = xs.reverse.map f := by
      apply List.ext_getElem?
      intro i
      rw [List.getElem?_map, List.getElem?_map]
      by_cases hi : i < xs.length
      · rw [List.getElem?_range hi]
        have hi' : i < xs.reverse.length := by simpa using hi
        simp only [Option.map_some, List.getD_eq_getElem?_getD, List.getElem?_eq_getElem hi', Option.getD_some]
      · rw [List.getElem?_eq_none (by simpa using hi), List.getElem?_eq_none (by simpa using hi)]; rfl
    rw [e]
    exact hq
/-- over lo, lo + 1, .. -/
theorem comp_range {lo : Int} {n : Nat} {imp : St} {te : TE} {Q : VK} {H1 : Hp} {D : Addr} (f : Nat → V) (hn : n ≤ sizeLine)
    (hel : ∀ i ys (Q' : VK), i < n → Q' (f i) (upd H1 D (.lst ys)) → te (some (.int (lo + i)) :: imp) (upd H1 D (.lst ys)) Q')
    (hq : Q (.ref D) (upd H1 D (.lst ((List.range n).map f)))) : CB (Itr lo n) imp te Q H1 D :=
  comp_n n (fun i => .int (lo + i)) f hn (fun _ => Nat.le_refl _) (fun i ys hi => ⟨hi, fun v H3 hy => ⟨hy.2, hy.1⟩⟩) hel hq
/-! ### sorted -/
section
variable {X : Cx}
def rSrt (K : PySem.W.Frag) : List V → Hp → VK → Prop := fun xs H Q => ∃ (p : Addr) (ns : List Int), xs = [.ref p] ∧ SqL K H p (ns.map V.int) ∧ ∀ l, H l = none → Q (.ref l) (upd H l (.lst ((Rg.srt ns).map V.int)))
theorem call_srt : CallR X (.builtin "sorted") (rSrt X.K) := by
  intro pins s σ H xs us Q I r h
  obtain ⟨p, ns, rfl, hp, q⟩ := h
  obtain ⟨u, rfl, ru⟩ := r.one
  cases (show u = Value.ref p from ru)
  obtain ⟨its, rv, pl, hz⟩ := I.list hp
  have hi := ints_vals rv
  refine Rg.sorted_any pl.isList hi (by rw [← rv.length]; exact hz) fun out ns' a1 a2 a3 => ?_
  have fr : H (s.heap.objs.size + 1) = none := I.hok.fresh (Nat.le_succ _)
  obtain ⟨e, he⟩ := sortedAll_at s.heap its out
  have e2 : out = out.toList.toArray := by simp
  have e3 : ns' = Rg.srt ns := Rg.srt_unique a2 a3
  refine ⟨.ref (s.heap.objs.size + 1), _, I.laid (t' := s.toks) (o := .lst (ns'.map V.int)) (fun b o e => sortedAll_old e) (Nat.le_succ _) ⟨?_, out.toList, e, vals_ints a1, ?_⟩, rfl, ?_⟩
  · rw [List.length_map, a2.length_eq]
    rw [List.length_map] at hz
    exact hz
  · rw [← e2]; exact he
  · rw [e3]; exact q _ fr
end
/-! ### ints in lists of values -/
theorem at_int {ps : List Int} {i : Nat} {p : Int} (h : ps[i]? = some p) : (ps.map V.int)[i]? = some (.int p) := by rw [List.getElem?_map, h]; rfl
theorem atI_int {ps : List Int} {i : Nat} {p : Int} (h : ps[i]? = some p) : atI (ps.map V.int) (i : Int) = some (.int p) := atI_nat (at_int h)
theorem len_int (ps : List Int) : (ps.map V.int).length = ps.length := List.length_map _
theorem cut_from {xs : List V} {k : Int} (h : 0 ≤ k) : cutV xs (some k) none = xs.drop k.toNat := by
  unfold cutV
  have e1 : HT.sIx xs.length 0 (some k) = min k.toNat xs.length := by
    simp only [HT.sIx]
    split <;> (first | lia | omega)
  have e2 : HT.sIx xs.length xs.length none = xs.length := rfl
  rw [e1, e2]
  by_cases hk : k.toNat ≤ xs.length
  · rw [Nat.min_eq_left hk]
    exact List.take_of_length_le (by rw [List.length_drop]; omega)
  · rw [Nat.min_eq_right (by omega), List.drop_eq_nil_of_le (by omega), List.drop_eq_nil_of_le (by omega), List.take_nil]
theorem atI_back {α : Type} {xs : List α} {x : α} (h : xs.getLast? = some x) : atI xs (-1) = some x := by
  have e := List.getLast?_eq_some_iff.mp h
  obtain ⟨ys, rfl⟩ := e
  exact atI_last ys x
end L2
namespace L2
open PySem PySem.Spec PyProof.Rows
/-! ### rules that name the written part (for a block's context) -/
section
variable {X : Cx}
theorem ix_listK (K : PySem.W.Frag) (h : X.K = K := by rfl) : IxR X (rIxL K) := h ▸ ix_list
theorem op_notInK (K : PySem.W.Frag) (h : X.K = K := by rfl) : OpR X (compareOp .NotIn) (rIn K true) := h ▸ op_notIn_seq
end
end L2
namespace L2
open PySem PySem.Spec PyProof.Rows
/-! ### a def of the text, with all that a call of it wants -/
structure Def (P : Program) (w : World) (K : PySem.W.Frag) (mg : Str → Option Value) (base : Heap) (CX : CXT) (x : Str) (ps : List Str) (k : Nat) (sp : Sp) : Prop where
  ex : ∃ (f : Addr) (fd : FuncData), FnOk P w K mg base CX k f fd ps sp ∧ Binds K fd ps [] ∧ PySem.W.keepIn K (.ref f) = true ∧ mg x = some (.ref f)
theorem Def.mono {P : Program} {w : World} {K : PySem.W.Frag} {mg : Str → Option Value} {base : Heap} {CX : CXT} {x : Str} {ps : List Str} {j k : Nat} {sp : Sp} (D : Def P w K mg base CX x ps j sp) (h : j ≤ k) : Def P w K mg base CX x ps k sp := by
  obtain ⟨f, fd, F, r⟩ := D.ex
  exact ⟨f, fd, F.mono h, r⟩
section
variable {X : Cx} {CX : CXT} {k : Nat} {ps : List Str} {sp : Sp} {E : XK} {x : Str} {p pos : Pos} {e : Expr} {es : List Expr} {t : TA}
/-- f(e, ..) of a def of the text; what of an exception -/
theorem pe_fnX (D : Def X.prog X.w X.K X.mg X.base CX x ps k sp) (hr : Room k X.A) (hx : Passes CX X E) (hg : Gl X x) (ha : PA X (e :: es) t) (hdb : (x == ("__debug__" : Str)) = false := by decide)
    (he : starEach (e :: es) X.env = (false, eval e X.env) :: starEach es X.env := by rfl) (hpl : (backTo pos (starEach es X.env)).any (·.1) = false := by rfl) : PE X (.Call (.Name x p) (e :: es) [] pos) (tCall sp [] E t) := by
  obtain ⟨f, fd, F, hb, hk, hm⟩ := D.ex
  exact pe_call F hr hg hm hk hb .nil hx ha hdb he hpl
/-- .. that lets none out -/
theorem pe_fn (D : Def X.prog X.w X.K X.mg X.base CX0 x ps k sp) (hr : Room k X.A) (hg : Gl X x) (ha : PA X (e :: es) t) (hdb : (x == ("__debug__" : Str)) = false := by decide)
    (he : starEach (e :: es) X.env = (false, eval e X.env) :: starEach es X.env := by rfl) (hpl : (backTo pos (starEach es X.env)).any (·.1) = false := by rfl) : PE X (.Call (.Name x p) (e :: es) [] pos) (tCall sp [] E0 t) :=
  pe_fnX D hr pass0 hg ha hdb he hpl
end
end L2
namespace L2
open PySem PySem.Spec PyProof.Rows
theorem upd_none {H : Hp} {p D : Addr} {o : HO} (h : upd H p o D = none) : H D = none := by
  unfold upd at h
  split at h
  · cases h
  · exact h
theorem small5 {n : Nat} (h : n ≤ 5000) : n ≤ sizeLine := Nat.le_trans h (by decide)
end L2
namespace L2
open PySem PySem.Spec PyProof.Rows
/-! ### a block with a word in its middle -/
def tMid (M : St → Hp → Prop) (t u : TS) : TS := fun D σ H => t { D with nx := M } σ H ∧ ∀ σ' H', M σ' H' → u D σ' H'
theorem pss_mid {X : Cx} {st : Stmt} {rest : List Stmt} {t u : TS} (M : St → Hp → Prop) (h1 : PS X st t) (h2 : PSs X rest u) : PSs X (st :: rest) (tMid M t u) := by
  intro pins s σ H D I h
  refine wpAny_execs_cons (thn (h1 pins s σ H { D with nx := M } I h.1) fun f s1 q => ?_)
  cases f with
  | next =>
    obtain ⟨σ', H', I', q⟩ := q
    exact h2 pins s1 σ' H' D I' (h.2 σ' H' q)
  | brk => exact q
  | cont => exact q
  | ret v => exact q
/-! ### in, of lists of ints -/
theorem flat_ints : ∀ l : List Int, (l.map V.int).all flatV = true
  | [] => rfl
  | a :: l => by rw [List.map_cons, List.all_cons, flat_ints l]; rfl
theorem inV_ints (d : Int) : ∀ l : List Int, inV (.int d) (l.map V.int) = decide (d ∈ l)
  | [] => rfl
  | a :: l => by
    have ih := inV_ints d l
    unfold inV at ih ⊢
    rw [List.map_cons, List.any_cons, ih]
    show (a == d || decide (d ∈ l)) = decide (d ∈ a :: l)
    by_cases c : d = a
    · subst c
      simp
    · have c' : (a == d) = false := by simpa using fun z : a = d => c z.symm
      rw [c', Bool.false_or]
      simp [List.mem_cons, c]
theorem ixN_nat {n : Nat} {k : Int} (h0 : 0 ≤ k) (h1 : k < n) : ixN n k = some k.toNat := by
  unfold ixN
  rw [if_pos h0, if_pos h1]
end L2
/-! max(xs, default=d) of a list of ints: one of them, or d. -/
namespace L2
open PySem PySem.Spec PyProof.Rows
section
variable {prog : Program} {w : World} {A : Around} {R : Result → Shared → Prop} {I : Addr} {fp wr : List Addr} {n : Nat} {P : Nat → Value → Prop} {St : Nat → Heap → Prop}
end
section
variable {X : Cx} {p pos kpos : Pos} {e d : Expr} {ta tk : TA}
end
end L2
/-! EXCEPTIONS OF OWN CLASSES over the hand layer: raised, passing through calls, caught. -/
namespace L2
open PySem PySem.Spec PyProof.Rows
/-! ### heaps behind an exception -/
theorem hide_ok {P : Program} {w : World} {H : Hp} {h : Heap} {as : List Addr} (ok : HOk P w H h) (hn : ∀ b ∈ as, H b = none) : HOk P w H (PySem.W.hideAll h as) := fun a o e =>
  (ok a o e).stay (fun b u hb q => PySem.W.hideAll_get _ q fun hm => by
    have n := hn b hm
    rcases hb with z | z
    · rw [z, e] at n; cases n
    · rw [z] at n; cases n) (fun _ q => q) fun _ _ q => q
theorem Un.fly {fs : List Addr} {H H' : Hp} {h h' h2 B : Heap} (u : Un fs [] H H' h h') (kb : ∀ b o, B.get? b = some o → h2.get? b = some o) (hb : ∀ b o, h.get? b = some o → H b = none → b ∉ fs → B.get? b = some o)
    (ht : ∀ b o, h.get? b = some o → b ∉ fs → ∃ o', B.get? b = some o') (hs : ∀ b o, b ∈ fs → h'.get? b = some o → ∃ sl, h2.get? b = some { o with slots := sl }) : Un fs [] H H' h h2 where
  keep := fun b o q n f _ => kb b o (hb b o q n f)
  slot := fun b o q n f x => by
    obtain ⟨sl, e⟩ := u.slot b o q n f x
    obtain ⟨sl', e'⟩ := hs b _ f e
    exact ⟨sl', e'⟩
  free := u.free
  there := fun b o q x => by
    by_cases f : b ∈ fs
    · obtain ⟨o', e⟩ := u.there b o q x
      obtain ⟨sl, e'⟩ := hs b o' f e
      exact ⟨_, e'⟩
    · obtain ⟨o', e⟩ := ht b o q f
      exact ⟨o', kb _ _ e⟩
  tups := u.tups
  frzs := u.frzs
  tbls := u.tbls
theorem Un.pass {fs fs' : List Addr} {H0 H H' : Hp} {h0 h h' : Heap} (u : Un fs [] H0 H h0 h) (v : Un fs' [] H H' h h') (hsub : ∀ b ∈ fs, b ∈ fs') (hnew : ∀ b o, h0.get? b = some o → b ∈ fs' → b ∈ fs) : Un fs [] H0 H' h0 h' where
  keep := fun b o q n f x => v.keep b o (u.keep b o q n f x) (u.free b o q n x) (fun z => f (hnew b o q z)) x
  slot := fun b o q n f x => by
    obtain ⟨sl, e⟩ := u.slot b o q n f x
    obtain ⟨sl', e'⟩ := v.slot b _ e (u.free b o q n x) (hsub b f) x
    exact ⟨sl', e'⟩
  free := fun b o q n x => by
    obtain ⟨sl, e⟩ := u.any q n x
    exact v.free b _ e (u.free b o q n x) x
  there := fun b o q x => by
    obtain ⟨o', e⟩ := u.there b o q x
    exact v.there b o' e x
  tups := fun b xs e => v.tups b xs (u.tups b xs e)
  frzs := fun b o w e => v.frzs b o w (u.frzs b o w e)
  tbls := fun b ps e => by
    obtain ⟨m1, e1⟩ := u.tbls b ps e
    obtain ⟨m2, e2⟩ := v.tbls b _ e1
    exact ⟨m1 ++ m2, by rw [← Array.append_assoc]; exact e2⟩
/-- an exception of the class at C in flight at x, behind a call: the frames above outer are left -/
structure FlyX (P : Program) (w : World) (outer : List Env) (H : Hp) (s : Shared) (x C : Addr) (H' : Hp) (s' : Shared) : Prop where
  os : s'.os = s.os
  bare : AllBare s'.gens
  un : Un (frs outer) [] H H' s.heap s'.heap
  fly : ∃ (B : Heap) (t : Addr), Heap.FlyingW B outer x (.ref C) (.ref t) s'.heap ∧ (∀ b o, s.heap.get? b = some o → H b = none → b ∉ frs outer → B.get? b = some o) ∧ (∀ b o, s.heap.get? b = some o → b ∉ frs outer → ∃ o', B.get? b = some o') ∧ HOk P w H' B
def CXE (P : Program) (w : World) : CXT := fun outer H s E e s' => ∃ (x C : Addr) (H' : Hp), e = .ref x ∧ FlyX P w outer H s x C H' s' ∧ E (.ref C) none H'
/-- a def's context: the frame on top is its own -/
structure Own (X : Cx) : Prop where
  stk : X.stack = X.env :: X.outer
  fr : X.env.frame = some X.env.locals
  ex : X.ex = []
section
variable {X : Cx} {pins : List (Addr × Obj)} {σ : St} {H H' : Hp} {s s' : Shared} {x C : Addr} {Q : Unit → Shared → Prop} {E : Value → Shared → Prop}
theorem Own.frs (O : Own X) : frs X.stack = X.env.locals :: frs X.outer := by
  rw [O.stk]
  show (X.env :: X.outer).filterMap (·.frame) = _
  rw [List.filterMap_cons, O.fr]
  rfl
theorem Own.out (O : Own X) (I : Inv X pins σ H s) : ∀ b o, X.s₀.heap.get? b = some o → b ∈ L2.frs X.stack → b ∈ L2.frs X.outer := fun b o e hb => by
  rw [O.frs] at hb
  rcases List.mem_cons.mp hb with z | z
  · exact absurd (Nat.lt_of_lt_of_le (Heap.lt_size e) (by rw [z]; exact I.ok.above)) (Nat.lt_irrefl _)
  · exact z
theorem leave_made {h' : Heap} {vs : List Value} (O : Own X) (I : Inv X pins σ H s) (m : Heap.MadeExcOf s.heap h' x (.ref C) vs)
    (q : ∀ h'', FlyX X.prog X.w X.outer X.H₀ X.s₀ x C H { s with heap := h'' } → Q () { s with heap := h'' }) : wpAny (model X.prog X.w) X.A (leaving X.env (.ref x)) Q E { s with heap := h' } := by
  have st := I.stack
  have st' : s.heap.FunFrames X.base (X.env :: X.outer) := by rw [← O.stk]; exact st
  have un0 : Un (frs X.outer) [] X.H₀ H X.s₀.heap s.heap := by have := I.base; rw [O.ex] at this; exact this
  have hin : ∀ env ∈ X.env :: X.outer, ∀ a, env.frame = some a → a ∈ frs X.stack := fun env he a ha => by rw [O.stk]; exact List.mem_filterMap.mpr ⟨env, he, ha⟩
  refine wpAny_leaves_madeW (base := PySem.W.hideAll s.heap (frs X.stack)) (h := s.heap) (by rw [I.ok.frames, O.stk]) O.fr (fun b o e => PySem.W.of_hideAll _ e) (PySem.W.funFrames_hide st' hin) m fun h'' t x1 x2 x3 x4 => q h'' ?_
  have hb : ∀ b o, X.s₀.heap.get? b = some o → X.H₀ b = none → b ∉ frs X.outer → (PySem.W.hideAll s.heap (frs X.stack)).get? b = some o := fun b o e n f => PySem.W.hideAll_get _ (un0.keep b o e n f (by simp)) fun z => f (O.out I b o e z)
  have ht : ∀ b o, X.s₀.heap.get? b = some o → b ∉ frs X.outer → ∃ o', (PySem.W.hideAll s.heap (frs X.stack)).get? b = some o' := fun b o e f => by
    obtain ⟨o', e'⟩ := un0.there b o e (by simp)
    exact ⟨o', PySem.W.hideAll_get _ e' fun z => f (O.out I b o e z)⟩
  refine ⟨I.os, I.bare, un0.fly (B := PySem.W.hideAll s.heap (frs X.stack)) (fun b o e => x1.1 b o e) hb ht (fun b o hm e => ?_), _, t, x1, hb, ht, hide_ok I.hok I.stkFree⟩
  obtain ⟨_, o', e', nf⟩ := st.mem (b := b) (by rw [O.stk]; show b ∈ L2.frs _; rw [← O.stk, O.frs]; exact List.mem_cons_of_mem _ hm)
  rw [e] at e'
  cases e'
  exact x4 b o (m.keeps b o e) nf
theorem leave_on (O : Own X) (I : Inv X pins σ H s) (F : FlyX X.prog X.w X.stack H s x C H' s')
    (q : ∀ h'', FlyX X.prog X.w X.outer X.H₀ X.s₀ x C H' { s' with heap := h'' } → Q () { s' with heap := h'' }) : wpAny (model X.prog X.w) X.A (leaving X.env (.ref x)) Q E s' := by
  have un0 : Un (frs X.outer) [] X.H₀ H X.s₀.heap s.heap := by have := I.base; rw [O.ex] at this; exact this
  obtain ⟨B, t, fl, hb, ht, hok⟩ := F.fly
  have fl' : Heap.FlyingW B (X.env :: X.outer) x (.ref C) (.ref t) s'.heap := by rw [← O.stk]; exact fl
  refine wpAny_leaves_onW (by rw [I.ok.frames, O.stk]) O.fr fl' fun h'' x1 x2 => q h'' ?_
  have un1 : Un (frs X.outer) [] X.H₀ H' X.s₀.heap s'.heap := un0.pass F.un (fun b hm => by rw [O.frs]; exact List.mem_cons_of_mem _ hm) (O.out I)
  have hb' : ∀ b o, X.s₀.heap.get? b = some o → X.H₀ b = none → b ∉ frs X.outer → B.get? b = some o := fun b o e n f => hb b o (un0.keep b o e n f (by simp)) (un0.free b o e n (by simp)) fun z => f (O.out I b o e z)
  have ht' : ∀ b o, X.s₀.heap.get? b = some o → b ∉ frs X.outer → ∃ o', B.get? b = some o' := fun b o e f => by
    obtain ⟨o', e'⟩ := un0.there b o e (by simp)
    exact ht b o' e' fun z => f (O.out I b o e z)
  refine ⟨F.os.trans I.os, F.bare, un1.fly (B := B) (fun b o e => x1.1 b o e) hb' ht' (fun b o hm e => ?_), B, t, x1, hb', ht', hok⟩
  obtain ⟨_, o', e', nf⟩ := fl.2.2.1.mem (b := b) (by show b ∈ L2.frs _; rw [O.frs]; exact List.mem_cons_of_mem _ hm)
  rw [e] at e'
  cases e'
  exact x2 b o e nf
end
/-- a def's context, as cxOf makes it -/
theorem own_cx {CX : CXT} {P : Program} {w : World} {K : PySem.W.Frag} {mg : Str → Option Value} {base : Heap} {N : List Str} {qual : Str} {scope : Scope} {f : Addr} {cd : Value} {A : Around} {outer : List Env} {s : Shared} {H : Hp} {E : XK} :
    Own (cxOf CX P w K mg base N qual scope f cd A outer s H E) := ⟨rfl, rfl, rfl⟩
/-- a callee's exception passes on -/
theorem passE {P : Program} {w : World} {K : PySem.W.Frag} {mg : Str → Option Value} {base : Heap} {N : List Str} {qual : Str} {scope : Scope} {f : Addr} {cd : Value} {A : Around} {outer : List Env} {s : Shared} {H : Hp} {E : XK} :
    Passes (CXE P w) (cxOf (CXE P w) P w K mg base N qual scope f cd A outer s H E) E := fun pins σ H1 s1 e s' I h => by
  obtain ⟨x, C, H', rfl, F, q⟩ := h
  exact leave_on own_cx I F fun h'' F' => ⟨x, C, H', rfl, F', q⟩
end L2
namespace L2
open PySem PySem.Spec PyProof.Rows
/-! ### texts with fields -/
abbrev TJ := St → Hp → Str → (Str → Hp → Prop) → Prop
def PJ (X : Cx) (es : List Expr) (t : TJ) : Prop :=
  ∀ (pins : List (Addr × Obj)) (s : Shared) (σ : St) (H : Hp) (acc : Str) (Q : Str → Hp → Prop), Inv X pins σ H s → t σ H acc Q → wpAny (model X.prog X.w) X.A (joinParts acc (evalEach es X.env)) (fun v s' => ∃ y tk H', v = .str y tk ∧ Inv X pins σ H' s' ∧ Q y H') X.xe s
def tJnil : TJ := fun _ H acc Q => acc.length ≤ sizeLine ∧ Q acc H
def tJcons (te : TE) (t : TJ) : TJ := fun σ H acc Q => te σ H fun v H1 => ∃ y, v = .str y ∧ (acc ++ y).length ≤ sizeLine ∧ t σ H1 (acc ++ y) Q
def tFmt (te : TE) : TE := fun σ H Q => te σ H fun v H1 => (∃ i, v = .int i ∧ i.natAbs.log2 < 1920 ∧ Q (.str (toString i)) H1) ∨ (∃ x, v = .str x ∧ x.length ≤ sizeLine ∧ Q (.str x) H1)
section
variable {X : Cx} {e : Expr} {es : List Expr} {te : TE} {t : TJ} {pos : Pos}
theorem pj_nil : PJ X [] tJnil := fun pins s σ H acc Q I h => joinParts_nil ⟨acc, _, H, rfl, I.tok _, h.2⟩ h.1
theorem pj_cons (he : PE X e te) (hr : PJ X es t) (hs : evalEach (e :: es) X.env = eval e X.env :: evalEach es X.env := by rfl) : PJ X (e :: es) (tJcons te t) := by
  intro pins s σ H acc Q I h
  rw [hs]
  refine joinParts_cons (thn (he pins s σ H _ I h) fun u s1 ⟨v, H1, I1, r, y, ev, hz, q⟩ => ?_)
  subst ev
  obtain ⟨tk, rfl⟩ := (show ∃ tk, u = Value.str y tk from r)
  exact ⟨hz, hr pins s1 σ H1 _ Q I1 q⟩
theorem pe_fmt (he : PE X e te) : PE X (.FormattedValue e (-1) none pos) (tFmt te) := by
  intro pins s σ H Q I h
  refine FormattedValue_plain (thn (he pins s σ H _ I h) fun u s1 ⟨v, H1, I1, r, q⟩ => ?_)
  rcases q with ⟨i, ev, hl, q⟩ | ⟨x, ev, hz, q⟩
  · subst ev
    obtain ⟨tk, rfl⟩ := (show ∃ tk, u = Value.int i tk from r)
    exact PySem.wpAny_formatField_int hl ⟨.str _, H1, I1.tok _, ⟨_, rfl⟩, q⟩
  · subst ev
    obtain ⟨tk, rfl⟩ := (show ∃ tk, u = Value.str x tk from r)
    exact formatField_str (fun t' tk' => ⟨.str x, H1, I1.tok _, ⟨_, rfl⟩, q⟩) hz
def tJoin (t : TJ) : TE := fun σ H Q => t σ H Str.empty fun y H' => Q (.str y) H'
theorem pe_join {e1 e2 : Expr} {rest : List Expr} (h : PJ X (e1 :: e2 :: rest) t) : PE X (.JoinedStr (e1 :: e2 :: rest) pos) (tJoin t) := by
  intro pins s σ H Q I q
  rw [PySem.arm_eval_JoinedStr]
  show wpAny _ _ (joinParts Str.empty (evalEach (e1 :: e2 :: rest) X.env)) _ _ s
  exact thn (h pins s σ H _ _ I q) fun v s' ⟨y, tk, H', ev, I', q'⟩ => ⟨.str y, H', I', ⟨tk, ev⟩, q'⟩
end
/-! ### the classes -/
theorem top_of {K : PySem.W.Frag} {mg : Str → Option Value} {base : Heap} (p : Program) (M : Mod K mg base) : ∃ loose mb, PySem.W.TopRead p loose mg mb base := by
  obtain ⟨mb, hb, hbb⟩ := M.blt
  obtain ⟨o, es, ep, ho, hd, hk, hm⟩ := id M.glob
  refine ⟨es.toList.filterMap fun e => match e.key with | .str n _ => some n | _ => none, mb, M.glob, hb, M.nolimit, hbb, fun x _ hx _ _ _ => ?_⟩
  rw [← hm x]
  unfold nsFind findBy
  cases q : es.find? (fun e => e.key.isStr x) with
  | none => rfl
  | some en =>
    exfalso
    have h1 := Array.find?_some q
    have h2 := Array.mem_of_find?_eq_some q
    obtain ⟨n, t, hkey⟩ := hk en h2
    have e : n = x := by
      rw [hkey] at h1
      simpa [Value.isStr] using h1
    apply hx
    rw [List.mem_filterMap]
    exact ⟨en, by simpa using h2, by rw [hkey, e]⟩
def bmV : List Value := [.type "ValueError", .type "Exception", .type "BaseException", .type "object"]
/-- an own error class under ValueError -/
structure XCls (K : PySem.W.Frag) (x : Str) (C : Addr) : Prop where
  at_ : PySem.W.nsIn K mainGlobals x = some (some (.ref C))
  exc : PySem.W.excIn K C bmV "ValueError.__new__" = true
theorem XCls.own {K : PySem.W.Frag} {x : Str} {C : Addr} {mg : Str → Option Value} {base : Heap} (Z : XCls K x C) (M : Mod K mg base) : OwnCls x C bmV "ValueError.__new__" mg base := by
  obtain ⟨loose, mb, T⟩ := top_of default M
  exact PySem.W.own_of_in M.kin T Z.at_ Z.exc
/-! ### raise -/
def RaiseOk (X : Cx) (E : XK) : Prop := ∀ (pins : List (Addr × Obj)) (σ : St) (H : Hp) (s : Shared) (x C : Addr) (h' : Heap) (vs : List Value), Inv X pins σ H s → Heap.MadeExcOf s.heap h' x (.ref C) vs → E (.ref C) none H → X.xe (.ref x) { s with heap := h' }
theorem raiseE {P : Program} {w : World} {K : PySem.W.Frag} {mg : Str → Option Value} {base : Heap} {N : List Str} {qual : Str} {scope : Scope} {f : Addr} {cd : Value} {A : Around} {outer : List Env} {s : Shared} {H : Hp} {E : XK} :
    RaiseOk (cxOf (CXE P w) P w K mg base N qual scope f cd A outer s H E) E := fun pins σ H1 s1 x C h' vs I m q =>
  leave_made own_cx I m fun h'' F => ⟨x, C, H1, rfl, F, q⟩
def tRaise (C : Addr) (E : XK) (t : TA) : TS := fun _ σ H => t σ H fun vs H1 => vs.length ≤ sizeLine ∧ E (.ref C) none H1
theorem ps_raise {X : Cx} {E : XK} {C : Addr} {x : Str} {e : Expr} {es : List Expr} {t : TA} {np cpos pos : Pos} (R : RaiseOk X E) (hc : X.calm = true) (Z : XCls X.K x C) (hm : X.mg x = some (.ref C)) (hg : Gl X x) (ha : PA X (e :: es) t)
    (hdb : (x == ("__debug__" : Str)) = false := by decide) (he : starEach (e :: es) X.env = (false, eval e X.env) :: starEach es X.env := by rfl) (hpl : (backTo cpos (starEach es X.env)).any (·.1) = false := by rfl) :
    PS X (.Raise (some (.Call (.Name x np) (e :: es) [] cpos)) none pos) (tRaise C E t) := by
  intro pins s σ H D I h
  obtain ⟨tl, N, nm, qn, bs, hdct, sn, sub, ab, col, dd, k0, k1, k2, k3, k5, mN, hC, hN, hni, T⟩ := (Z.own I.mod).obj
  have pl : (backTo cpos (starEach (e :: es) X.env)).any (·.1) = false := by
    rw [he]
    show (false || (backTo cpos (starEach es X.env)).any (·.1)) = false
    rw [hpl]
    rfl
  have hb : tl.contains (.type "BaseException") = true := T.hasType F.excBase_ValueError.hasBase
  refine wpAny_Raise_call_subT (newId := "ValueError.__new__") (N := N) (nm := nm) (q := qn) (bs := bs) (hdct := hdct) (sn := sn) (sub := sub) (ab := ab) (col := col) (dd := dd) (k0 := k0) (k1 := k1) (k2 := k2) (k3 := k3) (k5 := k5) F.excBase_ValueError hb (I.ok.hd hc) pl hni (ld_glob I hg hm ⟨rfl, ?_⟩ hdb)
  have h1 := ha cpos pins s σ H _ I h
  rw [he] at h1 ⊢
  refine Calls.evalArgs_plain (thn h1 fun us s1 ⟨vs, H1, I1, rv, hz, q⟩ => ?_)
  exact ⟨rfl, by rw [← rv.length]; exact hz, I1.bk _ _ hC, hN.keeps I1.bk, T.keeps I1.bk, fun h' x' m => R pins σ H1 s1 x' C h' us I1 m q⟩
end L2
namespace L2
open PySem PySem.Spec PyProof.Rows
end L2
namespace L2
open PySem PySem.Spec PyProof.Rows
section
variable {X : Cx} {pins : List (Addr × Obj)} {σ : St} {H : Hp} {s : Shared}
end
end L2
namespace L2
open PySem PySem.Spec PyProof.Rows
section
variable {X : Cx} {pins : List (Addr × Obj)} {σ : St} {H H' : Hp} {s s' : Shared} {x C : Addr}
end
end L2
namespace L2
open PySem PySem.Spec PyProof.Rows PySem.W Builtin Builtin.ObjectAttr Builtin.Getset_descriptor
section
variable {prog : Program} {w : World} {A : Around} {K : PySem.W.Frag} {x C : Addr} {o : Obj}
end
section
variable {X : Cx}
end
end L2
namespace L2
open PySem PySem.Spec PyProof.Rows
/-! ### defs that may raise -/
section
variable {P : Program} {w : World} {K : PySem.W.Frag} {mg : Str → Option Value} {base : Heap}
theorem Fun.okE {x qual : Str} {st : Stmt} {f : Addr} {fd : FuncData} {N ps : List Str} {k : Nat} {sp : Sp} (F : Fun K x qual st f fd) (S : FnScope N ps (defScope st)) (len : ∀ vs H Q E, sp vs H Q E → vs.length = ps.length)
    (hbody : ∀ (cdv : Value) (A : Around) (outer : List Env) (s : Shared) (H : Hp) (vs : List V) (Q : VK) (E : XK), Room k (A.deeper (envOfC qual (defScope st) s.heap.objs.size f cdv)) → sp vs H Q E →
      ∃ t, PSs (cxOf (CXE P w) P w K mg base N qual (defScope st) f cdv A outer s H E) (defBody st) t ∧ t { nx := fun _ H' => Q .non H', rt := Q } (start N vs) H) : FnOk P w K mg base (CXE P w) (k + 1) f fd ps sp := by
  obtain ⟨oc, od, kV, doc, pm, an, cdv, ct, osl, rfl, lk, hcd⟩ := F.ex
  exact fn_of lk hcd S len fun A outer s H vs Q E hr hsp => hbody cdv A outer s H vs Q E hr hsp
end
section
variable {P : Program} {w : World} {K : PySem.W.Frag} {mg : Str → Option Value} {base : Heap}
end
end L2
namespace Rg
open PySem
/-! THE TABLE OF A SET THAT ONLY GROWS: its places rise, nothing was taken out. -/
theorem below_go {xs : Array Nat} {j : Nat} (hs : xs.toList.Pairwise (· < ·)) : ∀ (fuel lo hi : Nat), lo ≤ hi → hi ≤ xs.size → hi - lo ≤ fuel → (∀ i, i < lo → xs.getD i 0 < j) → (∀ i, hi ≤ i → i < xs.size → j ≤ xs.getD i 0) →
    (∀ i, i < SetTable.below.go xs j fuel lo hi → xs.getD i 0 < j) ∧ (∀ i, SetTable.below.go xs j fuel lo hi ≤ i → i < xs.size → j ≤ xs.getD i 0) ∧ SetTable.below.go xs j fuel lo hi ≤ xs.size
  | 0, lo, hi, h1, h2, h3, h4, h5 => by
    have e : lo = hi := by (first | lia | omega)
    subst e
    exact ⟨h4, h5, h2⟩
  | fuel + 1, lo, hi, h1, h2, h3, h4, h5 => by
    unfold SetTable.below.go
    by_cases hlt : lo < hi
    · rw [if_pos hlt]
      have hm : (lo + hi) / 2 < xs.size := by (first | lia | omega)
      have eD : xs.getD ((lo + hi) / 2) j = xs.getD ((lo + hi) / 2) 0 := by simp [Array.getD, hm]
      have mono : ∀ a b, a ≤ b → b < xs.size → xs.getD a 0 ≤ xs.getD b 0 := fun a b hab hb => by
        rcases Nat.lt_or_eq_of_le hab with z | z
        · have := List.pairwise_iff_getElem.mp hs a b (by simp; omega) (by simpa using hb) z
          simp [Array.getD, hb, show a < xs.size by omega] at this ⊢
          (first | lia | omega)
        · subst z; exact Nat.le_refl _
      dsimp only
      rw [eD]
      by_cases hc : xs.getD ((lo + hi) / 2) 0 < j
      · rw [if_pos hc]
        refine below_go hs fuel ((lo + hi) / 2 + 1) hi (by omega) h2 (by omega) (fun i hi' => ?_) h5
        exact Nat.lt_of_le_of_lt (mono i ((lo + hi) / 2) (by omega) hm) hc
      · rw [if_neg hc]
        refine below_go hs fuel lo ((lo + hi) / 2) (by omega) (by omega) (by omega) h4 (fun i hi' hs' => ?_)
        have := mono ((lo + hi) / 2) i hi' hs'
        (first | lia | omega)
    · rw [if_neg hlt]
      have e : lo = hi := by (first | lia | omega)
      subst e
      exact ⟨h4, h5, h2⟩
theorem below_spec {xs : Array Nat} (j : Nat) (hs : xs.toList.Pairwise (· < ·)) : (∀ i, i < SetTable.below xs j → xs.getD i 0 < j) ∧ (∀ i, SetTable.below xs j ≤ i → i < xs.size → j ≤ xs.getD i 0) ∧ SetTable.below xs j ≤ xs.size :=
  below_go hs xs.size 0 xs.size (Nat.zero_le _) (Nat.le_refl _) (by omega) (fun i hi => absurd hi (Nat.not_lt_zero _)) (fun i h1 h2 => absurd h1 (by omega))
/-- what is kept of the table -/
structure Tb (led : Bool) (t : SetTable) : Prop where
  dum : t.dummies = #[]
  up : t.place.toList.Pairwise (· < ·)
  led : t.led = led
theorem Tb.fresh (led : Bool) (f m : Nat) : Tb led (.fresh f m led) := ⟨rfl, List.Pairwise.nil, rfl⟩
theorem range_up (n : Nat) : (Array.range n).toList.Pairwise (· < ·) := by
  rw [Array.toList_range]; exact List.pairwise_lt_range
theorem Tb.standIn {led : Bool} {t : SetTable} (h : Tb led t) (n : Nat) : Tb led (t.standIn n) := ⟨rfl, range_up n, h.led⟩
theorem Tb.orStandIn {led : Bool} {t : SetTable} (h : Tb led t) (n : Nat) : Tb led (t.orStandIn n) := by
  unfold SetTable.orStandIn
  split
  · exact h
  · exact h.standIn n
theorem has_nil (j : Nat) : SetTable.has #[] j = false := by rfl
theorem slot_live {t : SetTable} (hd : t.dummies = #[]) (j : Nat) : t.slot j = .empty ∨ ∃ i, t.slot j = .live i := by
  unfold SetTable.slot
  dsimp only
  split
  · exact .inr ⟨_, rfl⟩
  · rw [hd, has_nil]
    exact .inl rfl
theorem slot_empty {t : SetTable} {j : Nat} (h : t.slot j = .empty) : t.place[SetTable.below t.place j]? ≠ some j := fun e => by
  unfold SetTable.slot at h
  dsimp only at h
  rw [if_pos (by rw [e]; exact beq_self_eq_true _)] at h
  cases h
theorem probe_go {t : SetTable} {f : Nat → Int} {h : Int} (hd : t.dummies = #[]) : ∀ (fuel : Nat) (p : SetTable.Probe), p.dummy = none → ∀ j d, SetTable.probe.go t f h fuel p = some (.empty j d) → d = none ∧ t.slot j = .empty
  | 0, p, _, j, d, e => by unfold SetTable.probe.go at e; cases e
  | fuel + 1, p, hp, j, d, e => by
    unfold SetTable.probe.go at e
    have adv : (t.advance p).dummy = none := by
      unfold SetTable.advance
      split
      · exact hp
      · exact hp
    rcases slot_live hd p.j with z | ⟨i, z⟩
    · rw [z] at e
      cases e
      exact ⟨hp, z⟩
    · rw [z] at e
      dsimp only at e
      split at e
      · cases e
      · exact probe_go hd fuel (t.advance p) adv j d e
theorem freeSlot_empty {t : SetTable} {h : Int} {j : Nat} {b : Bool} (hd : t.dummies = #[]) (e : t.freeSlot h = some (j, b)) : t.slot j = .empty ∧ b = false := by
  unfold SetTable.freeSlot at e
  split at e
  · rename_i j' d' q
    cases e
    obtain ⟨rfl, z⟩ := probe_go hd _ _ rfl _ _ q
    exact ⟨z, rfl⟩
  · cases e
theorem insert_up {xs : Array Nat} {j : Nat} (hs : xs.toList.Pairwise (· < ·)) (hn : xs[SetTable.below xs j]? ≠ some j) : (SetTable.insertAt xs (SetTable.below xs j) j).toList.Pairwise (· < ·) := by
  obtain ⟨b1, b2, b3⟩ := below_spec j hs
  generalize SetTable.below xs j = p at *
  have e : (SetTable.insertAt xs p j).toList = xs.toList.take p ++ j :: xs.toList.drop p := by
    unfold SetTable.insertAt
    simp [Array.toList_extract, List.extract]
    exact List.take_of_length_le (by simp)
  rw [e, List.pairwise_append, List.pairwise_cons]
  have g : ∀ i (hi : i < xs.size), xs.toList[i]'(by simpa using hi) = xs.getD i 0 := fun i hi => by simp [Array.getD, hi]
  refine ⟨hs.sublist (List.take_sublist _ _), ⟨fun x hx => ?_, hs.sublist (List.drop_sublist _ _)⟩, fun x hx y hy => ?_⟩
  · obtain ⟨i, hi, rfl⟩ := List.mem_iff_getElem.mp hx
    rw [List.getElem_drop, g (p + i) (by simp at hi; omega)]
    have hi' : p + i < xs.size := by simp at hi; (first | lia | omega)
    have h1 := b2 (p + i) (by omega) hi'
    have h2 : j ≤ xs.getD p 0 := b2 p (Nat.le_refl _) (by omega)
    have h3 : xs.getD p 0 ≠ j := fun z => hn (by rw [← z]; simp [Array.getD, show p < xs.size by omega])
    rcases Nat.eq_zero_or_pos i with z | z
    · subst z; rw [Nat.add_zero] at h1 ⊢; (first | lia | omega)
    · have := List.pairwise_iff_getElem.mp hs p (p + i) (by simp; omega) (by simpa using hi') (by omega)
      rw [g _ hi', g p (by omega)] at this
      (first | lia | omega)
  · have hxj : x < j := by
      obtain ⟨i, hi, rfl⟩ := List.mem_iff_getElem.mp hx
      have hi' : i < p ∧ i < xs.size := by simp at hi; (first | lia | omega)
      rw [List.getElem_take, g i hi'.2]
      exact b1 i hi'.1
    rcases List.mem_cons.mp hy with z | z
    · (first | lia | omega)
    · obtain ⟨i, hi, rfl⟩ := List.mem_iff_getElem.mp z
      have hi' : p + i < xs.size := by simp at hi; (first | lia | omega)
      rw [List.getElem_drop, g (p + i) hi']
      have := b2 (p + i) (by omega) hi'
      (first | lia | omega)
theorem Tb.put {led : Bool} {t : SetTable} (h : Tb led t) {j : Nat} (he : t.slot j = .empty) : Tb led (t.put j).1 := by
  refine ⟨?_, insert_up h.up (slot_empty he), h.led⟩
  show (if SetTable.has t.dummies j = true then _ else t.dummies) = #[]
  rw [h.dum, has_nil]
  rfl
theorem Tb.layNew {led : Bool} {t : SetTable} (h : Tb led t) (es : Array (Int × Value)) (hash : Int) (x : Value) : Tb led (PySem.layNew t es hash x).2.1 := by
  unfold PySem.layNew
  split
  · rename_i slot b e
    exact (h.put (freeSlot_empty h.dum e).1).orStandIn _
  · exact h.standIn _
theorem Tb.relaid {led : Bool} {t t' : SetTable} (h : Tb led t) {hs : Array Int} {n : Nat} {o : Array Nat} (e : t.relaid hs n = some (t', o)) : Tb led t' := by
  unfold SetTable.relaid SetTable.laid at e
  cases q : SetTable.layClean (SetTable.sizeAbove n - 1) hs with
  | none => rw [q] at e; cases e
  | some owner =>
    rw [q] at e
    cases e
    refine ⟨rfl, ?_, h.led⟩
    show ((List.filterMap (fun j => (owner.getD j none).map (j, ·)) (List.range (SetTable.sizeAbove n - 1 + 1))).map (·.1)).Pairwise (· < ·)
    refine List.Pairwise.sublist ?_ (List.pairwise_lt_range (n := SetTable.sizeAbove n - 1 + 1))
    generalize List.range (SetTable.sizeAbove n - 1 + 1) = l
    induction l with
    | nil => exact List.Sublist.slnil
    | cons a l ih =>
      rw [List.filterMap_cons]
      cases owner.getD a none with
      | none => exact ih.cons _
      | some b => exact ih.cons₂ _
theorem Tb.relayAll {led : Bool} {t : SetTable} (h : Tb led t) (es : Array (Int × Value)) (n : Nat) : Tb led (PySem.relayAll t es n).2.1 := by
  unfold PySem.relayAll
  split
  · rename_i t' o e
    dsimp only
    split
    · exact h.relaid e
    · exact h.standIn _
  · exact h.standIn _
end Rg
namespace Rg
open PySem PyProof.Rows
/-- are the sets of this world walked by the text's order -/
def byText (w : World) : Bool := w.params.followText "set-order"
/-- a set of ints that only grew, with its table -/
structure SetT (w : World) (h : Heap) (a : Addr) (vals : List Int) (es : Array (Int × Value)) (ep : Nat) (t : SetTable) : Prop where
  get : h.get? a = some { cls := .type "set", dict := none, data := .set es ep t }
  els : ∀ e ∈ es.toList, ∃ k tk, e = (hashInt k, Value.int k tk)
  pm : (es.toList.map fun e => numOf e.2).Perm vals
  few : es.size < scanBound
  fits : t.fits es.size = true
  tb : Tb (!byText w) t
section
variable {prog : Program} {w : World} {A : Around} {E : Value → Shared → Prop} {s : Shared} {a : Addr} {vals : List Int} {es : Array (Int × Value)} {ep : Nat} {t : SetTable}
theorem SetT.elems {h : Heap} (T : SetT w h a vals es ep t) : ElemsOf (intKind prog w) es.toList := fun e he => by
  obtain ⟨k, tk, rfl⟩ := T.els e he
  exact ⟨⟨k, by simp [intKind, Value.isInt], rfl⟩, rfl⟩
theorem SetT.at {h h' : Heap} (T : SetT w h a vals es ep t) (k : ∀ o, h.get? a = some o → h'.get? a = some o) : SetT w h' a vals es ep t := ⟨k _ T.get, T.els, T.pm, T.few, T.fits, T.tb⟩
theorem SetT.mem {h : Heap} (T : SetT w h a vals es ep t) (k : Int) : k ∈ vals ↔ ∃ e ∈ es.toList, (intKind prog w).is k e.2 = true := by
  rw [← T.pm.mem_iff, List.mem_map]
  constructor
  · rintro ⟨e, he, q⟩
    obtain ⟨k', tk, rfl⟩ := T.els e he
    have : k' = k := q
    subst this
    exact ⟨_, he, by simp [intKind, Value.isInt]⟩
  · rintro ⟨e, he, q⟩
    obtain ⟨k', tk, rfl⟩ := T.els e he
    refine ⟨_, he, ?_⟩
    have q' : (k' == k) = true := by simpa [intKind, Value.isInt] using q
    exact eq_of_beq q'
theorem SetT.size {h : Heap} (T : SetT w h a vals es ep t) : es.size = vals.length := by
  have := T.pm.length_eq
  simpa using this
/-- what a store makes -/
theorem SetT.store {h : Heap} (T : SetT w h a vals es ep t) {vals' : List Int} {es' : Array (Int × Value)} {t' : SetTable} (e1 : ∀ e ∈ es'.toList, ∃ k tk, e = (hashInt k, Value.int k tk)) (e2 : (es'.toList.map fun e => numOf e.2).Perm vals') (e3 : es'.size < scanBound) (e4 : t'.fits es'.size = true) (e5 : Tb (!byText w) t') :
    SetT w (h.update a (Obj.putSet es' t')) a vals' es' (ep + 1) t' := by
  refine ⟨?_, e1, e2, e3, e4, e5⟩
  have := Heap.get?_update_self (Obj.putSet es' t') T.get (by rfl)
  exact this
theorem set_add {k : Int} {tk : Tok} {Q : Bool → Shared → Prop} (T : SetT w s.heap a vals es ep t) (room : vals.length + 1 < scanBound)
    (h : ∀ b h' es' ep' t', Heap.SameBut a s.heap h' → SetT w h' a (if k ∈ vals then vals else vals ++ [k]) es' ep' t' → Q b { s with heap := h' }) : wpAny (model prog w) A (setAddHashed a (.int k tk) (hashInt k)) Q E s := by
  have hkey : (intKind prog w).is k (.int k tk) = true := by simp [intKind, Value.isInt]
  have hsc : (Value.int k tk).scannable = true := rfl
  have gw : ∀ (b : Bool) (s1 : Shared) (Q' : Unit → Shared → Prop), Q' () s1 → wpAny (model prog w) A (match b with | true => rule "set.scan.the-table-gave-way" | false => pure ()) Q' E s1 := fun b s1 Q' q => by
    cases b
    · exact wpAny_pure q
    · exact wpAny_rule q
  unfold setAddHashed
  unfold setAddHashedIn
  refine wpAny_holding (wpAny_bind (wpAny_setState_of T.get rfl T.fits ?_))
  dsimp only
  rw [if_pos (byScan_of hsc T.few (T.elems (prog := prog)))]
  unfold setAddByScan
  refine wpAny_bind (wpAny_bind (wpAny_rule (wpAny_bind (wpAny_setScan_of (knd := intKind prog w) (k := k) hkey T.get rfl T.fits T.elems ?_))))
  cases hr : List.findIdx? (fun e => (intKind prog w).is k e.2) es.toList with
  | some j =>
    dsimp only
    obtain ⟨hj, hpj, _⟩ := List.findIdx?_eq_some_iff_getElem.mp hr
    have hm : k ∈ vals := (T.mem (prog := prog) k).mpr ⟨_, List.getElem_mem hj, hpj⟩
    refine wpAny_pure (wpAny_pure ?_)
    exact h _ s.heap es ep t (Heap.SameBut.refl a s.heap) (by rw [if_pos hm]; exact T)
  | none =>
    dsimp only
    have hm : ¬ k ∈ vals := fun z => by
      obtain ⟨e, he, q⟩ := (T.mem (prog := prog) k).mp z
      have := List.findIdx?_eq_none_iff.mp hr e he
      rw [q] at this
      cases this
    have p1 := layNew_perm t es (hashInt k) (.int k tk)
    have p2 := layNew_fits t es (hashInt k) (.int k tk)
    have p3 := T.tb.layNew es (hashInt k) (.int k tk)
    generalize layNew t es (hashInt k) (.int k tk) = L at p1 p2 p3 ⊢
    obtain ⟨es1, t1, wd, gave⟩ := L
    dsimp only at p1 p2 p3 ⊢
    rw [Array.toList_push] at p1
    have q1 : ∀ e ∈ es1.toList, ∃ k tk, e = (hashInt k, Value.int k tk) := fun e he => by
      rcases List.mem_append.mp (p1.mem_iff.mp he) with z | z
      · exact T.els e z
      · have : e = (hashInt k, Value.int k tk) := by simpa using z
        exact ⟨k, tk, this⟩
    have q2 : (es1.toList.map fun e => numOf e.2).Perm (vals ++ [k]) := by
      refine (p1.map _).trans ?_
      rw [List.map_append]
      exact T.pm.append_right _
    have sz : es1.size = vals.length + 1 := by have := q2.length_eq; simpa using this
    have q3 : es1.size < scanBound := by (first | lia | omega)
    have fin : ∀ b h' es' ep' t', Heap.SameBut a s.heap h' → SetT w h' a (vals ++ [k]) es' ep' t' → Q b { s with heap := h' } := fun b h' es' ep' t' z1 z2 => h b h' es' ep' t' z1 (by rw [if_neg hm]; exact z2)
    refine wpAny_bind (gw gave _ _ ?_)
    have tail : ∀ {R : Option Bool → Shared → Prop}, (∀ b h' es' ep' t', Heap.SameBut a s.heap h' → SetT w h' a (vals ++ [k]) es' ep' t' → R (some b) { s with heap := h' }) → wpAny (model prog w) A (do
        storeSet a es1 t1
        if (!wd && t1.tooFull) = true then do
            (match (relayAll t1 es1 (SetTable.grown es1.size)).2.2 with | true => rule "set.scan.the-table-gave-way" | false => pure ())
            storeSet a (relayAll t1 es1 (SetTable.grown es1.size)).1 (relayAll t1 es1 (SetTable.grown es1.size)).2.1
            pure (some true)
          else pure (some true)) R E s := fun {R} hR => by
      have T1 := T.store q1 q2 q3 p2 p3
      have sb1 := Heap.SameBut.update s.heap a (Obj.putSet es1 t1)
      refine wpAny_bind (wpAny_storeSet_of T.get rfl ?_ (fits_of_scanBound q3))
      by_cases hc : (!wd && t1.tooFull) = true
      · rw [if_pos hc]
        have r1 := relayAll_perm t1 es1 (SetTable.grown es1.size)
        have r2 := relayAll_fits t1 es1 (SetTable.grown es1.size)
        have r3 := p3.relayAll es1 (SetTable.grown es1.size)
        generalize relayAll t1 es1 (SetTable.grown es1.size) = L2 at r1 r2 r3 ⊢
        obtain ⟨es2, t2, gave2⟩ := L2
        dsimp only at r1 r2 r3 ⊢
        have sz2 : es2.size = es1.size := by have := r1.length_eq; simpa using this
        refine wpAny_bind (gw gave2 _ _ (wpAny_bind (wpAny_storeSet_of T1.get rfl ?_ (fits_of_scanBound (by omega)))))
        exact wpAny_pure (hR _ _ _ _ _ (sb1.trans (Heap.SameBut.update _ a _)) (T1.store (fun e he => q1 e (r1.mem_iff.mp he)) ((r1.map _).trans q2) (by omega) r2 r3))
      · rw [if_neg hc]
        exact wpAny_pure (hR _ _ _ _ _ sb1 T1)
    by_cases hp : t1.plain = true
    · rw [if_pos hp]
      refine wpAny_bind ?_
      rw [hashByValue_scannable 8 hsc]
      refine wpAny_pure ?_
      exact tail fun b h' es' ep' t' z1 z2 => wpAny_pure (fin _ h' es' ep' t' z1 z2)
    · rw [if_neg hp]
      refine wpAny_bind (wpAny_pure ?_)
      exact tail fun b h' es' ep' t' z1 z2 => wpAny_pure (fin _ h' es' ep' t' z1 z2)
end
/-! ### the loop that fills it -/
def dds : List Int → List Int → List Int
  | acc, [] => acc
  | acc, x :: r => dds (if x ∈ acc then acc else acc ++ [x]) r
theorem dds_len : ∀ (l acc : List Int), (dds acc l).length ≤ acc.length + l.length
  | [], acc => Nat.le_refl _
  | x :: r, acc => by
    refine Nat.le_trans (dds_len r _) ?_
    split
    · simp <;> (first | lia | omega)
    · simp <;> (first | lia | omega)
theorem dds_append (l : List Int) (x : Int) : ∀ acc, dds acc (l ++ [x]) = if x ∈ dds acc l then dds acc l else dds acc l ++ [x] := by
  induction l with
  | nil => intro acc; rfl
  | cons y r ih => intro acc; exact ih _
theorem dds_mem : ∀ (l acc : List Int) (x : Int), x ∈ dds acc l ↔ x ∈ acc ∨ x ∈ l
  | [], acc, x => by simp [dds]
  | y :: r, acc, x => by
    rw [dds, dds_mem r]
    split
    · rename_i h
      simp only [List.mem_cons]
      constructor
      · rintro (z | z)
        · exact .inl z
        · exact .inr (.inr z)
      · rintro (z | z | z)
        · exact .inl z
        · subst z; exact .inl h
        · exact .inr z
    · simp [List.mem_append, or_assoc]
section
variable {prog : Program} {w : World} {A : Around} {R : Result → Shared → Prop} {I : Addr} {fp wr : List Addr} {n : Nat} {P : Nat → Value → Prop} {St : Nat → Heap → Prop}
theorem set_loop {ns : List Int} (W : Walks prog w A.in1 I fp wr n P St) (hval : ∀ i v, P i v → ∃ tk, v = .int (ns.getD i 0) tk) (hn : n = ns.length) (hb : n + 1 < scanBound) (S : Addr) (hSf : S ∉ fp) :
    ∀ (k i : Nat) (s : Shared) es ep t, n - i = k → i ≤ n → St i s.heap → SetT w s.heap S (dds [] (ns.take i)) es ep t →
    (∀ h' tk es' ep' t', SetT w h' S (dds [] ns) es' ep' t' → (∀ b o, b ∉ wr → b ≠ S → s.heap.get? b = some o → h'.get? b = some o) → R (.ok (.ret .none)) { s with heap := h', toks := tk }) →
    codeAny (model prog w) A (.builtin "set.update.loop" ⟨[.ref S, .ref I], []⟩) R s := by
  have hSw : S ∉ wr := fun h => hSf (W.sub _ h)
  intro k
  induction k with
  | zero =>
    intro i s es ep t hk hi hst T hR
    have hin : i = n := by (first | lia | omega)
    subst hin
    refine codeAny_builtin PyProof.Rows.F.entry_set_update_loop ?_
    rw [Around.under_plainId PyProof.Rows.F.plain_set_update_loop _]
    show wpAny _ A.in1 (pyNext (.ref I) >>= _) _ _ s
    refine wpAny_bind (W.done s _ _ hst fun h' tk hk' => ?_)
    show wpAny _ A.in1 (ret Value.none) _ _ _
    refine wpAny_pure (hR h' tk es ep t ?_ fun b o z _ e => hk' b o z e)
    have := T.at (h' := h') fun o e => hk' S o hSw e
    rw [hn, List.take_length] at this
    exact this
  | succ k ih =>
    intro i s es ep t hk hi hst T hR
    refine codeAny_builtin PyProof.Rows.F.entry_set_update_loop ?_
    rw [Around.under_plainId PyProof.Rows.F.plain_set_update_loop _]
    show wpAny _ A.in1 (pyNext (.ref I) >>= _) _ _ s
    refine wpAny_bind (W.item i s _ _ (by omega) hst fun v h' tk hP hst' hk' => ?_)
    obtain ⟨tv, rfl⟩ := hval i v hP
    have T1 := T.at (h' := h') fun o e => hk' S o hSw e
    show wpAny _ A.in1 (holding [Value.int (ns.getD i 0) tv] (setAdd S (.int (ns.getD i 0) tv)) >>= _) _ _ _
    refine wpAny_bind (wpAny_holding ?_)
    unfold setAdd
    refine wpAny_holding (wpAny_bind ((intKind prog w).pyHash (k := ns.getD i 0) (by simp [intKind, Value.isInt]) ?_))
    have hlen := dds_len (ns.take i) []
    have hlt : (ns.take i).length ≤ i := by rw [List.length_take]; (first | lia | omega)
    refine set_add (s := { s with heap := h', toks := tk + 1 }) T1 (by simp at hlen; omega) fun b h'' es' ep' t' sb T2 => ?_
    have gi : ns[i]? = some (ns.getD i 0) := by simp [List.getD_eq_getElem?_getD, show i < ns.length by omega]
    have et : ns.take (i + 1) = ns.take i ++ [ns.getD i 0] := by rw [List.take_succ, gi]; rfl
    rw [← dds_append, ← et] at T2
    refine wpAny_pure ⟨plainId_quiet PyProof.Rows.F.plain_set_update_loop _, ih (i + 1) { s with heap := h'', toks := tk + 1 } es' ep' t' (by omega) (by omega) (W.frame _ _ _ hst' fun b hb o e => (sb.2 b (fun z => hSf (z ▸ hb))).trans e) T2 fun h3 tk3 es3 ep3 t3 T3 k3 => ?_⟩
    exact hR h3 tk3 es3 ep3 t3 T3 fun b o z1 z2 e => k3 b o z1 z2 ((sb.2 b z2).trans (hk' b o z1 e))
end
end Rg
set_option maxHeartbeats 8000000
namespace Rg
open PySem PyProof.Rows
abbrev newS (w : World) : Obj := { cls := .type "set", dict := none, data := .set #[] 0 (.fresh 0 0 (!byText w)) }
section
variable {prog : Program} {w : World} {A : Around} {E : Value → Shared → Prop} {s : Shared}
theorem set_new (x : Value) {Q : Value → Shared → Prop} (h : Q (.ref s.heap.objs.size) { s with heap := s.heap.push (newS w) }) : codeAny (model prog w) A (.call (.builtin "set.__new__") ⟨[.type "set", x], []⟩) (wants Q E) s := by
  have sub1 := sub_set_self
  refine codeAny_of_tree (show wpAny _ A.in1 (do checkBuiltinCall "set.__new__" ⟨[.type "set", x], []⟩; again (.builtin "set.__new__" ⟨[.type "set", x], []⟩)) _ _ s from wpAny_bind (wpAny_of_eq (F.newCall_set_1 x) (wpAny_pure ⟨plainId_quiet F.plain_set_new _, codeAny_builtin F.entry_set_new ?new⟩)))
  case new =>
    rw [Around.under_plainId F.plain_set_new _]
    unfold Builtin.«set.__new__»
    unfold Builtin.Frozenset.newClass
    obtain ⟨hp, g, d, tk, os⟩ := s
    dsimp only
    wp_walk
    refine wpAny_askSetting (wpAny_pure ?_)
    dsimp only
    simp only [newObj]
    exact wpAny_bind (wpAny_alloc (wpAny_pure (wpAny_pure h)))
theorem set_init {l S : Addr} {items : Array Value} {ns : List Int} {Q : Value → Shared → Prop} (hh : A.handled = none) (hl : s.heap.IsList l items) (hi : IntsAre items.toList ns) (hb : items.size + 1 < scanBound) (hS : s.heap.get? S = some (newS w)) (hlS : l ≠ S)
    (h : ∀ h' tk es ep t, SetT w h' S (dds [] ns) es ep t → (∀ b o, b ≠ S → s.heap.get? b = some o → h'.get? b = some o) → Q .none { s with heap := h', toks := tk }) :
    codeAny (model prog w) A (.call (.builtin "set.__init__") ⟨[.ref S, .ref l], []⟩) (wants Q E) s := by
  have hT : s.TypeIs (.ref S) "set" := ⟨_, hS, rfl⟩
  refine codeAny_call_builtin F.called_set.init.plain F.entry_set_init (check_set_init_1 hT ?_)
  obtain ⟨ol, hol, hcl, nl, hdl⟩ := id hl
  obtain ⟨c1, c2, c3, c4⟩ := ol
  dsimp only at hcl hdl
  subst hcl hdl
  have n1 := F.sub_list_set
  have n2 := F.sub_list_frozenset
  have n3 : (Value.type "list" == Value.type "dict") = false := by decide
  unfold Builtin.«set.__init__»
  unfold noKeywords
  unfold Builtin.Frozenset.updateFrom
  generalize hPI : pyIter = PI
  wp_walk
  subst hPI
  refine wpAny_pyIter_list hl (wpAny_bind (wpAny_runValue ?_))
  have hval : ∀ (i : Nat) (v : Value), items[i]? = some v → ∃ t, v = .int (ns.getD i 0) t := fun i v hv => PyProof.Rows.IntsAre.int_at hi i v (by rw [Array.getElem?_toList]; exact hv)
  have lI : l ≠ s.heap.objs.size := Nat.ne_of_lt (Heap.lt_size hol)
  have SI : S ≠ s.heap.objs.size := Nat.ne_of_lt (Heap.lt_size hS)
  have hlen : items.size = ns.length := by have := hi.length; simpa using this
  have W := Walks.list (prog := prog) (w := w) (A := A.in1.in1) (show A.in1.in1.handled = none from hh) s.heap.objs.size l lI items
  have T0 : SetT w (s.heap.push { cls := .type "list_iterator", data := .fields #[.ref l, .int 0 0] }) S (dds [] (ns.take 0)) #[] 0 (.fresh 0 0 (!byText w)) :=
    ⟨Heap.get?_push_of_some _ hS, fun e he => by simp at he, by simp [dds], by decide, rfl, Tb.fresh _ _ _⟩
  refine set_loop (ns := ns) W hval hlen hb S (by simp [SI, Ne.symm hlS]) (items.size - 0) 0 _ _ _ _ rfl (Nat.zero_le _) ⟨⟨_, Heap.get?_push_size _ rfl, rfl, rfl⟩, hl.push _⟩ T0 fun h' tk es ep t T k => ?_
  refine wpAny_pure (wpAny_pure (h h' tk es ep t T fun b o hb' e => ?_))
  exact k b o (by simp; exact Nat.ne_of_lt (Heap.lt_size e)) hb' (Heap.get?_push_of_some _ e)
theorem set_call {l : Addr} {items : Array Value} {ns : List Int} {Q : Value → Shared → Prop} (hh : A.handled = none) (hl : s.heap.IsList l items) (hi : IntsAre items.toList ns) (hb : items.size + 1 < scanBound)
    (h : ∀ h' tk es ep t, SetT w h' s.heap.objs.size (dds [] ns) es ep t → (∀ b o, s.heap.get? b = some o → h'.get? b = some o) → Q (.ref s.heap.objs.size) { s with heap := h', toks := tk }) :
    wpAny (model prog w) A (call (.type "set") [.ref l]) Q E s := by
  have f1 := F.called_set.notType
  have f2 := F.called_set.canCreate
  have f3 := F.called_set.made
  have f4 := F.called_set.sub
  have f5 := F.typeCall_set_1 (.ref l)
  obtain ⟨c, tl, f6⟩ := F.called_set.mro
  refine wpAny_call (codeAny_of_tree (show wpAny _ _ (callAny (.type "set") _) _ _ _ from wpAny_pure ⟨Code.quiet_builtin _ (by decide +kernel), codeAny_builtin F.entry_type_call ?tc⟩))
  case tc =>
    rw [Around.under_plain (weight_type_call_type "set" [.ref l] []) rfl]
    repeat (any_goals (first | wp_step | assumption))
    refine codeAny_mono (set_new (.ref l) (E := E) (Q := fun obj s1 => obj = .ref s.heap.objs.size ∧ s1 = { s with heap := s.heap.push (newS w) }) ⟨rfl, rfl⟩) fun r s1 hr => ?_
    cases r with
    | error e => exact hr
    | ok fl =>
      cases fl with
      | ret obj =>
        obtain ⟨rfl, rfl⟩ := hr
        have hS : (s.heap.push (newS w)).get? s.heap.objs.size = some (newS w) := Heap.get?_push_size _ rfl
        have hT : Shared.TypeIs { s with heap := s.heap.push (newS w) } (.ref s.heap.objs.size) "set" := ⟨_, hS, rfl⟩
        refine wpAny_bind (wpAny_isInstance hT sub_set_self ?_)
        simp only [Bool.not_true, Bool.false_eq_true, if_false]
        obtain ⟨ol, hol, _⟩ := id hl
        refine wpAny_bind (wpAny_holding (wpAny_callSpecial?_slot (name := Str.ofString "__init__") hT F.called_set.init ?_))
        refine wpAny_call (codeAny_mono (set_init (E := E) (Q := fun r s2 => r = .none ∧ Q (.ref s.heap.objs.size) s2) (s := { s with heap := s.heap.push (newS w) }) (show A.in1.handled = none from hh) (hl.push _) hi hb hS (Nat.ne_of_lt (Heap.lt_size hol)) fun h' tk es ep t T k => ⟨rfl, h h' tk es ep t T fun b o e => k b o (Nat.ne_of_lt (Heap.lt_size e)) (Heap.get?_push_of_some _ e)⟩) fun r2 s2 hr2 => ?_)
        cases r2 with
        | error e => exact hr2
        | ok fl2 =>
          cases fl2 with
          | ret r3 =>
            obtain ⟨rfl, q⟩ := hr2
            exact wpAny_pure q
          | _ => exact hr2.elim
      | _ => exact hr.elim
end
end Rg
set_option maxHeartbeats 8000000
namespace Rg
open PySem PyProof.Rows
/-! ### orders -/
theorem erase_perm {α : Type} : ∀ {l : List α} {i : Nat} {x : α}, l[i]? = some x → (x :: l.eraseIdx i).Perm l
  | [], i, x, h => by simp at h
  | y :: r, 0, x, h => by
    have : y = x := by simpa using h
    subst this
    exact List.Perm.refl _
  | y :: r, i + 1, x, h => by
    have ih := erase_perm (l := r) (i := i) (x := x) (by simpa using h)
    rw [List.eraseIdx_cons_succ]
    exact (List.Perm.swap y x _).trans (ih.cons y)
theorem pick_go {α : Type} (next : Nat → Nat) : ∀ (fuel k : Nat) (left : List α) (out : Array α), left.length ≤ fuel → (pickOrder.go next fuel k left out).toList.Perm (out.toList ++ left)
  | 0, k, left, out, h => by
    have : left = [] := List.length_eq_zero_iff.mp (by omega)
    subst this
    unfold pickOrder.go
    simp
  | fuel + 1, k, left, out, h => by
    unfold pickOrder.go
    cases left with
    | nil => simp
    | cons y r =>
      have hi : next k % (y :: r).length < (y :: r).length := Nat.mod_lt _ (by simp)
      generalize next k % (y :: r).length = i at hi
      have e : (y :: r)[i]? = some (y :: r)[i] := List.getElem?_eq_getElem hi
      rw [e]
      dsimp only
      have ih := pick_go next fuel (k + 1) ((y :: r).eraseIdx i) (out.push (y :: r)[i]) (by rw [List.length_eraseIdx]; split <;> simp at * <;> omega)
      refine ih.trans ?_
      rw [Array.toList_push, List.append_assoc]
      exact (erase_perm e).append_left _
theorem pick_perm {α : Type} (next : Nat → Nat) (xs : Array α) : (pickOrder next xs).toList.Perm xs.toList := by
  have := pick_go next xs.size 0 xs.toList #[] (by simp)
  simpa [pickOrder] using this
section
variable {M : Model} {A : Around} {E : Value → Shared → Prop} {s : Shared}
theorem choose_any {src : Source} {n : Nat} {Q : Nat → Shared → Prop} (hn : n ≠ 0) (h : ∀ i d, i < n → Q i { s with drawn := d }) : wpAny M A (choose src n) Q E s := fun _ _ _ =>
  ⟨hn, h _ _ (Nat.mod_lt _ (Nat.pos_of_ne_zero hn))⟩
theorem draw_any {α : Type} : ∀ (n : Nat) (xs : List α) (s : Shared) (Q : List α → Shared → Prop), xs.length ≤ n → (∀ ys d, ys.Perm xs → Q ys { s with drawn := d }) → wpAny M A (drawOrder n xs) Q E s
  | 0, xs, s, Q, hl, h => by
    have : xs = [] := List.length_eq_zero_iff.mp (by omega)
    subst this
    unfold drawOrder
    exact wpAny_pure (h [] s.drawn (List.Perm.refl _))
  | n + 1, [], s, Q, hl, h => by
    unfold drawOrder
    exact wpAny_pure (h [] s.drawn (List.Perm.refl _))
  | n + 1, y :: r, s, Q, hl, h => by
    unfold drawOrder
    refine wpAny_bind (choose_any (by simp) fun i d hi => ?_)
    have e : (y :: r)[i]? = some (y :: r)[i] := List.getElem?_eq_getElem hi
    rw [e]
    dsimp only
    refine wpAny_bind (draw_any n ((y :: r).eraseIdx i) _ _ (by rw [List.length_eraseIdx]; split <;> simp at * <;> omega) fun ys d' p => wpAny_pure ?_)
    exact h _ d' ((p.cons _).trans (erase_perm e))
end
end Rg
set_option maxHeartbeats 8000000
namespace Rg
open PySem PyProof.Rows
/-! ### a set's iterator -/
theorem slot_si : Slot "set_iterator" "__next__" "set_iterator.__next__" :=
  .of (n := "__next__") (owner := "set_iterator") (by rw [typeLookup_type, builtinLookup_eq_fast]; kernel_rfl) (by decide +kernel) (by decide +kernel) (by decide +kernel) (by first | exact .inl (by decide +kernel) | exact .inr (by decide +kernel)) (by rw [isSubtype_type]; kernel_rfl)
theorem entry_si : entryFor table "set_iterator.__next__" = some Builtin.«set_iterator.__next__» := entryFor_of_tree (by kernel_rfl)
theorem args_si (a : Value) : argsOk "set_iterator.__next__" ⟨[a], []⟩ := by unfold argsOk; kernel_rfl
theorem entry_sit : entryFor table "set.__iter__" = some Builtin.«frozenset.__iter__» := entryFor_alias (id' := "frozenset.__iter__") (by kernel_rfl) rfl (by decide +kernel) (by kernel_rfl)
theorem stop_sub : isSubtype (.type "StopIteration") (.type "StopIteration") = pure true := by rw [isSubtype_type]; kernel_rfl
def itObj (first : Value) (i : Int) (S : Addr) (n ep : Nat) : Obj := { cls := .type "set_iterator", data := .fields #[first, rawInt i, .ref S, rawInt n, rawInt ep] }
section
variable {prog : Program} {w : World} {A : Around} {E : Value → Shared → Prop} {s : Shared} {I S : Addr} {vals : List Int} {es : Array (Int × Value)} {ep : Nat} {t : SetTable}
/-- what the iterator asks of the set -/
theorem setNext_any {slot given : Nat} {Q : Option (Value × Nat) → Shared → Prop} (T : SetT w s.heap S vals es ep t) (hd : byText w = false → (!t.plain && decide (es.size > 1)) = false)
    (h1 : byText w = true → Q (((pickOrder (w.params.setOrder S ep) es)[given]?).map fun e => (e.2, slot)) s)
    (h2 : byText w = false → Q (match es[SetTable.below t.place slot]?, t.place[SetTable.below t.place slot]? with | some (_, x), some j => some (x, j + 1) | _, _ => none) s) :
    wpAny (model prog w) A (setNext S slot given ep) Q E s := by
  have ask : ∀ {Q' : Bool → Shared → Prop}, Q' (byText w) s → wpAny (model prog w) A setsByText Q' E s := fun q => by
    unfold setsByText
    exact wpAny_bind (wpAny_askSetting (wpAny_pure q))
  unfold setNext
  refine wpAny_bind (wpAny_setState_of T.get rfl T.fits ?_)
  dsimp only
  refine wpAny_bind (ask ?_)
  cases hb : byText w with
  | true =>
    simp only [if_true]
    rw [if_neg (by simp)]
    refine wpAny_bind ?_
    unfold setWalk
    refine wpAny_bind (wpAny_setState_of T.get rfl T.fits ?_)
    dsimp only
    refine wpAny_bind (ask ?_)
    rw [hb]
    simp only [if_true]
    exact wpAny_bind (wpAny_askSetting (wpAny_pure (wpAny_pure (h1 hb))))
  | false =>
    have led : t.led = true := by rw [T.tb.led, hb]; rfl
    simp only [Bool.false_eq_true, if_false]
    show wpAny _ _ (if (!t.plain && decide (es.size > 1)) = true then _ else _) _ _ _
    rw [if_neg (by rw [hd hb]; exact Bool.false_ne_true)]
    refine wpAny_bind (show wpAny _ _ (if (!t.led && !es.isEmpty) = true then unsupported _ else pure ()) _ _ _ from ?_)
    rw [led]
    rw [if_neg (by simp)]
    exact wpAny_pure (wpAny_pure (h2 hb))
/-- the next one by a slot, or the end -/
theorem next_slot {slot i : Nat} {Q : Option Value → Shared → Prop} (hh : A.handled = none) (hI : s.heap.get? I = some (itObj (rawInt slot) i S es.size ep)) (T : SetT w s.heap S vals es ep t) (hd : byText w = false → (!t.plain && decide (es.size > 1)) = false)
    (r : Option (Value × Nat)) (h1 : byText w = true → r = ((pickOrder (w.params.setOrder S ep) es)[i]?).map fun e => (e.2, slot)) (h2 : byText w = false → r = match es[SetTable.below t.place slot]?, t.place[SetTable.below t.place slot]? with | some (_, x), some j => some (x, j + 1) | _, _ => none)
    (hs : ∀ x nx h', r = some (x, nx) → h'.get? I = some (itObj (rawInt nx) ((i : Int) + 1) S es.size ep) → (∀ b o, b ≠ I → s.heap.get? b = some o → h'.get? b = some o) → Q (some x) { s with heap := h' })
    (hn : ∀ h', r = none → (∀ b o, b ≠ I → s.heap.get? b = some o → h'.get? b = some o) → Q none { s with heap := h' }) : wpAny (model prog w) A (pyNext (.ref I)) Q E s := by
  have ty : s.TypeIs (.ref I) "set_iterator" := ⟨_, hI, rfl⟩
  unfold pyNext
  refine wpAny_bind (wpAny_attempt (wpAny_callSpecial?_slot (name := Str.ofString "__next__") ty slot_si (wpAny_call_entry slot_si ty entry_si ?_ (args_si _))))
  unfold Builtin.«set_iterator.__next__»
  refine wpAny_bind (wpAny_of_eq (a := (Value.ref I, [])) rfl ?_)
  refine wpAny_bind (wpAny_fieldsOf hI rfl ?_)
  dsimp only
  show wpAny _ _ (setEntries S >>= _) _ _ _
  refine wpAny_bind (wpAny_setEntries_of T.get rfl T.fits ?_)
  rw [if_neg (by simp)]
  show wpAny _ _ (setNext S ((slot : Nat) : Int).toNat ((i : Nat) : Int).toNat ((ep : Nat) : Int).toNat >>= _) _ _ _
  simp only [Int.toNat_natCast]
  have go : ∀ (r' : Option (Value × Nat)), r' = r → wpAny (model prog w) A.in1 (match r' with
      | some (x, next) => do
        setField (Value.ref I) 0 (rawInt (next : Int))
        setField (Value.ref I) 1 (rawInt ((i : Int) + 1))
        ret x
      | none => do
        setField (Value.ref I) 2 Value.none
        let e ← newExc (Value.type "StopIteration") []
        raiseNew e) (fun fin s' => ∃ r, fin = Fin.done (Flow.ret r) ∧ wpAny (model prog w) A (match (Except.ok (some r) : Except Value (Option Value)) with
          | Except.ok (some v) => pure (some v)
          | Except.ok none => unsupported "iter:the-iterator's-class-has-lost-its-__next__-amid-the-walk"
          | Except.error e => do if ← isInstance e (Value.type "StopIteration") then pure none else throw e) Q E s')
      (fun e s' => wpAny (model prog w) A (match (Except.error e : Except Value (Option Value)) with
          | Except.ok (some v) => pure (some v)
          | Except.ok none => unsupported "iter:the-iterator's-class-has-lost-its-__next__-amid-the-walk"
          | Except.error e => do if ← isInstance e (Value.type "StopIteration") then pure none else throw e) Q E s') s := fun r' er => by
    have other : ∀ (h1 : Heap) (f : Obj → Obj) b o, b ≠ I → h1.get? b = some o → (h1.update I f).get? b = some o := fun h1 f b o hb e => (Heap.get?_update_other _ _ (Ne.symm hb)).trans e
    cases r' with
    | some xn =>
      obtain ⟨x, nx⟩ := xn
      dsimp only
      have hd0 : (itObj (rawInt slot) i S es.size ep).data = .fields #[rawInt slot, rawInt i, .ref S, rawInt es.size, rawInt ep] := rfl
      refine wpAny_bind (wpAny_setField hI hd0 (by simp) ?_)
      have g1 := Heap.get?_update_self (Obj.mapFields (·.setIfInBounds 0 (rawInt (nx : Int)))) hI (by rfl)
      refine wpAny_bind (wpAny_setField g1 rfl (by simp) ?_)
      refine wpAny_pure ⟨x, rfl, wpAny_pure (hs x nx _ er.symm ?_ fun b o hb e => other _ _ b o hb (other _ _ b o hb e))⟩
      exact Heap.get?_update_self _ g1 (by rfl)
    | none =>
      dsimp only
      refine wpAny_bind (wpAny_setField hI rfl (by simp) ?_)
      refine wpAny_bind ?_
      unfold newExc
      unfold newTuple
      refine wpAny_bind (wpAny_newObj_type ?_ (by size_fits))
      refine wpAny_bind (m := firstArgMember _ _) (wpAny_of_eq (a := Value.none) (by first | rfl | (simp only [firstArgMember]; rfl)) (wpAny_newObj_type ?_ (by size_fits)))
      refine wpAny_raiseNew_none (show A.in1.handled = none from hh) ?_
      refine wpAny_bind (wpAny_isInstance (T := "StopIteration") (b := true) ⟨_, Heap.get?_push_size _ rfl, rfl⟩ stop_sub ?_)
      exact wpAny_pure (hn _ er.symm fun b o hb e => Heap.get?_push_of_some _ (Heap.get?_push_of_some _ (other _ _ b o hb e)))
  refine wpAny_bind (setNext_any T hd (fun z => go _ (h1 z).symm) (fun z => go _ (h2 z).symm))
end
end Rg
set_option maxHeartbeats 8000000
namespace Rg
open PySem PyProof.Rows
def plObj (ps : List Nat) : Obj := { cls := .type "tuple", data := .seq (ps.map fun p : Nat => rawInt (p : Int)).toArray }
theorem slot_sii : Slot "set_iterator" "__iter__" "set_iterator.__iter__" :=
  .of (n := "__iter__") (owner := "set_iterator") (by rw [typeLookup_type, builtinLookup_eq_fast]; kernel_rfl) (by decide +kernel) (by decide +kernel) (by decide +kernel) (by first | exact .inl (by decide +kernel) | exact .inr (by decide +kernel)) (by rw [isSubtype_type]; kernel_rfl)
theorem entry_sii : entryFor table "set_iterator.__iter__" = some Builtin.«dict_keyiterator.__iter__» := entryFor_alias (id' := "dict_keyiterator.__iter__") (by kernel_rfl) (by first | rfl | decide +kernel) (by decide +kernel) (by kernel_rfl)
theorem args_sii (a : Value) : argsOk "set_iterator.__iter__" ⟨[a], []⟩ := by unfold argsOk; kernel_rfl
section
variable {prog : Program} {w : World} {A : Around} {E : Value → Shared → Prop} {s : Shared} {I S Tp : Addr} {vals : List Int} {es : Array (Int × Value)} {ep : Nat} {t : SetTable}
theorem it_self {first : Value} {i : Int} {n : Nat} {Q : Value → Shared → Prop} (hI : s.heap.get? I = some (itObj first i S n ep)) (q : Q (.ref I) s) : wpAny (model prog w) A (pyIter (.ref I)) Q E s := by
  have ty : s.TypeIs (.ref I) "set_iterator" := ⟨_, hI, rfl⟩
  refine wpAny_pyIter_slot ty slot_sii (wpAny_call_entry slot_sii ty entry_sii ?_ (args_sii _))
  show wpAny _ _ (ret (.ref I)) _ _ s
  exact wpAny_pure ⟨_, rfl, "set_iterator", _, ty, slot_si.lookup, q⟩
theorem next_drawn {ps : List Nat} {i : Nat} {Q : Option Value → Shared → Prop} (hh : A.handled = none) (hI : s.heap.get? I = some (itObj (.ref Tp) i S es.size ep)) (hP : s.heap.get? Tp = some (plObj ps)) (T : SetT w s.heap S vals es ep t) (hps : ∀ p ∈ ps, p < es.size)
    (hs : ∀ p h', ps[i]? = some p → h'.get? I = some (itObj (.ref Tp) ((i : Int) + 1) S es.size ep) → (∀ b o, b ≠ I → s.heap.get? b = some o → h'.get? b = some o) → Q (some ((es.toList.map fun e => e.2).getD p .none)) { s with heap := h' })
    (hn : ∀ h', ps[i]? = none → (∀ b o, b ≠ I → s.heap.get? b = some o → h'.get? b = some o) → Q none { s with heap := h' }) : wpAny (model prog w) A (pyNext (.ref I)) Q E s := by
  have ty : s.TypeIs (.ref I) "set_iterator" := ⟨_, hI, rfl⟩
  have other : ∀ (h1 : Heap) (f : Obj → Obj) b o, b ≠ I → h1.get? b = some o → (h1.update I f).get? b = some o := fun h1 f b o hb e => (Heap.get?_update_other _ _ (Ne.symm hb)).trans e
  unfold pyNext
  refine wpAny_bind (wpAny_attempt (wpAny_callSpecial?_slot (name := Str.ofString "__next__") ty slot_si (wpAny_call_entry slot_si ty entry_si ?_ (args_si _))))
  unfold Builtin.«set_iterator.__next__»
  refine wpAny_bind (wpAny_of_eq (a := (Value.ref I, [])) rfl ?_)
  refine wpAny_bind (wpAny_fieldsOf hI rfl ?_)
  dsimp only
  show wpAny _ _ (setEntries S >>= _) _ _ _
  refine wpAny_bind (wpAny_setEntries_of T.get rfl T.fits ?_)
  rw [if_neg (by simp)]
  show wpAny _ _ (seqItems? (.ref Tp) >>= _) _ _ _
  refine wpAny_bind (wpAny_seqItems hP rfl ?_)
  dsimp only
  have ea : ((ps.map fun p : Nat => rawInt (p : Int)).toArray)[((i : Nat) : Int).toNat]? = (ps[i]?).map fun p : Nat => rawInt (p : Int) := by simp
  rw [ea]
  cases hp : ps[i]? with
  | some p =>
    have hlt := hps p (List.mem_of_getElem? hp)
    show wpAny _ _ (setNextDrawn S ((p : Nat) : Int).toNat ((ep : Nat) : Int).toNat >>= _) _ _ _
    simp only [Int.toNat_natCast]
    refine wpAny_bind ?_
    unfold setNextDrawn
    refine wpAny_bind (wpAny_setState_of T.get rfl T.fits ?_)
    dsimp only
    rw [if_neg (by simp)]
    have ex : es[p]? = some es[p] := Array.getElem?_eq_getElem hlt
    rw [ex]
    refine wpAny_pure ?_
    refine wpAny_bind (wpAny_setField hI rfl (by simp) ?_)
    have ev : (es.toList.get ⟨p, hlt⟩).2 = (es.toList.map fun e => e.2).getD p .none := by simp [List.getD_eq_getElem?_getD, hlt]
    refine wpAny_pure ⟨_, rfl, wpAny_pure ?_⟩
    show Q (some (es.toList.get ⟨p, hlt⟩).2) _
    rw [ev]
    exact hs p _ hp (Heap.get?_update_self _ hI (by rfl)) fun b o hb e => other _ _ b o hb e
  | none =>
    show wpAny _ _ (setField (Value.ref I) 0 (rawInt 0) >>= _) _ _ _
    refine wpAny_bind (wpAny_setField hI rfl (by simp) ?_)
    have g1 := Heap.get?_update_self (Obj.mapFields (·.setIfInBounds 0 (rawInt 0))) hI (by rfl)
    refine wpAny_bind (wpAny_setField g1 rfl (by simp) ?_)
    refine wpAny_bind ?_
    unfold newExc
    unfold newTuple
    refine wpAny_bind (wpAny_newObj_type ?_ (by size_fits))
    refine wpAny_bind (m := firstArgMember _ _) (wpAny_of_eq (a := Value.none) (by first | rfl | (simp only [firstArgMember]; rfl)) (wpAny_newObj_type ?_ (by size_fits)))
    refine wpAny_raiseNew_none (show A.in1.handled = none from hh) ?_
    refine wpAny_bind (wpAny_isInstance (T := "StopIteration") (b := true) ⟨_, Heap.get?_push_size _ rfl, rfl⟩ stop_sub ?_)
    exact wpAny_pure (hn _ hp fun b o hb e => Heap.get?_push_of_some _ (Heap.get?_push_of_some _ (other _ _ b o hb (other _ _ b o hb e))))
/-- a set, walked: its things in some order -/
def Ord (es : Array (Int × Value)) (vs : List Value) : Prop := vs.Perm (es.toList.map fun e => e.2)
theorem text_ord : Ord es ((pickOrder (w.params.setOrder S ep) es).toList.map (fun e : Int × Value => e.2)) := (pick_perm (w.params.setOrder S ep) es).map _
theorem walk_text (hh : A.handled = none) (hb : byText w = true) (hne : S ≠ I) : Walks prog w A I [I, S] [I] es.size (fun i v => ((pickOrder (w.params.setOrder S ep) es).toList.map (fun e : Int × Value => e.2))[i]? = some v) (fun i h => h.get? I = some (itObj (rawInt ((0 : Nat) : Int)) i S es.size ep) ∧ SetT w h S vals es ep t) := by
  have pp := pick_perm (w.params.setOrder S ep) es
  obtain ⟨os, hos⟩ : ∃ os, os = pickOrder (w.params.setOrder S ep) es := ⟨_, rfl⟩
  rw [← hos] at pp ⊢
  have sz : os.size = es.size := by have := pp.length_eq; simpa using this
  refine ⟨fun b hb => by simp at hb; simp [hb], fun i h h' st k => ⟨k I (by simp) _ st.1, st.2.at fun o e => k S (by simp) o e⟩, fun i s Q E hi st hQ => ?_, fun s Q E st hQ => ?_, fun i s Q E st hQ => ?_⟩
  · have eo : os[i]? = some os[i] := Array.getElem?_eq_getElem (by omega)
    refine next_slot hh st.1 st.2 (fun z => by rw [hb] at z; cases z) (some (os[i].2, 0)) (fun _ => by rw [← hos, eo]; rfl) (fun z => by rw [hb] at z; cases z) (fun x nx h' er e k => ?_) (fun h' er _ => nomatch er)
    cases er
    refine hQ _ h' s.toks (by simp [show i < os.size by omega]) ⟨e, st.2.at fun o e => k S o hne e⟩ fun b o hb' e => k b o (fun z => hb' (by simp [z])) e
  · have eo : os[es.size]? = none := Array.getElem?_eq_none (by omega)
    refine next_slot hh st.1 st.2 (fun z => by rw [hb] at z; cases z) none (fun _ => by rw [← hos, eo]; rfl) (fun z => by rw [hb] at z; cases z) (fun x nx h' er _ _ => nomatch er) (fun h' _ k => ?_)
    exact hQ h' s.toks fun b o hb' e => k b o (fun z => hb' (by simp [z])) e
  · exact it_self st.1 hQ
theorem walk_plain (hh : A.handled = none) (hb : byText w = false) (hd : (!t.plain && decide (es.size > 1)) = false) (hne : S ≠ I) (hT : SetT w s.heap S vals es ep t) :
    Walks prog w A I [I, S] [I] es.size (fun i v => (es.toList.map (fun e : Int × Value => e.2))[i]? = some v) (fun i h => (∃ slot : Nat, SetTable.below t.place slot = i ∧ h.get? I = some (itObj (rawInt (slot : Int)) i S es.size ep)) ∧ SetT w h S vals es ep t) := by
  have psz : t.place.size = es.size := by
    have := hT.fits
    unfold SetTable.fits at this
    rw [Bool.and_eq_true] at this
    exact eq_of_beq this.1
  have up := hT.tb.up
  have nxt : ∀ i, (hi : i < es.size) → SetTable.below t.place (t.place[i]'(by omega) + 1) = i + 1 := fun i hi => by
    obtain ⟨b1, b2, b3⟩ := below_spec (t.place[i]'(by omega) + 1) up
    have gD : ∀ j, (hj : j < t.place.size) → t.place.getD j 0 = t.place[j] := fun j hj => by simp [Array.getD, hj]
    have mono : ∀ a b, a < b → (hb : b < t.place.size) → t.place.getD a 0 < t.place.getD b 0 := fun a b hab hb => by
      have := List.pairwise_iff_getElem.mp up a b (by simp; omega) (by simpa using hb) hab
      rw [gD a (by omega), gD b hb]
      simpa using this
    generalize SetTable.below t.place (t.place[i]'(by omega) + 1) = p at *
    have hge : i + 1 ≤ p := by
      refine Nat.le_of_not_lt fun hlt => ?_
      have := b2 i (by omega) (by omega)
      rw [gD i (by omega)] at this
      (first | lia | omega)
    have hle : p ≤ i + 1 := by
      refine Nat.le_of_not_lt fun hlt => ?_
      have := b1 (i + 1) hlt
      have h2 := mono i (i + 1) (by omega) (by omega)
      rw [gD i (by omega)] at h2
      (first | lia | omega)
    (first | lia | omega)
  refine ⟨fun b hb => by simp at hb; simp [hb], fun i h h' st k => ⟨?_, st.2.at fun o e => k S (by simp) o e⟩, fun i s Q E hi st hQ => ?_, fun s Q E st hQ => ?_, fun i s Q E st hQ => ?_⟩
  · obtain ⟨slot, e1, e2⟩ := st.1
    exact ⟨slot, e1, k I (by simp) _ e2⟩
  · obtain ⟨⟨slot, e1, e2⟩, T⟩ := st
    have eo : es[i]? = some es[i] := Array.getElem?_eq_getElem hi
    have ep' : t.place[i]? = some (t.place[i]'(by omega)) := Array.getElem?_eq_getElem (by omega)
    refine next_slot hh e2 T (fun _ => hd) (some (es[i].2, t.place[i]'(by omega) + 1)) (fun z => by rw [hb] at z; cases z) (fun _ => by rw [e1, eo, ep']) (fun x nx h' er e k => ?_) (fun h' er _ => nomatch er)
    cases er
    refine hQ _ h' s.toks (by simp [hi]) ⟨⟨_, nxt i hi, e⟩, T.at fun o e => k S o hne e⟩ fun b o hb' e => k b o (fun z => hb' (by simp [z])) e
  · obtain ⟨⟨slot, e1, e2⟩, T⟩ := st
    have eo : es[es.size]? = none := Array.getElem?_eq_none (Nat.le_refl _)
    refine next_slot hh e2 T (fun _ => hd) none (fun z => by rw [hb] at z; cases z) (fun _ => by rw [e1, eo]) (fun x nx h' er _ _ => nomatch er) (fun h' _ k => ?_)
    exact hQ h' s.toks fun b o hb' e => k b o (fun z => hb' (by simp [z])) e
  · obtain ⟨⟨slot, e1, e2⟩, T⟩ := st
    exact it_self e2 hQ
theorem walk_drawn {ps : List Nat} (hh : A.handled = none) (hne : S ≠ I) (hnt : Tp ≠ I) (hps : ps.Perm (List.range es.size)) :
    Walks prog w A I [I, S, Tp] [I] es.size (fun i v => (ps.map fun p => (es.toList.map (fun e : Int × Value => e.2)).getD p .none)[i]? = some v) (fun i h => h.get? I = some (itObj (.ref Tp) i S es.size ep) ∧ h.get? Tp = some (plObj ps) ∧ SetT w h S vals es ep t) := by
  have hlt : ∀ p ∈ ps, p < es.size := fun p hp => List.mem_range.mp (hps.mem_iff.mp hp)
  have hlen : ps.length = es.size := by have := hps.length_eq; simpa using this
  refine ⟨fun b hb => by simp at hb; simp [hb], fun i h h' st k => ⟨k I (by simp) _ st.1, k Tp (by simp) _ st.2.1, st.2.2.at fun o e => k S (by simp) o e⟩, fun i s Q E hi st hQ => ?_, fun s Q E st hQ => ?_, fun i s Q E st hQ => it_self st.1 hQ⟩
  · refine next_drawn hh st.1 st.2.1 st.2.2 hlt (fun p h' er e k => ?_) (fun h' er _ => ?_)
    · exact hQ _ h' s.toks (by rw [List.getElem?_map, er]; rfl) ⟨e, k Tp _ hnt st.2.1, st.2.2.at fun o e => k S o hne e⟩ fun b o hb' e => k b o (fun z => hb' (by simp [z])) e
    · rw [List.getElem?_eq_none_iff] at er
      (first | lia | omega)
  · refine next_drawn hh st.1 st.2.1 st.2.2 hlt (fun p h' er _ _ => ?_) (fun h' er k => ?_)
    · have := (List.getElem?_eq_some_iff.mp er).1
      (first | lia | omega)
    · exact hQ h' s.toks fun b o hb' e => k b o (fun z => hb' (by simp [z])) e
end
end Rg
set_option maxHeartbeats 8000000
namespace Rg
open PySem PyProof.Rows
section
variable {prog : Program} {w : World} {A : Around} {E : Value → Shared → Prop} {s : Shared} {S : Addr} {vals : List Int} {es : Array (Int × Value)} {ep : Nat} {t : SetTable}
theorem ask_text {Q : Bool → Shared → Prop} (q : Q (byText w) s) : wpAny (model prog w) A setsByText Q E s := by
  unfold setsByText
  exact wpAny_bind (wpAny_askSetting (wpAny_pure q))
theorem drawn_any {Q : Bool → Shared → Prop} (T : SetT w s.heap S vals es ep t) (q : Q (!byText w && (!t.plain && decide (es.size > 1))) s) : wpAny (model prog w) A (setDrawn S) Q E s := by
  unfold setDrawn
  refine wpAny_bind (wpAny_setState_of T.get rfl T.fits ?_)
  dsimp only
  exact wpAny_bind (ask_text (wpAny_pure q))
/-- the walk that a set's iterator gives -/
structure Way (prog : Program) (w : World) (es : Array (Int × Value)) (old : Heap) (S I : Addr) (h : Heap) : Prop where
  ex : ∃ (fp : List Addr) (vs : List Value) (St : Nat → Heap → Prop), Ord es vs ∧ (∀ A' : Around, A'.handled = none → Walks prog w A' I fp [I] es.size (fun i v => vs[i]? = some v) St) ∧ St 0 h ∧ (∀ b ∈ fp, b < h.objs.size) ∧ I ∈ fp ∧ ∀ b ∈ fp, b = S ∨ old.get? b = none
theorem iter_set {Q : Value → Shared → Prop} (T : SetT w s.heap S vals es ep t) (h : ∀ I d h', Way prog w es s.heap S I h' → s.heap.get? I = none → (∀ b o, s.heap.get? b = some o → h'.get? b = some o) → Q (.ref I) { s with heap := h', drawn := d }) :
    wpAny (model prog w) A (pyIter (.ref S)) Q E s := by
  have ty : s.TypeIs (.ref S) "set" := ⟨_, T.get, rfl⟩
  have lt := Heap.lt_size T.get
  refine wpAny_pyIter_slot ty F.slot_set_iter (wpAny_call_entry F.slot_set_iter ty entry_sit ?_ (F.args_set_iter_1 _))
  unfold Builtin.«frozenset.__iter__»
  refine wpAny_bind (wpAny_of_eq (a := S) rfl ?_)
  unfold Builtin.Frozenset.sizeOf
  refine wpAny_bind (wpAny_bind (wpAny_setEntries_of T.get rfl T.fits (wpAny_pure ?_)))
  refine wpAny_bind (drawn_any T ?_)
  dsimp only
  have fin : ∀ (first : Value) (s1 : Shared) (I : Addr), I = s1.heap.objs.size → SetT w s1.heap S vals es ep t → (Q (.ref I) { s1 with heap := s1.heap.push (itObj first 0 S es.size ep) }) →
      wpAny (model prog w) A.in1 (do
        let e ← setEpoch S
        let r ← newFields "set_iterator" [first, rawInt 0, Value.ref S, rawInt es.size, rawInt e]
        ret r) (fun fin s' => ∃ v, fin = Fin.done (Flow.ret v) ∧ ∃ T' r, s'.TypeIs v T' ∧ typeLookup (Value.type T') (Str.ofString "__next__") = pure (some r) ∧ Q v s') E s1 := fun first s1 I eI T1 q => by
    refine wpAny_bind (wpAny_setEpoch_of T1.get rfl T1.fits ?_)
    unfold newFields
    refine wpAny_bind (wpAny_newObj_type ?_ (by size_fits))
    subst eI
    exact wpAny_pure ⟨_, rfl, "set_iterator", _, ⟨_, Heap.get?_push_size _ rfl, rfl⟩, slot_si.lookup, q⟩
  by_cases hb : (!byText w && (!t.plain && decide (es.size > 1))) = true
  · rw [if_pos hb]
    refine wpAny_bind (draw_any es.size (List.range es.size) s _ (by simp) fun ps d pp => ?_)
    refine wpAny_bind ?_
    unfold newTuple
    have plen : ps.length = es.size := by have := pp.length_eq; simpa using this
    refine wpAny_newObj_type ?_ (by
      show ((ps.map fun i : Nat => rawInt (i : Int)).toArray).size ≤ sizeLine
      have := fits_of_scanBound T.few
      simp; omega)
    have T1 : SetT w (s.heap.push (plObj ps)) S vals es ep t := T.at fun o e => Heap.get?_push_of_some _ e
    have sz1 : (s.heap.push (plObj ps)).objs.size = s.heap.objs.size + 1 := Heap.size_push _ _
    refine fin _ { s with heap := s.heap.push (plObj ps), drawn := d } (s.heap.objs.size + 1) sz1.symm T1 ?_
    have g1 : ((s.heap.push (plObj ps)).push (itObj (.ref s.heap.objs.size) 0 S es.size ep)).get? (s.heap.objs.size + 1) = some (itObj (.ref s.heap.objs.size) 0 S es.size ep) := by rw [← sz1]; exact Heap.get?_push_size _ rfl
    have g2 : ((s.heap.push (plObj ps)).push (itObj (.ref s.heap.objs.size) 0 S es.size ep)).get? s.heap.objs.size = some (plObj ps) := Heap.get?_push_of_some _ (Heap.get?_push_size _ rfl)
    have T2 : SetT w ((s.heap.push (plObj ps)).push (itObj (.ref s.heap.objs.size) 0 S es.size ep)) S vals es ep t := T1.at fun o e => Heap.get?_push_of_some _ e
    refine h _ d _ ⟨[s.heap.objs.size + 1, S, s.heap.objs.size], _, _, ?_, fun A' hA => walk_drawn (vals := vals) (ep := ep) (t := t) hA (Nat.ne_of_lt (Nat.lt_succ_of_lt lt)) (Nat.ne_of_lt (Nat.lt_succ_self _)) pp, ⟨g1, g2, T2⟩, fun b hb' => ?_, by simp, fun b hb' => ?_⟩ (Heap.get?_none_of_le (Nat.le_succ _)) fun b o e => Heap.get?_push_of_some _ (Heap.get?_push_of_some _ e)
    · unfold Ord
      refine (pp.map _).trans ?_
      have e2 : (List.range es.size).map (fun p => (es.toList.map (fun e : Int × Value => e.2)).getD p .none) = es.toList.map (fun e : Int × Value => e.2) := by
        apply List.ext_getElem?
        intro i
        rw [List.getElem?_map]
        by_cases hi : i < es.size
        · rw [List.getElem?_range hi]; simp [List.getD_eq_getElem?_getD, hi]
        · rw [List.getElem?_eq_none (by simpa using hi), List.getElem?_eq_none (by simpa using hi)]; rfl
      rw [e2]
    · rw [Heap.size_push, sz1]
      have hb2 : b = s.heap.objs.size + 1 ∨ b = S ∨ b = s.heap.objs.size := by simpa using hb'
      rcases hb2 with z | z | z
      · rw [z]; exact Nat.lt_succ_self _
      · rw [z]; exact Nat.lt_succ_of_lt (Nat.lt_succ_of_lt lt)
      · rw [z]; exact Nat.lt_succ_of_lt (Nat.lt_succ_self _)
    · have hb2 : b = s.heap.objs.size + 1 ∨ b = S ∨ b = s.heap.objs.size := by simpa using hb'
      rcases hb2 with z | z | z
      · exact .inr (by rw [z]; exact Heap.get?_none_of_le (Nat.le_succ _))
      · exact .inl z
      · exact .inr (by rw [z]; exact Heap.get?_none_of_le (Nat.le_refl _))
  · rw [if_neg hb]
    refine wpAny_bind (wpAny_pure ?_)
    have T2 : SetT w (s.heap.push (itObj (rawInt 0) 0 S es.size ep)) S vals es ep t := T.at fun o e => Heap.get?_push_of_some _ e
    have g1 : (s.heap.push (itObj (rawInt 0) 0 S es.size ep)).get? s.heap.objs.size = some (itObj (rawInt 0) 0 S es.size ep) := Heap.get?_push_size _ rfl
    refine fin _ s s.heap.objs.size rfl T ?_
    have lt' : ∀ b ∈ [s.heap.objs.size, S], b < (s.heap.push (itObj (rawInt 0) 0 S es.size ep)).objs.size := fun b hb' => by
      rw [Heap.size_push]
      have hb2 : b = s.heap.objs.size ∨ b = S := by simpa using hb'
      rcases hb2 with z | z
      · rw [z]; exact Nat.lt_succ_self _
      · rw [z]; exact Nat.lt_succ_of_lt lt
    have old' : ∀ b ∈ [s.heap.objs.size, S], b = S ∨ s.heap.get? b = none := fun b hb' => by
      have hb2 : b = s.heap.objs.size ∨ b = S := by simpa using hb'
      rcases hb2 with z | z
      · exact .inr (by rw [z]; exact Heap.get?_none_of_le (Nat.le_refl _))
      · exact .inl z
    refine h _ s.drawn _ ?_ (Heap.get?_none_of_le (Nat.le_refl _)) fun b o e => Heap.get?_push_of_some _ e
    cases ht : byText w with
    | true =>
      exact ⟨[s.heap.objs.size, S], _, _, text_ord (w := w) (S := S) (ep := ep), fun A' hA => walk_text (vals := vals) (t := t) hA ht (Nat.ne_of_lt lt), ⟨g1, T2⟩, lt', by simp, old'⟩
    | false =>
      have hd : (!t.plain && decide (es.size > 1)) = false := by
        rw [ht] at hb
        simpa using hb
      refine ⟨[s.heap.objs.size, S], _, _, List.Perm.refl _, fun A' hA => walk_plain (vals := vals) (ep := ep) (t := t) (s := s) hA ht hd (Nat.ne_of_lt lt) T, ⟨⟨0, ?_, g1⟩, T2⟩, lt', by simp, old'⟩
      obtain ⟨b1, b2, b3⟩ := below_spec 0 T.tb.up
      refine Nat.eq_zero_of_not_pos fun hp => ?_
      have := b1 0 hp
      (first | lia | omega)
end
end Rg
set_option maxHeartbeats 8000000
namespace Rg
open PySem PyProof.Rows
section
variable {prog : Program} {w : World} {A : Around} {E : Value → Shared → Prop} {s : Shared} {S : Addr} {vals : List Int} {es : Array (Int × Value)} {ep : Nat} {t : SetTable}
theorem hint_set {Q : Bool → Shared → Prop} (T : SetT w s.heap S vals es ep t) (q : Q false s) : wpAny (model prog w) A (Builtin.List.listLengthHint (.ref S)) Q E s := by
  have ty : s.TypeIs (.ref S) "set" := ⟨_, T.get, rfl⟩
  have sp : splitId "set.__len__" = some ("set", "__len__") := by decide +kernel
  unfold Builtin.List.listLengthHint
  refine wpAny_bind (wpAny_specialOf ty F.slot_set_len.lookup ?_)
  simp only [sp]
  refine wpAny_bind (wpAny_isInstance ty sub_set_self ?_)
  rw [if_neg (by decide)]
  rw [if_pos (by decide +kernel)]
  refine wpAny_bind (wpAny_typeOf ty ?_)
  exact wpAny_pure q
theorem collect_set {Q : List Value → Shared → Prop} (hh : A.handled = none) (T : SetT w s.heap S vals es ep t) (h : ∀ vs h' tk d, Ord es vs → (∀ b o, s.heap.get? b = some o → h'.get? b = some o) → s.heap.objs.size ≤ h'.objs.size → Q vs { s with heap := h', toks := tk, drawn := d }) :
    wpAny (model prog w) A (collect (.ref S)) Q E s := by
  have lt := Heap.lt_size T.get
  have ne : s.heap.objs.size ≠ S := Nat.ne_of_gt lt
  obtain ⟨L, hL⟩ : ∃ L, L = s.heap.objs.size := ⟨_, rfl⟩
  unfold collect
  refine wpAny_bind (wpAny_runValue (codeAny_builtin F.entry_proto_collect ?_))
  rw [Around.under_plainId F.plain_proto_collect _]
  show wpAny _ A.in1 (newList [] >>= fun l => again (.builtin "list.__iadd__" ⟨[l, .ref S], []⟩)) _ _ s
  refine wpAny_bind (wpAny_newObj_type (wpAny_pure ⟨plainId_quiet F.plain_list_iadd _, codeAny_builtin F.entry_list_iadd ?_⟩))
  rw [Around.under_plainId F.plain_list_iadd _]
  obtain ⟨s1, hs1⟩ : ∃ s1 : Shared, s1 = { s with heap := s.heap.push { cls := .type "list", data := .seq ([] : List Value).toArray } } := ⟨_, rfl⟩
  have T1 : SetT w s1.heap S vals es ep t := by rw [hs1]; exact T.at fun o e => Heap.get?_push_of_some _ e
  have gL : s1.heap.get? L = some { cls := .type "list", data := .seq ([] : List Value).toArray } := by rw [hs1, hL]; exact Heap.get?_push_size _ rfl
  have k1 : ∀ b o, s.heap.get? b = some o → s1.heap.get? b = some o := fun b o e => by rw [hs1]; exact Heap.get?_push_of_some _ e
  show wpAny _ A.in1 (Builtin.List.listExtendWith (.ref s.heap.objs.size) (.ref S) (.ref s.heap.objs.size)) _ _ { s with heap := s.heap.push { cls := .type "list", data := .seq ([] : List Value).toArray } }
  rw [← hs1, ← hL]
  have ty : s1.TypeIs (.ref S) "set" := ⟨_, T1.get, rfl⟩
  unfold Builtin.List.listExtendWith
  refine wpAny_bind (wpAny_typeOf ty ?_)
  have n1 : Builtin.List.listSameRef (.ref L) (.ref S) = false := by rw [hL]; simp [Builtin.List.listSameRef, ne]
  rw [if_neg (by rw [n1]; decide)]
  refine wpAny_bind (iter_set T1 fun I d h2 way nI k2 => ?_)
  have T2 : SetT w h2 S vals es ep t := T1.at fun o e => k2 S o e
  refine wpAny_bind (wpAny_holding (hint_set (s := { s1 with heap := h2, drawn := d }) T2 ?_))
  show wpAny _ A.in1 (rule "list.extend.makes-room" >>= fun _ => Builtin.List.listTouch (.ref L) >>= fun _ => again (.builtin "list.extend.loop" ⟨[.ref L, .ref I, .ref L], []⟩)) _ _ _
  refine wpAny_bind (wpAny_rule (wpAny_bind ?_))
  have g2 := k2 L _ gL
  show wpAny _ A.in1 (updateSeq L (·.push .none) >>= fun _ => updateSeq L (·.pop)) _ _ _
  refine wpAny_bind (wpAny_updateSeq g2 rfl ?_)
  have g3 := Heap.get?_update_self (Obj.mapSeq (·.push Value.none)) g2 rfl
  refine wpAny_updateSeq g3 rfl ?_
  have g4 := Heap.get?_update_self (Obj.mapSeq (·.pop)) g3 rfl
  obtain ⟨h4, hh4⟩ : ∃ h4, h4 = (h2.update L (Obj.mapSeq (·.push Value.none))).update L (Obj.mapSeq (·.pop)) := ⟨_, rfl⟩
  have k4 : ∀ b o, b ≠ L → h2.get? b = some o → h4.get? b = some o := fun b o hb e => by rw [hh4]; exact (Heap.get?_update_other _ _ (Ne.symm hb)).trans ((Heap.get?_update_other _ _ (Ne.symm hb)).trans e)
  obtain ⟨fp, vs, St, ho, W, st, fl, fI, fo⟩ := way.ex
  have Lf : L ∉ fp := fun hm => by
    rcases fo L hm with z | z
    · exact ne (hL ▸ z)
    · rw [gL] at z; cases z
  have WS := (W A.in1 hh).toS
  have vlen : vs.length = es.size := by have := ho.length_eq; simpa using this
  have st4 : St 0 h4 := (W A.in1 hh).frame 0 h2 h4 st fun b hb o e => k4 b o (fun z => Lf (z ▸ hb)) e
  have g5 : h4.get? L = some { cls := .type "list", dict := none, data := .seq #[] (0 + 1 + 1), slots := #[] } := by rw [hh4]; exact g4
  rw [← hh4]
  refine wpAny_pure ⟨plainId_quiet F.plain_extend_loop _, codeAny_extend_loopS WS (fits_of_scanBound T.few) L Lf (.ref L) es.size 0 _ #[] _ rfl (Nat.zero_le _) st4 g5 (ItemsOf.nil _) fun s' acc c' hm hS' hacc => ?_⟩
  show wpAny _ A (load L >>= _) _ _ s'
  refine wpAny_bind (wpAny_load hS' (wpAny_pure ?_))
  have ev : acc.toList = vs := by
    have hl : acc.toList.length = vs.length := by rw [vlen]; simpa using hacc.1
    apply List.ext_getElem?
    intro j
    by_cases hj : j < acc.size
    · have e1 : acc[j]? = some acc[j] := Array.getElem?_eq_getElem hj
      have e2 := hacc.2 j _ e1
      rw [Array.getElem?_toList, e1, e2]
    · rw [List.getElem?_eq_none (by simpa using hj), List.getElem?_eq_none (by rw [← hl]; simpa using hj)]
  have e3 : s' = { s with heap := s'.heap, toks := s'.toks, drawn := s'.drawn } := by
    obtain ⟨a1, a2, a3, a4, a5⟩ := s'
    have q1 := hm.gens
    have q2 := hm.os
    rw [hs1] at q1 q2
    dsimp only at q1 q2
    rw [q1, q2]
  show Q acc.toList s'
  rw [ev, e3]
  refine h vs _ _ _ ho (fun b o e => ?_) (by rw [← hL]; exact Nat.le_of_lt (Heap.lt_size hS'))
  have bL : b ≠ L := fun z => by rw [z, hL] at e; exact absurd (Heap.lt_size e) (Nat.lt_irrefl _)
  refine hm.heap b o (fun z => ?_) (k4 b o bL (k2 b o (k1 b o e)))
  have z2 : b = L ∨ b = I := by simpa using z
  rcases z2 with z | z
  · exact bL z
  · rw [z] at e
    have := k1 I o e
    rw [nI] at this
    cases this
theorem ord_ints {h : Heap} (T : SetT w h S vals es ep t) {vs : List Value} (ho : Ord es vs) : ∃ ns, IntsAre vs ns ∧ ns.Perm vals := by
  have h1 : ∀ v ∈ vs, ∃ k tk, v = Value.int k tk := fun v hv => by
    obtain ⟨e, he, rfl⟩ := List.mem_map.mp (ho.mem_iff.mp hv)
    obtain ⟨k, tk, rfl⟩ := T.els e he
    exact ⟨k, tk, rfl⟩
  have h2 : ∀ l : List Value, (∀ v ∈ l, ∃ k tk, v = Value.int k tk) → IntsAre l (l.map numOf) := fun l => by
    induction l with
    | nil => intro _; exact .nil
    | cons v r ih =>
      intro hv
      obtain ⟨k, tk, rfl⟩ := hv v List.mem_cons_self
      exact .cons k tk (ih fun x hx => hv x (List.mem_cons_of_mem _ hx))
  refine ⟨vs.map numOf, h2 vs h1, (ho.map _).trans ?_⟩
  rw [List.map_map]
  exact T.pm
theorem sorted_set {Q : Value → Shared → Prop} (hh : A.handled = none) (T : SetT w s.heap S vals es ep t)
    (h : ∀ (r : Addr) (out : List Value) (ns : List Int) (c : Nat) (h' : Heap) (tk : Nat) (d : Drawn), IntsAre out ns → ns.Perm vals → ns.Pairwise (· ≤ ·) → s.heap.objs.size ≤ r → h'.get? r = some { cls := .type "list", data := .seq out.toArray c } → (∀ b o, s.heap.get? b = some o → h'.get? b = some o) → Q (.ref r) { s with heap := h', toks := tk, drawn := d }) :
    wpAny (model prog w) A (call (.builtin "sorted") [.ref S]) Q E s := by
  refine Calls.call_function_entry kind_sorted plain_sorted entry_sorted (args_sorted1 _) ?_
  unfold Builtin.«sorted»
  have hh1 : A.in1.handled = none := hh
  refine wpAny_bind (m := checkCount "sorted" 1 1 _) (wpAny_pure (wpAny_bind (collect_set hh1 T fun vs h1 tk d ho k1 le => ?_)))
  obtain ⟨ns, hi, hp⟩ := ord_ints T ho
  have hz : vs.length ≤ sizeLine := by
    have e1 := ho.length_eq
    have e2 := fits_of_scanBound T.few
    simp at e1
    (first | lia | omega)
  refine wpAny_bind (wpAny_newList ?_ hz)
  have e2 : (h1.push (seqObj "list" vs.toArray 0)).get? h1.objs.size = some (seqObj "list" vs.toArray 0) := Heap.get?_push_size _ rfl
  refine wpAny_bind (wpAny_holding (wpAny_call_entry slot_list_sort ⟨_, e2, rfl⟩ entry_list_sort (sort_in_place e2 hi hz fun out ns' a1 a2 a3 => ⟨_, rfl, ?_⟩) (args_list_sort _)))
  refine wpAny_pure ⟨_, rfl, ?_⟩
  obtain ⟨c, hc⟩ := sortedHeap_at (out := out) (vs := vs) e2
  refine h h1.objs.size out.toList ns' c _ tk d a1 (a2.trans hp) a3 le ?_ fun b o e => ?_
  · rw [show out.toList.toArray = out by simp]; exact hc
  · have lt := Heap.lt_size (k1 b o e)
    rw [sortedHeap_old (Nat.ne_of_lt lt) (by rw [Heap.size_push]; exact Nat.lt_succ_of_lt lt)]
    exact Heap.get?_push_of_some _ (k1 b o e)
end
end Rg
namespace L2
open PySem PySem.Spec PyProof.Rows
/-! ### sets of ints, made and sorted -/
def setO (w : World) (a : Addr) (vals : List Int) : HO := .ext fun h => ∃ es ep t, Rg.SetT w h a vals es ep t
theorem setO_ok {P : Program} {w : World} {H : Hp} {h : Heap} {a : Addr} {vals : List Int} {es : Array (Int × Value)} {ep : Nat} {t : SetTable} (T : Rg.SetT w h a vals es ep t) : ObjOk P w H h a (setO w a vals) :=
  ⟨⟨es, ep, t, T⟩, ⟨_, T.get⟩, fun h1 h2 ⟨es, ep, t, T'⟩ k => ⟨es, ep, t, T'.at k⟩⟩
section
variable {X : Cx}
def rSetOf (w : World) (K : PySem.W.Frag) : List V → Hp → VK → Prop := fun xs H Q => ∃ (p : Addr) (ns : List Int), xs = [.ref p] ∧ SqL K H p (ns.map V.int) ∧ ns.length ≤ 4000 ∧ ∀ S, H S = none → Q (.ref S) (upd H S (setO w S (Rg.dds [] ns)))
theorem call_set_of (hc : X.calm = true) : CallR X (.type "set") (rSetOf X.w X.K) := by
  intro pins s σ H xs us Q I r h
  obtain ⟨p, ns, rfl, hp, hl, q⟩ := h
  obtain ⟨u, rfl, ru⟩ := r.one
  cases (show u = Value.ref p from ru)
  obtain ⟨its, rv, pl, hz⟩ := I.list hp
  have hi := ints_vals rv
  have hlen : its.length = ns.length := hi.length
  refine Rg.set_call (I.ok.hd hc) pl.isList (by simpa using hi) (by simp [hlen, scanBound]; omega) fun h' tk es ep t T k => ?_
  have fr : H s.heap.objs.size = none := I.hok.fresh (Nat.le_refl _)
  exact ⟨.ref s.heap.objs.size, _, I.laid (t' := tk) (o := setO X.w s.heap.objs.size (Rg.dds [] ns)) k (Nat.le_refl _) (setO_ok T), rfl, q _ fr⟩
def rSrtSet (w : World) : List V → Hp → VK → Prop := fun xs H Q => ∃ (S : Addr) (vals : List Int), xs = [.ref S] ∧ H S = some (setO w S vals) ∧ ∀ l, H l = none → Q (.ref l) (upd H l (.lst ((Rg.srt vals).map V.int)))
theorem call_srt_set (hc : X.calm = true) : CallR X (.builtin "sorted") (rSrtSet X.w) := by
  intro pins s σ H xs us Q I r h
  obtain ⟨S, vals, rfl, hS, q⟩ := h
  obtain ⟨u, rfl, ru⟩ := r.one
  cases (show u = Value.ref S from ru)
  obtain ⟨⟨es, ep, t, T⟩, _⟩ := I.hok S _ hS
  refine Rg.sorted_set (I.ok.hd hc) T fun l out ns c h' tk d a1 a2 a3 le g k => ?_
  have fr : H l = none := I.hok.fresh le
  have e3 : ns = Rg.srt vals := Rg.srt_unique a2 a3
  have hz : (ns.map V.int).length ≤ sizeLine := by
    rw [List.length_map, a2.length_eq, ← T.size]
    exact fits_of_scanBound T.few
  have new : ObjOk X.prog X.w (upd H l (.lst (ns.map V.int))) h' l (.lst (ns.map V.int)) := ⟨hz, out, c, vals_ints a1, g⟩
  refine ⟨.ref l, _, I.call' (s' := { s with heap := h', toks := tk, drawn := d }) (ch := []) rfl (Un.laid k le fr) (I.hok.laid k le new) I.bare (fun b z => absurd z (by simp)), rfl, ?_⟩
  rw [e3]
  exact q _ fr
end
end L2
namespace Rg
open PySem
section
variable {prog : Program} {w : World} {A : Around} {E : Value → Shared → Prop} {s : Shared} {I l S : Addr} {items : Array Value}
end
end Rg
namespace L2
open PySem PySem.Spec PyProof.Rows
section
variable {X : Cx}
end
end L2
namespace Rg
/-! ### rising lists -/
theorem rise_of_adj : ∀ {l : List Int}, (∀ i, i + 1 < l.length → l.getD i 0 < l.getD (i + 1) 0) → l.Pairwise (· < ·)
  | [], _ => .nil
  | [a], _ => List.pairwise_singleton _ _
  | a :: b :: r, h => by
    have ih : (b :: r).Pairwise (· < ·) := rise_of_adj fun i hi => by
      have := h (i + 1) (by simp at hi ⊢; omega)
      simpa using this
    have h0 : a < b := by
      have := h 0 (by simp)
      simpa using this
    refine List.pairwise_cons.mpr ⟨fun x hx => ?_, ih⟩
    rcases List.mem_cons.mp hx with z | z
    · (first | lia | omega)
    · have := (List.pairwise_cons.mp ih).1 x z
      (first | lia | omega)
theorem adj_of_rise {l : List Int} (h : l.Pairwise (· < ·)) (i : Nat) (hi : i + 1 < l.length) : l.getD i 0 < l.getD (i + 1) 0 := by
  have := List.pairwise_iff_getElem.mp h i (i + 1) (by omega) hi (by omega)
  simpa [List.getD_eq_getElem?_getD, show i < l.length by omega, hi] using this
theorem rise_le {l : List Int} (h : l.Pairwise (· < ·)) : l.Pairwise (· ≤ ·) := h.imp fun h => by (first | lia | omega)
theorem rise_nodup {l : List Int} (h : l.Pairwise (· < ·)) : l.Nodup := h.imp fun h => by (first | lia | omega)
theorem dds_id : ∀ (l acc : List Int), l.Nodup → (∀ x ∈ l, ¬ x ∈ acc) → dds acc l = acc ++ l
  | [], acc, _, _ => by simp [dds]
  | x :: r, acc, hn, hd => by
    rw [List.nodup_cons] at hn
    rw [dds, if_neg (hd x List.mem_cons_self), dds_id r _ hn.2 (fun y hy hm => ?_)]
    · simp
    · rcases List.mem_append.mp hm with z | z
      · exact hd y (List.mem_cons_of_mem _ hy) z
      · have : y = x := by simpa using z
        subst this
        exact hn.1 hy
/-- a rising list from nought: all between -/
theorem rise_between {l : List Int} (h : l.Pairwise (· < ·)) (h0 : l.getD 0 0 = 0) : ∀ p ∈ l, 0 ≤ p ∧ p ≤ l.getD (l.length - 1) 0 := fun p hp => by
  obtain ⟨i, hi, rfl⟩ := List.mem_iff_getElem.mp hp
  have g : ∀ j (hj : j < l.length), l.getD j 0 = l[j] := fun j hj => by simp [List.getD_eq_getElem?_getD, hj]
  constructor
  · rcases Nat.eq_zero_or_pos i with z | z
    · subst z; rw [← g 0 hi, h0]; exact Int.le_refl _
    · have := List.pairwise_iff_getElem.mp h 0 i (by omega) hi z
      rw [← g 0 (by omega), h0] at this
      (first | lia | omega)
  · rw [g (l.length - 1) (by omega)]
    rcases Nat.lt_or_ge i (l.length - 1) with z | z
    · have := List.pairwise_iff_getElem.mp h i (l.length - 1) hi (by omega) z
      (first | lia | omega)
    · have : i = l.length - 1 := by (first | lia | omega)
      subst this
      exact Int.le_refl _
/-! ### mirrored -/
def mirr (ps : List Int) : List Int := ps.reverse.map fun p => ps.getD (ps.length - 1) 0 - p
/-! ### spread -/
def spr (ps : List Int) : List Int := bump ((List.replicate (ps.getD (ps.length - 1) 0 + 1).toNat (0 : Int)).set 0 (ps.length : Int)) (srt (fnd ps))
def rowsOf (ps : List Int) : List Int := bump (List.replicate (ps.getD (ps.length - 1) 0 + 1).toNat (0 : Int)) (pairs ps)
theorem fnd_in {ps : List Int} (h : ps.Pairwise (· < ·)) (h0 : ps.getD 0 0 = 0) : ∀ d ∈ fnd ps, 1 ≤ d ∧ d ≤ ps.getD (ps.length - 1) 0 := fun d hd => ⟨fnd_pos h d hd, fnd_le (rise_between h h0) d hd⟩
theorem pairs_in {ps : List Int} (h : ps.Pairwise (· < ·)) (h0 : ps.getD 0 0 = 0) : ∀ d ∈ pairs ps, 0 ≤ d ∧ d ≤ ps.getD (ps.length - 1) 0 := fun d hd => by
  unfold pairs at hd
  obtain ⟨a, ha, hd⟩ := List.mem_flatMap.mp hd
  obtain ⟨b, hb, rfl⟩ := List.mem_map.mp hd
  have hb' := List.mem_filter.mp hb
  have h1 : a ≤ b := by simpa using hb'.2
  have h2 := rise_between h h0 a ha
  have h3 := rise_between h h0 b hb'.1
  (first | lia | omega)
theorem spr_rows {ps : List Int} (h : ps.Pairwise (· < ·)) (h0 : ps.getD 0 0 = 0) (h1 : 1 ≤ ps.length) : spr ps = rowsOf ps := by
  have hL : 0 ≤ ps.getD (ps.length - 1) 0 := by
    have := rise_between h h0 (ps.getD 0 0) (by
      have : ps.getD 0 0 = ps[0] := by simp [List.getD_eq_getElem?_getD, show 0 < ps.length by omega]
      rw [this]; exact List.getElem_mem _)
    (first | lia | omega)
  obtain ⟨L, eL⟩ : ∃ L, L = ps.getD (ps.length - 1) 0 := ⟨_, rfl⟩
  unfold spr rowsOf
  have fi := fnd_in h h0
  have pi := pairs_in h h0
  rw [← eL] at hL fi pi ⊢
  refine ext_getD ?_ fun i hi => ?_
  · rw [bump_len, bump_len, List.length_set]
  rw [bump_len, List.length_set, List.length_replicate] at hi
  rw [bump_at, bump_at, pairs_count h, (srt_perm (fnd ps)).count_eq]
  · by_cases z : i = 0
    · subst z
      have e1 : ((List.replicate (L + 1).toNat (0 : Int)).set 0 (ps.length : Int)).getD 0 0 = (ps.length : Int) := by
        rw [List.getD_eq_getElem?_getD, List.getElem?_set_self (by rw [List.length_replicate]; omega)]
        rfl
      have e2 : (List.replicate (L + 1).toNat (0 : Int)).getD 0 0 = 0 := by
        rw [List.getD_eq_getElem?_getD, List.getElem?_replicate]
        split <;> rfl
      rw [e1, e2]
      simp
    · have e1 : ((List.replicate (L + 1).toNat (0 : Int)).set 0 (ps.length : Int)).getD i 0 = 0 := by
        rw [List.getD_eq_getElem?_getD, List.getElem?_set_ne (Ne.symm z), List.getElem?_replicate]
        split <;> rfl
      have e2 : (List.replicate (L + 1).toNat (0 : Int)).getD i 0 = 0 := by
        rw [List.getD_eq_getElem?_getD, List.getElem?_replicate]
        split <;> rfl
      have e3 : ¬ (i : Int) = 0 := by (first | lia | omega)
      rw [e1, e2, if_neg e3]
      simp
  · intro d hd
    have := pi d hd
    rw [List.length_replicate]
    (first | lia | omega)
  · rw [List.length_replicate]; exact hi
  · intro d hd
    have := fi d (srt_mem.mp hd)
    rw [List.length_set, List.length_replicate]
    (first | lia | omega)
  · rw [List.length_set, List.length_replicate]; exact hi
end Rg
namespace L2
open PySem PySem.Spec PyProof.Rows
section
variable {X : Cx}
/-- len of a set of ints -/
def rLenSet (w : World) : List V → Hp → VK → Prop := fun xs H Q => ∃ (S : Addr) (vals : List Int), xs = [.ref S] ∧ H S = some (setO w S vals) ∧ Q (.int vals.length) H
theorem call_lenSet : CallR X (.builtin "len") (rLenSet X.w) := by
  intro pins s σ H xs us Q I r h
  obtain ⟨S, vals, rfl, hS, q⟩ := h
  obtain ⟨u, rfl, ru⟩ := r.one
  cases (show u = Value.ref S from ru)
  obtain ⟨⟨es, ep, t, T⟩, _⟩ := I.hok S _ hS
  have hn : es.size = vals.length := T.size
  have hf := T.few
  have hb : scanBound < 9223372036854775808 := by decide
  refine call_len_set T.get ?_ rfl T.fits (by show ((es.size : Nat) : Int) < 9223372036854775808; omega) ?_
  · exact ⟨rfl, rfl, rfl⟩
  exact ⟨.int vals.length, H, I.tok _, ⟨_, by rw [hn]⟩, q⟩
end
end L2
namespace Rg
theorem dds_short {l : List Int} : (dds [] l).length < l.length ↔ ¬ l.Nodup := by
  constructor
  · intro h n
    rw [dds_id l [] n (by simp)] at h
    simp at h
  · intro h
    by_cases z : (dds [] l).length < l.length
    · exact z
    exfalso
    apply h
    have gen : ∀ (l acc : List Int), acc.Nodup → acc.length + l.length ≤ (dds acc l).length → (acc ++ l).Nodup := by
      intro l
      induction l with
      | nil => intro acc h _; simpa using h
      | cons x r ih =>
        intro acc h1 h2
        rw [dds] at h2
        by_cases hx : x ∈ acc
        · rw [if_pos hx] at h2
          have := dds_len r acc
          rw [List.length_cons] at h2
          (first | lia | omega)
        · rw [if_neg hx] at h2
          have h3 : (acc ++ [x]).Nodup := by
            rw [List.nodup_append]
            refine ⟨h1, by simp, fun a ha b hb => ?_⟩
            have : b = x := by simpa using hb
            subst this
            exact fun e => hx (e ▸ ha)
          have := ih (acc ++ [x]) h3 (by rw [List.length_append]; rw [List.length_cons] at h2; simp; omega)
          rw [List.append_assoc] at this
          exact this
    have := gen l [] List.nodup_nil (by simpa using z)
    simpa using this
end Rg
/-! max(xs, default=d), min(xs, default=d) of a list of ints: the greatest, the least, or d. -/
namespace L2
open PySem PySem.Spec PyProof.Rows
section
variable {prog : Program} {w : World} {A : Around} {R : Result → Shared → Prop} {I : Addr} {fp wr : List Addr} {n : Nat} {P : Nat → Value → Prop} {St : Nat → Heap → Prop}
end
section
variable {X : Cx} {p pos kpos : Pos} {e d : Expr} {ta tk : TA}
end
section
variable {prog : Program} {w : World} {A : Around} {R : Result → Shared → Prop} {I : Addr} {fp wr : List Addr} {n : Nat} {P : Nat → Value → Prop} {St : Nat → Heap → Prop}
end
section
variable {X : Cx} {p pos kpos : Pos} {e d : Expr} {ta tk : TA}
end
end L2
/-! max(xs) of a list of ints that is not empty. -/
namespace L2
open PySem PySem.Spec PyProof.Rows
section
variable {prog : Program} {w : World} {A : Around} {R : Result → Shared → Prop} {I : Addr} {fp wr : List Addr} {n : Nat} {P : Nat → Value → Prop} {St : Nat → Heap → Prop}
end
section
variable {X : Cx} {p pos kpos : Pos} {e d : Expr} {ta tk : TA}
end
end L2
/-! NEW DATA: trees of lists and tuples, each of whose nodes was not there before. -/
namespace L2
open PySem PySem.Spec PyProof.Rows
mutual
inductive DtN (H0 H : Hp) : V → PyData → Prop where
  | non : DtN H0 H .non .none
  | bl (b : Bool) : DtN H0 H (.bl b) (.bool b)
  | int (i : Int) : DtN H0 H (.int i) (.int i)
  | lst {a : Addr} {xs : List V} {ds : List PyData} : H0 a = none → H a = some (.lst xs) → DtNs H0 H xs ds → DtN H0 H (.ref a) (.list ds)
  | tup {a : Addr} {xs : List V} {ds : List PyData} : H0 a = none → H a = some (.tup xs) → DtNs H0 H xs ds → DtN H0 H (.ref a) (.tuple ds)
inductive DtNs (H0 H : Hp) : List V → List PyData → Prop where
  | nil : DtNs H0 H [] []
  | cons {x : V} {xs : List V} {d : PyData} {ds : List PyData} : DtN H0 H x d → DtNs H0 H xs ds → DtNs H0 H (x :: xs) (d :: ds)
end
/-- what was there is there -/
def Dom (H0 H1 : Hp) : Prop := ∀ a, H1 a = none → H0 a = none
theorem Same.dom {H H' : Hp} (s : Same H H') : Dom H H' := fun _ h => s.free h
section
variable {K : PySem.W.Frag} {H0 H1 H H' : Hp}
mutual
theorem DtN.mono {v : V} {d : PyData} (s : Same H H') : DtN H0 H v d → DtN H0 H' v d
  | .non => .non
  | .bl b => .bl b
  | .int i => .int i
  | .lst n h hs => .lst n (s _ _ h) (hs.mono s)
  | .tup n h hs => .tup n (s _ _ h) (hs.mono s)
theorem DtNs.mono {vs : List V} {ds : List PyData} (s : Same H H') : DtNs H0 H vs ds → DtNs H0 H' vs ds
  | .nil => .nil
  | .cons h hs => .cons (h.mono s) (hs.mono s)
end
mutual
theorem DtN.weak {v : V} {d : PyData} (s : Dom H0 H1) : DtN H1 H v d → DtN H0 H v d
  | .non => .non
  | .bl b => .bl b
  | .int i => .int i
  | .lst n h hs => .lst (s _ n) h (hs.weak s)
  | .tup n h hs => .tup (s _ n) h (hs.weak s)
theorem DtNs.weak {vs : List V} {ds : List PyData} (s : Dom H0 H1) : DtNs H1 H vs ds → DtNs H0 H vs ds
  | .nil => .nil
  | .cons h hs => .cons (h.weak s) (hs.weak s)
end
mutual
theorem DtN.upd {v : V} {d : PyData} {D : Addr} {o : HO} (hD : H0 D ≠ none) : DtN H0 H v d → DtN H0 (upd H D o) v d
  | .non => .non
  | .bl b => .bl b
  | .int i => .int i
  | .lst (a := a) n h hs => .lst n (by rw [upd_ne (show a ≠ D from fun z => hD (z ▸ n))]; exact h) (hs.upd hD)
  | .tup (a := a) n h hs => .tup n (by rw [upd_ne (show a ≠ D from fun z => hD (z ▸ n))]; exact h) (hs.upd hD)
theorem DtNs.upd {vs : List V} {ds : List PyData} {D : Addr} {o : HO} (hD : H0 D ≠ none) : DtNs H0 H vs ds → DtNs H0 (L2.upd H D o) vs ds
  | .nil => .nil
  | .cons h hs => .cons (h.upd hD) (hs.upd hD)
end
theorem DtNs.snoc {vs : List V} {ds : List PyData} {v : V} {d : PyData} : DtNs H0 H vs ds → DtN H0 H v d → DtNs H0 H (vs ++ [v]) (ds ++ [d])
  | .nil, h => .cons h .nil
  | .cons h hs, h2 => .cons h (hs.snoc h2)
theorem DtNs.length {vs : List V} {ds : List PyData} : DtNs H0 H vs ds → vs.length = ds.length
  | .nil => rfl
  | .cons _ hs => by rw [List.length_cons, List.length_cons, hs.length]
theorem DtNs.get' {vs : List V} {ds : List PyData} : DtNs H0 H vs ds → ∀ {i : Nat} {v : V}, vs[i]? = some v → ∃ d, ds[i]? = some d ∧ DtN H0 H v d
  | .nil, i, d, h => by simp at h
  | .cons h hs, 0, d, e => by
    rw [List.getElem?_cons_zero] at e
    cases e
    exact ⟨_, rfl, h⟩
  | .cons h hs, i + 1, d, e => by
    obtain ⟨v, h1, h2⟩ := hs.get' (i := i) (by simpa using e)
    exact ⟨v, by simpa using h1, h2⟩
/-- a list is new data, whatever stands in it of new data -/
theorem DtN.ref_lst {v : V} {ds : List PyData} (h : DtN H0 H v (.list ds)) : ∃ a xs, v = .ref a ∧ H0 a = none ∧ H a = some (.lst xs) ∧ DtNs H0 H xs ds := by
  cases h with
  | lst n h hs => exact ⟨_, _, rfl, n, h, hs⟩
theorem DtN.ref_tup {v : V} {ds : List PyData} (h : DtN H0 H v (.tuple ds)) : ∃ a xs, v = .ref a ∧ H0 a = none ∧ H a = some (.tup xs) ∧ DtNs H0 H xs ds := by
  cases h with
  | tup n h hs => exact ⟨_, _, rfl, n, h, hs⟩
end
/-! ### a comprehension that keeps some ints of a list -/
theorem comp_keep {K : PySem.W.Frag} {a : Addr} {ns : List Int} {imp : St} {tt : TT} {te : TE} {Q : VK} {H1 : Hp} {D : Addr} (p : Int → Bool) (hD : H1 D = none) (hx : SqL K H1 a (ns.map V.int)) (hz : ns.length ≤ sizeLine)
    (ht : ∀ z ys (Q' : Bool → Hp → Prop), z ∈ ns → Q' (p z) (upd H1 D (.lst ys)) → tt (some (.int z) :: imp) (upd H1 D (.lst ys)) Q') (hel : ∀ z ys (Q' : VK), Q' (.int z) (upd H1 D (.lst ys)) → te (some (.int z) :: imp) (upd H1 D (.lst ys)) Q')
    (hq : Q (.ref D) (upd H1 D (.lst ((ns.filter p).map V.int)))) : CBG (Itl K a) (List.replicate 1 none ++ imp) (gName 0) tt te Q H1 D := by
  refine ⟨fun i m H2 => m = ns.length - i ∧ i ≤ ns.length ∧ H2 = upd H1 D (.lst (((ns.take i).filter p).map V.int)), ⟨_, rfl, Nat.zero_le _, by simp⟩, ?_⟩
  rintro i m H2 ⟨rfl, hi, rfl⟩
  have hx' : ∀ ys, SqL K (upd H1 D (.lst ys)) a (ns.map V.int) := fun ys => sq_ne hx hD
  by_cases hlt : i < ns.length
  · have g : ns[i]? = some ns[i] := List.getElem?_eq_getElem hlt
    refine .inr ⟨⟨_, _, hx' _, at_int g⟩, fun y H3 hy => ?_⟩
    obtain ⟨rfl, hy⟩ := hy
    have := hy _ (hx' _)
    rw [at_int g] at this
    cases this
    have tk : ns.take (i + 1) = ns.take i ++ [ns[i]] := Rg.take_succ g
    have fl : ((ns.take i).filter p).length ≤ i := Nat.le_trans (List.length_filter_le _ _) (by rw [List.length_take]; omega)
    refine ⟨keep1, ht _ _ _ (List.getElem_mem _) ?_⟩
    cases e : p ns[i] with
    | true =>
      rw [if_pos rfl]
      refine hel _ _ _ ⟨_, upd_same, by rw [List.length_map]; omega, _, by omega, rfl, hlt, ?_⟩
      rw [upd_upd, tk, List.filter_append, List.map_append]
      simp [e]
    | false =>
      rw [if_neg (by decide)]
      refine ⟨_, by omega, rfl, hlt, ?_⟩
      rw [tk, List.filter_append]
      simp [e]
  · have e : i = ns.length := by (first | lia | omega)
    subst e
    rw [List.take_length]
    exact .inl ⟨⟨_, hx' _, by rw [List.length_map]; exact Nat.le_refl _⟩, hq⟩
end L2
/-! THE SEARCH: places are tried one by one, the greatest distance that is left over first; just the roads that fit are found. -/
namespace Rg
def gap (a b : Int) : Int := if a < b then b - a else a - b
theorem flatMap_two {F G : Int → List Int} : ∀ l : List Int, (l.flatMap fun a => F a ++ G a).Perm (l.flatMap F ++ l.flatMap G)
  | [] => .refl _
  | a :: r => by
    rw [List.flatMap_cons, List.flatMap_cons, List.flatMap_cons]
    have ih := flatMap_two (F := F) (G := G) r
    refine ((List.Perm.refl (F a ++ G a)).append ih).trans ?_
    rw [List.append_assoc, List.append_assoc]
    refine (List.Perm.refl (F a)).append ?_
    rw [← List.append_assoc, ← List.append_assoc]
    exact List.perm_append_comm.append (.refl _)
theorem gaps_one (p : Int) : ∀ l : List Int, p ∉ l → ((l.filter fun b => decide (p < b)).map (· - p) ++ l.flatMap fun a => if a < p then [p - a] else []).Perm (l.map (gap p))
  | [], _ => .refl _
  | a :: r, h => by
    have hne : p ≠ a := fun e => h (by simp [e])
    have ih := gaps_one p r fun e => h (List.mem_cons_of_mem _ e)
    rw [List.flatMap_cons, List.map_cons]
    by_cases c : p < a
    · have e1 : gap p a = a - p := by unfold gap; rw [if_pos c]
      rw [List.filter_cons, if_pos (decide_eq_true c), if_neg (show ¬ a < p by omega), e1]
      exact ih.cons _
    · have e1 : gap p a = p - a := by unfold gap; rw [if_neg c]
      rw [List.filter_cons, if_neg (by simpa using c), if_pos (show a < p by omega), e1]
      exact List.perm_middle.trans (ih.cons _)
theorem btw_cons {p : Int} {l : List Int} (h : p ∉ l) : (btw (p :: l)).Perm (l.map (gap p) ++ btw l) := by
  unfold btw
  rw [List.flatMap_cons]
  have e1 : (p :: l).filter (fun b => decide (p < b)) = l.filter fun b => decide (p < b) := by
    rw [List.filter_cons, if_neg (by simp)]
  have e2 : (fun a => ((p :: l).filter fun b => decide (a < b)).map (· - a)) = fun a => (if a < p then [p - a] else []) ++ (l.filter fun b => decide (a < b)).map (· - a) := by
    funext a
    rw [List.filter_cons]
    by_cases c : a < p
    · simp [c]
    · simp [c]
  rw [e1, e2]
  refine ((List.Perm.refl _).append (flatMap_two l)).trans ?_
  rw [← List.append_assoc]
  exact (gaps_one p l h).append (.refl _)
/-- the distances that come with places qs, beside ps -/
def ext : List Int → List Int → List Int
  | [], _ => []
  | q :: qs, ps => (qs ++ ps).map (gap q) ++ ext qs ps
theorem btw_ext : ∀ {qs ps : List Int}, (qs ++ ps).Nodup → (btw (qs ++ ps)).Perm (ext qs ps ++ btw ps)
  | [], _, _ => .refl _
  | q :: qs, ps, h => by
    rw [List.cons_append, List.nodup_cons] at h
    have ih := btw_ext h.2
    refine (btw_cons h.1).trans ?_
    rw [ext, List.append_assoc]
    exact (List.Perm.refl _).append ih
theorem ext_mem : ∀ {qs ps : List Int} {x : Int}, (qs ++ ps).Nodup → x ∈ ext qs ps → ∃ u ∈ qs, ∃ v ∈ qs ++ ps, u ≠ v ∧ x = gap u v
  | [], _, _, _, h => by simp [ext] at h
  | q :: qs, ps, x, hn, h => by
    rw [List.cons_append, List.nodup_cons] at hn
    rw [ext, List.mem_append] at h
    rcases h with h | h
    · obtain ⟨v, hv, rfl⟩ := List.mem_map.mp h
      exact ⟨q, by simp, v, List.mem_cons_of_mem _ hv, fun e => hn.1 (e ▸ hv), rfl⟩
    · obtain ⟨u, hu, v, hv, hne, e⟩ := ext_mem hn.2 h
      exact ⟨u, List.mem_cons_of_mem _ hu, v, List.mem_cons_of_mem _ hv, hne, e⟩
theorem mem_ext : ∀ {qs ps : List Int} {u v : Int}, u ∈ qs → v ∈ ps → gap u v ∈ ext qs ps
  | [], _, _, _, h, _ => by simp at h
  | q :: qs, ps, u, v, hu, hv => by
    rw [ext, List.mem_append]
    rcases List.mem_cons.mp hu with e | e
    · left
      rw [e]
      exact List.mem_map.mpr ⟨v, List.mem_append_right _ hv, rfl⟩
    · exact .inr (mem_ext e hv)
/-! ### what is left of a list -/
theorem lef_perm : ∀ {nd g l : List Int}, lef g nd = (some l, none) → g.Perm (nd ++ l) ∧ l.Sublist g
  | [], g, l, h => by
    have : g = l := by simpa [lef] using h
    subst this
    exact ⟨.refl _, List.Sublist.refl _⟩
  | d :: r, g, l, h => by
    rw [lef] at h
    by_cases c : d ∈ g
    · rw [if_pos c] at h
      obtain ⟨h1, h2⟩ := lef_perm h
      exact ⟨(List.perm_cons_erase c).trans (h1.cons d), h2.trans List.erase_sublist⟩
    · rw [if_neg c] at h
      cases h
theorem lef_of_perm : ∀ {nd g rest : List Int}, g.Perm (nd ++ rest) → ∃ l, lef g nd = (some l, none) ∧ l.Perm rest
  | [], g, rest, h => ⟨g, rfl, h⟩
  | d :: r, g, rest, h => by
    have c : d ∈ g := h.mem_iff.mpr (by simp)
    rw [lef, if_pos c]
    have : (g.erase d).Perm (r ++ rest) := by
      have := h.erase d
      rw [List.cons_append, List.erase_cons_head] at this
      exact this
    exact lef_of_perm this
theorem lef_two (nd g : List Int) : (∃ l, lef g nd = (some l, none)) ∨ ∃ d, lef g nd = (none, some d) := by
  induction nd generalizing g with
  | nil => exact .inl ⟨g, rfl⟩
  | cons d r ih =>
    rw [lef]
    by_cases c : d ∈ g
    · rw [if_pos c]; exact ih _
    · rw [if_neg c]; exact .inr ⟨d, rfl⟩
end Rg
namespace Rg
/-! ### the places to try -/
def maxI : List Int → Int
  | [] => 0
  | [a] => a
  | a :: r => if maxI r ≤ a then a else maxI r
theorem maxI_mem : ∀ {l : List Int}, l ≠ [] → maxI l ∈ l
  | [], h => absurd rfl h
  | [a], _ => by simp [maxI]
  | a :: b :: r, _ => by
    rw [maxI]
    split
    · simp
    · exact List.mem_cons_of_mem _ (maxI_mem (l := b :: r) (by simp))
    · simp
theorem maxI_le : ∀ {l : List Int}, ∀ x ∈ l, x ≤ maxI l
  | [], x, h => by simp at h
  | [a], x, h => by
    have : x = a := by simpa using h
    rw [this]; simp [maxI]
  | a :: b :: r, x, h => by
    rw [maxI]
    · rcases List.mem_cons.mp h with e | e
      · split <;> (first | lia | omega)
      · have := maxI_le (l := b :: r) x e
        split <;> (first | lia | omega)
    · simp
theorem maxI_eq {l : List Int} {m : Int} (h1 : m ∈ l) (h2 : ∀ x ∈ l, x ≤ m) : m = maxI l := by
  have := maxI_le m h1
  have := h2 _ (maxI_mem (List.ne_nil_of_mem h1))
  (first | lia | omega)
def needs (ps : List Int) : List Int := srt (btw ps)
def lastI (ps : List Int) : Int := ps.getD (ps.length - 1) 0
def nextIn (g ps : List Int) : List Int := (srt (dds [] [lastI g, maxI ps - lastI g])).filter fun p => !decide (p ∈ ps)
def nextOf (gs ps : List Int) : List Int := match (lef gs (needs ps)).1 with
  | none => []
  | some g => if g = [] then [] else nextIn g ps
theorem nextOf_none {gs ps : List Int} {d : Int} (h : lef gs (needs ps) = (none, some d)) : nextOf gs ps = [] := by unfold nextOf; rw [h]
theorem nextOf_nil {gs ps : List Int} (h : lef gs (needs ps) = (some [], none)) : nextOf gs ps = [] := by unfold nextOf; rw [h]; rfl
theorem nextOf_some {gs ps g : List Int} (h : lef gs (needs ps) = (some g, none)) (hg : g ≠ []) : nextOf gs ps = nextIn g ps := by unfold nextOf; rw [h]; exact if_neg hg
theorem nextIn_new {g ps : List Int} {p : Int} (h : p ∈ nextIn g ps) : p ∉ ps := by
  unfold nextIn at h
  have := (List.mem_filter.mp h).2
  simpa using this
theorem nextOf_new {gs ps : List Int} {p : Int} (h : p ∈ nextOf gs ps) : p ∉ ps := by
  unfold nextOf at h
  split at h
  · simp at h
  · split at h
    · simp at h
    · exact nextIn_new h
theorem nextOf_len (gs ps : List Int) : (nextOf gs ps).length ≤ 2 := by
  unfold nextOf
  split
  · simp
  · split
    · simp
    · unfold nextIn
      refine Nat.le_trans (List.length_filter_le _ _) ?_
      rw [srt_length]
      exact Nat.le_trans (dds_len _ _) (by simp)
theorem lef_len : ∀ {nd g l : List Int}, lef g nd = (some l, none) → l.length + nd.length = g.length
  | [], g, l, h => by
    have : g = l := by simpa [lef] using h
    rw [this]; rfl
  | d :: r, g, l, h => by
    rw [lef] at h
    by_cases c : d ∈ g
    · rw [if_pos c] at h
      have := lef_len h
      have e := List.length_erase_of_mem c
      have := List.length_pos_of_mem c
      rw [List.length_cons]
      (first | lia | omega)
    · rw [if_neg c] at h
      cases h
theorem flat_perm {F G : Int → List Int} (h : ∀ a, (F a).Perm (G a)) : ∀ l : List Int, (l.flatMap F).Perm (l.flatMap G)
  | [] => .refl _
  | a :: r => by
    rw [List.flatMap_cons, List.flatMap_cons]
    exact (h a).append (flat_perm h r)
theorem btw_perm {l l' : List Int} (h : l.Perm l') : (btw l).Perm (btw l') := by
  unfold btw
  refine (h.flatMap_right _).trans ?_
  exact flat_perm (fun a => (h.filter _).map _) _
theorem btw_length {l : List Int} (h : l.Nodup) : 2 * (btw l).length = l.length * (l.length - 1) := by
  have e := (btw_perm (srt_perm l)).length_eq
  have r : (srt l).Pairwise (· < ·) := by
    have h1 := srt_sorted l
    have h2 : (srt l).Nodup := (srt_perm l).nodup_iff.mpr h
    exact (h1.and h2).imp fun {a b} hab => by have := hab.1; have := hab.2; (first | lia | omega)
  rw [← e, btw_fnd r, fnd_length, srt_length]
theorem nextOf_long {gs ps : List Int} (h : ps.Nodup) (h7 : 7 ≤ ps.length) (h21 : gs.length ≤ 21) : nextOf gs ps = [] := by
  rcases e : lef gs (needs ps) with ⟨o, o'⟩
  cases o with
  | none => unfold nextOf; rw [e]
  | some g =>
    have e' : lef gs (needs ps) = (some g, none) := by
      rw [e]
      have : o' = none := by
        have gen : ∀ (nd g0 : List Int) {g : List Int} {o'}, lef g0 nd = (some g, o') → o' = none := by
          intro nd
          induction nd with
          | nil => intro g0 g o' h; simp [lef] at h; exact h.2.symm
          | cons d r ih =>
            intro g0 g o' h
            rw [lef] at h
            split at h
            · exact ih _ h
            · cases h
        exact gen _ _ e
      rw [this]
    have l1 := lef_len e'
    have l2 : (needs ps).length = (btw ps).length := by unfold needs; rw [srt_length]
    have l3 := btw_length h
    have l4 : 7 * 6 ≤ ps.length * (ps.length - 1) := Nat.mul_le_mul h7 (by omega)
    have : g = [] := List.length_eq_zero_iff.mp (by omega)
    rw [this] at e'
    exact nextOf_nil e'
theorem last_max {l : List Int} (h : l.Pairwise (· ≤ ·)) (hn : l ≠ []) : lastI l ∈ l ∧ ∀ x ∈ l, x ≤ lastI l := by
  have hl : 1 ≤ l.length := List.length_pos_iff.mpr hn
  have e : lastI l = l[l.length - 1] := by unfold lastI; simp [List.getD_eq_getElem?_getD, show l.length - 1 < l.length by omega]
  refine ⟨by rw [e]; exact List.getElem_mem _, fun x hx => ?_⟩
  obtain ⟨i, hi, rfl⟩ := List.getElem_of_mem hx
  rw [e]
  by_cases c : i = l.length - 1
  · subst c; exact Int.le_refl _
  · exact List.pairwise_iff_getElem.mp h i (l.length - 1) hi (by omega) (by omega)
/-- a place of the road is tried, where one is not there yet -/
theorem next_hits {gs r ps qs : List Int} {L : Int} (hs : gs.Pairwise (· ≤ ·)) (hg : gs.Perm (btw r)) (hr : r.Perm (qs ++ ps)) (hn : r.Nodup) (h0 : (0 : Int) ∈ ps) (hL : L ∈ ps) (hb : ∀ x ∈ r, 0 ≤ x ∧ x ≤ L) (hq : qs ≠ []) :
    ∃ g, lef gs (needs ps) = (some g, none) ∧ g ≠ [] ∧ ∃ u ∈ qs, u ∈ nextOf gs ps := by
  have nd : (qs ++ ps).Nodup := hr.nodup_iff.mp hn
  have p1 : gs.Perm (needs ps ++ ext qs ps) := by
    refine hg.trans (((btw_perm hr).trans (btw_ext nd)).trans ?_)
    refine List.perm_append_comm.trans ?_
    exact ((srt_perm (btw ps)).symm).append (.refl _)
  obtain ⟨g, e, pg⟩ := lef_of_perm p1
  have gsub := (lef_perm e).2
  have gs' : g.Pairwise (· ≤ ·) := hs.sublist gsub
  obtain ⟨w, hw⟩ := List.exists_mem_of_ne_nil qs hq
  have gne : g ≠ [] := List.ne_nil_of_mem (pg.mem_iff.mpr (mem_ext hw h0))
  refine ⟨g, e, gne, ?_⟩
  obtain ⟨xm, xle⟩ := last_max gs' gne
  obtain ⟨u, hu, v, hv, huv, ex⟩ := ext_mem nd (pg.mem_iff.mp xm)
  have inr : ∀ {y : Int}, y ∈ qs ++ ps → 0 ≤ y ∧ y ≤ L := fun hy => hb _ (hr.mem_iff.mpr hy)
  have bu := inr (List.mem_append_left _ hu)
  have bv := inr hv
  have unp : u ∉ ps := fun z => by
    rw [List.nodup_append] at nd
    exact nd.2.2 u hu u z rfl
  have nu0 : u ≠ 0 := fun z => unp (z ▸ h0)
  have nuL : u ≠ L := fun z => unp (z ▸ hL)
  have x1 := xle _ (pg.mem_iff.mpr (mem_ext hu h0))
  have x2 := xle _ (pg.mem_iff.mpr (mem_ext hu hL))
  have g1 : gap u 0 = u := by unfold gap; rw [if_neg (by omega)]; (first | lia | omega)
  have g2 : gap u L = L - u := by unfold gap; rw [if_pos (by omega)]
  rw [g1] at x1
  rw [g2] at x2
  have ucase : u = lastI g ∨ u = L - lastI g := by
    rw [ex] at x1 x2 ⊢
    unfold gap at x1 x2 ⊢
    split at x1 <;> split at x2 <;> (first | lia | omega)
  have mL : maxI ps = L := by
    refine (maxI_eq hL fun x hx => ?_).symm
    exact (inr (List.mem_append_right _ hx)).2
  refine ⟨u, hu, ?_⟩
  rw [nextOf_some e gne]
  unfold nextIn
  rw [mL, List.mem_filter]
  refine ⟨?_, by simpa using unp⟩
  rw [srt_mem, dds_mem]
  right
  rcases ucase with h | h
  · simp [← h]
  · rw [h]; simp
/-- the roads that are found from here on -/
def done (gs ps : List Int) : Bool := decide (lef gs (needs ps) = (some [], none))
def endsOf : Nat → List Int → List Int → List (List Int)
  | 0, gs, ps => if done gs ps = true then [srt ps] else []
  | n + 1, gs, ps => if done gs ps = true then [srt ps] else (nextOf gs ps).flatMap fun p => endsOf n gs (ps ++ [p])
theorem ends_all {gs r : List Int} {L : Int} (hs : gs.Pairwise (· ≤ ·)) (hg : gs.Perm (btw r)) (hr : r.Pairwise (· < ·)) (hb : ∀ x ∈ r, 0 ≤ x ∧ x ≤ L) : ∀ (n : Nat) {ps qs : List Int}, r.Perm (qs ++ ps) → (0 : Int) ∈ ps → L ∈ ps → qs.length ≤ n → r ∈ endsOf n gs ps := by
  have hn : r.Nodup := rise_nodup hr
  have base : ∀ {ps : List Int}, r.Perm ps → done gs ps = true ∧ r = srt ps := fun {ps} hp => by
    have p1 : gs.Perm (needs ps ++ []) := by
      rw [List.append_nil]
      exact (hg.trans (btw_perm hp)).trans (srt_perm _).symm
    obtain ⟨l, e, pl⟩ := lef_of_perm p1
    have : l = [] := List.Perm.eq_nil pl
    subst this
    exact ⟨decide_eq_true e, srt_unique hp (rise_le hr)⟩
  intro n
  induction n with
  | zero =>
    intro ps qs hp h0 hL hq
    have : qs = [] := List.length_eq_zero_iff.mp (by omega)
    subst this
    obtain ⟨b1, b2⟩ := base (ps := ps) hp
    rw [endsOf, if_pos b1, ← b2]
    simp
  | succ n ih =>
    intro ps qs hp h0 hL hq
    by_cases c : qs = []
    · subst c
      obtain ⟨b1, b2⟩ := base (ps := ps) hp
      rw [endsOf, if_pos b1, ← b2]
      simp
    obtain ⟨g, e, gne, u, hu, hx⟩ := next_hits hs hg hp hn h0 hL hb c
    have nd : ¬ done gs ps = true := fun z => by
      have := of_decide_eq_true z
      rw [e] at this
      cases this
      exact gne rfl
    rw [endsOf, if_neg nd, List.mem_flatMap]
    refine ⟨u, hx, ih (qs := qs.erase u) ?_ (List.mem_append_left _ h0) (List.mem_append_left _ hL) ?_⟩
    · refine hp.trans ?_
      refine ((List.perm_cons_erase hu).append (.refl ps)).trans ?_
      rw [List.cons_append]
      refine (List.perm_middle (a := u) (l₁ := qs.erase u) (l₂ := ps)).symm.trans ?_
      refine (List.Perm.refl _).append ?_
      exact List.perm_append_comm (l₁ := [u]) (l₂ := ps)
    · rw [List.length_erase_of_mem hu]; (first | lia | omega)
/-- what is found fits -/
theorem ends_fit {gs : List Int} {L : Int} (hs : gs.Pairwise (· ≤ ·)) (hp1 : ∀ x ∈ gs, 1 ≤ x ∧ x ≤ L) : ∀ (n : Nat) {ps r : List Int}, ps.Nodup → (0 : Int) ∈ ps → L ∈ ps → (∀ x ∈ ps, 0 ≤ x ∧ x ≤ L) → r ∈ endsOf n gs ps → r.Pairwise (· < ·) ∧ r.getD 0 0 = 0 ∧ lastI r = L ∧ (∀ x ∈ r, 0 ≤ x ∧ x ≤ L) ∧ srt (fnd r) = gs := by
  have base : ∀ {ps r : List Int}, ps.Nodup → (0 : Int) ∈ ps → L ∈ ps → (∀ x ∈ ps, 0 ≤ x ∧ x ≤ L) → done gs ps = true → r = srt ps → r.Pairwise (· < ·) ∧ r.getD 0 0 = 0 ∧ lastI r = L ∧ (∀ x ∈ r, 0 ≤ x ∧ x ≤ L) ∧ srt (fnd r) = gs := fun {ps r} hn h0 hL hb hd er => by
    subst er
    have rise : (srt ps).Pairwise (· < ·) := ((srt_sorted ps).and ((srt_perm ps).nodup_iff.mpr hn)).imp fun {a b} hab => by have := hab.1; have := hab.2; (first | lia | omega)
    have inr : ∀ x ∈ srt ps, 0 ≤ x ∧ x ≤ L := fun x hx => hb x (srt_mem.mp hx)
    have ne : srt ps ≠ [] := List.ne_nil_of_mem (srt_mem.mpr h0)
    refine ⟨rise, ?_, ?_, inr, ?_⟩
    · cases e : srt ps with
      | nil => exact absurd e ne
      | cons a t =>
        rw [e] at rise inr
        have m0 : (0 : Int) ∈ a :: t := by rw [← e]; exact srt_mem.mpr h0
        have ha := inr a (by simp)
        rcases List.mem_cons.mp m0 with z | z
        · simp [← z]
        · have := (List.pairwise_cons.mp rise).1 0 z
          (first | lia | omega)
    · obtain ⟨m1, m2⟩ := last_max (srt_sorted ps) ne
      have := m2 L (srt_mem.mpr hL)
      have := (inr _ m1).2
      (first | lia | omega)
    · have e := of_decide_eq_true hd
      obtain ⟨h1, _⟩ := lef_perm e
      rw [List.append_nil] at h1
      rw [← btw_fnd rise]
      refine (srt_unique ?_ hs).symm
      refine h1.trans ?_
      exact (srt_perm (btw ps)).trans (btw_perm (srt_perm ps)).symm
  intro n
  induction n with
  | zero =>
    intro ps r hn h0 hL hb hr
    rw [endsOf] at hr
    by_cases c : done gs ps = true
    · rw [if_pos c] at hr
      exact base hn h0 hL hb c (by simpa using hr)
    · rw [if_neg c] at hr; simp at hr
  | succ n ih =>
    intro ps r hn h0 hL hb hr
    rw [endsOf] at hr
    by_cases c : done gs ps = true
    · rw [if_pos c] at hr
      exact base hn h0 hL hb c (by simpa using hr)
    · rw [if_neg c, List.mem_flatMap] at hr
      obtain ⟨p, hp, hr⟩ := hr
      have pn := nextOf_new hp
      have pb : 0 ≤ p ∧ p ≤ L := by
        rcases lef_two (needs ps) gs with ⟨g, e⟩ | ⟨d, e⟩
        · by_cases gne : g = []
          · rw [gne] at e; rw [nextOf_nil e] at hp; simp at hp
          · rw [nextOf_some e gne] at hp
            have mL : maxI ps = L := (maxI_eq hL fun x hx => (hb x hx).2).symm
            unfold nextIn at hp
            rw [mL] at hp
            have := (List.mem_filter.mp hp).1
            rw [srt_mem, dds_mem] at this
            have gl := hp1 _ ((lef_perm e).2.subset (last_max (hs.sublist (lef_perm e).2) gne).1)
            rcases this with z | z
            · simp at z
            · simp at z
              rcases z with z | z <;> (first | lia | omega)
        · rw [nextOf_none e] at hp; simp at hp
      refine ih (ps := ps ++ [p]) ?_ (List.mem_append_left _ h0) (List.mem_append_left _ hL) (fun x hx => ?_) hr
      · rw [List.nodup_append]
        refine ⟨hn, by simp, fun x hx y hy => ?_⟩
        have : y = p := by simpa using hy
        subst this
        exact fun e => pn (e ▸ hx)
      · rcases List.mem_append.mp hx with z | z
        · exact hb x z
        · have : x = p := by simpa using z
          subst this
          exact pb
end Rg
/-! The order of the places does not matter. -/
namespace Rg
theorem needs_perm {ps qs : List Int} (h : ps.Perm qs) : needs ps = needs qs := srt_unique ((srt_perm _).trans (btw_perm h)) (srt_sorted _)
theorem maxI_perm {ps qs : List Int} (h : ps.Perm qs) : maxI ps = maxI qs := by
  by_cases e : ps = []
  · subst e
    rw [h.symm.eq_nil]
  · exact maxI_eq (h.mem_iff.mp (maxI_mem e)) fun x hx => maxI_le x (h.mem_iff.mpr hx)
theorem nextOf_perm {gs ps qs : List Int} (h : ps.Perm qs) : nextOf gs ps = nextOf gs qs := by
  have hf : ∀ g, nextIn g ps = nextIn g qs := fun g => by
    unfold nextIn
    rw [maxI_perm h]
    exact List.filter_congr fun x _ => by rw [decide_eq_decide.mpr h.mem_iff]
  unfold nextOf
  rw [needs_perm h]
  cases (lef gs (needs qs)).1 with
  | none => rfl
  | some g => simp only [hf]
def sureL (gs : List Int) : List Int := if gs = [] then [0] else [0, lastI gs]
theorem last_in {gs : List Int} (h : gs ≠ []) : lastI gs ∈ gs := by
  have l1 : 1 ≤ gs.length := List.length_pos_iff.mpr h
  have : lastI gs = gs[gs.length - 1] := by unfold lastI; simp [List.getD_eq_getElem?_getD, show gs.length - 1 < gs.length by omega]
  rw [this]; exact List.getElem_mem _
end Rg
/-! x in xs, x not in xs, where the items are data of any depth. -/
namespace L2
open PySem PySem.Spec PyProof.Rows
section
variable {X : Cx}
def rInD (K : PySem.W.Frag) (neg : Bool) : R2 := fun x y H Q => ∃ (p : Addr) (xs : List V) (dx : PyData) (ds : List PyData), y = .ref p ∧ SqL K H p xs ∧ Dt K H x dx ∧ DtAll K H xs ds ∧ SeqAt.shaped dx = true ∧ (∀ d ∈ ds, SeqAt.shaped d = true) ∧
  Q (.bl (if neg then !ds.any (fun d => PyData.eqv d dx) else ds.any fun d => PyData.eqv d dx)) H
open Classical in
/-- does the value read as data that equal dx -/
noncomputable def isD (h : Heap) (dx : PyData) (u : Value) : Bool := decide (∃ d as, Reads h u d as ∧ PyData.eqv d dx = true)
open Classical in
theorem isD_iff {h : Heap} {dx : PyData} {u : Value} : isD h dx u = true ↔ ∃ d as, Reads h u d as ∧ PyData.eqv d dx = true := by
  unfold isD
  exact decide_eq_true_iff
theorem any_reads {h : Heap} {dx : PyData} : ∀ {us : List Value} {ds : List PyData} {as : List Addr}, ReadsAll h us ds as → us.any (isD h dx) = ds.any fun d => PyData.eqv d dx
  | _, _, _, .nil => rfl
  | u :: us, d :: ds, _, .cons (as := as0) r rs => by
    rw [List.any_cons, List.any_cons, any_reads rs]
    congr 1
    rw [Bool.eq_iff_iff, isD_iff]
    constructor
    · rintro ⟨d', as', r', e⟩
      rw [(r.unique d' as' r').1]
      exact e
    · intro e
      exact ⟨d, as0, r, e⟩
theorem reads_mem {h : Heap} : ∀ {us : List Value} {ds : List PyData} {as : List Addr}, ReadsAll h us ds as → ∀ u ∈ us, ∃ d ∈ ds, ∃ bs, Reads h u d bs
  | _, _, _, .nil => fun u hu => by cases hu
  | u :: us, d :: ds, _, .cons r rs => fun v hv => by
    rcases List.mem_cons.mp hv with e | e
    · subst e; exact ⟨d, by simp, _, r⟩
    · obtain ⟨d', h1, h2⟩ := reads_mem rs v e
      exact ⟨d', List.mem_cons_of_mem _ h1, h2⟩
theorem eq_one {h : Heap} {A : Around} {s : Shared} (hh : s.heap = h) {u v : Value} {d dx : PyData} {as bs : List Addr} (hu : A.units + 64 < cLine) (ru : Reads h u d as) (rv : Reads h v dx bs) (h1 : SeqAt.shaped d = true) (h2 : SeqAt.shaped dx = true) : SeqAt.EqAt A s u v (isD h dx u) := by
  subst hh
  have e : isD s.heap dx u = PyData.eqv d dx := by
    rw [Bool.eq_iff_iff, isD_iff]
    constructor
    · rintro ⟨d', as', r', e⟩
      rw [(ru.unique d' as' r').1]
      exact e
    · intro e
      exact ⟨d, as, ru, e⟩
  rw [e]
  exact SeqAt.eqAt_reads d dx A s u v as bs ru rv (SeqAt.canLay_of_shaped h1) (SeqAt.canLay_of_shaped h2) (SeqAt.room_of_shaped h1 hu)
theorem op_inD (hu : X.A.in1.units + 64 < cLine) : OpR X (compareOp .In) (rInD X.K false) := by
  intro pins s σ H x y v u Q I rx ry h
  obtain ⟨p, xs, dx, ds, rfl, hp, hx, hs, sx, sd, q⟩ := h
  cases ry
  obtain ⟨its, r, pl, hz⟩ := I.list hp
  obtain ⟨bs, rv⟩ := I.reads hx rx
  obtain ⟨as, ra⟩ := I.readsAll hs r
  refine SeqAt.in_listAt (isD s.heap dx) pl.isList (fun w hw => ?_) ⟨.bl _, H, I, rfl, ?_⟩
  · obtain ⟨d, hd, cs, rw'⟩ := reads_mem ra w (by simpa using hw)
    exact eq_one rfl hu rw' rv (sd d hd) sx
  · have e := any_reads (dx := dx) ra
    rw [show its.toArray.any (isD s.heap dx) = its.any (isD s.heap dx) by simp, e]
    exact q
theorem op_notInD (hu : X.A.in1.units + 64 < cLine) : OpR X (compareOp .NotIn) (rInD X.K true) := by
  intro pins s σ H x y v u Q I rx ry h
  obtain ⟨p, xs, dx, ds, rfl, hp, hx, hs, sx, sd, q⟩ := h
  cases ry
  obtain ⟨its, r, pl, hz⟩ := I.list hp
  obtain ⟨bs, rv⟩ := I.reads hx rx
  obtain ⟨as, ra⟩ := I.readsAll hs r
  refine SeqAt.notIn_listAt (isD s.heap dx) pl.isList (fun w hw => ?_) ⟨.bl _, H, I, rfl, ?_⟩
  · obtain ⟨d, hd, cs, rw'⟩ := reads_mem ra w (by simpa using hw)
    exact eq_one rfl hu rw' rv (sd d hd) sx
  · have e := any_reads (dx := dx) ra
    rw [show its.toArray.any (isD s.heap dx) = its.any (isD s.heap dx) by simp, e]
    exact q
theorem Room.units1 {k : Nat} {A : Around} (r : Room k A) : A.in1.units + 64 < cLine := by have := r.un; show A.units + 1 + 64 < _; (first | lia | omega)
end
end L2
/-! LISTS OF INTS, one below the other; a list of such lists, sorted. -/
namespace Rg
open PySem PyProof.Rows
def llt : List Int → List Int → Bool
  | [], [] => false
  | [], _ :: _ => true
  | _ :: _, [] => false
  | x :: xs, y :: ys => if x = y then llt xs ys else decide (x < y)
theorem llt_drop {xs ys : List Int} {i : Nat} (h1 : i < xs.length) (h2 : i < ys.length) : llt (xs.drop i) (ys.drop i) = if xs[i] = ys[i] then llt (xs.drop (i + 1)) (ys.drop (i + 1)) else decide (xs[i] < ys[i]) := by
  rw [List.drop_eq_getElem_cons h1, List.drop_eq_getElem_cons h2]
  rfl
theorem llt_end {xs ys : List Int} {i : Nat} (h : i = xs.length ∨ i = ys.length) (h1 : i ≤ xs.length) (h2 : i ≤ ys.length) : llt (xs.drop i) (ys.drop i) = decide (xs.length < ys.length) := by
  by_cases c : i = xs.length
  · have e1 : xs.drop i = [] := List.drop_of_length_le (by omega)
    rw [e1]
    cases e2 : ys.drop i with
    | nil =>
      have : ys.length ≤ i := by simpa using e2
      rw [decide_eq_false (by omega)]
      rfl
    | cons a t =>
      have : ¬ ys.length ≤ i := fun z => by rw [List.drop_of_length_le z] at e2; cases e2
      rw [decide_eq_true (by omega)]
      rfl
  · have c2 : i = ys.length := by (first | lia | omega)
    have e1 : ys.drop i = [] := List.drop_of_length_le (by omega)
    rw [e1]
    cases e2 : xs.drop i with
    | nil =>
      have : xs.length ≤ i := by simpa using e2
      (first | lia | omega)
    | cons a t =>
      rw [decide_eq_false (by omega)]
      rfl
section
variable {prog : Program} {w : World} {A : Around} {E : Value → Shared → Prop} {s : Shared}
theorem lt_loop {a b : Addr} {vs us : List Value} {xs ys : List Int} {na nb : Nat} {dda ddb : Option Addr} {sla slb : Array (Option Value)} {R : Result → Shared → Prop} (ha : s.heap.get? a = some { cls := .type "list", dict := dda, data := .seq vs.toArray na, slots := sla })
    (hb : s.heap.get? b = some { cls := .type "list", dict := ddb, data := .seq us.toArray nb, slots := slb }) (hx : IntsAre vs xs) (hy : IntsAre us ys) :
    ∀ (k i : Nat), xs.length - i = k → i ≤ xs.length → i ≤ ys.length → R (.ok (.ret (.bool (llt (xs.drop i) (ys.drop i))))) s → codeAny (model prog w) A (.builtin "list.__eq__.loop" ⟨[.ref a, .ref b, rawInt i, rawInt 0], []⟩) R s := by
  have lx := hx.length
  have ly := hy.length
  obtain ⟨hp, g, d, tk, os⟩ := s
  have stop : ∀ i : Nat, (i = xs.length ∨ i = ys.length) → i ≤ xs.length → i ≤ ys.length → R (.ok (.ret (.bool (llt (xs.drop i) (ys.drop i))))) ⟨hp, g, d, tk, os⟩ → codeAny (model prog w) A (.builtin "list.__eq__.loop" ⟨[.ref a, .ref b, rawInt i, rawInt 0], []⟩) R ⟨hp, g, d, tk, os⟩ := by
    intro i hi h1 h2 hR
    rw [llt_end hi h1 h2] at hR
    refine codeAny_builtin MeetsSeq3.entry_eq_loop ?_
    rw [Around.under_plainId MeetsSeq3.plain_eq_loop _]
    wp_walk using AutoSeq1.wpAny_loadPart' ha, AutoSeq1.wpAny_loadPart' hb
    by_cases c : i = xs.length
    · have e1 : vs.toArray[((i : Nat) : Int).toNat]? = none := by simp; (first | lia | omega)
      rw [e1]
      wp_walk using AutoSeq1.wpAny_loadPart' ha, AutoSeq1.wpAny_loadPart' hb
      show R (.ok (.ret (.bool (decide (vs.toArray.size < us.toArray.size))))) _
      rw [List.size_toArray, List.size_toArray, lx, ly]
      exact hR
    · have c2 : i = ys.length := by (first | lia | omega)
      have e1 : vs.toArray[((i : Nat) : Int).toNat]? = some (vs[i]'(by omega)) := by simp [show i < vs.length by omega]
      have e2 : us.toArray[((i : Nat) : Int).toNat]? = none := by simp; (first | lia | omega)
      rw [e1, e2]
      wp_walk using AutoSeq1.wpAny_loadPart' ha, AutoSeq1.wpAny_loadPart' hb
      show R (.ok (.ret (.bool (decide (vs.toArray.size < us.toArray.size))))) _
      rw [List.size_toArray, List.size_toArray, lx, ly]
      exact hR
  intro k
  induction k with
  | zero =>
    intro i hk h1 h2 hR
    exact stop i (by omega) h1 h2 hR
  | succ k ih =>
    intro i hk h1 h2 hR
    by_cases c : i = ys.length
    · exact stop i (.inr c) h1 h2 hR
    have i1 : i < xs.length := by (first | lia | omega)
    have i2 : i < ys.length := by (first | lia | omega)
    rw [llt_drop i1 i2] at hR
    refine codeAny_builtin MeetsSeq3.entry_eq_loop ?_
    rw [Around.under_plainId MeetsSeq3.plain_eq_loop _]
    wp_walk using AutoSeq1.wpAny_loadPart' ha, AutoSeq1.wpAny_loadPart' hb
    obtain ⟨m1, t1, g1, v1⟩ := L2.ints_at hx i (vs[i]'(by omega)) (List.getElem?_eq_getElem _)
    obtain ⟨m2, t2, g2, v2⟩ := L2.ints_at hy i (us[i]'(by omega)) (List.getElem?_eq_getElem _)
    have q1 : xs[i] = m1 := by rw [List.getElem?_eq_getElem i1] at g1; exact Option.some.inj g1
    have q2 : ys[i] = m2 := by rw [List.getElem?_eq_getElem i2] at g2; exact Option.some.inj g2
    have e1 : vs.toArray[((i : Nat) : Int).toNat]? = some (.int m1 t1) := by rw [← v1]; simp [show i < vs.length by omega]
    have e2 : us.toArray[((i : Nat) : Int).toNat]? = some (.int m2 t2) := by rw [← v2]; simp [show i < us.length by omega]
    rw [q1, q2] at hR
    rw [e1, e2]
    refine wpAny_bind (SeqAt.EqAt.int_int m1 t1 m2 t2 prog w _ _ ?_)
    by_cases e : m1 = m2
    · rw [if_pos e] at hR
      rw [show (m1 == m2) = true by simpa using e]
      have hc : ((i : Nat) : Int) + 1 = ((i + 1 : Nat) : Int) := by (first | lia | omega)
      wp_walk
      rw [hc]
      exact ⟨plainId_quiet MeetsSeq3.plain_eq_loop _, ih (i + 1) (by omega) (by omega) (by omega) hR⟩
    · rw [if_neg e] at hR
      rw [show (m1 == m2) = false by simpa using e]
      wp_walk using AutoSeq1.wpAny_loadPart' ha, AutoSeq1.wpAny_loadPart' hb
      rw [e1, e2]
      refine wpAny_bind (lt_int ?_)
      exact wpAny_pure hR
theorem meets_list_lt (a b : Addr) (vs us : List Value) (xs ys : List Int) (na nb : Nat) (dda ddb : Option Addr) (sla slb : Array (Option Value)) (hx : IntsAre vs xs) (hy : IntsAre us ys) : Meets (Builtin.«list.__lt__» ⟨[.ref a, .ref b], []⟩)
    (fun _ R s => s.heap.get? a = some { cls := .type "list", dict := dda, data := .seq vs.toArray na, slots := sla } ∧ s.heap.get? b = some { cls := .type "list", dict := ddb, data := .seq us.toArray nb, slots := slb } ∧ R (.ok (.ret (.bool (llt xs ys)))) s) := by
  intro prog w A R s h
  obtain ⟨hp, g, d, tk, os⟩ := s
  obtain ⟨ha, hb, h⟩ := h
  have isl : (⟨hp, g, d, tk, os⟩ : Shared).TypeIs (.ref b) "list" := ⟨_, hb, rfl⟩
  have hsub : isSubtype (.type "list") (.type "list") = pure true := by rw [isSubtype_type]; kernel_rfl
  unfold Builtin.«list.__lt__»
  wp_walk using AutoSeq1.wpAny_loadPart' ha, AutoSeq1.wpAny_loadPart' hb
  refine ⟨plainId_quiet MeetsSeq3.plain_eq_loop _, ?_⟩
  exact lt_loop ha hb hx hy _ 0 rfl (Nat.zero_le _) (Nat.zero_le _) h
theorem call_list_lt {a b : Addr} {vs us : List Value} {xs ys : List Int} {na nb : Nat} {dda ddb : Option Addr} {sla slb : Array (Option Value)} {Q : Value → Shared → Prop} (ha : s.heap.get? a = some { cls := .type "list", dict := dda, data := .seq vs.toArray na, slots := sla })
    (hb : s.heap.get? b = some { cls := .type "list", dict := ddb, data := .seq us.toArray nb, slots := slb }) (hx : IntsAre vs xs) (hy : IntsAre us ys) (h : Q (.bool (llt xs ys)) s) : wpAny (model prog w) A (call (.builtin "list.__lt__") [.ref a, .ref b]) Q E s :=
  call_meets F.slot_list_lt ⟨_, ha, rfl⟩ F.entry_list_lt (F.args_list_lt_2 _ _) (meets_list_lt a b vs us xs ys na nb dda ddb sla slb hx hy) ⟨ha, hb, h⟩
theorem oneLt_list {a b : Addr} {vs us : List Value} {xs ys : List Int} {na nb : Nat} {dda ddb : Option Addr} {sla slb : Array (Option Value)} {Q : Bool → Shared → Prop} (hu : A.units < cLine) (ha : s.heap.get? a = some { cls := .type "list", dict := dda, data := .seq vs.toArray na, slots := sla })
    (hb : s.heap.get? b = some { cls := .type "list", dict := ddb, data := .seq us.toArray nb, slots := slb }) (hx : IntsAre vs xs) (hy : IntsAre us ys) (h : Q (llt xs ys) s) : wpAny (model prog w) A (oneLt' true (.ref a) (.ref b)) Q E s := by
  rw [oneLt'_eq]
  simp only [if_true]
  refine wpAny_bind (wpAny_cRoomFor hu ?_)
  refine wpAny_bind (wpAny_callSpecialIfBound?_slot ⟨_, ha, rfl⟩ F.slot_list_lt (call_list_lt ha hb hx hy ?_))
  exact wpAny_truthy_bool h
end
end Rg
/-! THE ORDER OF LISTS: llt is an order; the rank of a list among finitely many. -/
namespace Rg
theorem llt_irrefl : ∀ xs : List Int, llt xs xs = false
  | [] => rfl
  | x :: xs => by unfold llt; rw [if_pos rfl]; exact llt_irrefl xs
theorem llt_trans : ∀ {xs ys zs : List Int}, llt xs ys = true → llt ys zs = true → llt xs zs = true
  | [], [], zs, h, _ => by cases h
  | [], y :: ys, [], _, h => by cases h
  | [], y :: ys, z :: zs, _, _ => rfl
  | x :: xs, [], zs, h, _ => by cases h
  | x :: xs, y :: ys, [], _, h => by cases h
  | x :: xs, y :: ys, z :: zs, h1, h2 => by
    unfold llt at h1 h2 ⊢
    by_cases e1 : x = y
    · rw [if_pos e1] at h1
      by_cases e2 : y = z
      · rw [if_pos e2] at h2
        rw [if_pos (e1.trans e2)]
        exact llt_trans h1 h2
      · rw [if_neg e2] at h2
        have := of_decide_eq_true h2
        rw [if_neg (by omega)]
        exact decide_eq_true (by omega)
    · rw [if_neg e1] at h1
      have a := of_decide_eq_true h1
      by_cases e2 : y = z
      · rw [if_neg (by omega)]
        exact decide_eq_true (by omega)
      · rw [if_neg e2] at h2
        have := of_decide_eq_true h2
        rw [if_neg (by omega)]
        exact decide_eq_true (by omega)
theorem llt_total : ∀ (xs ys : List Int), llt xs ys = true ∨ xs = ys ∨ llt ys xs = true
  | [], [] => .inr (.inl rfl)
  | [], y :: ys => .inl rfl
  | x :: xs, [] => .inr (.inr rfl)
  | x :: xs, y :: ys => by
    unfold llt
    by_cases e : x = y
    · rw [if_pos e, if_pos e.symm]
      subst e
      rcases llt_total xs ys with h | h | h
      · exact .inl h
      · exact .inr (.inl (by rw [h]))
      · exact .inr (.inr h)
    · rw [if_neg e, if_neg (Ne.symm e)]
      by_cases c : x < y
      · exact .inl (decide_eq_true c)
      · exact .inr (.inr (decide_eq_true (by omega)))
def rank (U : List (List Int)) (c : List Int) : Nat := (U.filter fun u => llt u c).length
theorem rank_le {U : List (List Int)} {c d : List Int} (h : ∀ u ∈ U, llt u c = true → llt u d = true) : rank U c ≤ rank U d := by
  unfold rank
  induction U with
  | nil => exact Nat.le_refl _
  | cons u U ih =>
    have ih' := ih fun v hv => h v (List.mem_cons_of_mem _ hv)
    rw [List.filter_cons, List.filter_cons]
    by_cases e : llt u c = true
    · rw [if_pos e, if_pos (h u List.mem_cons_self e)]
      simpa using ih'
    · rw [if_neg e]
      by_cases e2 : llt u d = true
      · rw [if_pos e2, List.length_cons]; (first | lia | omega)
      · rw [if_neg e2]; exact ih'
theorem rank_lt {U : List (List Int)} {c d : List Int} (hc : c ∈ U) (h : llt c d = true) : rank U c < rank U d := by
  induction U with
  | nil => cases hc
  | cons u U ih =>
    have le : rank U c ≤ rank U d := rank_le fun v _ hv => llt_trans hv h
    unfold rank at ih le ⊢
    rw [List.filter_cons, List.filter_cons]
    by_cases e : llt u c = true
    · rw [if_pos e, if_pos (llt_trans e h), List.length_cons, List.length_cons]
      have hm : c ∈ U := by
        rcases List.mem_cons.mp hc with z | z
        · rw [z, llt_irrefl] at e; cases e
        · exact z
      have := ih hm
      (first | lia | omega)
    · rw [if_neg e]
      by_cases e2 : llt u d = true
      · rw [if_pos e2, List.length_cons]; (first | lia | omega)
      · rw [if_neg e2]
        rcases List.mem_cons.mp hc with z | z
        · rw [← z] at e2; exact absurd h e2
        · exact ih z
theorem rank_iff {U : List (List Int)} {c d : List Int} (hc : c ∈ U) (hd : d ∈ U) : llt c d = decide ((rank U c : Int) < (rank U d : Int)) := by
  rcases llt_total c d with h | h | h
  · have := rank_lt hc h
    rw [h, decide_eq_true (by omega)]
  · rw [h, llt_irrefl, decide_eq_false (by omega)]
  · have := rank_lt hd h
    rw [decide_eq_false (by omega)]
    cases e : llt c d with
    | false => rfl
    | true =>
      have := llt_trans e h
      rw [llt_irrefl] at this
      cases this
end Rg
/-! WHAT THE SEARCH FINDS, as a list in order: just the roads that fit. -/
namespace Rg
theorem srt_congr {ps qs : List Int} (h : ps.Perm qs) : srt ps = srt qs := srt_unique ((srt_perm ps).trans h) (srt_sorted ps)
theorem done_perm {gs ps qs : List Int} (h : ps.Perm qs) : done gs ps = done gs qs := by unfold done; rw [needs_perm h]
theorem endsOf_perm : ∀ (n : Nat) {gs ps qs : List Int}, ps.Perm qs → endsOf n gs ps = endsOf n gs qs
  | 0, gs, ps, qs, h => by unfold endsOf; rw [done_perm h, srt_congr h]
  | n + 1, gs, ps, qs, h => by
    unfold endsOf
    rw [done_perm h, srt_congr h, nextOf_perm h]
    split
    · rfl
    · rw [List.flatMap_def, List.flatMap_def]
      congr 1
      exact List.map_congr_left fun p _ => endsOf_perm n (h.append_right [p])
theorem endsOf_lack {n : Nat} {gs ps : List Int} {d : Int} (h : lef gs (needs ps) = (none, some d)) : endsOf n gs ps = [] := by
  have nd : ¬ done gs ps = true := fun z => by
    have := of_decide_eq_true z
    rw [h] at this
    cases this
  cases n with
  | zero => unfold endsOf; rw [if_neg nd]
  | succ n => unfold endsOf; rw [if_neg nd, nextOf_none h]; rfl
theorem endsOf_len : ∀ (n : Nat) (gs ps : List Int), (endsOf n gs ps).length ≤ 2 ^ n
  | 0, gs, ps => by unfold endsOf; split <;> simp
  | n + 1, gs, ps => by
    have p1 : 1 ≤ 2 ^ n := Nat.one_le_two_pow
    unfold endsOf
    split
    · simp
      (first | lia | omega)
    · have l2 := nextOf_len gs ps
      have gen : ∀ l : List Int, (l.flatMap fun p => endsOf n gs (ps ++ [p])).length ≤ l.length * 2 ^ n := fun l => by
        induction l with
        | nil => simp
        | cons a l ih =>
          have := endsOf_len n gs (ps ++ [a])
          rw [List.flatMap_cons, List.length_append, List.length_cons, Nat.succ_mul]
          (first | lia | omega)
      refine Nat.le_trans (gen _) ?_
      rw [Nat.pow_succ, Nat.mul_comm (2 ^ n)]
      exact Nat.mul_le_mul_right _ l2
/-- a road that fits the list -/
structure Fit (gs r : List Int) : Prop where
  some : 1 ≤ r.length
  rise : r.Pairwise (· < ·)
  zero : r.getD 0 0 = 0
  gaps : srt (fnd r) = gs
theorem fit_nil {r : List Int} : Fit [] r ↔ r = [0] := by
  constructor
  · intro h
    have hl := fnd_length r
    have e : (fnd r).length = 0 := by rw [← srt_length, h.gaps]; rfl
    rw [e] at hl
    have h1 := h.some
    have h2 : r.length = 1 := by
      rcases Nat.lt_or_ge r.length 2 with c | c
      · (first | lia | omega)
      · have : 0 < r.length * (r.length - 1) := Nat.mul_pos (by omega) (by omega)
        (first | lia | omega)
    match r, h2, h.zero with
    | [a], _, z => simp at z; rw [z]
  · rintro rfl
    exact ⟨by simp, by simp, rfl, by decide +kernel⟩
theorem fit_short {gs r : List Int} (h : Fit gs r) (h21 : gs.length ≤ 21) : r.length ≤ 7 := by
  have hl := fnd_length r
  have e : (fnd r).length = gs.length := by rw [← srt_length, h.gaps]
  rcases Nat.lt_or_ge 7 r.length with c | c
  · have : 8 * 7 ≤ r.length * (r.length - 1) := Nat.mul_le_mul (by omega) (by omega)
    (first | lia | omega)
  · exact c
theorem fit_last {gs r : List Int} (hs : gs.Pairwise (· ≤ ·)) (z : gs ≠ []) (hp : ∀ g ∈ gs, 1 ≤ g) (h : Fit gs r) : lastI r = lastI gs := by
  have lm := last_in z
  have l1 := hp _ lm
  obtain ⟨lmm, lmx⟩ := last_max hs z
  have hf := fnd_in h.rise h.zero
  have rb := rise_between h.rise h.zero
  have hmem : ∀ x, x ∈ gs ↔ x ∈ fnd r := fun x => by rw [← h.gaps, srt_mem]
  have lr : lastI r ∈ r := last_in (List.length_pos_iff.mp h.some)
  have u1 := (hf _ ((hmem _).mp lm)).2
  have u1' : lastI gs ≤ lastI r := u1
  have two : 2 ≤ r.length := by
    rcases Nat.lt_or_ge r.length 2 with c | c
    · exfalso
      have := fnd_length r
      have h1 := h.some
      have e : r.length = 1 := by (first | lia | omega)
      rw [e] at this
      have e0 : fnd r = [] := List.length_eq_zero_iff.mp (by omega)
      have := (hmem _).mp lm
      rw [e0] at this
      cases this
    · exact c
  have u2 : lastI r ∈ gs := by
    rw [hmem]
    match r, two, h.zero, lr with
    | a :: b :: t, _, hz, lr =>
      have ha : a = 0 := by simpa using hz
      subst ha
      have lr' : lastI (0 :: b :: t) ∈ b :: t := by
        rcases List.mem_cons.mp lr with e | e
        · exfalso
          have := (List.pairwise_cons.mp h.rise).1 b (by simp)
          have := (rb b (by simp)).2
          have e' : (0 :: b :: t).getD ((0 :: b :: t).length - 1) 0 = 0 := e
          (first | lia | omega)
        · exact e
      show _ ∈ (b :: t).map (· - 0) ++ fnd (b :: t)
      exact List.mem_append_left _ (List.mem_map.mpr ⟨_, lr', by omega⟩)
  have := lmx _ u2
  (first | lia | omega)
theorem ends_iff {gs r : List Int} (hs : gs.Pairwise (· ≤ ·)) (hp : ∀ g ∈ gs, 1 ≤ g) (h21 : gs.length ≤ 21) : r ∈ endsOf 5 gs (sureL gs) ↔ Fit gs r := by
  by_cases z : gs = []
  · subst z
    have e : endsOf 5 [] (sureL []) = [[0]] := by decide +kernel
    rw [e, fit_nil]
    simp
  have lm := last_in z
  have l1 := hp _ lm
  obtain ⟨lmm, lmx⟩ := last_max hs z
  have es : sureL gs = [0, lastI gs] := if_neg z
  rw [es]
  constructor
  · intro h
    have nd : ([0, lastI gs] : List Int).Nodup := by simp; (first | lia | omega)
    obtain ⟨a1, a2, a3, a4, a5⟩ := ends_fit (L := lastI gs) hs (fun x hx => ⟨hp x hx, lmx x hx⟩) 5 nd (by simp) (by simp) (by intro x hx; simp at hx; omega) h
    refine ⟨?_, a1, a2, a5⟩
    cases r with
    | nil => rw [← a5] at z; exact absurd (by decide +kernel) z
    | cons a t => simp
  · intro h
    have hf := fnd_in h.rise h.zero
    have rb := rise_between h.rise h.zero
    have hmem : ∀ x, x ∈ gs ↔ x ∈ fnd r := fun x => by rw [← h.gaps, srt_mem]
    have lr : lastI r ∈ r := last_in (List.length_pos_iff.mp h.some)
    have eL := fit_last hs z hp h
    have m0 : (0 : Int) ∈ r := by
      cases r with
      | nil => have := h.some; simp at this
      | cons a t =>
        have : a = 0 := by simpa using h.zero
        rw [this]; simp
    have mL : lastI gs ∈ r := eL ▸ lr
    have hne : lastI gs ∈ r.erase 0 := (List.mem_erase_of_ne (by omega)).mpr mL
    have pm : r.Perm ((r.erase 0).erase (lastI gs) ++ [0, lastI gs]) := by
      refine (List.perm_cons_erase m0).trans ?_
      refine ((List.perm_cons_erase hne).cons 0).trans ?_
      exact (List.perm_append_comm (l₁ := [0, lastI gs]) (l₂ := (r.erase 0).erase (lastI gs)))
    have hg : gs.Perm (btw r) := by
      rw [btw_fnd h.rise]
      exact h.gaps ▸ srt_perm (fnd r)
    refine ends_all hs hg h.rise (L := lastI gs) (fun x hx => ?_) 5 pm (by simp) (by simp) ?_
    · have := rb x hx
      have e' : r.getD (r.length - 1) 0 = lastI gs := eL
      (first | lia | omega)
    · have := fit_short h h21
      have e1 := pm.length_eq
      rw [List.length_append] at e1
      simp at e1
      (first | lia | omega)
/-- the roads that fit, in order, each once -/
structure Told (gs : List Int) (rs : List (List Int)) : Prop where
  order : rs.Pairwise fun a b => llt a b = true
  all : ∀ r, r ∈ rs ↔ Fit gs r
end Rg
/-! THE MIRRORED ROAD fits where the road does; roads so many times as wide. -/
namespace Rg
theorem mirr_len (ps : List Int) : (mirr ps).length = ps.length := by unfold mirr; rw [List.length_map, List.length_reverse]
theorem mirr_rise {ps : List Int} (h : ps.Pairwise (· < ·)) : (mirr ps).Pairwise (· < ·) := by
  unfold mirr
  rw [List.pairwise_map, List.pairwise_reverse]
  exact h.imp fun {a b} hab => by (first | lia | omega)
theorem mirr_zero {ps : List Int} (h1 : 1 ≤ ps.length) : (mirr ps).getD 0 0 = 0 := by
  have e : ps = ps.dropLast ++ [lastI ps] := by
    have hn : ps ≠ [] := List.length_pos_iff.mp h1
    have e : lastI ps = ps.getLast hn := by
      unfold lastI
      rw [List.getLast_eq_getElem]
      simp [List.getD_eq_getElem?_getD, show ps.length - 1 < ps.length by omega]
    rw [e]
    exact (List.dropLast_concat_getLast hn).symm
  have e2 : mirr ps = ps.reverse.map fun p => lastI ps - p := rfl
  rw [e2]
  obtain ⟨L, hL⟩ : ∃ L, L = lastI ps := ⟨_, rfl⟩
  rw [← hL] at e ⊢
  rw [e]
  simp
theorem mirr_last {ps : List Int} (h1 : 1 ≤ ps.length) (h0 : ps.getD 0 0 = 0) : lastI (mirr ps) = lastI ps := by
  cases ps with
  | nil => simp at h1
  | cons a t =>
    have : a = 0 := by simpa using h0
    subst this
    have e2 : mirr (0 :: t) = (0 :: t).reverse.map fun p => lastI (0 :: t) - p := rfl
    rw [e2, List.reverse_cons, List.map_append]
    obtain ⟨L, hL⟩ : ∃ L, L = lastI (0 :: t) := ⟨_, rfl⟩
    rw [← hL]
    unfold lastI
    simp [List.getD_eq_getElem?_getD]
theorem fit_self {ps : List Int} (h1 : 1 ≤ ps.length) (h2 : ps.Pairwise (· < ·)) (h3 : ps.getD 0 0 = 0) : Fit (srt (fnd ps)) ps := ⟨h1, h2, h3, rfl⟩
end Rg
/-! CROSSED ROADS: the differences of sums, folded. -/
namespace Rg
/-- all ordered differences -/
def df (l : List Int) : List Int := l.flatMap fun x => l.map fun y => y - x
def sums (A B : List Int) : List Int := A.flatMap fun a => B.map (a + ·)
theorem flat_nil {α : Type} (l : List α) : (l.flatMap fun _ => ([] : List Int)) = [] := by
  induction l with
  | nil => rfl
  | cons a l ih => rw [List.flatMap_cons, ih]; rfl
theorem flat_two {α : Type} {F G : α → List Int} : ∀ l : List α, (l.flatMap fun a => F a ++ G a).Perm (l.flatMap F ++ l.flatMap G)
  | [] => .refl _
  | a :: r => by
    rw [List.flatMap_cons, List.flatMap_cons, List.flatMap_cons]
    have ih := flat_two (F := F) (G := G) r
    refine ((List.Perm.refl (F a ++ G a)).append ih).trans ?_
    rw [List.append_assoc, List.append_assoc]
    refine (List.Perm.refl (F a)).append ?_
    rw [← List.append_assoc, ← List.append_assoc]
    exact List.perm_append_comm.append (.refl _)
theorem flat_comm {α β : Type} {f : α → β → List Int} (m : List β) : ∀ l : List α, (l.flatMap fun x => m.flatMap fun y => f x y).Perm (m.flatMap fun y => l.flatMap fun x => f x y)
  | [] => by
    rw [List.flatMap_nil]
    exact .of_eq (flat_nil m).symm
  | a :: l => by
    rw [List.flatMap_cons]
    refine ((List.Perm.refl _).append (flat_comm m l)).trans ?_
    refine (flat_two m).symm.trans ?_
    exact .of_eq (by simp only [List.flatMap_cons])
theorem flat_congr {α : Type} {F G : α → List Int} : ∀ l : List α, (∀ x ∈ l, (F x).Perm (G x)) → (l.flatMap F).Perm (l.flatMap G)
  | [], _ => .refl _
  | a :: l, h => by
    rw [List.flatMap_cons, List.flatMap_cons]
    exact (h a List.mem_cons_self).append (flat_congr l fun x hx => h x (List.mem_cons_of_mem _ hx))
theorem map_flat {α : Type} (g : α → Int) (l : List α) : l.map g = l.flatMap fun x => [g x] := by
  induction l with
  | nil => rfl
  | cons a l ih => rw [List.map_cons, List.flatMap_cons, ih]; rfl
/-- the differences of sums are the sums of differences -/
theorem df_sums (A B : List Int) : (df (sums A B)).Perm (sums (df A) (df B)) := by
  have e1 : df (sums A B) = A.flatMap fun a => B.flatMap fun b => A.flatMap fun c => B.flatMap fun d => [c + d - (a + b)] := by
    unfold df sums
    rw [List.flatMap_assoc]
    congr 1
    funext a
    rw [List.flatMap_map]
    congr 1
    funext b
    rw [List.map_flatMap]
    congr 1
    funext c
    rw [List.map_map, map_flat]
    rfl
  have e2 : sums (df A) (df B) = A.flatMap fun a => A.flatMap fun c => B.flatMap fun b => B.flatMap fun d => [c - a + (d - b)] := by
    unfold df sums
    rw [List.flatMap_assoc]
    congr 1
    funext a
    rw [List.flatMap_map]
    congr 1
    funext c
    rw [List.map_flatMap]
    congr 1
    funext b
    rw [List.map_map, map_flat]
    rfl
  rw [e1, e2]
  refine flat_congr A fun a _ => ?_
  refine (flat_comm A B).trans ?_
  refine flat_congr A fun c _ => flat_congr B fun b _ => ?_
  refine .of_eq ?_
  congr 1
  funext d
  congr 1
  (first | lia | omega)
theorem df_perm {l m : List Int} (h : l.Perm m) : (df l).Perm (df m) := by
  unfold df
  refine (flat_congr l fun x _ => (h.map fun y => y - x)).trans ?_
  exact h.flatMap_right _
theorem df_neg (l : List Int) : (df l).Perm ((df l).map fun d => -d) := by
  have e1 : df l = l.flatMap fun x => l.flatMap fun y => [y - x] := by
    unfold df
    congr 1
    funext x
    rw [map_flat]
  have e2 : (df l).map (fun d => -d) = l.flatMap fun x => l.flatMap fun y => [x - y] := by
    rw [e1, List.map_flatMap]
    congr 1
    funext x
    rw [List.map_flatMap]
    congr 1
    funext y
    show [-(y - x)] = [x - y]
    congr 1
    (first | lia | omega)
  rw [e2, e1]
  exact flat_comm l l
theorem df_mirr (L : Int) (l : List Int) : (df (l.map fun p => L - p)).Perm (df l) := by
  have e : df (l.map fun p => L - p) = (df l).map fun d => -d := by
    unfold df
    rw [List.flatMap_map, List.map_flatMap]
    congr 1
    funext x
    rw [List.map_map, List.map_map]
    congr 1
    funext y
    show L - y - (L - x) = -(y - x)
    (first | lia | omega)
  rw [e]
  exact (df_neg l).symm
theorem count_add (e d : Int) (l : List Int) : (l.map (e + ·)).count d = l.count (d - e) := by
  induction l with
  | nil => rfl
  | cons a l ih =>
    rw [List.map_cons, List.count_cons, List.count_cons, ih]
    congr 1
    by_cases c : a = d - e
    · rw [if_pos (by simp; omega), if_pos (by simp; omega)]
    · rw [if_neg (by simp; omega), if_neg (by simp; omega)]
theorem count_sums (A B : List Int) (d : Int) : (sums A B).count d = (A.map fun a => B.count (d - a)).sum := by
  unfold sums
  rw [List.count_flatMap]
  congr 1
  refine List.map_congr_left fun a _ => ?_
  exact count_add a d B
theorem sum_add (f g : Int → Nat) : ∀ l : List Int, (l.map fun e => f e + g e).sum = (l.map f).sum + (l.map g).sum
  | [] => rfl
  | a :: l => by
    simp only [List.map_cons, List.sum_cons]
    rw [sum_add f g l]
    (first | lia | omega)
theorem sum_one (x : Int) (g : Int → Nat) : ∀ R : List Int, R.Nodup → x ∈ R → (R.map fun e => if e = x then g e else 0).sum = g x
  | [], _, h => by cases h
  | a :: R, hn, h => by
    rw [List.nodup_cons] at hn
    rw [List.map_cons, List.sum_cons]
    have zero : ∀ R : List Int, x ∉ R → (R.map fun e => if e = x then g e else 0).sum = 0 := fun R => by
      induction R with
      | nil => intro _; rfl
      | cons b R ih =>
        intro hb
        rw [List.map_cons, List.sum_cons, ih fun z => hb (List.mem_cons_of_mem _ z), if_neg fun z => hb (by rw [z]; exact List.mem_cons_self)]
    by_cases c : a = x
    · rw [if_pos c, zero R (by rw [← c]; exact hn.1), c]
      (first | lia | omega)
    · rw [if_neg c, sum_one x g R hn.2 ((List.mem_cons.mp h).resolve_left fun z => c z.symm)]
      (first | lia | omega)
/-- a sum over a list, told by how often each number stands in it -/
theorem sum_count (g : Int → Nat) (R : List Int) (hR : R.Nodup) : ∀ l : List Int, (∀ x ∈ l, x ∈ R) → (l.map g).sum = (R.map fun e => l.count e * g e).sum
  | [], _ => by
    have : ∀ R : List Int, (R.map fun e => ([] : List Int).count e * g e).sum = 0 := fun R => by
      induction R with
      | nil => rfl
      | cons b R ih => rw [List.map_cons, List.sum_cons, ih]; simp
    rw [this]; rfl
  | x :: l, h => by
    have ih := sum_count g R hR l fun y hy => h y (List.mem_cons_of_mem _ hy)
    rw [List.map_cons, List.sum_cons, ih]
    have e : (fun e => (x :: l).count e * g e) = fun e => l.count e * g e + if e = x then g e else 0 := by
      funext e
      rw [List.count_cons]
      by_cases c : e = x
      · subst c
        simp [Nat.add_mul]
      · rw [if_neg c, if_neg (by simpa using fun z => c z.symm), Nat.add_zero, Nat.add_zero]
    rw [e, sum_add, sum_one x g R hR (h x List.mem_cons_self)]
    (first | lia | omega)
/-! ### differences and distances -/
theorem count_map_sub (a d : Int) (hd : 0 ≤ d) : ∀ l : List Int, ((l.filter fun b => decide (a ≤ b)).map (· - a)).count d = (l.map (· - a)).count d
  | [] => rfl
  | b :: l => by
    have ih := count_map_sub a d hd l
    rw [List.filter_cons, List.map_cons, List.count_cons]
    by_cases c : a ≤ b
    · rw [if_pos (decide_eq_true c), List.map_cons, List.count_cons, ih]
    · rw [if_neg (by simpa using c), ih, if_neg (by simp; omega)]
      (first | lia | omega)
theorem pairs_df (l : List Int) {d : Int} (hd : 0 ≤ d) : (pairs l).count d = (df l).count d := by
  unfold pairs df
  rw [List.count_flatMap, List.count_flatMap]
  congr 1
  exact List.map_congr_left fun a _ => count_map_sub a d hd l
theorem fnd_df {ps : List Int} (h : ps.Pairwise (· < ·)) {d : Int} (hd : 1 ≤ d) : (fnd ps).count d = (df ps).count d := by
  have e := pairs_count h d
  rw [if_neg (by omega), pairs_df ps (by omega)] at e
  (first | lia | omega)
/-- roads with the same differences have the same distances -/
theorem gaps_of_df {ps qs : List Int} (hp : ps.Pairwise (· < ·)) (hq : qs.Pairwise (· < ·)) (h : ∀ d, 1 ≤ d → (df ps).count d = (df qs).count d) : srt (fnd ps) = srt (fnd qs) := by
  refine srt_congr (List.perm_iff_count.mpr fun d => ?_)
  by_cases c : 1 ≤ d
  · rw [fnd_df hp c, fnd_df hq c, h d c]
  · rw [List.count_eq_zero.mpr fun z => c (fnd_pos hp d z), List.count_eq_zero.mpr fun z => c (fnd_pos hq d z)]
/-! ### crossed roads -/
theorem mirr_perm (B : List Int) : (mirr B).Perm (B.map fun p => lastI B - p) := (List.reverse_perm B).map _
theorem cross_df (A B : List Int) : (df (sums A (mirr B))).Perm (df (sums A B)) := by
  refine (df_sums A (mirr B)).trans (List.Perm.trans ?_ (df_sums A B).symm)
  unfold sums
  exact flat_congr (df A) fun e _ => (((df_perm (mirr_perm B)).trans (df_mirr _ B)).map (e + ·))
theorem count_sub0 (x : Int) : ∀ l : List Int, (l.map fun y => y - x).count 0 = l.count x
  | [] => rfl
  | a :: l => by
    rw [List.map_cons, List.count_cons, List.count_cons, count_sub0 x l]
    congr 1
    by_cases c : a = x
    · rw [if_pos (by simp; omega), if_pos (by simpa using c)]
    · rw [if_neg (by simp; omega), if_neg (by simpa using c)]
/-- nothing stands twice just where as many differences are nought as there are numbers -/
theorem nodup_df {l : List Int} : l.Nodup ↔ (df l).count 0 = l.length := by
  have e : (df l).count 0 = (l.map fun x => l.count x).sum := by
    unfold df
    rw [List.count_flatMap]
    congr 1
    exact List.map_congr_left fun x _ => count_sub0 x l
  rw [e]
  constructor
  · intro hn
    have : l.map (fun x => l.count x) = l.map fun _ => 1 := List.map_congr_left fun x hx => by
      have a := List.nodup_iff_count.mp hn x
      have b : 0 < l.count x := List.count_pos_iff.mpr hx
      (first | lia | omega)
    rw [this]
    clear this e hn
    induction l with
    | nil => rfl
    | cons a t ih => rw [List.map_cons, List.sum_cons, ih, List.length_cons]; (first | lia | omega)
  · intro h
    rw [List.nodup_iff_count]
    intro x
    by_cases hx : x ∈ l
    · have gen : ∀ m : List Int, (∀ y ∈ m, y ∈ l) → m.length + (if x ∈ m then l.count x - 1 else 0) ≤ (m.map fun y => l.count y).sum := fun m => by
        induction m with
        | nil => intro _; simp
        | cons a t ih =>
          intro hm
          have i1 := ih fun y hy => hm y (List.mem_cons_of_mem _ hy)
          have a1 : 0 < l.count a := List.count_pos_iff.mpr (hm a List.mem_cons_self)
          rw [List.map_cons, List.sum_cons, List.length_cons]
          by_cases c : x = a
          · subst c
            rw [if_pos List.mem_cons_self]
            split at i1 <;> (first | lia | omega)
          · have : x ∈ a :: t ↔ x ∈ t := by simp [c]
            by_cases c2 : x ∈ t
            · rw [if_pos (this.mpr c2)]
              rw [if_pos c2] at i1
              (first | lia | omega)
            · rw [if_neg fun z => c2 (this.mp z)]
              rw [if_neg c2] at i1
              (first | lia | omega)
      have g := gen l fun y hy => hy
      rw [if_pos hx, h] at g
      (first | lia | omega)
    · rw [List.count_eq_zero.mpr hx]
      (first | lia | omega)
theorem sums_len (A B : List Int) : (sums A B).length = A.length * B.length := by
  unfold sums
  induction A with
  | nil => simp
  | cons p r ih => rw [List.flatMap_cons, List.length_append, List.length_map, ih, List.length_cons, Nat.add_mul, Nat.one_mul, Nat.add_comm]
theorem cross_nodup {A B : List Int} (h : (sums A B).Nodup) : (sums A (mirr B)).Nodup := by
  rw [nodup_df] at h ⊢
  rw [(cross_df A B).count_eq, h, sums_len, sums_len, mirr_len]
theorem cross_gaps {A B : List Int} (h : (sums A B).Nodup) : srt (fnd (srt (sums A (mirr B)))) = srt (fnd (srt (sums A B))) := by
  have r1 : ∀ l : List Int, l.Nodup → (srt l).Pairwise (· < ·) := fun l hn => ((srt_sorted l).and ((srt_perm l).nodup_iff.mpr hn)).imp fun {a b} hab => by have := hab.1; have := hab.2; (first | lia | omega)
  refine gaps_of_df (r1 _ (cross_nodup h)) (r1 _ h) fun d _ => ?_
  rw [(df_perm (srt_perm _)).count_eq, (df_perm (srt_perm (sums A B))).count_eq, (cross_df A B).count_eq]
/-! ### the spread, folded -/
theorem spr_at {ps : List Int} (h : ps.Pairwise (· < ·)) (h0 : ps.getD 0 0 = 0) (h1 : 1 ≤ ps.length) {i : Nat} (hi : (i : Int) ≤ lastI ps) : (spr ps).getD i 0 = ((df ps).count (i : Int) : Nat) := by
  rw [spr_rows h h0 h1]
  unfold rowsOf
  have L0 : 0 ≤ lastI ps := (rise_between h h0 _ (last_in (List.length_pos_iff.mp h1))).1
  have hl : (List.replicate (ps.getD (ps.length - 1) 0 + 1).toNat (0 : Int)).length = (lastI ps + 1).toNat := List.length_replicate
  rw [bump_at _ _ _ (fun d hd => by have := pairs_in h h0 d hd; rw [hl]; unfold lastI; omega) (by rw [hl]; omega), pairs_df ps (by omega)]
  have : (List.replicate (ps.getD (ps.length - 1) 0 + 1).toNat (0 : Int)).getD i 0 = 0 := by
    rw [List.getD_eq_getElem?_getD, List.getElem?_replicate]
    split <;> rfl
  rw [this]
  (first | lia | omega)
theorem df_in {ps : List Int} (h : ps.Pairwise (· < ·)) (h0 : ps.getD 0 0 = 0) : ∀ d ∈ df ps, -(lastI ps) ≤ d ∧ d ≤ lastI ps := fun d hd => by
  unfold df at hd
  obtain ⟨x, hx, hd⟩ := List.mem_flatMap.mp hd
  obtain ⟨y, hy, rfl⟩ := List.mem_map.mp hd
  have a := rise_between h h0 x hx
  have b := rise_between h h0 y hy
  have c : ps.getD (ps.length - 1) 0 = lastI ps := rfl
  (first | lia | omega)
/-- the differences of crossed roads at d, told number by number -/
theorem fold_df {A B : List Int} {R : List Int} (hR : R.Nodup) (hin : ∀ d ∈ df A, d ∈ R) (d : Int) : (df (sums A B)).count d = (R.map fun e => (df A).count e * (df B).count (d - e)).sum := by
  rw [(df_sums A B).count_eq, count_sums, sum_count (fun e => (df B).count (d - e)) R hR (df A) hin]
theorem df_abs (l : List Int) (d : Int) : (df l).count (if d < 0 then -d else d) = (df l).count d := by
  split
  · have h := (df_neg l).count_eq d
    rw [h]
    have gen : ∀ m : List Int, (m.map fun x => -x).count d = m.count (-d) := fun m => by
      induction m with
      | nil => rfl
      | cons a m ih =>
        rw [List.map_cons, List.count_cons, List.count_cons, ih]
        congr 1
        by_cases c : a = -d
        · rw [if_pos (by simp; omega), if_pos (by simpa using c)]
        · rw [if_neg (by simp; omega), if_neg (by simpa using c)]
    rw [gen]
  · rfl
/-! ### what the law reckons -/
def absI (d : Int) : Int := if d < 0 then -d else d
theorem absI_nn (d : Int) : 0 ≤ absI d := by unfold absI; split <;> (first | lia | omega)
def term (ls rs : List Int) (d e : Int) : Int := if absI (d - e) < (rs.length : Int) then ls.getD (absI e).toNat 0 * rs.getD (absI (d - e)).toNat 0 else 0
def foldTo (ls rs : List Int) (d : Int) : Nat → Int
  | 0 => 0
  | k + 1 => foldTo ls rs d k + term ls rs d (1 - (ls.length : Int) + (k : Nat))
theorem spr_len (ps : List Int) : (spr ps).length = (lastI ps + 1).toNat := by
  unfold spr
  rw [bump_len, List.length_set, List.length_replicate]
  rfl
theorem last_nn {ps : List Int} (h : ps.Pairwise (· < ·)) (h0 : ps.getD 0 0 = 0) (h1 : 1 ≤ ps.length) : 0 ≤ lastI ps := (rise_between h h0 _ (last_in (List.length_pos_iff.mp h1))).1
theorem spr_abs {ps : List Int} (h : ps.Pairwise (· < ·)) (h0 : ps.getD 0 0 = 0) (h1 : 1 ≤ ps.length) {e : Int} (he : absI e ≤ lastI ps) : (spr ps).getD (absI e).toNat 0 = ((df ps).count e : Nat) := by
  have n := absI_nn e
  rw [spr_at h h0 h1 (by omega), show (((absI e).toNat : Nat) : Int) = absI e by omega]
  exact congrArg _ (df_abs ps e)
theorem term_spr {A B : List Int} (a1 : A.Pairwise (· < ·)) (a2 : A.getD 0 0 = 0) (a3 : 1 ≤ A.length) (b1 : B.Pairwise (· < ·)) (b2 : B.getD 0 0 = 0) (b3 : 1 ≤ B.length) (d : Int) {e : Int} (he : absI e ≤ lastI A) :
    term (spr A) (spr B) d e = (((df A).count e * (df B).count (d - e) : Nat) : Int) := by
  unfold term
  have nB := last_nn b1 b2 b3
  rw [spr_len]
  by_cases c : absI (d - e) < (((lastI B + 1).toNat : Nat) : Int)
  · rw [if_pos c, spr_abs a1 a2 a3 he, spr_abs b1 b2 b3 (by omega)]
    push_cast
    rfl
  · rw [if_neg c]
    have z : (df B).count (d - e) = 0 := List.count_eq_zero.mpr fun m => by
      have := df_in b1 b2 _ m
      unfold absI at c
      split at c <;> (first | lia | omega)
    rw [z]
    simp
theorem fold_spr {A B : List Int} (a1 : A.Pairwise (· < ·)) (a2 : A.getD 0 0 = 0) (a3 : 1 ≤ A.length) (b1 : B.Pairwise (· < ·)) (b2 : B.getD 0 0 = 0) (b3 : 1 ≤ B.length) (d : Int) {m : Nat} (hm : (m : Int) = 2 * lastI A + 1) :
    foldTo (spr A) (spr B) d m = ((df (sums A B)).count d : Nat) := by
  have nA := last_nn a1 a2 a3
  have hn : (((spr A).length : Nat) : Int) = lastI A + 1 := by rw [spr_len]; (first | lia | omega)
  have step : ∀ k : Nat, k ≤ m → foldTo (spr A) (spr B) d k = (((((List.range k).map fun i => 1 - (((spr A).length : Nat) : Int) + ((i : Nat) : Int)).map fun e => (df A).count e * (df B).count (d - e)).sum : Nat) : Int) := fun k => by
    induction k with
    | zero => intro _; rfl
    | succ k ih =>
      intro hk
      rw [List.range_succ, List.map_append, List.map_append, List.sum_append]
      show foldTo (spr A) (spr B) d k + term (spr A) (spr B) d (1 - (((spr A).length : Nat) : Int) + ((k : Nat) : Int)) = _
      rw [ih (by omega), term_spr a1 a2 a3 b1 b2 b3 d (by unfold absI; split <;> omega)]
      simp only [List.map_cons, List.map_nil, List.sum_cons, List.sum_nil, Nat.add_zero]
      push_cast
      rfl
  rw [step m (Nat.le_refl _), ← fold_df (A := A) (B := B) (R := (List.range m).map fun i => 1 - (((spr A).length : Nat) : Int) + ((i : Nat) : Int)) ?_ ?_ d]
  · exact (List.pairwise_map.mpr ((List.nodup_range (n := m)).imp fun {x y} hxy e => hxy (by omega)))
  · intro e he
    have := df_in a1 a2 e he
    exact List.mem_map.mpr ⟨(e - (1 - (((spr A).length : Nat) : Int))).toNat, List.mem_range.mpr (by omega), by omega⟩
theorem spr_bound {ps : List Int} (h : ps.Pairwise (· < ·)) (h0 : ps.getD 0 0 = 0) (h1 : 1 ≤ ps.length) : ∀ i : Nat, 0 ≤ (spr ps).getD i 0 ∧ (spr ps).getD i 0 ≤ ((ps.length * ps.length : Nat) : Int) := fun i => by
  by_cases c : (i : Int) ≤ lastI ps
  · rw [spr_at h h0 h1 c]
    have h2 : (df ps).count (i : Int) ≤ (df ps).length := List.count_le_length
    have h3 : (df ps).length = ps.length * ps.length := by
      have gen : ∀ (l m : List Int), (m.flatMap fun x => l.map fun y => y - x).length = m.length * l.length := fun l m => by
        induction m with
        | nil => simp
        | cons p r ih => rw [List.flatMap_cons, List.length_append, List.length_map, ih, List.length_cons, Nat.add_mul, Nat.one_mul, Nat.add_comm]
      exact gen ps ps
    (first | lia | omega)
  · have : (spr ps).getD i 0 = 0 := by
      rw [List.getD_eq_getElem?_getD, List.getElem?_eq_none (by rw [spr_len]; omega)]
      rfl
    rw [this]
    (first | lia | omega)
theorem rise_srt {l : List Int} (hn : l.Nodup) : (srt l).Pairwise (· < ·) := ((srt_sorted l).and ((srt_perm l).nodup_iff.mpr hn)).imp fun {a b} hab => by have := hab.1; have := hab.2; (first | lia | omega)
theorem sums_mem {A B : List Int} {x : Int} : x ∈ sums A B ↔ ∃ a ∈ A, ∃ b ∈ B, a + b = x := by
  unfold sums
  rw [List.mem_flatMap]
  constructor
  · rintro ⟨a, ha, h⟩
    obtain ⟨b, hb, e⟩ := List.mem_map.mp h
    exact ⟨a, ha, b, hb, e⟩
  · rintro ⟨a, ha, b, hb, e⟩
    exact ⟨a, ha, List.mem_map.mpr ⟨b, hb, e⟩⟩
theorem zero_in {ps : List Int} (h0 : ps.getD 0 0 = 0) (h1 : 1 ≤ ps.length) : (0 : Int) ∈ ps := by
  cases ps with
  | nil => cases h1
  | cons p r =>
    have : p = 0 := h0
    rw [this]
    exact List.mem_cons_self
theorem cross_zero {A B : List Int} (a1 : A.Pairwise (· < ·)) (a2 : A.getD 0 0 = 0) (a3 : 1 ≤ A.length) (b1 : B.Pairwise (· < ·)) (b2 : B.getD 0 0 = 0) (b3 : 1 ≤ B.length) : (srt (sums A B)).getD 0 0 = 0 := by
  have hm : (0 : Int) ∈ srt (sums A B) := srt_mem.mpr (sums_mem.mpr ⟨0, zero_in a2 a3, 0, zero_in b2 b3, by omega⟩)
  have hp : ∀ x ∈ srt (sums A B), 0 ≤ x := fun x hx => by
    obtain ⟨a, ha, b, hb, rfl⟩ := sums_mem.mp (srt_mem.mp hx)
    have := rise_between a1 a2 a ha
    have := rise_between b1 b2 b hb
    (first | lia | omega)
  have hs := srt_sorted (sums A B)
  cases e : srt (sums A B) with
  | nil => rfl
  | cons p r =>
    rw [e] at hm hp hs
    have h1 := hp p List.mem_cons_self
    rw [List.pairwise_cons] at hs
    show p = 0
    rcases List.mem_cons.mp hm with h | h
    · exact h.symm
    · have := hs.1 0 h
      (first | lia | omega)
theorem cross_last {A B : List Int} (a1 : A.Pairwise (· < ·)) (a2 : A.getD 0 0 = 0) (a3 : 1 ≤ A.length) (b1 : B.Pairwise (· < ·)) (b2 : B.getD 0 0 = 0) (b3 : 1 ≤ B.length) (hn : (sums A B).Nodup) : lastI (srt (sums A B)) = lastI A + lastI B := by
  have hl : lastI A + lastI B ∈ srt (sums A B) := srt_mem.mpr (sums_mem.mpr ⟨_, last_in (List.length_pos_iff.mp a3), _, last_in (List.length_pos_iff.mp b3), rfl⟩)
  have h1 := (rise_between (rise_srt hn) (cross_zero a1 a2 a3 b1 b2 b3) _ hl).2
  have h2 : lastI (srt (sums A B)) ∈ srt (sums A B) := last_in (List.ne_nil_of_mem hl)
  obtain ⟨a, ha, b, hb, e⟩ := sums_mem.mp (srt_mem.mp h2)
  have := (rise_between a1 a2 a ha).2
  have := (rise_between b1 b2 b hb).2
  unfold lastI at *
  (first | lia | omega)
theorem spr_same {p q : List Int} (p1 : p.Pairwise (· < ·)) (p2 : p.getD 0 0 = 0) (p3 : 1 ≤ p.length) (q1 : q.Pairwise (· < ·)) (q2 : q.getD 0 0 = 0) (q3 : 1 ≤ q.length) (hl : lastI p = lastI q) (h : ∀ d, (df p).count d = (df q).count d) : spr p = spr q := by
  refine List.ext_getElem (by rw [spr_len, spr_len, hl]) fun i h1 h2 => ?_
  rw [spr_len] at h1
  have e1 : (spr p).getD i 0 = (spr q).getD i 0 := by
    have := last_nn p1 p2 p3
    rw [spr_at p1 p2 p3 (by omega), spr_at q1 q2 q3 (by omega), h]
  have g : ∀ (l : List Int) (hi : i < l.length), l.getD i 0 = l[i] := fun l hi => by simp [List.getD_eq_getElem?_getD, hi]
  rw [← g, ← g, e1]
end Rg
/-! SORTED, of a list of lists of ints. -/
namespace RgG
open PySem PyProof.Rows Rg
/-- v is a list with these ints -/
def IsInts (h : Heap) (v : Value) (c : List Int) : Prop := ∃ (a : Addr) (vs : List Value) (n : Nat) (dd : Option Addr) (sl : Array (Option Value)), v = .ref a ∧ h.get? a = some { cls := .type "list", dict := dd, data := .seq vs.toArray n, slots := sl } ∧ IntsAre vs c
theorem ints_det : ∀ {vs : List Value} {c d : List Int}, IntsAre vs c → IntsAre vs d → c = d
  | _, _, _, .nil, .nil => rfl
  | _, _, _, .cons n t h, .cons _ _ k => by rw [ints_det h k]
theorem IsInts.det {h : Heap} {v : Value} {c d : List Int} (a : IsInts h v c) (b : IsInts h v d) : c = d := by
  obtain ⟨x, vs, n, dd, sl, rfl, hx, hc⟩ := a
  obtain ⟨y, us, m, de, sm, e, hy, hd⟩ := b
  cases e
  rw [hx] at hy
  have e2 : vs = us := by
    have := Option.some.inj hy
    injection this with _ _ z _
    injection z with z _
    exact List.toArray_inj z
  subst e2
  exact ints_det hc hd
/-- what stands in a list, told by its heap -/
noncomputable def content (h : Heap) (v : Value) : List Int := by
  classical
  exact if e : ∃ c, IsInts h v c then e.choose else []
theorem content_eq {h : Heap} {v : Value} {c : List Int} (a : IsInts h v c) : content h v = c := by
  unfold content
  have e : ∃ c, IsInts h v c := ⟨c, a⟩
  rw [dif_pos e]
  exact e.choose_spec.det a
/-- the order of the lists that are among U -/
noncomputable def ordL (h : Heap) (U : List (List Int)) : KOrd where
  kz p := (rank U (content h p.1) : Int)
  IntK p := ∃ c ∈ U, IsInts h p.1 c
section
variable {prog : Program} {w : World} {A : Around} {E : Value → Shared → Prop} {s : Shared}
theorem ltL {U : List (List Int)} (hu : A.units < cLine) : @KLt prog w A s (ordL s.heap U) := by
  letI := ordL s.heap U
  refine ⟨fun {E x y st Q} hk hx hy h => ?_⟩
  obtain ⟨c, hc, ic⟩ := hx
  obtain ⟨d, hd, id⟩ := hy
  have e1 : (kz x : Int) = (rank U c : Int) := by show ((rank U (content s.heap x.1) : Nat) : Int) = _; rw [content_eq ic]
  have e2 : (kz y : Int) = (rank U d : Int) := by show ((rank U (content s.heap y.1) : Nat) : Int) = _; rw [content_eq id]
  rw [e1, e2, ← rank_iff hc hd] at h
  obtain ⟨a, vs, n, dd, sl, ea, ha, hi⟩ := ic
  obtain ⟨b, us, m, de, sm, eb, hb, hj⟩ := id
  rw [lt'_eq]
  refine wpS_bind (wpS_get ?_)
  rw [hk, keyLt'_oneType, ea, eb]
  refine wpS_bind (wpS_lift (wpAny_attempt (oneLt_list hu ha hb hi hj ⟨rfl, ?_⟩)))
  exact wpS_pure h
theorem IsInts.looks {M : Model} {h : Heap} {v : Value} {c : List Int} (a : IsInts h v c) : PySem.W.Looks M h (typeOf v) (.type "list") := by
  obtain ⟨x, vs, n, dd, sl, rfl, hx, hc⟩ := a
  exact (PySem.W.Looks.ld hx).andThen .now
/-- a list in order: no later one is below an earlier one -/
def InOrder (h : Heap) (vs : List Value) : Prop := vs.Pairwise fun x y => ∀ c d, IsInts h x c → IsInts h y d → llt d c = false
theorem sort_lists {a : Addr} {vs : List Value} {U : List (List Int)} {n : Nat} {P : Fin → Shared → Prop} (hu : A.units < cLine) (ho : s.heap.get? a = some (seqObj "list" vs.toArray n)) (hc : ∀ v ∈ vs, v ≠ .ref a ∧ ∃ c ∈ U, IsInts s.heap v c) (hz : vs.length ≤ sizeLine)
    (h : ∀ out : Array Value, out.toList.Perm vs → InOrder s.heap out.toList → P (.done (.ret .none)) { s with heap := sortedHeap s.heap a vs out }) :
    wpAny (model prog w) A (Builtin.«list.sort» ⟨[.ref a], []⟩) P E s := by
  rw [list_sort_plain]
  have hlt : a < s.heap.objs.size := Heap.lt_size ho
  have size_vs : vs.toArray.size = vs.length := by simp
  refine wpAny_bind (listItems_at ho rfl (wpAny_bind (listUpdate_at ho rfl ?_ (by rw [size_vs]; exact hz) (Nat.zero_le _))))
  obtain ⟨e1, o1⟩ : ∃ e1, (s.heap.update a (Obj.mapSeq fun _ => #[])).get? a = some (seqObj "list" #[] e1) := ⟨_, get?_update_seq ho (fun _ => #[])⟩
  refine wpAny_bind (seqEpoch_at o1 rfl (wpAny_bind (wpAny_newTuple (wpAny_bind (wpAny_newList (wpAny_holding ?_))) (by simpa using hz))))
  have o6 : (((s.heap.update a (Obj.mapSeq fun _ => #[])).push (seqObj "tuple" vs.toArray 0)).push (seqObj "list" #[] 0)).get? a = some (seqObj "list" #[] e1) := by
    rw [Heap.get?_push_ne _ _ _ (by rw [size_push', Heap.size_update]; exact Nat.ne_of_lt (Nat.lt_succ_of_lt hlt)), Heap.get?_push_ne _ _ _ (by rw [Heap.size_update]; exact Nat.ne_of_lt hlt)]
    exact o1
  have old : ∀ {v : Value} {c : List Int}, v ≠ .ref a → IsInts s.heap v c → IsInts (((s.heap.update a (Obj.mapSeq fun _ => #[])).push (seqObj "tuple" vs.toArray 0)).push (seqObj "list" #[] 0)) v c := fun {v c} hv i => by
    obtain ⟨x, us, m, dd, sl, rfl, hx, hi⟩ := i
    have ne : x ≠ a := fun z => hv (by rw [z])
    exact ⟨x, us, m, dd, sl, rfl, Heap.get?_push_of_some _ (Heap.get?_push_of_some _ (by rw [Heap.get?_update_ne _ _ _ _ ne]; exact hx)), hi⟩
  show wpAny (model prog w) A _ P E { s with heap := ((s.heap.update a (Obj.mapSeq fun _ => #[])).push (seqObj "tuple" vs.toArray 0)).push (seqObj "list" #[] 0) }
  dsimp only
  by_cases h2 : vs.toArray.size < 2
  · rw [if_pos h2, if_pos h2]
    refine wpAny_bind (wpAny_pure ?_)
    rw [StateT.run_pure]
    refine wpAny_bind (wpAny_pure ?_)
    dsimp only
    refine wpAny_bind (seqEpoch_at o6 rfl ?_)
    refine wpAny_bind (listUpdate_at o6 rfl ?_ (hsz2 := by rw [Array.size_map]; show (pairsOf vs).size ≤ _; rw [pairsOf_size]; omega))
    simp only [bne_self_eq_false, Bool.false_eq_true, if_false]
    have e : ((pairsOf vs).map (fun p : Keyed => p.2)).toList = vs := by rw [Array.toList_map, pairsOf_toList, List.map_snd_zip (Nat.le_refl _)]
    refine wpAny_pure (h ((pairsOf vs).map (fun p : Keyed => p.2)) (by rw [e]) ?_)
    unfold InOrder
    rw [e]
    match vs, h2 with
    | [], _ => exact .nil
    | [_], _ => simp
    | _ :: _ :: r, h2 => exact absurd h2 (by simp)
  · rw [if_neg h2, if_neg h2]
    refine wpAny_bind (W.kas_kind (T := .type "list") (by rw [size_vs] at h2; omega) (fun v hv => ?_) (by decide +kernel) (by decide +kernel) ?_)
    · obtain ⟨hv1, c, _, i⟩ := hc v hv
      exact (old hv1 i).looks
    letI : KOrd := ordL (((s.heap.update a (Obj.mapSeq fun _ => #[])).push (seqObj "tuple" vs.toArray 0)).push (seqObj "list" #[] 0)) U
    haveI : KLt prog w A { s with heap := ((s.heap.update a (Obj.mapSeq fun _ => #[])).push (seqObj "tuple" vs.toArray 0)).push (seqObj "list" #[] 0) } := ltL hu
    refine wpAny_bind (wpAny_mono (wpS_sortAll (a₀ := pairsOf vs) (st := SortSt.mk' oneType' (vs.toArray.zip vs.toArray) #[] 7 none)
      (Q := fun _ st' => (arrOf st').Perm (pairsOf vs) ∧ failedOf st' = none ∧ SortedG (arrOf st') (pairsOf vs).size)
      (fun p hp => ?_) ⟨Array.Perm.refl _, rfl, rfl, rfl⟩ (by rw [pairsOf_size]; omega) fun st' q1 q2 q3 => ⟨q1, q2, q3⟩) ?_ fun _ _ e => e)
    · rw [pairsOf_toList] at hp
      obtain ⟨hv1, c, hcU, i⟩ := hc p.1 (mem_zip_self hp).2
      exact ⟨c, hcU, old hv1 i⟩
    rintro ⟨⟨⟩, st'⟩ s' ⟨rfl, hp, hf, hs⟩
    dsimp only
    have sz : ((arrOf st').map (·.2)).size = vs.length := (Array.size_map ..).trans (hp.size_eq.trans (pairsOf_size _))
    refine wpAny_bind (seqEpoch_at o6 rfl (wpAny_bind (listUpdate_at o6 rfl ?_ (hsz2 := by refine Nat.le_trans (Nat.le_of_eq sz) ?_; omega))))
    rw [hf]
    simp only [bne_self_eq_false, Bool.false_eq_true, if_false]
    have hl : (arrOf st').toList.Perm (vs.zip vs) := by rw [← pairsOf_toList]; exact Array.perm_iff_toList_perm.mp hp
    have hmem : ∀ p, p ∈ (arrOf st').toList → p.1 = p.2 ∧ p.1 ∈ vs := fun p hp' => mem_zip_self (hl.mem_iff.mp hp')
    have el : ((arrOf st').map (·.2)).toList = (arrOf st').toList.map (·.2) := Array.toList_map ..
    refine wpAny_pure (h _ ?_ ?_)
    · rw [el]
      have := hl.map (·.2)
      rw [List.map_snd_zip (Nat.le_refl _)] at this
      exact this
    · unfold InOrder
      rw [el, List.pairwise_iff_getElem]
      intro i j hi hj hij c d ic id
      have hi' : i < (arrOf st').toList.length := by simpa using hi
      have hj' : j < (arrOf st').toList.length := by simpa using hj
      have h1 := hs i j (Nat.le_of_lt hij) (by rw [← hp.size_eq]; simpa using hj')
      rw [List.getElem_map] at ic id
      have gi : (arrOf st')[i]? = some ((arrOf st').toList[i]) := by rw [← Array.getElem?_toList]; exact List.getElem?_eq_getElem hi'
      have gj : (arrOf st')[j]? = some ((arrOf st').toList[j]) := by rw [← Array.getElem?_toList]; exact List.getElem?_eq_getElem hj'
      unfold KG at h1
      rw [gi, gj] at h1
      obtain ⟨p1, p2⟩ := hmem _ (List.getElem_mem hi')
      obtain ⟨q1, q2⟩ := hmem _ (List.getElem_mem hj')
      rw [← p1] at ic
      rw [← q1] at id
      obtain ⟨v1, c', hcU, ic'⟩ := hc _ p2
      obtain ⟨v2, d', hdU, id'⟩ := hc _ q2
      have ec := ic.det ic'
      have ed := id.det id'
      subst ec
      subst ed
      have h3 : (rank U c : Int) ≤ (rank U d : Int) := by
        have k1 : content (((s.heap.update a (Obj.mapSeq fun _ => #[])).push (seqObj "tuple" vs.toArray 0)).push (seqObj "list" #[] 0)) ((arrOf st').toList[i]).1 = c := content_eq (old v1 ic)
        have k2 : content (((s.heap.update a (Obj.mapSeq fun _ => #[])).push (seqObj "tuple" vs.toArray 0)).push (seqObj "list" #[] 0)) ((arrOf st').toList[j]).1 = d := content_eq (old v2 id)
        rw [← k1, ← k2]
        exact h1
      rw [rank_iff hdU hcU]
      exact decide_eq_false (by (first | lia | omega))
theorem sorted_lists {l : Addr} {vs : List Value} {U : List (List Int)} {Q : Value → Shared → Prop} (hu : A.units + 64 < cLine) (hl : s.heap.IsList l vs.toArray) (hc : ∀ v ∈ vs, ∃ c ∈ U, IsInts s.heap v c) (hz : vs.length ≤ sizeLine)
    (h : ∀ out : Array Value, out.toList.Perm vs → InOrder s.heap out.toList → Q (.ref (s.heap.objs.size + 1)) { s with heap := sortedAll s.heap vs out }) :
    wpAny (model prog w) A (call (.builtin "sorted") [.ref l]) Q E s := by
  refine Calls.call_function_entry kind_sorted plain_sorted entry_sorted (args_sorted1 _) ?_
  unfold Builtin.«sorted»
  refine wpAny_bind (m := checkCount "sorted" 1 1 _) (wpAny_pure (wpAny_bind (collect_list hl (wpAny_bind (wpAny_newList ?_ hz)) hz)))
  have e1 : ((s.heap.push (seqObj "list" #[] 0)).update s.heap.objs.size (Obj.mapSeq (· ++ vs.toArray))).objs.size = s.heap.objs.size + 1 := by rw [Heap.size_update, size_push']
  have e2 : (((s.heap.push (seqObj "list" #[] 0)).update s.heap.objs.size (Obj.mapSeq (· ++ vs.toArray))).push (seqObj "list" vs.toArray 0)).get? (s.heap.objs.size + 1) = some (seqObj "list" vs.toArray 0) := by
    rw [← e1]; exact Heap.get?_push_size _ rfl
  show wpAny _ _ _ _ _ { s with heap := ((s.heap.push (seqObj "list" #[] 0)).update s.heap.objs.size (Obj.mapSeq (· ++ vs.toArray))).push (seqObj "list" vs.toArray 0) }
  rw [e1]
  have old : ∀ {v : Value} {c : List Int}, IsInts s.heap v c → v ≠ .ref (s.heap.objs.size + 1) ∧ IsInts (((s.heap.push (seqObj "list" #[] 0)).update s.heap.objs.size (Obj.mapSeq (· ++ vs.toArray))).push (seqObj "list" vs.toArray 0)) v c := fun {v c} i => by
    obtain ⟨x, us, m, dd, sl, rfl, hx, hi⟩ := i
    have xl := Heap.lt_size hx
    refine ⟨fun z => ?_, x, us, m, dd, sl, rfl, ?_, hi⟩
    · cases z
      exact absurd xl (Nat.not_lt.mpr (Nat.le_succ _))
    · refine Heap.get?_push_of_some _ ?_
      rw [Heap.get?_update_ne _ _ _ _ (Nat.ne_of_lt xl)]
      exact Heap.get?_push_of_some _ hx
  have new : ∀ {v : Value} {c : List Int}, v ∈ vs → IsInts (((s.heap.push (seqObj "list" #[] 0)).update s.heap.objs.size (Obj.mapSeq (· ++ vs.toArray))).push (seqObj "list" vs.toArray 0)) v c → IsInts s.heap v c := fun {v c} hv i => by
    obtain ⟨d, _, j⟩ := hc v hv
    have := (old j).2.det i
    rw [← this]
    exact j
  refine wpAny_bind (wpAny_holding (wpAny_call_entry slot_list_sort ⟨_, e2, rfl⟩ entry_list_sort (sort_lists (U := U) (show A.units + 1 + 1 < cLine by (first | lia | omega)) e2 (fun v hv => ?_) hz fun out a1 a2 => ⟨_, rfl, ?_⟩) (args_list_sort _)))
  · obtain ⟨c, hcU, i⟩ := hc v hv
    exact ⟨(old i).1, c, hcU, (old i).2⟩
  · refine wpAny_pure ⟨_, rfl, h out a1 ?_⟩
    unfold InOrder at a2 ⊢
    refine a2.imp_of_mem fun {x y} hx hy k c d ic id => k c d (old ic).2 (old id).2
end
end RgG
namespace L2
open PySem PySem.Spec PyProof.Rows
/-- a list of lists of ints -/
def LL (H : Hp) (zs : List (Addr × List Int)) : Prop := ∀ z ∈ zs, H z.1 = some (.lst (z.2.map V.int))
def refs (zs : List (Addr × List Int)) : List V := zs.map fun z => V.ref z.1
theorem perm_map {α β : Type} {f : α → β} {l m : List β} (h : l.Perm m) : ∀ {zs : List α}, m = zs.map f → ∃ ys : List α, ys.Perm zs ∧ ys.map f = l := by
  induction h with
  | nil => exact fun {zs} e => ⟨[], by rw [List.map_eq_nil_iff.mp e.symm], rfl⟩
  | cons x _ ih =>
    intro zs e
    cases zs with
    | nil => cases e
    | cons z zs =>
      rw [List.map_cons] at e
      injection e with e1 e2
      obtain ⟨ys, h1, h2⟩ := ih e2
      exact ⟨z :: ys, h1.cons z, by rw [List.map_cons, h2, e1]⟩
  | swap x y l =>
    intro zs e
    match zs, e with
    | z1 :: z2 :: zs, e =>
      simp only [List.map_cons, List.cons.injEq] at e
      obtain ⟨e1, e2, e3⟩ := e
      exact ⟨z2 :: z1 :: zs, .swap _ _ _, by rw [List.map_cons, List.map_cons, e1, e2, e3]⟩
  | trans _ _ ih1 ih2 =>
    intro zs e
    obtain ⟨ys, h1, h2⟩ := ih2 e
    obtain ⟨xs, h3, h4⟩ := ih1 h2.symm
    exact ⟨xs, h3.trans h1, h4⟩
theorem vals_refs : ∀ {zs : List (Addr × List Int)} {us : List Value}, Vals (refs zs) us → us = zs.map fun z => Value.ref z.1
  | [], _, .nil => rfl
  | z :: zs, _, .cons r t => by rw [vals_refs t, List.map_cons, show _ = Value.ref z.1 from r]
theorem refs_vals : ∀ zs : List (Addr × List Int), Vals (refs zs) (zs.map fun z => Value.ref z.1)
  | [] => .nil
  | z :: zs => .cons (show Value.ref z.1 = Value.ref z.1 from rfl) (refs_vals zs)
section
variable {X : Cx}
def rSrtL (K : PySem.W.Frag) : List V → Hp → VK → Prop := fun xs H Q => ∃ (p : Addr) (zs : List (Addr × List Int)), xs = [.ref p] ∧ SqL K H p (refs zs) ∧ LL H zs ∧ ∀ l ys, H l = none → ys.Perm zs → ys.Pairwise (fun y z => Rg.llt z.2 y.2 = false) → Q (.ref l) (upd H l (.lst (refs ys)))
theorem call_srtL (hu : X.A.units + 64 < cLine) : CallR X (.builtin "sorted") (rSrtL X.K) := by
  intro pins s σ H xs us Q I r h
  obtain ⟨p, zs, rfl, hp, hL, q⟩ := h
  obtain ⟨u, rfl, ru⟩ := r.one
  cases (show u = Value.ref p from ru)
  obtain ⟨its, rv, pl, hz⟩ := I.list hp
  have ei := vals_refs rv
  have isI : ∀ z ∈ zs, RgG.IsInts s.heap (.ref z.1) z.2 := fun z hm => by
    obtain ⟨_, us, n, r, e⟩ := I.hok z.1 _ (hL z hm)
    exact ⟨z.1, us, n, none, #[], rfl, e, ints_vals r⟩
  refine RgG.sorted_lists (U := zs.map (·.2)) hu pl.isList (fun v hv => ?_) (by rw [← rv.length]; exact hz) fun out a1 a2 => ?_
  · rw [ei] at hv
    obtain ⟨z, hm, rfl⟩ := List.mem_map.mp hv
    exact ⟨z.2, List.mem_map.mpr ⟨z, hm, rfl⟩, isI z hm⟩
  have fr : H (s.heap.objs.size + 1) = none := I.hok.fresh (Nat.le_succ _)
  obtain ⟨e, he⟩ := sortedAll_at s.heap its out
  have e2 : out = out.toList.toArray := by simp
  obtain ⟨ys, p1, p2⟩ := perm_map a1 ei
  refine ⟨.ref (s.heap.objs.size + 1), _, I.laid (t' := s.toks) (o := .lst (refs ys)) (fun b o e => sortedAll_old e) (Nat.le_succ _) ⟨?_, out.toList, e, ?_, ?_⟩, rfl, q _ ys fr p1 ?_⟩
  · unfold refs at hz ⊢
    rw [List.length_map] at hz ⊢
    rw [p1.length_eq]
    exact hz
  · rw [← p2]; exact refs_vals ys
  · rw [← e2]; exact he
  · unfold RgG.InOrder at a2
    rw [← p2, List.pairwise_map] at a2
    exact a2.imp_of_mem fun {x y} hx hy k => k _ _ (isI x (p1.mem_iff.mp hx)) (isI y (p1.mem_iff.mp hy))
end
end L2
/-! LISTS OF LISTS OF INTS as data. -/
namespace L2
open PySem PySem.Spec PyProof.Rows
abbrev dL (c : List Int) : PyData := .list (c.map PyData.int)
theorem refs_app (xs ys : List (Addr × List Int)) : refs (xs ++ ys) = refs xs ++ refs ys := List.map_append ..
theorem refs_len (xs : List (Addr × List Int)) : (refs xs).length = xs.length := List.length_map ..
theorem LL.mono {H H' : Hp} {zs : List (Addr × List Int)} (h : LL H zs) (s : Same H H') : LL H' zs := fun z hz => s _ _ (h z hz)
theorem LL.app {H : Hp} {xs ys : List (Addr × List Int)} (h : LL H xs) (k : LL H ys) : LL H (xs ++ ys) := fun z hz => (List.mem_append.mp hz).elim (h z) (k z)
theorem LL.sub {H : Hp} {xs ys : List (Addr × List Int)} (h : LL H ys) (k : ∀ z ∈ xs, z ∈ ys) : LL H xs := fun z hz => h z (k z hz)
theorem LL.dt {K : PySem.W.Frag} {H : Hp} : ∀ {zs : List (Addr × List Int)}, LL H zs → DtAll K H (refs zs) ((zs.map (·.2)).map dL)
  | [], _ => .nil
  | z :: zs, h => .cons (.lst (SqL.of (h z List.mem_cons_self)) (dt_ints _)) (LL.dt fun y hy => h y (List.mem_cons_of_mem _ hy))
theorem any_dL (c : List Int) (cs : List (List Int)) : (cs.map dL).any (fun d => PyData.eqv d (dL c)) = decide (c ∈ cs) := by
  induction cs with
  | nil => rfl
  | cons x cs ih =>
    rw [List.map_cons, List.any_cons, ih, eqv_ints]
    by_cases e : x = c
    · subst e
      rw [decide_eq_true rfl, Bool.true_or]
      exact (decide_eq_true List.mem_cons_self).symm
    · rw [decide_eq_false e, Bool.false_or, decide_eq_decide, List.mem_cons]
      exact ⟨.inr, fun h => h.resolve_left fun z => e z.symm⟩
end L2
/-! COMPREHENSIONS that tell lists of ints. -/
namespace L2
open PySem PySem.Spec PyProof.Rows
section
variable {X : Cx}
end
end L2
namespace L2
open PySem PySem.Spec PyProof.Rows
end L2
namespace Rd
open PySem L2
def top (i : Nat) : Stmt := PySem.Challenge.pw_roadgaps_k09_whole_crossed_alike.main.body.getD i (.Pass ⟨0, 0, 0, 0⟩)
abbrev sIsRoad : Stmt := top 9
abbrev sCheckRoad : Stmt := top 10
abbrev sGapsBetween : Stmt := top 11
abbrev sDistances : Stmt := top 12
abbrev sMirrored : Stmt := top 13
abbrev sSpread : Stmt := top 14
abbrev dCheckBounds : Stmt := top 16
abbrev dAllSums : Stmt := top 17
abbrev dCheckSums : Stmt := top 18
abbrev dCrossed : Stmt := top 19
abbrev sCheckGaps : Stmt := top 22
abbrev sLeast : Stmt := top 23
abbrev sRestWithout : Stmt := top 24
abbrev dSurePlaces : Stmt := top 26
abbrev dWithPlace : Stmt := top 27
abbrev dPlacesToTry : Stmt := top 28
abbrev dTrialsBehind : Stmt := top 29
abbrev dRoadsBehind : Stmt := top 30
abbrev dTrials : Stmt := top 31
abbrev dRoads : Stmt := top 32
abbrev sCell : Stmt := top 34
abbrev sBetween : Stmt := top 37
abbrev sRoad : Stmt := top 38
abbrev sMeet : Stmt := top 39
abbrev sFolded : Stmt := top 40
abbrev sLaw : Stmt := top 41
end Rd
namespace Rd
open PySem L2 PyProof.Rows
/-! ### the names of the module that stand for themselves -/
structure Mg (mg : Str → Option Value) : Prop where
  len : mg "len" = none
  range : mg "range" = none
  all : mg "all" = none
  sorted : mg "sorted" = none
  long : ∃ t, mg "LONGEST" = some (.int 4000 t)
structure MgP (mg : Str → Option Value) : Prop extends Mg mg where
  most : ∃ t, mg "MOST_PLACES" = some (.int 50 t)
theorem small {n : Nat} (h : n ≤ 1000) : n ≤ sizeLine := Nat.le_of_lt (small1000 h)
/-- is it a road -/
def adjs (ps : List Int) : List Bool := (List.range (ps.length - 1)).map fun i => decide (ps.getD i 0 < ps.getD (i + 1) 0)
def roadB (ps : List Int) : Bool := decide (1 ≤ ps.length ∧ ps.length ≤ 50) && !(decide (ps.getD 0 0 ≠ 0) || decide (4000 < ps.getD (ps.length - 1) 0)) && (adjs ps).all id
section
variable {P : Program} {w : World} {K : PySem.W.Frag} {mg : Str → Option Value} {base : Heap} {f g : Addr} {fd gd : FuncData}
def spIsRoad (K : PySem.W.Frag) : Sp := fun vs H Q _ => ∃ (a : Addr) (ps : List Int), vs = [.ref a] ∧ SqL K H a (ps.map V.int) ∧ ps.length ≤ 1000 ∧ ∀ H', Same H H' → Q (.bl (roadB ps)) H'
theorem scIsRoad : FnScope ["places"] ["places"] (defScope sIsRoad) := ⟨rfl, rfl, rfl, by decide +kernel, rfl, by decide +kernel, by decide +kernel⟩
theorem ok_isRoad (F : Fun K "is_road" "is_road" sIsRoad f fd) (m : mg "is_road" = some (.ref f)) (G : MgP mg) : Def P w K mg base CX0 "is_road" ["places"] 1 (spIsRoad K) := by
  refine ⟨f, fd, ?_, F.binds fun _ _ _ _ _ _ us hl => match us, hl with | [_], _ => rfl, F.kp, m⟩
  refine F.ok (k := 0) scIsRoad (fun vs H Q E h => ?_) (fun cdv A outer s H vs Q E hr h => ?_)
  · obtain ⟨a, ps, rfl, _⟩ := h
    rfl
  obtain ⟨a, ps, rfl, hS, h1, q⟩ := h
  obtain ⟨tm, hm⟩ := G.most
  obtain ⟨tl, hl⟩ := G.long
  refine ⟨_, pss_cons (ps_if (pt_not (pt_chain op_le op_le pe_int (pe_callB call_len_seq rfl G.len PySem.boot_len (pa_cons (pv 0) pa_nil)) (pe_glob (by rfl) hm (v := .int 50) ⟨_, rfl⟩))) (pss_one (ps_ret pe_bl)) pss_nil)
    (pss_cons (ps_if (pw_or (pt_cmpR op_ne (pe_ix ix_list (pv 0) pe_int (fun _ _ => rfl)) pe_int (nomark _)) (pw_or1 (pt_cmpR op_gt (pe_ix ix_list (pv 0) (pe_un un_neg pe_int) (fun _ _ => rfl)) (pe_glob (by rfl) hl (v := .int 4000) ⟨_, rfl⟩) (nomark _)))).pt (pss_one (ps_ret pe_bl)) pss_nil)
    (pss_one (ps_ret (pe_callB (call_all rfl) rfl G.all PyProof.Rows.Boot.«all» (pa_cons (pe_comp ["k"] [("places", 0)] rfl
      (pi_range2 rfl G.range (pa_cons pe_int (pa_cons (pe_callB call_len_seq rfl G.len PySem.boot_len (pa_cons (pv 0) pa_nil)) pa_nil)))
      (N := ["places"]) (osc := defScope sIsRoad) ⟨rfl, by decide +kernel, by decide +kernel, by decide +kernel, by decide +kernel⟩
      (fun _ _ _ => pg_name (i := 0) (show (["k", "places"] : List Str).Nodup by decide +kernel) rfl (Or.inl rfl)) (fun _ _ _ => pf_nil)
      (fun _ _ _ => pe_cmpR op_lt (pe_ix (ix_listK K) (pv 1) (pe_op op_sub (pv 0) pe_int) (fun _ _ => rfl)) (pe_ix (ix_listK K) (pv 1) (pv 0) (fun _ _ => rfl)) (nomark _))) pa_nil))))), ?_⟩
  have hlen := len_int ps
  have fls : roadB ps = false → Q (.bl false) H := fun e => by have := q H (Same.refl H); rw [e] at this; exact this
  refine ⟨_, rfl, a, _, rfl, .inl hS, _, _, rfl, rfl, _, rfl, ?_⟩
  rw [hlen]
  refine ite2 (fun c1 => ?_) (fun c1 => ?_)
  rotate_left
  · have c1' : ¬ (1 : Int) ≤ (ps.length : Nat) := by simpa using c1
    refine ⟨_, rfl, iteT (fls ?_)⟩
    unfold roadB
    rw [decide_eq_false (by omega)]
    rfl
  have c1' : (1 : Int) ≤ (ps.length : Nat) := by simpa using c1
  refine ⟨_, _, rfl, rfl, _, rfl, ?_⟩
  refine ite2 (fun c2 => ?_) (fun c2 => ?_)
  · have c2' : ¬ ((ps.length : Nat) : Int) ≤ 50 := by simpa using c2
    refine fls ?_
    unfold roadB
    rw [decide_eq_false (by omega)]
    rfl
  have c2' : ((ps.length : Nat) : Int) ≤ 50 := by simpa using c2
  have l1 : 1 ≤ ps.length := by (first | lia | omega)
  have l2 : ps.length ≤ 50 := by (first | lia | omega)
  have e0 : ps[0]? = some (ps.getD 0 0) := by simp [List.getD_eq_getElem?_getD, show 0 < ps.length by omega]
  have eL : ps.getLast? = some (ps.getD (ps.length - 1) 0) := by rw [List.getLast?_eq_getElem?]; simp [List.getD_eq_getElem?_getD, show ps.length - 1 < ps.length by omega]
  refine ⟨_, rfl, a, _, _, _, rfl, rfl, hS, atI_int (i := 0) e0, rfl, _, rfl, ?_⟩
  refine ite2 (fun c3 => ?_) (fun c3 => ?_)
  · refine fls ?_
    unfold roadB
    have c3' : ps.getD 0 0 ≠ 0 := by simpa using c3
    rw [decide_eq_true c3']
    simp
  have c3' : ps.getD 0 0 = 0 := by simpa using c3
  have aL : atI (ps.map V.int) (-1) = some (.int (ps.getD (ps.length - 1) 0)) := atI_back (by rw [List.getLast?_map, eL]; rfl)
  refine ⟨_, rfl, _, rfl, a, _, _, _, rfl, rfl, hS, aL, _, _, rfl, rfl, _, rfl, ?_⟩
  refine ite2 (fun c4 => ?_) (fun c4 => ?_)
  · refine fls ?_
    unfold roadB
    have c4' : 4000 < ps.getD (ps.length - 1) 0 := of_decide_eq_true c4
    rw [decide_eq_true c4']
    simp
  have c4' : ¬ 4000 < ps.getD (ps.length - 1) 0 := of_decide_eq_false (Bool.eq_false_iff.mpr c4)
  have eR : roadB ps = (adjs ps).all id := by
    unfold roadB
    rw [decide_eq_true ⟨l1, l2⟩, decide_eq_false (show ¬ ps.getD 0 0 ≠ 0 from fun z => z c3'), decide_eq_false c4']
    simp
  have eN : (((ps.map V.int).length : Int) - 1).toNat = ps.length - 1 := by rw [hlen]; (first | lia | omega)
  refine ⟨_, rfl, a, _, rfl, .inl hS, _, _, rfl, ⟨by omega, by omega, by rw [hlen]; omega, by rw [hlen]; omega⟩, fun D hD => ?_⟩
  rw [eN]
  refine comp_range (lo := 1) (n := ps.length - 1) (fun i => .bl (decide (ps.getD i 0 < ps.getD (i + 1) 0))) (small (by omega)) (fun i ys Q' hi q' => ?_) ?_
  · have g1 : ps[i]? = some (ps.getD i 0) := by simp [List.getD_eq_getElem?_getD, show i < ps.length by omega]
    have g2 : ps[i + 1]? = some (ps.getD (i + 1) 0) := by simp [List.getD_eq_getElem?_getD, show i + 1 < ps.length by omega]
    have a1 : atI (ps.map V.int) (1 + (i : Int) - 1) = some (.int (ps.getD i 0)) := by rw [show 1 + (i : Int) - 1 = ((i : Nat) : Int) by omega]; exact atI_int g1
    have a2 : atI (ps.map V.int) (1 + (i : Int)) = some (.int (ps.getD (i + 1) 0)) := by rw [show 1 + (i : Int) = ((i + 1 : Nat) : Int) by omega]; exact atI_int g2
    exact ⟨_, rfl, _, rfl, _, _, rfl, rfl, a, _, _, _, rfl, rfl, sq_ne hS hD, a1, _, rfl, _, rfl, a, _, _, _, rfl, rfl, sq_ne hS hD, a2, _, _, rfl, rfl, q'⟩
  · refine ⟨D, adjs ps, rfl, SqL.of ?_, ?_⟩
    · rw [upd_same]
      unfold adjs
      rw [List.map_map]
      rfl
    · rw [← eR]; exact q _ (same_new hD _)
theorem scCheckRoad : FnScope ["places"] ["places"] (defScope sCheckRoad) := ⟨rfl, rfl, rfl, by decide +kernel, rfl, by decide +kernel, by decide +kernel⟩
/-- the distances up to the i-th place -/
def fndTo (ps : List Int) (i : Nat) : List Int := (List.range i).flatMap fun k => (ps.drop (k + 1)).map (· - ps.getD k 0)
theorem fndTo_succ (ps : List Int) (i : Nat) : fndTo ps (i + 1) = fndTo ps i ++ (ps.drop (i + 1)).map (· - ps.getD i 0) := by
  unfold fndTo
  rw [List.range_succ, List.flatMap_append]
  simp
theorem fndTo_cons (p : Int) (r : List Int) : ∀ i, fndTo (p :: r) (i + 1) = r.map (· - p) ++ fndTo r i
  | 0 => by simp [fndTo]
  | i + 1 => by
    rw [fndTo_succ, fndTo_cons p r i, fndTo_succ, List.append_assoc]
    simp
theorem fndTo_all : ∀ ps : List Int, fndTo ps ps.length = Rg.fnd ps
  | [] => rfl
  | p :: r => by rw [List.length_cons, fndTo_cons, fndTo_all r]; rfl
theorem fndTo_len (ps : List Int) : ∀ i, i ≤ ps.length → (fndTo ps i).length ≤ (Rg.fnd ps).length := fun i hi => by
  have e : fndTo ps ps.length = fndTo ps (i + (ps.length - i)) := by congr 1; (first | lia | omega)
  rw [← fndTo_all, e]
  generalize ps.length - i = d
  induction d with
  | zero => exact Nat.le_refl _
  | succ d ih =>
    rw [← Nat.add_assoc, fndTo_succ, List.length_append]
    (first | lia | omega)
def subV (c : Int) : V → V
  | .int z => .int (z - c)
  | v => v
theorem subV_map (c : Int) (l : List Int) : (l.map V.int).map (subV c) = (l.map (· - c)).map V.int := by
  rw [List.map_map, List.map_map]; rfl
theorem int_at {l : List Int} {i : Nat} {x : V} (h : (l.map V.int)[i]? = some x) : ∃ z, l[i]? = some z ∧ x = .int z := by
  rw [List.getElem?_map] at h
  cases e : l[i]? with
  | none => rw [e] at h; cases h
  | some z => rw [e] at h; exact ⟨z, rfl, (Option.some.inj h).symm⟩
def spBetween (K : PySem.W.Frag) : Sp := fun vs H Q _ => ∃ (a : Addr) (ps : List Int), vs = [.ref a] ∧ SqL K H a (ps.map V.int) ∧ ps.length ≤ 50 ∧ ∀ r H', Same H H' → H r = none → H' r = some (.lst ((Rg.srt (Rg.fnd ps)).map V.int)) → Q (.ref r) H'
theorem scGapsBetween : FnScope ["places", "found", "k"] ["places"] (defScope sGapsBetween) := ⟨rfl, rfl, rfl, by decide +kernel, rfl, by decide +kernel, by decide +kernel⟩
theorem ok_gapsBetween (F : Fun K "gaps_between" "gaps_between" sGapsBetween f fd) (m : mg "gaps_between" = some (.ref f)) (G : Mg mg) : Def P w K mg base CX0 "gaps_between" ["places"] 1 (spBetween K) := by
  refine ⟨f, fd, ?_, F.binds fun _ _ _ _ _ _ us hl => match us, hl with | [_], _ => rfl, F.kp, m⟩
  refine F.ok (k := 0) scGapsBetween (fun vs H Q E h => ?_) (fun cdv A outer s H vs Q E hr h => ?_)
  · obtain ⟨a, ps, rfl, _⟩ := h
    rfl
  obtain ⟨a, ps, rfl, hS, h1, q⟩ := h
  refine ⟨_, pss_cons (ps_set (i := 1) scGapsBetween.nd rfl (Or.inl rfl) (pe_lst pa_nil))
    (pss_cons (ps_for PassesOwn.never rfl (pi_range1 rfl G.range (pa_cons (pe_callB call_len_seq rfl G.len PySem.boot_len (pa_cons (pv 0) pa_nil)) pa_nil)) (pg_name (i := 2) scGapsBetween.nd rfl (Or.inr rfl))
      (pss_one (ps_expr (pe_bm PySem.F.plainAttrs_list PySem.F.slot_list_extend PySem.F.type_list_extend mt_extend (pv 1) (pa_cons (pe_comp ["place"] [("k", 2), ("places", 0)] rfl
        (pi_list (pe_slice sl_list (pv 0) (po_some (pe_op op_add (pv 2) pe_int)) po_none))
        (N := ["places", "found", "k"]) (osc := defScope sGapsBetween) ⟨rfl, by decide +kernel, by decide +kernel, by decide +kernel, by decide +kernel⟩
        (fun _ _ _ => pg_name (i := 0) (show (["place", "k", "places"] : List Str).Nodup by decide +kernel) rfl (Or.inl rfl)) (fun _ _ _ => pf_nil)
        (fun _ _ _ => pe_op op_sub (pv 0) (pe_ix (ix_listK K) (pv 2) (pv 1) (fun _ _ => rfl)))) pa_nil)))))
    (pss_one (ps_ret (pe_callB call_srt rfl G.sorted boot_sorted (pa_cons (pv 1) pa_nil))))), ?_⟩
  have hlen := len_int ps
  have hfl := Rg.fnd_len1225 h1
  refine ⟨(by show 0 ≤ sizeLine; decide), fun l hl => ?_⟩
  have s1 : Same H (upd H l (.lst [])) := same_new hl _
  refine ⟨_, rfl, a, _, rfl, .inl (s1.seq hS), _, rfl, by rw [hlen]; omega, by rw [hlen]; omega, ?_⟩
  rw [hlen, Int.toNat_natCast]
  refine for_range (lo := 0) (n := ps.length) (fun i σ H' => (∃ o, σ = [some (.ref a), some (.ref l), o]) ∧ Same H H' ∧ H' l = some (.lst ((fndTo ps i).map V.int))) ⟨⟨_, rfl⟩, s1, upd_same⟩ ?_ ?_
  · rintro i σ H' hi ⟨⟨o, rfl⟩, sm, hL⟩
    have g1 : ps[i]? = some (ps.getD i 0) := by simp [List.getD_eq_getElem?_getD, hi]
    refine ⟨_, rfl, .inl ⟨rfl, _, SqL.of hL⟩, ?_⟩
    have cut : cutV (ps.map V.int) (some (0 + (i : Int) + 1)) none = (ps.drop (i + 1)).map V.int := by
      rw [cut_from (by omega), List.map_drop]
      congr 1
      (first | lia | omega)
    have aI : atI (ps.map V.int) (0 + (i : Int)) = some (.int (ps.getD i 0)) := by rw [show 0 + (i : Int) = ((i : Nat) : Int) by omega]; exact atI_int g1
    refine ⟨_, rfl, _, rfl, _, _, rfl, rfl, _, rfl, a, _, rfl, sm.seq hS, fun p hp => ⟨p, rfl, ⟨_, SqL.of upd_same⟩, fun D hD => ?_⟩⟩
    rw [cut] at hD ⊢
    have hSp : SqL K (upd H' p (.lst ((ps.drop (i + 1)).map V.int))) a (ps.map V.int) := sq_ne (sm.seq hS) hp
    have lp : l ≠ p := ne_of_none hL hp
    have hL2 : upd H' p (.lst ((ps.drop (i + 1)).map V.int)) l = some (.lst ((fndTo ps i).map V.int)) := by rw [upd_ne lp]; exact hL
    have lD : l ≠ D := ne_of_none hL2 hD
    refine comp_map (subV (ps.getD i 0)) hD (SqL.of upd_same) (by rw [len_int, List.length_drop]; exact small (by omega)) (fun j x ys Q' hx q' => ?_) ?_
    · obtain ⟨z, _, rfl⟩ := int_at hx
      exact ⟨_, rfl, _, rfl, _, rfl, a, _, _, _, rfl, rfl, sq_ne hSp hD, aI, _, _, rfl, rfl, q'⟩
    · have fl := fndTo_len ps (i + 1) (by omega)
      rw [fndTo_succ, List.length_append] at fl
      rw [subV_map]
      refine ⟨l, D, _, _, rfl, rfl, by rw [upd_ne lD]; exact hL2, upd_same, ?_, ⟨_, rfl⟩, same_upd (same_upd (same_upd sm (sm.free hp)) (sm.free ?_)) hl, ?_⟩
      · rw [len_int, len_int]; exact small5 (by omega)
      · exact upd_none hD
      · rw [upd_same, fndTo_succ, List.map_append]
  · rintro σ H' ⟨⟨o, rfl⟩, sm, hL⟩
    refine ⟨_, rfl, l, fndTo ps ps.length, rfl, SqL.of hL, fun r hr' => ?_⟩
    rw [fndTo_all]
    exact q r _ (same_upd sm (sm.free hr')) (sm.free hr') upd_same
end
end Rd
namespace Rd
open PySem L2 PyProof.Rows
/-! ### the defs of the roads, which may refuse -/
structure MgR (mg : Str → Option Value) : Prop extends Mg mg where
  reversed : mg "reversed" = none
theorem roadB_facts {ps : List Int} (h : roadB ps = true) : 1 ≤ ps.length ∧ ps.length ≤ 50 ∧ ps.getD 0 0 = 0 ∧ ps.getD (ps.length - 1) 0 ≤ 4000 ∧ ps.Pairwise (· < ·) := by
  unfold roadB at h
  rw [Bool.and_eq_true, Bool.and_eq_true] at h
  obtain ⟨⟨h1, h2⟩, h3⟩ := h
  have h1' := of_decide_eq_true h1
  have h2' : ¬ ps.getD 0 0 ≠ 0 ∧ ¬ 4000 < ps.getD (ps.length - 1) 0 := by
    rw [Bool.not_eq_true', Bool.or_eq_false_iff] at h2
    exact ⟨of_decide_eq_false h2.1, of_decide_eq_false h2.2⟩
  refine ⟨h1'.1, h1'.2, Decidable.of_not_not h2'.1, by omega, Rg.rise_of_adj fun i hi => ?_⟩
  have := List.all_eq_true.mp h3 (decide (ps.getD i 0 < ps.getD (i + 1) 0)) (by unfold adjs; exact List.mem_map.mpr ⟨i, List.mem_range.mpr (by omega), rfl⟩)
  exact of_decide_eq_true this
/-- what a def of the roads tells, or that it refuses -/
def spTell (K : PySem.W.Frag) (C : Addr) (f : List Int → List Int) : Sp := fun vs H Q E => ∃ (a : Addr) (ps : List Int), vs = [.ref a] ∧ SqL K H a (ps.map V.int) ∧ ps.length ≤ 1000 ∧
  (roadB ps = true → ∀ r H', Same H H' → H r = none → H' r = some (.lst ((f ps).map V.int)) → Q (.ref r) H') ∧ (roadB ps = false → ∀ H', Same H H' → E (.ref C) none H')
section
variable {P : Program} {w : World} {K : PySem.W.Frag} {mg : Str → Option Value} {base : Heap} {f g CN : Addr} {fd gd : FuncData}
def spCheckE (K : PySem.W.Frag) (C : Addr) : Sp := fun vs H Q E => ∃ (a : Addr) (ps : List Int), vs = [.ref a] ∧ SqL K H a (ps.map V.int) ∧ ps.length ≤ 1000 ∧ (roadB ps = true → ∀ H', Same H H' → Q .non H') ∧ (roadB ps = false → ∀ H', Same H H' → E (.ref C) none H')
theorem ok_checkRoadE (F : Fun K "check_road" "check_road" sCheckRoad f fd) (m : mg "check_road" = some (.ref f)) (G : MgP mg) (ZNoRoad : XCls K "NoRoad" CN) (MNoRoad : mg "NoRoad" = some (.ref CN)) (Dis_road : Def P w K mg base CX0 "is_road" ["places"] 1 (spIsRoad K)) :
    Def P w K mg base (CXE P w) "check_road" ["places"] 2 (spCheckE K CN) := by
  refine ⟨f, fd, ?_, F.binds fun _ _ _ _ _ _ us hl => match us, hl with | [_], _ => rfl, F.kp, m⟩
  refine F.okE (k := 1) scCheckRoad (fun vs H Q E h => ?_) (fun cdv A outer s H vs Q E hr h => ?_)
  · obtain ⟨a, ps, rfl, _⟩ := h
    rfl
  obtain ⟨a, ps, rfl, hS, h1, q, qe⟩ := h
  obtain ⟨tm, hMOST_PLACES⟩ := G.most
  obtain ⟨tl, hLONGEST⟩ := G.long
  refine ⟨_, (pss_one (ps_if (pt_not (pt_val (pe_fn Dis_road hr (by rfl) (pa_cons (pv 0) pa_nil)))) (pss_one (ps_raise raiseE rfl ZNoRoad MNoRoad (by rfl) (pa_cons (pe_join (pj_cons pe_str (pj_cons (pe_fmt (pe_glob (by rfl) hMOST_PLACES (v := .int 50) ⟨_, rfl⟩)) (pj_cons pe_str (pj_cons (pe_fmt (pe_glob (by rfl) hLONGEST (v := .int 4000) ⟨_, rfl⟩)) pj_nil))))) pa_nil))) pss_nil)), ?_⟩
  refine ⟨_, rfl, a, ps, rfl, hS, h1, fun H' sm => ⟨_, rfl, ?_⟩⟩
  cases e : roadB ps with
  | true => exact q e H' sm
  | false => exact ⟨_, rfl, by decide +kernel, .inl ⟨_, rfl, by decide, _, rfl, by decide +kernel, _, rfl, by decide +kernel, .inl ⟨_, rfl, by decide, _, rfl, by decide +kernel, by decide +kernel, by decide, qe e H' sm⟩⟩⟩
theorem scDistances : FnScope ["road"] ["road"] (defScope sDistances) := ⟨rfl, rfl, rfl, by decide +kernel, rfl, by decide +kernel, by decide +kernel⟩
theorem ok_distances (F : Fun K "distances" "distances" sDistances f fd) (m : mg "distances" = some (.ref f)) (Dcheck_road : Def P w K mg base (CXE P w) "check_road" ["places"] 2 (spCheckE K CN)) (Dgaps_between : Def P w K mg base CX0 "gaps_between" ["places"] 2 (spBetween K)) :
    Def P w K mg base (CXE P w) "distances" ["road"] 3 (spTell K CN fun ps => Rg.srt (Rg.fnd ps)) := by
  refine ⟨f, fd, ?_, F.binds fun _ _ _ _ _ _ us hl => match us, hl with | [_], _ => rfl, F.kp, m⟩
  refine F.okE (k := 2) scDistances (fun vs H Q E h => ?_) (fun cdv A outer s H vs Q E hr h => ?_)
  · obtain ⟨a, ps, rfl, _⟩ := h
    rfl
  obtain ⟨a, ps, rfl, hS, h1, q, qe⟩ := h
  refine ⟨_, (pss_cons (ps_expr (pe_fnX Dcheck_road hr passE (by rfl) (pa_cons (pv 0) pa_nil)))
    (pss_one (ps_ret (pe_fn Dgaps_between hr (by rfl) (pa_cons (pv 0) pa_nil))))), ?_⟩
  refine ⟨_, rfl, a, ps, rfl, hS, h1, fun e H' sm => ?_, qe⟩
  exact ⟨_, rfl, a, ps, rfl, sm.seq hS, (roadB_facts e).2.1, fun r H2 s2 r0 r1 => q e r H2 (sm.trans s2) (sm.free r0) r1⟩
theorem scMirrored : FnScope ["road"] ["road"] (defScope sMirrored) := ⟨rfl, rfl, rfl, by decide +kernel, rfl, by decide +kernel, by decide +kernel⟩
def subFrom (c : Int) : V → V
  | .int z => .int (c - z)
  | v => v
theorem subFrom_map (c : Int) (l : List Int) : (l.map V.int).map (subFrom c) = (l.map fun z => c - z).map V.int := by
  rw [List.map_map, List.map_map]; rfl
theorem last_at {ps : List Int} (h : 1 ≤ ps.length) : atI (ps.map V.int) (-1) = some (.int (ps.getD (ps.length - 1) 0)) := by
  have eL : ps.getLast? = some (ps.getD (ps.length - 1) 0) := by rw [List.getLast?_eq_getElem?]; simp [List.getD_eq_getElem?_getD, show ps.length - 1 < ps.length by omega]
  exact atI_back (by rw [List.getLast?_map, eL]; rfl)
theorem ok_mirrored (F : Fun K "mirrored" "mirrored" sMirrored f fd) (m : mg "mirrored" = some (.ref f)) (G : MgR mg) (Dcheck_road : Def P w K mg base (CXE P w) "check_road" ["places"] 2 (spCheckE K CN)) :
    Def P w K mg base (CXE P w) "mirrored" ["road"] 3 (spTell K CN Rg.mirr) := by
  refine ⟨f, fd, ?_, F.binds fun _ _ _ _ _ _ us hl => match us, hl with | [_], _ => rfl, F.kp, m⟩
  refine F.okE (k := 2) scMirrored (fun vs H Q E h => ?_) (fun cdv A outer s H vs Q E hr h => ?_)
  · obtain ⟨a, ps, rfl, _⟩ := h
    rfl
  obtain ⟨a, ps, rfl, hS, h1, q, qe⟩ := h
  refine ⟨_, (pss_cons (ps_expr (pe_fnX Dcheck_road hr passE (by rfl) (pa_cons (pv 0) pa_nil)))
    (pss_one (ps_ret (pe_comp ["place"] [("road", 0)] rfl (pi_rev (by rfl) G.reversed (pa_cons (pv 0) pa_nil)) (N := ["road"]) (osc := defScope sMirrored) ⟨rfl, by decide +kernel, by decide +kernel, by decide +kernel, by decide +kernel⟩
      (fun _ _ _ => pg_name (i := 0) (show (["place", "road"] : List Str).Nodup by decide +kernel) rfl (Or.inl rfl)) (fun _ _ _ => pf_nil) (fun _ _ _ => (pe_op op_sub (pe_ix (ix_listK K) (pv 1) (pe_un un_neg pe_int) (fun _ _ => rfl)) (pv 0))))))), ?_⟩
  refine ⟨_, rfl, a, ps, rfl, hS, h1, fun e H' sm => ?_, qe⟩
  have fc := roadB_facts e
  have aL := last_at fc.1
  refine ⟨_, rfl, a, _, rfl, sm.seq hS, fun D hD => ?_⟩
  refine comp_rev (subFrom (ps.getD (ps.length - 1) 0)) hD (sm.seq hS) (by rw [len_int]; exact small h1) (fun x ys Q' hx q' => ?_) ?_
  · obtain ⟨z, _, rfl⟩ := List.mem_map.mp hx
    exact ⟨_, rfl, _, rfl, a, _, _, _, rfl, rfl, sq_ne (sm.seq hS) hD, aL, _, rfl, _, _, rfl, rfl, q'⟩
  · refine q e D _ (same_upd sm (sm.free hD)) (sm.free hD) ?_
    rw [upd_same]
    unfold Rg.mirr
    rw [← List.map_reverse, subFrom_map]
theorem scSpread : FnScope ["road", "counts", "gap"] ["road"] (defScope sSpread) := ⟨rfl, rfl, rfl, by decide +kernel, rfl, by decide +kernel, by decide +kernel⟩
theorem bump_succ {rows ds : List Int} {i : Nat} {d : Int} (h : ds[i]? = some d) : Rg.bump rows (ds.take (i + 1)) = (Rg.bump rows (ds.take i)).set d.toNat ((Rg.bump rows (ds.take i)).getD d.toNat 0 + 1) := by
  rw [Rg.take_succ h]
  unfold Rg.bump
  rw [List.foldl_append]
  rfl
theorem ok_spread (F : Fun K "spread" "spread" sSpread f fd) (m : mg "spread" = some (.ref f)) (G : MgR mg) (Dcheck_road : Def P w K mg base (CXE P w) "check_road" ["places"] 2 (spCheckE K CN)) (Dgaps_between : Def P w K mg base CX0 "gaps_between" ["places"] 2 (spBetween K)) :
    Def P w K mg base (CXE P w) "spread" ["road"] 3 (spTell K CN Rg.spr) := by
  refine ⟨f, fd, ?_, F.binds fun _ _ _ _ _ _ us hl => match us, hl with | [_], _ => rfl, F.kp, m⟩
  refine F.okE (k := 2) scSpread (fun vs H Q E h => ?_) (fun cdv A outer s H vs Q E hr h => ?_)
  · obtain ⟨a, ps, rfl, _⟩ := h
    rfl
  obtain ⟨a, ps, rfl, hS, h1, q, qe⟩ := h
  refine ⟨_, (pss_cons (ps_expr (pe_fnX Dcheck_road hr passE (by rfl) (pa_cons (pv 0) pa_nil)))
    (pss_cons (ps_set (i := 1) scSpread.nd rfl (Or.inl rfl) (pe_op op_rep (pe_lst (pa_cons pe_int pa_nil)) (pe_op op_add (pe_ix ix_list (pv 0) (pe_un un_neg pe_int) (fun _ _ => rfl)) pe_int)))
    (pss_cons (ps_asg (pe_callB call_len_seq (by rfl) G.len PySem.boot_len (pa_cons (pv 0) pa_nil)) (pg_sub (pv 1) pe_int set_list))
    (pss_cons (ps_for PassesOwn.leaving rfl (pi_list (pe_fn Dgaps_between hr (by rfl) (pa_cons (pv 0) pa_nil))) (pg_name (i := 2) scSpread.nd rfl (Or.inl rfl))
      (pss_one (ps_augS (pv 1) (pv 2) get_listG pe_int ip_add set_list)))
    (pss_one (ps_ret (pv 1))))))), ?_⟩
  refine ⟨_, rfl, a, ps, rfl, hS, h1, fun e H' sm => ?_, qe⟩
  obtain ⟨f1, f2, f3, f4, f5⟩ := roadB_facts e
  have aL := last_at f1
  obtain ⟨L, eL⟩ : ∃ L, L = ps.getD (ps.length - 1) 0 := ⟨_, rfl⟩
  have hL : 0 ≤ L := by
    have hm : ps.getD (ps.length - 1) 0 ∈ ps := by
      have : ps.getD (ps.length - 1) 0 = ps[ps.length - 1] := by simp [List.getD_eq_getElem?_getD, show ps.length - 1 < ps.length by omega]
      rw [this]; exact List.getElem_mem _
    have := Rg.rise_between f5 f3 _ hm
    (first | lia | omega)
  rw [← eL] at aL
  have hfi := Rg.fnd_in f5 f3
  rw [← eL] at hfi
  refine ⟨(by show 1 ≤ sizeLine; decide), fun l0 hl0 => ?_⟩
  have s0 := same_upd (o := .lst [V.int 0]) sm (sm.free hl0)
  have rlen : ((List.replicate (L + 1).toNat [V.int 0]).flatten) = (List.replicate (L + 1).toNat (0 : Int)).map V.int := by
    generalize (L + 1).toNat = n
    induction n with
    | zero => rfl
    | succ n ih => rw [List.replicate_succ, List.flatten_cons, ih, List.replicate_succ]; rfl
  refine ⟨_, rfl, _, rfl, a, _, _, _, rfl, rfl, s0.seq hS, aL, _, _, rfl, rfl, l0, L + 1, _, rfl, rfl, upd_same, by omega, by omega, ?_, fun l hl => ?_⟩
  · show 1 * (L + 1).toNat ≤ sizeLine
    rw [Nat.one_mul]
    exact small5 (by omega)
  rw [rlen]
  have hl' := upd_none hl
  have s1 := same_upd (o := .lst ((List.replicate (L + 1).toNat (0 : Int)).map V.int)) s0 (s0.free hl)
  refine ⟨_, rfl, a, _, rfl, .inl (s1.seq hS), _, rfl, l, _, _, 0, rfl, rfl, upd_same, ?_, ?_⟩
  · rw [len_int, List.length_replicate]
    exact ixN_nat (by omega) (by omega)
  rw [len_int, upd_upd]
  have s2 := same_upd (o := .lst ((List.replicate (L + 1).toNat (0 : Int)).map V.int |>.set 0 (V.int (ps.length : Nat)))) s0 (s0.free hl)
  refine ⟨_, rfl, a, ps, rfl, s2.seq hS, f2, fun r H3 s3 r0 r1 => ⟨r, rfl, ⟨_, SqL.of r1⟩, ?_⟩⟩
  have s23 := s2.trans s3
  obtain ⟨nd, hnd⟩ : ∃ nd, nd = Rg.srt (Rg.fnd ps) := ⟨_, rfl⟩
  rw [← hnd] at r1
  obtain ⟨rows, hrows⟩ : ∃ rows, rows = (List.replicate (L + 1).toNat (0 : Int)).set 0 (ps.length : Int) := ⟨_, rfl⟩
  have rowl : rows.length = (L + 1).toNat := by rw [hrows, List.length_set, List.length_replicate]
  have l3 : H3 l = some (.lst (rows.map V.int)) := by
    rw [hrows, List.map_set]
    exact s3 l _ upd_same
  have lr : r ≠ l := fun z => by rw [z, upd_same] at r0; cases r0
  refine for_list (xs := nd.map V.int) (fun i σ H' => (∃ o, σ = [some (.ref a), some (.ref l), o]) ∧ Same H H' ∧ H' r = some (.lst (nd.map V.int)) ∧ H' l = some (.lst ((Rg.bump rows (nd.take i)).map V.int))) ⟨⟨_, rfl⟩, s23, r1, l3⟩ ?_ ?_ ?_
  · rintro i σ H' _ ⟨_, _, h3, _⟩
    exact SqL.of h3
  · rintro i x σ H' hx ⟨⟨o, rfl⟩, z1, z2, z3⟩
    obtain ⟨d, hd, rfl⟩ := int_at hx
    have hin := hfi d (Rg.srt_mem.mp (hnd ▸ List.mem_of_getElem? hd))
    have hlen : (Rg.bump rows (nd.take i)).length = (L + 1).toNat := by rw [Rg.bump_len, rowl]
    have hlt : d.toNat < (Rg.bump rows (nd.take i)).length := by rw [hlen]; (first | lia | omega)
    have gd : (Rg.bump rows (nd.take i))[d.toNat]? = some ((Rg.bump rows (nd.take i)).getD d.toNat 0) := by simp [List.getD_eq_getElem?_getD, hlt]
    refine ⟨_, rfl, _, rfl, l, _, d, _, rfl, rfl, by omega, SqL.of z3, at_int gd, _, _, rfl, rfl, l, _, d, d.toNat, rfl, rfl, z3, ?_, ⟨_, rfl⟩, same_upd z1 (sm.free hl'), ?_, ?_⟩
    · rw [len_int]; exact ixN_nat (by omega) (by rw [hlen]; omega)
    · rw [upd_ne lr]; exact z2
    · rw [upd_same, bump_succ hd, List.map_set]
  · rintro σ H' ⟨⟨o, rfl⟩, z1, z2, z3⟩
    rw [len_int, List.take_length] at z3
    refine ⟨_, rfl, q e l H' z1 (sm.free hl') ?_⟩
    unfold Rg.spr
    rw [← eL, ← hrows, ← hnd]
    exact z3
end
end Rd
namespace Rd
open PySem L2 PyProof.Rows
structure MgG (mg : Str → Option Value) : Prop extends Mg mg where
  mostG : ∃ t, mg "MOST_GAPS" = some (.int 21 t)
  list : mg "list" = none
structure GapsOk (gs : List Int) : Prop where
  few : gs.length ≤ 21
  rise : gs.Pairwise (· ≤ ·)
  low : ∀ g ∈ gs, 1 ≤ g
  high : ∀ g ∈ gs, g ≤ 4000
def optV : Option Int → V
  | none => .non
  | some d => .int d
section
variable {P : Program} {w : World} {K : PySem.W.Frag} {mg : Str → Option Value} {base : Heap} {f g : Addr} {fd gd : FuncData}
theorem scCheckGaps : FnScope ["gaps", "least", "gap"] ["gaps"] (defScope sCheckGaps) := ⟨rfl, rfl, rfl, by decide +kernel, rfl, by decide +kernel, by decide +kernel⟩
/-- the two lists that a road beside distances is -/
def Two (K : PySem.W.Frag) (H : Hp) (a b : Addr) (ps gs : List Int) : Prop := SqL K H a (ps.map V.int) ∧ ps.length ≤ 50 ∧ SqL K H b (gs.map V.int)
theorem Two.keep {H H' : Hp} {a b : Addr} {ps gs : List Int} (h : Two K H a b ps gs) (s : Same H H') : Two K H' a b ps gs := ⟨s.seq h.1, h.2.1, s.seq h.2.2⟩
def lackOf (ps gs : List Int) : Option Int := Rg.lack gs (Rg.srt (Rg.fnd ps))
def spLeast (K : PySem.W.Frag) : Sp := fun vs H Q _ => ∃ (a b : Addr) (ps gs : List Int), vs = [.ref a, .ref b] ∧ Two K H a b ps gs ∧ ∀ H', Same H H' → Q (optV (lackOf ps gs)) H'
theorem scLeast : FnScope ["places", "gaps", "needed", "gap"] ["places", "gaps"] (defScope sLeast) := ⟨rfl, rfl, rfl, by decide +kernel, rfl, by decide +kernel, by decide +kernel⟩
theorem find_take {α : Type} {p : α → Bool} : ∀ {l : List α} {i : Nat} {x : α}, l[i]? = some x → (l.take i).find? p = none → (p x = true → l.find? p = some x) ∧ (p x = false → (l.take (i + 1)).find? p = none)
  | [], _, _, h, _ => by simp at h
  | a :: l, 0, x, h, _ => by
    simp at h
    subst h
    exact ⟨fun q => by rw [List.find?_cons, q], fun q => by simp [List.find?_cons, q]⟩
  | a :: l, i + 1, x, h, hn => by
    rw [List.take_succ_cons, List.find?_cons] at hn
    cases e : p a with
    | true => rw [e] at hn; cases hn
    | false =>
      rw [e] at hn
      have ih := find_take (p := p) (l := l) (i := i) (x := x) (by simpa using h) hn
      refine ⟨fun q => by rw [List.find?_cons, e]; exact ih.1 q, fun q => by rw [List.take_succ_cons, List.find?_cons, e]; exact ih.2 q⟩
theorem ok_least (F : Fun K "least_lacking" "least_lacking" sLeast f fd) (m : mg "least_lacking" = some (.ref f)) (D1 : Def P w K mg base CX0 "gaps_between" ["places"] 1 (spBetween K)) :
    Def P w K mg base CX0 "least_lacking" ["places", "gaps"] 2 (spLeast K) := by
  refine ⟨f, fd, ?_, F.binds fun _ _ _ _ _ _ us hl => match us, hl with | [_, _], _ => rfl, F.kp, m⟩
  refine F.ok (k := 1) scLeast (fun vs H Q E h => ?_) (fun cdv A outer s H vs Q E hr h => ?_)
  · obtain ⟨a, b, ps, gs, rfl, _⟩ := h
    rfl
  obtain ⟨a, b, ps, gs, rfl, hT, q⟩ := h
  refine ⟨_, pss_cons (ps_set (i := 2) scLeast.nd rfl (Or.inl rfl) (pe_fn D1 hr rfl (pa_cons (pv 0) pa_nil)))
    (pss_cons (ps_for PassesOwn.never rfl (pi_list (pv 2)) (pg_name (i := 3) scLeast.nd rfl (Or.inl rfl))
      (pss_one (ps_if (pt_cmpR op_lt (pe_bm PySem.F.plainAttrs_list PySem.F.slot_list_count PySem.F.type_list_count mt_count (pv 1) (pa_cons (pv 3) pa_nil)) (pe_bm PySem.F.plainAttrs_list PySem.F.slot_list_count PySem.F.type_list_count mt_count (pv 2) (pa_cons (pv 3) pa_nil)) (nomark _)) (pss_one (ps_ret (pv 3))) pss_nil)))
    (pss_one (ps_ret pe_non))), ?_⟩
  refine ⟨_, rfl, a, ps, rfl, hT.1, hT.2.1, fun r H1 sm _ hr1 => ?_⟩
  obtain ⟨nd, hnd⟩ : ∃ nd, nd = Rg.srt (Rg.fnd ps) := ⟨_, rfl⟩
  have q' := q H1 sm
  unfold lackOf at q'
  rw [← hnd] at hr1 q'
  have hT1 := hT.keep sm
  refine ⟨_, rfl, r, rfl, ⟨_, SqL.of hr1⟩, for_list (xs := nd.map V.int) (fun i σ H' => H' = H1 ∧ (∃ o, σ = [some (.ref a), some (.ref b), some (.ref r), o]) ∧ (nd.take i).find? (fun x => decide (gs.count x < nd.count x)) = none) ⟨rfl, ⟨_, rfl⟩, rfl⟩ ?_ ?_ ?_⟩
  · rintro i σ H' _ ⟨rfl, _⟩
    exact SqL.of hr1
  · rintro i x σ H' hx ⟨rfl, ⟨o, rfl⟩, hn⟩
    obtain ⟨y, hy, rfl⟩ := int_at hx
    have ft := find_take (p := fun x => decide (gs.count x < nd.count x)) hy hn
    refine ⟨_, rfl, .inl ⟨rfl, _, hT1.2.2⟩, _, rfl, b, gs, y, rfl, rfl, hT1.2.2, _, rfl, .inl ⟨rfl, _, SqL.of hr1⟩, _, rfl, r, nd, y, rfl, rfl, SqL.of hr1, _, _, rfl, rfl, _, rfl, ?_⟩
    refine ite2 (fun c => ?_) (fun c => ?_)
    · have c' : ((gs.count y : Nat) : Int) < ((nd.count y : Nat) : Int) := of_decide_eq_true c
      refine ⟨_, rfl, ?_⟩
      have e : Rg.lack gs nd = some y := ft.1 (decide_eq_true (by omega))
      rw [e] at q'
      exact q'
    · have c' : ¬ ((gs.count y : Nat) : Int) < ((nd.count y : Nat) : Int) := of_decide_eq_false (Bool.eq_false_iff.mpr c)
      exact ⟨rfl, ⟨_, rfl⟩, ft.2 (decide_eq_false (by omega))⟩
  · rintro σ H' ⟨rfl, _, hn⟩
    rw [len_int, List.take_length] at hn
    have e : Rg.lack gs nd = none := hn
    rw [e] at q'
    exact q'
def restOf (ps gs : List Int) : List Int := Rg.takeAll gs (Rg.srt (Rg.fnd ps))
/-- the list without the distances between some places -/
def spRest (K : PySem.W.Frag) : Sp := fun vs H Q _ => ∃ (a b : Addr) (ps gs : List Int), vs = [.ref a, .ref b] ∧ Two K H a b ps gs ∧ ((lackOf ps gs).isSome = true → ∀ H', Same H H' → Q .non H') ∧
  (lackOf ps gs = none → ∀ r H', Same H H' → H r = none → H' r = some (.lst ((restOf ps gs).map V.int)) → Q (.ref r) H')
theorem scRest : FnScope ["places", "gaps", "rest", "gap"] ["places", "gaps"] (defScope sRestWithout) := ⟨rfl, rfl, rfl, by decide +kernel, rfl, by decide +kernel, by decide +kernel⟩
theorem ok_rest (F : Fun K "rest_without" "rest_without" sRestWithout f fd) (m : mg "rest_without" = some (.ref f)) (G : MgG mg) (D2 : Def P w K mg base CX0 "least_lacking" ["places", "gaps"] 2 (spLeast K)) (D3 : Def P w K mg base CX0 "gaps_between" ["places"] 1 (spBetween K)) : Def P w K mg base CX0 "rest_without" ["places", "gaps"] 3 (spRest K) := by
  refine ⟨f, fd, ?_, F.binds fun _ _ _ _ _ _ us hl => match us, hl with | [_, _], _ => rfl, F.kp, m⟩
  refine F.ok (k := 2) scRest (fun vs H Q E h => ?_) (fun cdv A outer s H vs Q E hr h => ?_)
  · obtain ⟨a, b, ps, gs, rfl, _⟩ := h
    rfl
  obtain ⟨a, b, ps, gs, rfl, ⟨hS, h50, hG⟩, qn, qs⟩ := h
  refine ⟨_, pss_cons (ps_if (pt_cmp (pc_notN (pe_fn D2 hr rfl (pa_cons (pv 0) (pa_cons (pv 1) pa_nil))))) (pss_one (ps_ret pe_non)) pss_nil)
    (pss_cons (ps_set (i := 2) scRest.nd rfl (Or.inl rfl) (pe_callTy call_list_of rfl G.list PyProof.Rows.Boot.«list» (pa_cons (pv 1) pa_nil)))
    (pss_cons (ps_for PassesOwn.never rfl (pi_list (pe_fn (D3.mono (by decide)) hr rfl (pa_cons (pv 0) pa_nil))) (pg_name (i := 3) scRest.nd rfl (Or.inl rfl))
      (pss_one (ps_expr (pe_bm PySem.F.plainAttrs_list PySem.F.slot_list_remove PySem.F.type_list_remove mt_remove (pv 2) (pa_cons (pv 3) pa_nil)))))
    (pss_one (ps_ret (pv 2))))), ?_⟩
  refine ⟨_, rfl, _, rfl, a, b, ps, gs, rfl, ⟨hS, h50, hG⟩, fun H2 s12 => ?_⟩
  cases e : lackOf ps gs with
  | some d => exact ⟨_, rfl, qn (by rw [e]; rfl) H2 s12⟩
  | none =>
    refine ⟨_, rfl, _, rfl, b, _, rfl, .inl (s12.seq hG), fun l hl => ?_⟩
    have s3 := same_upd (o := .lst (gs.map V.int)) s12 (s12.free hl)
    refine ⟨_, rfl, a, ps, rfl, s3.seq hS, h50, fun r H3 s4 hr0 hr3 => ⟨r, rfl, ⟨_, SqL.of hr3⟩, ?_⟩⟩
    have s5 := s3.trans s4
    obtain ⟨nd, hnd⟩ : ∃ nd, nd = Rg.srt (Rg.fnd ps) := ⟨_, rfl⟩
    rw [← hnd] at hr3
    have hl3 : H3 l = some (.lst (gs.map V.int)) := s4 l _ upd_same
    have lr : l ≠ r := fun z => by rw [z] at hl3; rw [← z] at hr0; rw [upd_same] at hr0; cases hr0
    have e' : Rg.lack gs nd = none := by rw [hnd]; exact e
    have lf : (Rg.lef gs nd).2 = none := by rw [Rg.lef_lack nd gs (by rw [hnd]; exact Rg.srt_sorted _)]; exact e'
    refine for_list (xs := nd.map V.int) (fun i σ H' => (∃ o, σ = [some (.ref a), some (.ref b), some (.ref l), o]) ∧ Same H H' ∧ H' r = some (.lst (nd.map V.int)) ∧ H' l = some (.lst ((Rg.takeAll gs (nd.take i)).map V.int))) ⟨⟨_, rfl⟩, s5, hr3, hl3⟩ ?_ ?_ ?_
    · rintro i σ H' _ ⟨_, _, h3, _⟩
      exact SqL.of h3
    · rintro i x σ H' hx ⟨⟨o, rfl⟩, h1, h3, h4⟩
      obtain ⟨y, hy, rfl⟩ := int_at hx
      refine ⟨_, rfl, .inl ⟨rfl, _, SqL.of h4⟩, _, rfl, l, _, y, rfl, rfl, h4, Rg.lef_step nd gs lf i y hy, ⟨_, rfl⟩, same_upd h1 (s12.free hl), ?_, ?_⟩
      · rw [upd_ne (Ne.symm lr)]; exact h3
      · rw [upd_same, Rg.takeAll_succ hy]
    · rintro σ H' ⟨⟨o, rfl⟩, h1, h3, h4⟩
      rw [len_int, List.take_length] at h4
      refine ⟨_, rfl, qs e l H' h1 (s12.free hl) ?_⟩
      unfold restOf
      rw [← hnd]
      exact h4
end
end Rd
namespace Rd
open PySem L2 PyProof.Rows
/-! ### the defs of the distances, which may refuse -/
section
variable {P : Program} {w : World} {K : PySem.W.Frag} {mg : Str → Option Value} {base : Heap} {f g CN CT CG : Addr} {fd gd : FuncData}
/-- a list of distances is looked at, or refused -/
def spGapsE (K : PySem.W.Frag) (CT CG : Addr) (ok : Addr → List Int → Hp → VK → Prop) : Sp := fun vs H Q E => ∃ (b : Addr) (gs : List Int), vs = [.ref b] ∧ SqL K H b (gs.map V.int) ∧ gs.length ≤ 1000 ∧
  (GapsOk gs → ok b gs H Q) ∧ (21 < gs.length → ∀ H', Same H H' → E (.ref CT) none H') ∧ (gs.length ≤ 21 → ¬ GapsOk gs → ∀ H', Same H H' → E (.ref CG) none H')
def okNone : Addr → List Int → Hp → VK → Prop := fun _ _ H Q => ∀ H', Same H H' → Q .non H'
theorem ok_checkGapsE (F : Fun K "check_gaps" "check_gaps" sCheckGaps f fd) (m : mg "check_gaps" = some (.ref f)) (G : MgG mg) (ZTooMany : XCls K "TooMany" CT) (MTooMany : mg "TooMany" = some (.ref CT)) (ZNoGaps : XCls K "NoGaps" CG) (MNoGaps : mg "NoGaps" = some (.ref CG)) :
    Def P w K mg base (CXE P w) "check_gaps" ["gaps"] 1 (spGapsE K CT CG okNone) := by
  refine ⟨f, fd, ?_, F.binds fun _ _ _ _ _ _ us hl => match us, hl with | [_], _ => rfl, F.kp, m⟩
  refine F.okE (k := 0) scCheckGaps (fun vs H Q E h => ?_) (fun cdv A outer s H vs Q E hr h => ?_)
  · obtain ⟨a, ps, rfl, _⟩ := h
    rfl
  obtain ⟨b, gs, rfl, hS, h1, q, qt, qg⟩ := h
  obtain ⟨tm, hMOST_GAPS⟩ := G.mostG
  obtain ⟨tl, hLONGEST⟩ := G.long
  refine ⟨_, (pss_cons (ps_if (pt_cmpR op_gt (pe_callB call_len_seq (by rfl) G.len PySem.boot_len (pa_cons (pv 0) pa_nil)) (pe_glob (by rfl) hMOST_GAPS (v := .int 21) ⟨_, rfl⟩) (nomark _)) (pss_one (ps_raise raiseE rfl ZTooMany MTooMany (by rfl) (pa_cons (pe_join (pj_cons pe_str (pj_cons (pe_fmt (pe_glob (by rfl) hMOST_GAPS (v := .int 21) ⟨_, rfl⟩)) (pj_cons pe_str pj_nil)))) pa_nil))) pss_nil)
    (pss_cons (ps_set (i := 1) scCheckGaps.nd rfl (Or.inl rfl) pe_int)
    (pss_one (ps_for PassesOwn.leaving rfl (pi_list (pv 0)) (pg_name (i := 2) scCheckGaps.nd rfl (Or.inl rfl))
      (pss_cons (ps_if (pt_not (pt_chain op_le op_le (pv 1) (pv 2) (pe_glob (by rfl) hLONGEST (v := .int 4000) ⟨_, rfl⟩))) (pss_one (ps_raise raiseE rfl ZNoGaps MNoGaps (by rfl) (pa_cons (pe_join (pj_cons pe_str (pj_cons (pe_fmt (pe_glob (by rfl) hLONGEST (v := .int 4000) ⟨_, rfl⟩)) pj_nil))) pa_nil))) pss_nil)
    (pss_one (ps_set (i := 1) scCheckGaps.nd rfl (Or.inl rfl) (pv 2)))))))), ?_⟩
  have hlen := len_int gs
  refine ⟨_, rfl, b, _, rfl, .inl hS, _, _, rfl, rfl, _, rfl, ?_⟩
  rw [hlen]
  refine ite2 (fun c => ?_) (fun c => ?_)
  · have c' : 21 < gs.length := by have := of_decide_eq_true c; (first | lia | omega)
    exact ⟨_, rfl, by decide +kernel, .inl ⟨_, rfl, by decide, _, rfl, by decide +kernel, _, rfl, by decide +kernel, by decide +kernel, by decide, qt c' H (Same.refl H)⟩⟩
  have c' : gs.length ≤ 21 := by have := of_decide_eq_false (Bool.eq_false_iff.mpr c); (first | lia | omega)
  refine ⟨_, rfl, b, rfl, ⟨_, hS⟩, for_list (xs := gs.map V.int) (fun i σ H' => H' = H ∧ ∃ z o, σ = [some (.ref b), some (.int z), o] ∧ 1 ≤ z ∧ (z = 1 ∨ z ∈ gs.take i) ∧ (∀ x ∈ gs.take i, 1 ≤ x ∧ x ≤ z ∧ x ≤ 4000) ∧ (gs.take i).Pairwise (· ≤ ·)) ⟨rfl, 1, none, rfl, by decide, .inl rfl, by simp, by simp⟩ ?_ ?_ ?_⟩
  · rintro i σ H' _ ⟨rfl, _⟩
    exact hS
  · rintro i x σ H' hx ⟨rfl, z, o, rfl, z1, z2, z3, z4⟩
    obtain ⟨y, hy, rfl⟩ := int_at hx
    have hym := List.mem_of_getElem? hy
    have tk : gs.take (i + 1) = gs.take i ++ [y] := Rg.take_succ hy
    have bad : ¬ (z ≤ y ∧ y ≤ 4000) → ¬ GapsOk gs := fun h hG => by
      apply h
      refine ⟨?_, hG.high y hym⟩
      rcases z2 with e | e
      · rw [e]; exact hG.low y hym
      · have := hG.rise.sublist (List.take_sublist (i + 1) gs)
        rw [tk, List.pairwise_append] at this
        exact this.2.2 z e y (by simp)
    have boom : ¬ GapsOk gs → E (.ref CG) none H' := fun h => qg c' h H' (Same.refl _)
    refine ⟨_, rfl, _, rfl, _, _, rfl, rfl, _, rfl, ?_⟩
    refine ite2 (fun u => ?_) (fun u => ?_)
    rotate_left
    · have u' : ¬ z ≤ y := of_decide_eq_false (Bool.eq_false_iff.mpr u)
      exact ⟨_, rfl, iteT ⟨_, rfl, by decide +kernel, .inl ⟨_, rfl, by decide, _, rfl, by decide +kernel, by decide +kernel, by decide, boom (bad fun t => u' t.1)⟩⟩⟩
    have u' : z ≤ y := of_decide_eq_true u
    refine ⟨_, _, rfl, rfl, _, rfl, ?_⟩
    refine ite2 (fun v => ?_) (fun v => ?_)
    · have v' : ¬ y ≤ 4000 := by simpa using v
      exact ⟨_, rfl, by decide +kernel, .inl ⟨_, rfl, by decide, _, rfl, by decide +kernel, by decide +kernel, by decide, boom (bad fun t => v' t.2)⟩⟩
    have v' : y ≤ 4000 := by simpa using v
    refine ⟨_, rfl, rfl, y, _, rfl, by omega, .inr (by rw [tk]; simp), fun x hx' => ?_, ?_⟩
    · rw [tk, List.mem_append] at hx'
      rcases hx' with e | e
      · have := z3 x e; (first | lia | omega)
      · have : x = y := by simpa using e
        (first | lia | omega)
    · rw [tk, List.pairwise_append]
      refine ⟨z4, by simp, fun p hp t ht => ?_⟩
      have : t = y := by simpa using ht
      have := z3 p hp
      (first | lia | omega)
  · rintro σ H' ⟨rfl, z, o, rfl, z1, z2, z3, z4⟩
    rw [len_int, List.take_length] at z3 z4
    exact q ⟨c', z4, fun x hx => (z3 x hx).1, fun x hx => (z3 x hx).2.2⟩ H' (Same.refl _)
end
end Rd
namespace Rd
open PySem L2 PyProof.Rows
structure MgL (mg : Str → Option Value) : Prop where
  len : mg "len" = none
  range : mg "range" = none
  sorted : mg "sorted" = none
  isinst : mg "isinstance" = none
  int : mg "int" = none
  bool : mg "bool" = none
  list : mg "list" = none
section
variable {P : Program} {w : World} {K : PySem.W.Frag} {mg : Str → Option Value} {base : Heap} {f g : Addr} {fd gd : FuncData}
def spCell (K : PySem.W.Frag) : Sp := fun vs H Q _ => ∃ (a : Addr) (ns : List Int) (k : Int), vs = [.ref a, .int k] ∧ SqL K H a (ns.map V.int) ∧ 0 ≤ k ∧ ∀ i, Q (.int i) H
theorem scCell : FnScope ["script", "k"] ["script", "k"] (defScope sCell) := ⟨rfl, rfl, rfl, by decide +kernel, rfl, by decide +kernel, by decide +kernel⟩
theorem ok_cell (F : Fun K "_law_cell_at" "_law_cell_at" sCell f fd) (m : mg "_law_cell_at" = some (.ref f)) (G : MgL mg) : Def P w K mg base CX0 "_law_cell_at" ["script", "k"] 1 (spCell K) := by
  refine ⟨f, fd, ?_, F.binds fun _ _ _ _ _ _ us hl => match us, hl with | [_, _], _ => rfl, F.kp, m⟩
  refine F.ok (k := 0) scCell (fun vs H Q E h => ?_) (fun cdv A outer s H vs Q E hr h => ?_)
  · obtain ⟨a, ns, k, rfl, _⟩ := h
    rfl
  obtain ⟨a, ns, k, rfl, hS, hk, q⟩ := h
  refine ⟨_, pss_cons (ps_if (pt_cmpR op_lt (pv 1) (pe_callB call_len_seq rfl G.len PySem.boot_len (pa_cons (pv 0) pa_nil)) (nomark _)) (pss_one (ps_ret (pe_ix ix_list (pv 0) (pv 1) (fun _ _ => rfl)))) pss_nil) (pss_one (ps_ret pe_int)), ?_⟩
  refine ⟨_, rfl, _, rfl, a, _, rfl, .inl hS, _, _, rfl, rfl, _, rfl, ?_⟩
  refine ite2 (fun c => ?_) (fun c => q 0)
  have c' : k < (((ns.map V.int).length : Nat) : Int) := of_decide_eq_true c
  rw [len_int] at c'
  have g1 : ns[k.toNat]? = some (ns.getD k.toNat 0) := by simp [List.getD_eq_getElem?_getD, show k.toNat < ns.length by omega]
  have a1 : atI (ns.map V.int) k = some (.int (ns.getD k.toNat 0)) := by
    have := atI_int g1
    rw [show ((k.toNat : Nat) : Int) = k by omega] at this
    exact this
  exact ⟨_, rfl, _, rfl, a, _, _, _, rfl, rfl, hS, a1, q _⟩
/-- all pairs of a rising list, told by two loops -/
theorem scBetween : FnScope ["places", "found", "a", "b"] ["places"] (defScope sBetween) := ⟨rfl, rfl, rfl, by decide +kernel, rfl, by decide +kernel, by decide +kernel⟩
def btwTo (ps : List Int) (i : Nat) : List Int := (ps.take i).flatMap fun a => (ps.filter fun b => decide (a < b)).map (· - a)
def btwIn (ps : List Int) (a : Int) (j : Nat) : List Int := ((ps.take j).filter fun b => decide (a < b)).map (· - a)
theorem btwTo_succ {ps : List Int} {i : Nat} {a : Int} (h : ps[i]? = some a) : btwTo ps (i + 1) = btwTo ps i ++ btwIn ps a ps.length := by
  unfold btwTo btwIn
  rw [Rg.take_succ h, List.flatMap_append, List.take_length]
  simp
theorem btwIn_succ {ps : List Int} {j : Nat} {a b : Int} (h : ps[j]? = some b) : btwIn ps a (j + 1) = btwIn ps a j ++ if a < b then [b - a] else [] := by
  unfold btwIn
  rw [Rg.take_succ h, List.filter_append, List.map_append]
  congr 1
  by_cases c : a < b
  · simp [c]
  · simp [c]
theorem btw_lens {ps : List Int} : ∀ i, (btwTo ps i).length ≤ i * ps.length
  | 0 => by simp [btwTo]
  | i + 1 => by
    cases e : ps[i]? with
    | none =>
      have : btwTo ps (i + 1) = btwTo ps i := by unfold btwTo; rw [List.take_succ, e]; simp
      rw [this]
      exact Nat.le_trans (btw_lens i) (Nat.mul_le_mul_right _ (Nat.le_succ _))
    | some a =>
      have h1 := btw_lens (ps := ps) i
      have h2 : (btwIn ps a ps.length).length ≤ ps.length := by
        unfold btwIn
        rw [List.length_map, List.take_length]
        exact List.length_filter_le _ _
      rw [btwTo_succ e, List.length_append, Nat.add_mul]
      (first | lia | omega)
def spBtwL (K : PySem.W.Frag) : Sp := fun vs H Q _ => ∃ (a : Addr) (ps : List Int), vs = [.ref a] ∧ SqL K H a (ps.map V.int) ∧ ps.length ≤ 50 ∧ ps.Pairwise (· < ·) ∧ ∀ r H', Same H H' → H r = none → H' r = some (.lst ((Rg.srt (Rg.fnd ps)).map V.int)) → Q (.ref r) H'
theorem ok_between (F : Fun K "_law_between" "_law_between" sBetween f fd) (m : mg "_law_between" = some (.ref f)) (G : MgL mg) : Def P w K mg base CX0 "_law_between" ["places"] 1 (spBtwL K) := by
  refine ⟨f, fd, ?_, F.binds fun _ _ _ _ _ _ us hl => match us, hl with | [_], _ => rfl, F.kp, m⟩
  refine F.ok (k := 0) scBetween (fun vs H Q E h => ?_) (fun cdv A outer s H vs Q E hr h => ?_)
  · obtain ⟨a, ps, rfl, _⟩ := h
    rfl
  obtain ⟨a, ps, rfl, hS, h50, hP, q⟩ := h
  refine ⟨_, pss_cons (ps_set (i := 1) scBetween.nd rfl (Or.inl rfl) (pe_lst pa_nil))
    (pss_cons (ps_for PassesOwn.never rfl (pi_list (pv 0)) (pg_name (i := 2) scBetween.nd rfl (Or.inl rfl))
      (pss_one (ps_for PassesOwn.never rfl (pi_list (pv 0)) (pg_name (i := 3) scBetween.nd rfl (Or.inl rfl))
        (pss_one (ps_if (pt_cmpR op_lt (pv 2) (pv 3) (nomark _)) (pss_one (ps_expr (pe_bm PySem.F.plainAttrs_list PySem.F.slot_list_append PySem.F.type_list_append mt_append (pv 1) (pa_cons (pe_op op_sub (pv 3) (pv 2)) pa_nil)))) pss_nil)))))
    (pss_one (ps_ret (pe_callB call_srt rfl G.sorted boot_sorted (pa_cons (pv 1) pa_nil))))), ?_⟩
  refine ⟨(by show 0 ≤ sizeLine; decide), fun l hl => ?_⟩
  refine ⟨_, rfl, a, rfl, ⟨_, sq_ne hS hl⟩, for_list (xs := ps.map V.int) (fun i σ H' => (∃ o o', σ = [some (.ref a), some (.ref l), o, o']) ∧ Same H H' ∧ H' l = some (.lst ((btwTo ps i).map V.int))) ⟨⟨_, _, rfl⟩, same_new hl _, upd_same⟩ ?_ ?_ ?_⟩
  · rintro i σ H' _ ⟨_, h1, _⟩
    exact h1.seq hS
  · rintro i x σ H' hx ⟨⟨o, o', rfl⟩, h1, h2⟩
    obtain ⟨y, hy, rfl⟩ := int_at hx
    refine ⟨_, rfl, a, rfl, ⟨_, h1.seq hS⟩, for_list (xs := ps.map V.int) (fun j σ H' => (∃ o', σ = [some (.ref a), some (.ref l), some (.int y), o']) ∧ Same H H' ∧ H' l = some (.lst ((btwTo ps i ++ btwIn ps y j).map V.int))) ⟨⟨_, rfl⟩, h1, by rw [h2]; simp [btwIn]⟩ ?_ ?_ ?_⟩
    · rintro j σ H'' _ ⟨_, h3, _⟩
      exact h3.seq hS
    · rintro j x σ H'' hx' ⟨⟨o', rfl⟩, h3, h4⟩
      obtain ⟨z, hz, rfl⟩ := int_at hx'
      refine ⟨_, rfl, _, rfl, _, _, rfl, rfl, _, rfl, ?_⟩
      have hi := (List.getElem?_eq_some_iff.mp hy).1
      have hj := (List.getElem?_eq_some_iff.mp hz).1
      refine ite2 (fun c => ?_) (fun c => ?_)
      · have c' : y < z := of_decide_eq_true c
        refine ⟨_, rfl, .inl ⟨rfl, _, SqL.of h4⟩, _, rfl, _, rfl, _, _, rfl, rfl, l, _, _, rfl, rfl, h4, ?_, ⟨_, rfl⟩, same_upd h3 hl, ?_⟩
        · rw [len_int, List.length_append]
          have e1 := btw_lens (ps := ps) i
          have e2 : (btwIn ps y j).length ≤ ps.length := by
            unfold btwIn
            rw [List.length_map]
            exact Nat.le_trans (List.length_filter_le _ _) (by rw [List.length_take]; omega)
          have e3 : i * ps.length ≤ 50 * 50 := Nat.mul_le_mul (by omega) h50
          exact Nat.lt_of_le_of_lt (show (btwTo ps i).length + (btwIn ps y j).length ≤ 4000 by omega) (by decide)
        · rw [upd_same, btwIn_succ hz, if_pos c', ← List.append_assoc, List.map_append (l₁ := btwTo ps i ++ btwIn ps y j)]
          rfl
      · have c' : ¬ y < z := of_decide_eq_false (Bool.eq_false_iff.mpr c)
        exact ⟨⟨_, rfl⟩, h3, by rw [btwIn_succ hz, if_neg c', List.append_nil]; exact h4⟩
    · rintro σ H'' ⟨⟨o', rfl⟩, h3, h4⟩
      rw [len_int, ← btwTo_succ hy] at h4
      exact ⟨⟨_, _, rfl⟩, h3, h4⟩
  · rintro σ H' ⟨⟨o, o', rfl⟩, h1, h2⟩
    have e : btwTo ps ps.length = Rg.fnd ps := by
      rw [← Rg.btw_fnd hP]
      unfold btwTo Rg.btw
      rw [List.take_length]
    rw [len_int, e] at h2
    exact ⟨_, rfl, l, _, rfl, SqL.of h2, fun r hr' => q r _ (same_upd h1 (h1.free hr')) (h1.free hr') upd_same⟩
/-- a drawn road -/
structure Drawn (ps : List Int) (many : Nat) (top : Int) : Prop where
  len : ps.length = many
  zero : ps.getD 0 0 = 0
  rise : ps.Pairwise (· < ·)
  high : ∀ p ∈ ps, 0 ≤ p ∧ p ≤ top
def spRoad (K : PySem.W.Frag) : Sp := fun vs H Q _ => ∃ (a : Addr) (ns : List Int) (first many steps : Int), vs = [.ref a, .int first, .int many, .int steps] ∧ SqL K H a (ns.map V.int) ∧ 0 ≤ first ∧ 1 ≤ many ∧ many ≤ 60 ∧ 1 ≤ steps ∧
  ∀ r H' (ps : List Int), Same H H' → H r = none → H' r = some (.lst (ps.map V.int)) → Drawn ps many.toNat ((many - 1) * steps) → Q (.ref r) H'
theorem scRoad : FnScope ["script", "first", "many", "steps", "road", "k"] ["script", "first", "many", "steps"] (defScope sRoad) := ⟨rfl, rfl, rfl, by decide +kernel, rfl, by decide +kernel, by decide +kernel⟩
theorem ok_road (F : Fun K "_law_road" "_law_road" sRoad f fd) (m : mg "_law_road" = some (.ref f)) (G : MgL mg) (D1 : Def P w K mg base CX0 "_law_cell_at" ["script", "k"] 1 (spCell K)) : Def P w K mg base CX0 "_law_road" ["script", "first", "many", "steps"] 2 (spRoad K) := by
  refine ⟨f, fd, ?_, F.binds fun _ _ _ _ _ _ us hl => match us, hl with | [_, _, _, _], _ => rfl, F.kp, m⟩
  refine F.ok (k := 1) scRoad (fun vs H Q E h => ?_) (fun cdv A outer s H vs Q E hr h => ?_)
  · obtain ⟨a, ns, first, many, steps, rfl, _⟩ := h
    rfl
  obtain ⟨a, ns, first, many, steps, rfl, hS, h1, h2, h3, h4, q⟩ := h
  refine ⟨_, pss_cons (ps_set (i := 4) scRoad.nd rfl (Or.inl rfl) (pe_lst (pa_cons pe_int pa_nil)))
    (pss_cons (ps_for PassesOwn.never rfl (pi_range1 rfl G.range (pa_cons (pe_op op_sub (pv 2) pe_int) pa_nil)) (pg_name (i := 5) scRoad.nd rfl (Or.inl rfl))
      (pss_one (ps_expr (pe_bm PySem.F.plainAttrs_list PySem.F.slot_list_append PySem.F.type_list_append mt_append (pv 4) (pa_cons (pe_op op_add (pe_op op_add (pe_ix ix_list (pv 4) (pe_un un_neg pe_int) (fun _ _ => rfl)) pe_int)
        (pe_op op_mod (pe_fn D1 hr rfl (pa_cons (pv 0) (pa_cons (pe_op op_add (pv 1) (pv 5)) pa_nil))) (pv 3))) pa_nil)))))
    (pss_one (ps_ret (pv 4)))), ?_⟩
  refine ⟨(by show 1 ≤ sizeLine; decide), fun l hl => ?_⟩
  refine ⟨_, rfl, _, _, rfl, rfl, _, rfl, by omega, by omega, ?_⟩
  have mono : ∀ i : Nat, (i : Int) * steps ≤ ((i + 1 : Nat) : Int) * steps := fun i => by
    have : ((i + 1 : Nat) : Int) * steps = (i : Int) * steps + steps := by
      rw [Int.natCast_add, Int.add_mul]; simp
    (first | lia | omega)
  refine for_range (lo := 0) (n := (many - 1).toNat) (fun i σ H' => (∃ o, σ = [some (.ref a), some (.int first), some (.int many), some (.int steps), some (.ref l), o]) ∧ Same H H' ∧ ∃ (ps : List Int) (z : Int), H' l = some (.lst ((ps ++ [z]).map V.int)) ∧ Drawn (ps ++ [z]) (i + 1) ((i : Int) * steps) ∧ z ≤ (i : Int) * steps ∧ ∀ p ∈ ps, p < z)
    ⟨⟨_, rfl⟩, same_new hl _, [], 0, upd_same, ⟨rfl, rfl, List.pairwise_singleton _ _, by simp⟩, by simp, by simp⟩ ?_ ?_
  · rintro i σ H' hi ⟨⟨o, rfl⟩, sm, ps, z, hL, hD, hz, hlt⟩
    have aL : atI ((ps ++ [z]).map V.int) (-1) = some (.int z) := atI_back (by rw [List.getLast?_map]; simp)
    refine ⟨_, rfl, .inl ⟨rfl, _, SqL.of hL⟩, _, rfl, _, rfl, l, _, _, _, rfl, rfl, SqL.of hL, aL, _, _, rfl, rfl, _, rfl, _, rfl, _, rfl, _, _, rfl, rfl, a, ns, _, rfl, sm.seq hS, by omega, fun c => ?_⟩
    have hs : (0 : Int) < steps := by (first | lia | omega)
    have r0 := Int.emod_nonneg c (show steps ≠ 0 by omega)
    have r1 := Int.emod_lt_of_pos c hs
    have hlen := hD.len
    rw [List.length_append, List.length_singleton] at hlen
    refine ⟨_, rfl, _, _, rfl, rfl, hs, _, _, rfl, rfl, l, _, _, rfl, rfl, hL, ?_, ⟨_, rfl⟩, same_upd sm hl, ps ++ [z], z + 1 + c % steps, ?_, ⟨?_, ?_, ?_, ?_⟩, ?_, ?_⟩
    · rw [len_int, List.length_append, List.length_singleton]
      exact Nat.lt_of_le_of_lt (show ps.length + 1 ≤ 1000 by omega) (by decide)
    · rw [upd_same, List.map_append (l₁ := ps ++ [z])]; rfl
    · rw [List.length_append, List.length_append, List.length_singleton, List.length_singleton]; (first | lia | omega)
    · have := hD.zero
      cases ps with
      | nil => simpa using this
      | cons p ps => simpa using this
    · rw [List.pairwise_append]
      refine ⟨hD.rise, List.pairwise_singleton _ _, fun x hx y hy => ?_⟩
      have hy' : y = z + 1 + c % steps := by simpa using hy
      rcases List.mem_append.mp hx with w' | w'
      · have := hlt x w'; (first | lia | omega)
      · have : x = z := by simpa using w'
        (first | lia | omega)
    · intro p hp
      have e : ((i + 1 : Nat) : Int) * steps = (i : Int) * steps + steps := by rw [Int.natCast_add, Int.add_mul]; simp
      rcases List.mem_append.mp hp with w' | w'
      · have := hD.high p w'
        (first | lia | omega)
      · have hp' : p = z + 1 + c % steps := by simpa using w'
        have := hD.high z (by simp)
        (first | lia | omega)
    · have e : ((i + 1 : Nat) : Int) * steps = (i : Int) * steps + steps := by rw [Int.natCast_add, Int.add_mul]; simp
      (first | lia | omega)
    · intro p hp
      rcases List.mem_append.mp hp with w' | w'
      · have := hlt p w'; (first | lia | omega)
      · have : p = z := by simpa using w'
        (first | lia | omega)
  · rintro σ H' ⟨⟨o, rfl⟩, sm, ps, z, hL, hD, _⟩
    refine ⟨_, rfl, q l H' _ sm hl hL ?_⟩
    have e1 : (many - 1).toNat + 1 = many.toNat := by (first | lia | omega)
    have e2 : (((many - 1).toNat : Nat) : Int) = many - 1 := by (first | lia | omega)
    rw [e1, e2] at hD
    exact hD
end
end Rd
namespace Rd
open PySem L2 PyProof.Rows
/-! ### what the later laws share -/
theorem boot_set : bootBuiltins (Str.ofString "set") = some (.type "set") := by kernel_rfl
structure MgA (mg : Str → Option Value) : Prop extends MgL mg where
  set : mg "set" = none
  max : mg "max" = none
  min : mg "min" = none
  reversed : mg "reversed" = none
  ValueError : mg "ValueError" = none
  tuple : mg "tuple" = none
  str : mg "str" = none
theorem at_pos {l : List Int} {d : Int} (h0 : 0 ≤ d) (h1 : d.toNat < l.length) : atI (l.map V.int) d = some (.int (l.getD d.toNat 0)) := by
  have g : l[d.toNat]? = some (l.getD d.toNat 0) := by simp [List.getD_eq_getElem?_getD, h1]
  have := atI_int g
  rw [show ((d.toNat : Nat) : Int) = d by omega] at this
  exact this
/-! ### the law's cell, told as it is -/
section
variable {P : Program} {w : World} {K : PySem.W.Frag} {mg : Str → Option Value} {base : Heap} {f : Addr} {fd : FuncData}
def spCellX (K : PySem.W.Frag) : Sp := fun vs H Q _ => ∃ (a : Addr) (ns : List Int) (k : Int), vs = [.ref a, .int k] ∧ SqL K H a (ns.map V.int) ∧ 0 ≤ k ∧ Q (.int (ns.getD k.toNat 0)) H
theorem ok_cellX (F : Fun K "_law_cell_at" "_law_cell_at" sCell f fd) (m : mg "_law_cell_at" = some (.ref f)) (G : MgL mg) : Def P w K mg base CX0 "_law_cell_at" ["script", "k"] 1 (spCellX K) := by
  refine ⟨f, fd, ?_, F.binds fun _ _ _ _ _ _ us hl => match us, hl with | [_, _], _ => rfl, F.kp, m⟩
  refine F.ok (k := 0) scCell (fun vs H Q E h => ?_) (fun cdv A outer s H vs Q E hr h => ?_)
  · obtain ⟨a, ns, k, rfl, _⟩ := h
    rfl
  obtain ⟨a, ns, k, rfl, hS, hk, q⟩ := h
  refine ⟨_, (pss_cons (ps_if (pt_cmpR op_lt (pv 1) (pe_callB call_len_seq (by rfl) G.len PySem.boot_len (pa_cons (pv 0) pa_nil)) (nomark _)) (pss_one (ps_ret (pe_ix ix_list (pv 0) (pv 1) (fun _ _ => rfl)))) pss_nil)
    (pss_one (ps_ret pe_int))), ?_⟩
  refine ⟨_, rfl, _, rfl, a, _, rfl, .inl hS, _, _, rfl, rfl, _, rfl, ?_⟩
  refine ite2 (fun c => ?_) (fun c => ?_)
  · have c' : k < (((ns.map V.int).length : Nat) : Int) := of_decide_eq_true c
    rw [len_int] at c'
    exact ⟨_, rfl, _, rfl, a, _, _, _, rfl, rfl, hS, at_pos hk (by omega), q⟩
  · have c' : ¬ k < (((ns.map V.int).length : Nat) : Int) := of_decide_eq_false (Bool.eq_false_iff.mpr c)
    rw [len_int] at c'
    have e : ns.getD k.toNat 0 = 0 := by rw [List.getD_eq_getElem?_getD, List.getElem?_eq_none (by omega)]; rfl
    rw [e] at q
    exact q
end
def mulV (c : Int) : V → V
  | .int z => .int (z * c)
  | v => v
theorem mulV_map (c : Int) (l : List Int) : (l.map V.int).map (mulV c) = (l.map (· * c)).map V.int := by
  rw [List.map_map, List.map_map]; rfl
/-- no exception leaves a call that does not refuse -/
theorem passN {P : Program} {w : World} {X : Cx} : Passes (CXE P w) X E0 := fun _ _ _ _ _ _ _ h => by
  obtain ⟨_, _, _, _, _, z⟩ := h
  exact z.elim
theorem roadB_true {ps : List Int} (h1 : 1 ≤ ps.length) (h2 : ps.length ≤ 50) (h3 : ps.getD 0 0 = 0) (h4 : ps.getD (ps.length - 1) 0 ≤ 4000) (h5 : ps.Pairwise (· < ·)) : roadB ps = true := by
  unfold roadB
  rw [decide_eq_true ⟨h1, h2⟩, decide_eq_false (by simpa using h3), decide_eq_false (by omega)]
  simp only [Bool.or_false, Bool.not_false, Bool.true_and, Bool.and_true]
  refine List.all_eq_true.mpr fun b hb => ?_
  unfold adjs at hb
  obtain ⟨i, hi, rfl⟩ := List.mem_map.mp hb
  have := List.mem_range.mp hi
  exact decide_eq_true (Rg.adj_of_rise h5 i (by omega))
section
variable {P : Program} {w : World} {K : PySem.W.Frag} {mg : Str → Option Value} {base : Heap} {f g CN CG CT CM CB CR : Addr} {fd gd : FuncData}
end
end Rd
namespace Rd
open PySem L2 PyProof.Rows
end Rd
namespace Rd
open PySem L2 PyProof.Rows
/-! ### crossed, as the law asks it -/
open Rg (lastI)
def sms (ps qs : List Int) : List Int := ps.flatMap fun a => qs.map (a + ·)
theorem sms_len (ps qs : List Int) : (sms ps qs).length = ps.length * qs.length := by
  unfold sms
  induction ps with
  | nil => simp
  | cons p r ih => rw [List.flatMap_cons, List.length_append, List.length_map, ih, List.length_cons, Nat.add_mul, Nat.one_mul, Nat.add_comm]
/-- 0: told; 1: no road; 2: too many; 3: sums meet -/
def xcode (ps qs : List Int) : Nat := if (roadB ps && roadB qs) = false then 1 else if 50 < ps.length * qs.length ∨ 4000 < lastI ps + lastI qs then 2 else if ¬ (sms ps qs).Nodup ∨ ¬ (sms ps (Rg.mirr qs)).Nodup then 3 else 0
def spCross (K : PySem.W.Frag) (CN CT CM : Addr) : Sp := fun vs H Q E => ∃ (a b : Addr) (ps qs : List Int), vs = [.ref a, .ref b] ∧ SqL K H a (ps.map V.int) ∧ SqL K H b (qs.map V.int) ∧ ps.length ≤ 1000 ∧ qs.length ≤ 1000 ∧
  (xcode ps qs = 0 → ∀ t r1 r2 H', Same H H' → H r1 = none → H r2 = none → r1 ≠ r2 → H' r1 = some (.lst ((Rg.srt (sms ps qs)).map V.int)) → H' r2 = some (.lst ((Rg.srt (sms ps (Rg.mirr qs))).map V.int)) → H' t = some (.tup [.ref r1, .ref r2]) → Q (.ref t) H') ∧
  (xcode ps qs = 1 → ∀ H', Same H H' → E (.ref CN) none H') ∧ (xcode ps qs = 2 → ∀ H', Same H H' → E (.ref CT) none H') ∧ (xcode ps qs = 3 → ∀ H', Same H H' → E (.ref CM) none H')
section
variable {P : Program} {w : World} {K : PySem.W.Frag} {mg : Str → Option Value} {base : Heap} {f g CN CG CT CM CB CR : Addr} {fd gd : FuncData}
/-- the law's own sums -/
def plusV (c : Int) : V → V
  | .int z => .int (c + z)
  | v => v
theorem plusV_map (c : Int) (l : List Int) : (l.map V.int).map (plusV c) = (l.map (c + ·)).map V.int := by
  rw [List.map_map, List.map_map]; rfl
def spSums (K : PySem.W.Frag) : Sp := fun vs H Q _ => ∃ (a b : Addr) (ps qs : List Int), vs = [.ref a, .ref b] ∧ SqL K H a (ps.map V.int) ∧ SqL K H b (qs.map V.int) ∧ ps.length ≤ 50 ∧ qs.length ≤ 50 ∧ ∀ r H', Same H H' → H r = none → H' r = some (.lst ((Rg.srt (sms ps qs)).map V.int)) → Q (.ref r) H'
end
end Rd
namespace Rd
open PySem L2 PyProof.Rows
open Rg (lastI)
/-! ### the program's crossing -/
section
variable {P : Program} {w : World} {K : PySem.W.Frag} {mg : Str → Option Value} {base : Heap} {f g CN CG CT CM CB CR : Addr} {fd gd : FuncData}
theorem srt_nodup (l : List Int) : (Rg.srt l).Nodup ↔ l.Nodup := (Rg.srt_perm l).nodup_iff
def spBounds (K : PySem.W.Frag) (CT : Addr) : Sp := fun vs H Q E => ∃ (a b : Addr) (ps qs : List Int), vs = [.ref a, .ref b] ∧ SqL K H a (ps.map V.int) ∧ SqL K H b (qs.map V.int) ∧ 1 ≤ ps.length ∧ 1 ≤ qs.length ∧ ps.length ≤ 50 ∧ qs.length ≤ 50 ∧
  (¬ (50 < ps.length * qs.length ∨ 4000 < lastI ps + lastI qs) → Q .non H) ∧ (50 < ps.length * qs.length ∨ 4000 < lastI ps + lastI qs → E (.ref CT) none H)
theorem scBounds : FnScope ["one", "other"] ["one", "other"] (defScope dCheckBounds) := ⟨rfl, rfl, rfl, by decide +kernel, rfl, by decide +kernel, by decide +kernel⟩
theorem ok_bounds (F : Fun K "check_bounds" "check_bounds" dCheckBounds f fd) (m : mg "check_bounds" = some (.ref f)) (G : MgP mg) (ZTooMany : XCls K "TooMany" CT) (MTooMany : mg "TooMany" = some (.ref CT)) : Def P w K mg base (CXE P w) "check_bounds" ["one", "other"] 1 (spBounds K CT) := by
  refine ⟨f, fd, ?_, F.binds fun _ _ _ _ _ _ us hl => match us, hl with | [_, _], _ => rfl, F.kp, m⟩
  refine F.okE (k := 0) scBounds (fun vs H Q E h => ?_) (fun cdv A outer s H vs Q E hr h => ?_)
  · obtain ⟨a, b, ps, qs, rfl, _⟩ := h
    rfl
  obtain ⟨a, b, ps, qs, rfl, hA, hB, n1, n2, l1, l2, q, qe⟩ := h
  obtain ⟨tm, hMOST_PLACES⟩ := G.most
  obtain ⟨tl, hLONGEST⟩ := G.long
  refine ⟨_, (pss_cons (ps_if (pt_cmpR op_gt (pe_op op_mul (pe_callB call_len_seq (by rfl) G.len PySem.boot_len (pa_cons (pv 0) pa_nil)) (pe_callB call_len_seq (by rfl) G.len PySem.boot_len (pa_cons (pv 1) pa_nil))) (pe_glob (by rfl) hMOST_PLACES (v := .int 50) ⟨_, rfl⟩) (nomark _)) (pss_one (ps_raise raiseE rfl ZTooMany MTooMany (by rfl) (pa_cons (pe_join (pj_cons pe_str (pj_cons (pe_fmt (pe_glob (by rfl) hMOST_PLACES (v := .int 50) ⟨_, rfl⟩)) (pj_cons pe_str pj_nil)))) pa_nil))) pss_nil)
    (pss_one (ps_if (pt_cmpR op_gt (pe_op op_add (pe_ix ix_list (pv 0) (pe_un un_neg pe_int) (fun _ _ => rfl)) (pe_ix ix_list (pv 1) (pe_un un_neg pe_int) (fun _ _ => rfl))) (pe_glob (by rfl) hLONGEST (v := .int 4000) ⟨_, rfl⟩) (nomark _)) (pss_one (ps_raise raiseE rfl ZTooMany MTooMany (by rfl) (pa_cons (pe_join (pj_cons pe_str (pj_cons (pe_fmt (pe_glob (by rfl) hLONGEST (v := .int 4000) ⟨_, rfl⟩)) pj_nil))) pa_nil))) pss_nil))), ?_⟩
  refine ⟨_, rfl, a, _, rfl, .inl hA, _, rfl, b, _, rfl, .inl hB, _, _, rfl, rfl, .inr ⟨by rw [len_int]; omega, by rw [len_int]; omega⟩, ?_⟩
  rw [len_int, len_int]
  have em : ((ps.length : Nat) : Int) * ((qs.length : Nat) : Int) = ((ps.length * qs.length : Nat) : Int) := by push_cast; rfl
  refine ⟨_, _, rfl, rfl, _, rfl, ?_⟩
  refine ite2 (fun z => ?_) (fun z => ?_)
  · have z' : 50 < ps.length * qs.length := by
      have z0 : (50 : Int) < ((ps.length : Nat) : Int) * ((qs.length : Nat) : Int) := of_decide_eq_true z
      rw [em] at z0
      (first | lia | omega)
    exact ⟨_, rfl, by decide +kernel, .inl ⟨_, rfl, by decide, _, rfl, by decide +kernel, _, rfl, by decide +kernel, by decide +kernel, by decide, qe (.inl z')⟩⟩
  have z' : ¬ 50 < ps.length * qs.length := by
    have z0 : ¬ (50 : Int) < ((ps.length : Nat) : Int) * ((qs.length : Nat) : Int) := of_decide_eq_false (Bool.eq_false_iff.mpr z)
    rw [em] at z0
    (first | lia | omega)
  refine ⟨_, rfl, _, rfl, a, _, _, _, rfl, rfl, hA, last_at n1, _, rfl, _, rfl, b, _, _, _, rfl, rfl, hB, last_at n2, _, _, rfl, rfl, _, _, rfl, rfl, _, rfl, ?_⟩
  refine ite2 (fun y => ?_) (fun y => ?_)
  · have y' : 4000 < lastI ps + lastI qs := of_decide_eq_true y
    exact ⟨_, rfl, by decide +kernel, .inl ⟨_, rfl, by decide, _, rfl, by decide +kernel, by decide +kernel, by decide, qe (.inr y')⟩⟩
  have y' : ¬ 4000 < lastI ps + lastI qs := of_decide_eq_false (Bool.eq_false_iff.mpr y)
  exact q fun t => t.elim z' y'
def spCheckSums (K : PySem.W.Frag) (CM : Addr) : Sp := fun vs H Q E => ∃ (a : Addr) (ps : List Int), vs = [.ref a] ∧ SqL K H a (ps.map V.int) ∧ ps.length ≤ 4000 ∧ (ps.Nodup → ∀ H', Same H H' → Q .non H') ∧ (¬ ps.Nodup → ∀ H', Same H H' → E (.ref CM) none H')
theorem scCheckSums : FnScope ["sums"] ["sums"] (defScope dCheckSums) := ⟨rfl, rfl, rfl, by decide +kernel, rfl, by decide +kernel, by decide +kernel⟩
theorem ok_checkSums (F : Fun K "check_sums" "check_sums" dCheckSums f fd) (m : mg "check_sums" = some (.ref f)) (G : MgA mg) (ZMeets : XCls K "Meets" CM) (MMeets : mg "Meets" = some (.ref CM)) : Def P w K mg base (CXE P w) "check_sums" ["sums"] 1 (spCheckSums K CM) := by
  refine ⟨f, fd, ?_, F.binds fun _ _ _ _ _ _ us hl => match us, hl with | [_], _ => rfl, F.kp, m⟩
  refine F.okE (k := 0) scCheckSums (fun vs H Q E h => ?_) (fun cdv A outer s H vs Q E hr h => ?_)
  · obtain ⟨a, ps, rfl, _⟩ := h
    rfl
  obtain ⟨a, ps, rfl, hA, l1, q, qe⟩ := h
  refine ⟨_, (pss_one (ps_if (pt_cmpR op_lt (pe_callB call_lenSet (by rfl) G.len PySem.boot_len (pa_cons (pe_callTy (call_set_of rfl) (by rfl) G.set boot_set (pa_cons (pv 0) pa_nil)) pa_nil)) (pe_callB call_len_seq (by rfl) G.len PySem.boot_len (pa_cons (pv 0) pa_nil)) (nomark _)) (pss_one (ps_raise raiseE rfl ZMeets MMeets (by rfl) (pa_cons pe_str pa_nil))) pss_nil)), ?_⟩
  refine ⟨_, rfl, a, _, rfl, hA, l1, fun S hS => ?_⟩
  have s1 := same_new (o := setO w S (Rg.dds [] ps)) hS
  refine ⟨S, _, rfl, upd_same, _, rfl, a, _, rfl, .inl (s1.seq hA), _, _, rfl, rfl, _, rfl, ?_⟩
  rw [len_int]
  refine ite2 (fun z => ?_) (fun z => ?_)
  · have z' : (Rg.dds [] ps).length < ps.length := by have := of_decide_eq_true z; (first | lia | omega)
    exact ⟨by decide, qe (Rg.dds_short.mp z') _ s1⟩
  · have z' : ¬ (Rg.dds [] ps).length < ps.length := by have := of_decide_eq_false (Bool.eq_false_iff.mpr z); (first | lia | omega)
    exact q (Decidable.of_not_not fun y => z' (Rg.dds_short.mpr y)) _ s1
theorem scAllSums : FnScope ["one", "other", "sums", "place"] ["one", "other"] (defScope dAllSums) := ⟨rfl, rfl, rfl, by decide +kernel, rfl, by decide +kernel, by decide +kernel⟩
theorem ok_allSums (F : Fun K "all_sums" "all_sums" dAllSums f fd) (m : mg "all_sums" = some (.ref f)) (G : MgA mg) : Def P w K mg base CX0 "all_sums" ["one", "other"] 1 (spSums K) := by
  refine ⟨f, fd, ?_, F.binds fun _ _ _ _ _ _ us hl => match us, hl with | [_, _], _ => rfl, F.kp, m⟩
  refine F.ok (k := 0) scAllSums (fun vs H Q E h => ?_) (fun cdv A outer s H vs Q E hr h => ?_)
  · obtain ⟨a, b, ps, qs, rfl, _⟩ := h
    rfl
  obtain ⟨a, b, ps, qs, rfl, hA, hB, l1, l2, q⟩ := h
  refine ⟨_, (pss_cons (ps_set (i := 2) scAllSums.nd rfl (Or.inl rfl) (pe_lst pa_nil))
    (pss_cons (ps_for PassesOwn.never rfl (pi_list (pv 0)) (pg_name (i := 3) scAllSums.nd rfl (Or.inr rfl))
      (pss_one (ps_expr (pe_bm PySem.F.plainAttrs_list PySem.F.slot_list_extend PySem.F.type_list_extend mt_extend (pv 2) (pa_cons (pe_comp ["step"] [("place", 3)] rfl (pi_list (pv 1)) (N := ["one", "other", "sums", "place"]) (osc := defScope dAllSums) ⟨rfl, by decide +kernel, by decide +kernel, by decide +kernel, by decide +kernel⟩
      (fun _ _ _ => pg_name (i := 0) (show (["step", "place"] : List Str).Nodup by decide +kernel) rfl (Or.inl rfl)) (fun _ _ _ => pf_nil) (fun _ _ _ => (pe_op op_add (pv 1) (pv 0)))) pa_nil)))))
    (pss_one (ps_ret (pe_callB call_srt (by rfl) G.sorted boot_sorted (pa_cons (pv 2) pa_nil)))))), ?_⟩
  refine ⟨(by show 0 ≤ sizeLine; decide), fun l hl => ?_⟩
  refine ⟨_, rfl, a, rfl, ⟨_, sq_ne hA hl⟩, for_list (xs := ps.map V.int) (fun i σ H' => (∃ o, σ = [some (.ref a), some (.ref b), some (.ref l), o]) ∧ Same H H' ∧ H' l = some (.lst ((sms (ps.take i) qs).map V.int))) ⟨⟨_, rfl⟩, same_new hl _, upd_same⟩ ?_ ?_ ?_⟩
  · rintro i σ H' _ ⟨_, h1, _⟩
    exact h1.seq hA
  · rintro i x σ H' hx ⟨⟨o, rfl⟩, h1, h2⟩
    obtain ⟨y, hy, rfl⟩ := int_at hx
    have hi := (List.getElem?_eq_some_iff.mp hy).1
    refine ⟨_, rfl, .inl ⟨rfl, _, SqL.of h2⟩, _, rfl, b, rfl, ⟨_, h1.seq hB⟩, fun D hD => ?_⟩
    refine comp_map (plusV y) hD (h1.seq hB) (by rw [len_int]; exact small (by omega)) (fun j x ys Q' hx q' => ?_) ?_
    · obtain ⟨z, _, rfl⟩ := int_at hx
      exact ⟨_, rfl, _, rfl, _, _, rfl, rfl, q'⟩
    · rw [plusV_map]
      have lD : l ≠ D := ne_of_none h2 hD
      have e1 : sms (ps.take (i + 1)) qs = sms (ps.take i) qs ++ qs.map (y + ·) := by
        unfold sms
        rw [Rg.take_succ hy, List.flatMap_append]
        simp
      refine ⟨l, D, _, _, rfl, rfl, by rw [upd_ne lD]; exact h2, upd_same, ?_, ⟨_, rfl⟩, same_upd (same_upd h1 (h1.free hD)) hl, ?_⟩
      · rw [len_int, len_int, sms_len, List.length_map, List.length_take]
        have : min i ps.length * qs.length ≤ 50 * 50 := Nat.mul_le_mul (by omega) l2
        exact small5 (by omega)
      · rw [upd_same, e1, List.map_append]
  · rintro σ H' ⟨⟨o, rfl⟩, h1, h2⟩
    rw [len_int, List.take_length] at h2
    exact ⟨_, rfl, l, _, rfl, SqL.of h2, fun r hr' => q r _ (same_upd h1 (h1.free hr')) (h1.free hr') upd_same⟩
theorem scCrossed : FnScope ["one", "other", "straight", "turned"] ["one", "other"] (defScope dCrossed) := ⟨rfl, rfl, rfl, by decide +kernel, rfl, by decide +kernel, by decide +kernel⟩
theorem mirr_len (qs : List Int) : (Rg.mirr qs).length = qs.length := by unfold Rg.mirr; rw [List.length_map, List.length_reverse]
theorem ok_crossed (F : Fun K "crossed" "crossed" dCrossed f fd) (m : mg "crossed" = some (.ref f)) (Dcheck_road : Def P w K mg base (CXE P w) "check_road" ["places"] 3 (spCheckE K CN)) (Dcheck_bounds : Def P w K mg base (CXE P w) "check_bounds" ["one", "other"] 3 (spBounds K CT))
    (Dall_sums : Def P w K mg base CX0 "all_sums" ["one", "other"] 3 (spSums K)) (Dmirrored : Def P w K mg base (CXE P w) "mirrored" ["road"] 3 (spTell K CN Rg.mirr)) (Dcheck_sums : Def P w K mg base (CXE P w) "check_sums" ["sums"] 3 (spCheckSums K CM)) :
    Def P w K mg base (CXE P w) "crossed" ["one", "other"] 4 (spCross K CN CT CM) := by
  refine ⟨f, fd, ?_, F.binds fun _ _ _ _ _ _ us hl => match us, hl with | [_, _], _ => rfl, F.kp, m⟩
  refine F.okE (k := 3) scCrossed (fun vs H Q E h => ?_) (fun cdv A outer s H vs Q E hr h => ?_)
  · obtain ⟨a, b, ps, qs, rfl, _⟩ := h
    rfl
  obtain ⟨a, b, ps, qs, rfl, hA, hB, l1, l2, q, qn, qt, qm⟩ := h
  refine ⟨_, (pss_cons (ps_expr (pe_fnX Dcheck_road hr passE (by rfl) (pa_cons (pv 0) pa_nil)))
    (pss_cons (ps_expr (pe_fnX Dcheck_road hr passE (by rfl) (pa_cons (pv 1) pa_nil)))
    (pss_cons (ps_expr (pe_fnX Dcheck_bounds hr passE (by rfl) (pa_cons (pv 0) (pa_cons (pv 1) pa_nil))))
    (pss_cons (ps_set (i := 2) scCrossed.nd rfl (Or.inl rfl) (pe_fn Dall_sums hr (by rfl) (pa_cons (pv 0) (pa_cons (pv 1) pa_nil))))
    (pss_cons (ps_set (i := 3) scCrossed.nd rfl (Or.inl rfl) (pe_fn Dall_sums hr (by rfl) (pa_cons (pv 0) (pa_cons (pe_fnX Dmirrored hr passE (by rfl) (pa_cons (pv 1) pa_nil)) pa_nil))))
    (pss_cons (ps_expr (pe_fnX Dcheck_sums hr passE (by rfl) (pa_cons (pv 2) pa_nil)))
    (pss_cons (ps_expr (pe_fnX Dcheck_sums hr passE (by rfl) (pa_cons (pv 3) pa_nil)))
    (pss_one (ps_ret (pe_tup (pa_cons (pv 2) (pa_cons (pv 3) pa_nil)))))))))))), ?_⟩
  refine ⟨_, rfl, a, ps, rfl, hA, l1, fun e1 H1 s1 => ⟨_, rfl, b, qs, rfl, s1.seq hB, l2, fun e2 H2 s2' => ?_, fun e2 H2 s2' => qn (if_pos (by rw [e1, e2]; rfl)) H2 (s1.trans s2')⟩, fun e1 => qn (if_pos (by rw [e1]; rfl))⟩
  have s2 := s1.trans s2'
  have ee : ¬ (roadB ps && roadB qs) = false := by rw [e1, e2]; decide
  have f1 := roadB_facts e1
  have f2 := roadB_facts e2
  refine ⟨_, rfl, _, rfl, a, b, ps, qs, rfl, s2.seq hA, s2.seq hB, f1.1, f2.1, f1.2.1, f2.2.1, fun c => ?_, fun c => qt ?_ H2 s2⟩
  rotate_left
  · unfold xcode
    rw [if_neg ee, if_pos c]
  have c50 : ps.length * qs.length ≤ 50 := Nat.le_of_not_lt fun z => c (.inl z)
  refine ⟨_, rfl, _, rfl, a, b, ps, qs, rfl, s2.seq hA, s2.seq hB, f1.2.1, f2.2.1, fun r1 H3 s3' r10 r11 => ?_⟩
  have s3 := s2.trans s3'
  refine ⟨_, rfl, _, rfl, b, qs, rfl, s3.seq hB, l2, fun _ mr H4 s4' m0 m1 => ?_, fun z => absurd e2 (by rw [z]; decide)⟩
  have s4 := s3.trans s4'
  refine ⟨a, mr, ps, Rg.mirr qs, rfl, s4.seq hA, SqL.of m1, f1.2.1, by rw [mirr_len]; exact f2.2.1, fun r2 H5 s5' r20 r21 => ?_⟩
  have s5 := s4.trans s5'
  have r15 := s5' _ _ (s4' _ _ r11)
  have ne : r1 ≠ r2 := fun z => by rw [← z, s4' _ _ r11] at r20; cases r20
  refine ⟨_, rfl, r1, _, rfl, SqL.of r15, by rw [Rg.srt_length, sms_len]; omega, fun n1 H6 s6' => ?_, fun n1 H6 s6' => qm ?_ H6 (s5.trans s6')⟩
  rotate_left
  · unfold xcode
    rw [if_neg ee, if_neg c, if_pos (.inl fun y => n1 ((srt_nodup _).mpr y))]
  have s6 := s5.trans s6'
  refine ⟨_, rfl, r2, _, rfl, SqL.of (s6' _ _ r21), by rw [Rg.srt_length, sms_len, mirr_len]; omega, fun n2 H7 s7' => ?_, fun n2 H7 s7' => qm ?_ H7 (s6.trans s7')⟩
  rotate_left
  · unfold xcode
    rw [if_neg ee, if_neg c, if_pos (.inr fun y => n2 ((srt_nodup _).mpr y))]
  have s7 := s6.trans s7'
  have x0 : xcode ps qs = 0 := by
    unfold xcode
    rw [if_neg ee, if_neg c, if_neg fun y => y.elim (fun y => y ((srt_nodup _).mp n1)) fun y => y ((srt_nodup _).mp n2)]
  have r17 := s7' _ _ (s6' _ _ r15)
  have r27 := s7' _ _ (s6' _ _ r21)
  refine ⟨_, rfl, _, rfl, (by show 2 ≤ sizeLine; decide), fun t ht => q x0 t r1 r2 _ (same_upd s7 (s7.free ht)) (s2.free r10) (s4.free r20) ne ?_ ?_ upd_same⟩
  · rw [upd_ne (ne_of_none r17 ht)]; exact r17
  · rw [upd_ne (ne_of_none r27 ht)]; exact r27
end
end Rd
namespace Rd
open PySem L2 PyProof.Rows
/-! ### trials, told as data -/
open Rg (needs_perm nextOf_perm sureL last_in maxI maxI_eq needs lastI nextIn nextOf nextOf_none nextOf_nil nextOf_some nextOf_new nextOf_len nextOf_long lef_len)
theorem last_atR {ps : List Int} (h : 1 ≤ ps.length) : atI (ps.map V.int) (-1) = some (.int (lastI ps)) := last_at h
def optD : Option Int → PyData
  | none => .none
  | some d => .int d
/-- a trial, with its trials behind it -/
def trD : Nat → List Int → List Int → Int → PyData
  | 0, gs, ps, p => .tuple [.int p, optD (Rg.lef gs (needs (ps ++ [p]))).2, .list []]
  | n + 1, gs, ps, p => .tuple [.int p, optD (Rg.lef gs (needs (ps ++ [p]))).2, .list ((nextOf gs (ps ++ [p])).map (trD n gs (ps ++ [p])))]
def kidsD : Nat → List Int → List Int → List PyData
  | 0, _, _ => []
  | n + 1, gs, ps => (nextOf gs ps).map (trD n gs ps)
theorem trD_eq (n : Nat) (gs ps : List Int) (p : Int) : trD n gs ps p = .tuple [.int p, optD (Rg.lef gs (needs (ps ++ [p]))).2, .list (kidsD n gs (ps ++ [p]))] := by
  cases n <;> rfl
theorem dtn_opt {H0 H : Hp} : ∀ o : Option Int, DtN H0 H (optV o) (optD o)
  | none => .non
  | some d => .int d
def trialsOf (gs : List Int) : List PyData := if gs = [] then [] else kidsD 5 gs [0, lastI gs]
def okTrials : Addr → List Int → Hp → VK → Prop := fun _ gs H Q => ∀ v H', Same H H' → DtN H H' v (.list (trialsOf gs)) → Q v H'
/-! ### the order of places does not matter -/
theorem trD_perm : ∀ (n : Nat) {gs ps qs : List Int} (p : Int), ps.Perm qs → trD n gs ps p = trD n gs qs p
  | 0, gs, ps, qs, p, h => by unfold trD; rw [needs_perm (h.append_right [p])]
  | n + 1, gs, ps, qs, p, h => by
    unfold trD
    rw [needs_perm (h.append_right [p]), nextOf_perm (h.append_right [p])]
    have e : (nextOf gs (qs ++ [p])).map (trD n gs (ps ++ [p])) = (nextOf gs (qs ++ [p])).map (trD n gs (qs ++ [p])) := List.map_congr_left fun x _ => trD_perm n x (h.append_right [p])
    rw [e]
theorem kidsD_perm (n : Nat) {gs ps qs : List Int} (h : ps.Perm qs) : kidsD n gs ps = kidsD n gs qs := by
  cases n with
  | zero => rfl
  | succ n =>
    show (nextOf gs ps).map (trD n gs ps) = (nextOf gs qs).map (trD n gs qs)
    rw [nextOf_perm h]
    exact List.map_congr_left fun x _ => trD_perm n x h
theorem kidsD_nil {n : Nat} {gs ps : List Int} (h : nextOf gs ps = []) : kidsD n gs ps = [] := by
  cases n with
  | zero => rfl
  | succ n => show (nextOf gs ps).map (trD n gs ps) = []; rw [h]; rfl
/-! ### a rising list of places -/
theorem needs_rise {ps : List Int} (h : ps.Pairwise (· < ·)) : Rg.srt (Rg.fnd ps) = needs ps := by unfold needs; rw [Rg.btw_fnd h]
theorem lack_lef {ps gs : List Int} (h : ps.Pairwise (· < ·)) : lackOf ps gs = (Rg.lef gs (needs ps)).2 := by unfold lackOf; rw [needs_rise h]; exact (Rg.lef_lack (needs ps) gs (Rg.srt_sorted _)).symm
theorem rest_lef {ps gs : List Int} (h : ps.Pairwise (· < ·)) (hn : lackOf ps gs = none) : Rg.lef gs (needs ps) = (some (restOf ps gs), none) := by
  rw [lack_lef h] at hn
  have := Rg.lef_none _ _ hn
  unfold restOf
  rw [needs_rise h]
  exact Prod.ext this hn
theorem rise_max {ps : List Int} (h : ps.Pairwise (· < ·)) (h1 : 1 ≤ ps.length) : lastI ps = maxI ps := by
  obtain ⟨h2, h3⟩ := Rg.last_max (Rg.rise_le h) (List.length_pos_iff.mp h1)
  exact maxI_eq h2 h3
theorem put_rise {ps : List Int} {p : Int} (h : ps.Pairwise (· < ·)) (hp : p ∉ ps) : (Rg.srt (ps ++ [p])).Pairwise (· < ·) := by
  have nd : (Rg.srt (ps ++ [p])).Nodup := (Rg.srt_perm _).nodup_iff.mpr (by
    rw [List.nodup_append]
    refine ⟨Rg.rise_nodup h, by simp, fun a ha b hb => ?_⟩
    have : b = p := by simpa using hb
    subst this
    exact fun e => hp (e ▸ ha))
  exact (Rg.srt_sorted _).imp₂ (fun a b (h1 : a ≤ b) (h2 : a ≠ b) => by omega) nd
theorem put_len (ps : List Int) (p : Int) : (Rg.srt (ps ++ [p])).length = ps.length + 1 := by rw [Rg.srt_length, List.length_append]; rfl
theorem sure_rise {gs : List Int} (h : GapsOk gs) : (sureL gs).Pairwise (· < ·) := by
  unfold sureL
  split
  · simp
  · rename_i z
    have := h.low _ (last_in z)
    simp
    (first | lia | omega)
theorem sure_len (gs : List Int) : 1 ≤ (sureL gs).length ∧ (sureL gs).length ≤ 2 := by
  unfold sureL
  split <;> simp
theorem sure_lack {gs : List Int} (h : GapsOk gs) : lackOf (sureL gs) gs = none := by
  unfold sureL lackOf
  split
  · rename_i z
    have e : Rg.srt (Rg.fnd [0]) = [] := by decide +kernel
    rw [e]
    rfl
  · rename_i z
    have e : Rg.srt (Rg.fnd [0, lastI gs]) = [lastI gs] := by
      have : Rg.fnd [0, lastI gs] = [lastI gs - 0] := rfl
      rw [this, Int.sub_zero]
      exact Rg.srt_of_sorted (by simp)
    rw [e]
    unfold Rg.lack
    have c : ¬ gs.count (lastI gs) < [lastI gs].count (lastI gs) := by
      have : 0 < gs.count (lastI gs) := List.count_pos_iff.mpr (last_in z)
      simp
      (first | lia | omega)
    rw [List.find?_cons, decide_eq_false c]
    rfl
section
variable {P : Program} {w : World} {K : PySem.W.Frag} {mg : Str → Option Value} {base : Heap} {f g CT CG : Addr} {fd gd : FuncData}
structure MgS (mg : Str → Option Value) : Prop where
  set : mg "set" = none
  sorted : mg "sorted" = none
def spSure (K : PySem.W.Frag) : Sp := fun vs H Q _ => ∃ (b : Addr) (gs : List Int), vs = [.ref b] ∧ SqL K H b (gs.map V.int) ∧ ∀ a H', Same H H' → H a = none → H' a = some (.lst ((sureL gs).map V.int)) → Q (.ref a) H'
theorem scSure : FnScope ["gaps"] ["gaps"] (defScope dSurePlaces) := ⟨rfl, rfl, rfl, by decide +kernel, rfl, by decide +kernel, by decide +kernel⟩
theorem ok_sure (F : Fun K "sure_places" "sure_places" dSurePlaces f fd) (m : mg "sure_places" = some (.ref f)) : Def P w K mg base CX0 "sure_places" ["gaps"] 1 (spSure K) := by
  refine ⟨f, fd, ?_, F.binds fun _ _ _ _ _ _ us hl => match us, hl with | [_], _ => rfl, F.kp, m⟩
  refine F.ok (k := 0) scSure (fun vs H Q E h => ?_) (fun cdv A outer s H vs Q E hr h => ?_)
  · obtain ⟨b, gs, rfl, _⟩ := h
    rfl
  obtain ⟨b, gs, rfl, hG, q⟩ := h
  refine ⟨_, (pss_cons (ps_if (pt_cmpR (op_eqD hr.units) (pv 0) (pe_lst pa_nil) (nomark _)) (pss_one (ps_ret (pe_lst (pa_cons pe_int pa_nil)))) pss_nil)
    (pss_one (ps_ret (pe_lst (pa_cons pe_int (pa_cons (pe_ix ix_list (pv 0) (pe_un un_neg pe_int) (fun _ _ => rfl)) pa_nil)))))), ?_⟩
  refine ⟨_, rfl, (by show 0 ≤ sizeLine; decide), fun n hn => ?_⟩
  have s1 := same_new (o := .lst []) hn
  refine ⟨_, .list (([] : List Int).map PyData.int), .lst (s1.seq hG) (dt_ints _), .lst (SqL.of upd_same) (dt_ints []), shaped_ints _, shaped_ints _, ?_⟩
  rw [eqv_ints]
  refine ⟨_, rfl, ite2 (fun z => ?_) (fun z => ?_)⟩
  · have z' : gs = [] := by simpa using z
    refine ⟨(by show 1 ≤ sizeLine; decide), fun r hr' => q r _ (same_upd s1 (s1.free hr')) (s1.free hr') ?_⟩
    rw [upd_same, show sureL gs = [0] from if_pos z']
    rfl
  have z' : gs ≠ [] := by simpa using z
  refine ⟨_, rfl, _, rfl, b, _, _, _, rfl, rfl, s1.seq hG, last_atR (List.length_pos_iff.mpr z'), (by show 2 ≤ sizeLine; decide), fun r hr' => q r _ (same_upd s1 (s1.free hr')) (s1.free hr') ?_⟩
  rw [upd_same, show sureL gs = [0, lastI gs] from if_neg z']
  rfl
def spPut (K : PySem.W.Frag) : Sp := fun vs H Q _ => ∃ (a : Addr) (ps : List Int) (p : Int), vs = [.ref a, .int p] ∧ H a = some (.lst (ps.map V.int)) ∧ ps.length ≤ 50 ∧ ∀ r H', Same H H' → H r = none → H' r = some (.lst ((Rg.srt (ps ++ [p])).map V.int)) → Q (.ref r) H'
theorem scPut : FnScope ["places", "place"] ["places", "place"] (defScope dWithPlace) := ⟨rfl, rfl, rfl, by decide +kernel, rfl, by decide +kernel, by decide +kernel⟩
theorem ok_put (F : Fun K "with_place" "with_place" dWithPlace f fd) (m : mg "with_place" = some (.ref f)) (G : MgS mg) : Def P w K mg base CX0 "with_place" ["places", "place"] 1 (spPut K) := by
  refine ⟨f, fd, ?_, F.binds fun _ _ _ _ _ _ us hl => match us, hl with | [_, _], _ => rfl, F.kp, m⟩
  refine F.ok (k := 0) scPut (fun vs H Q E h => ?_) (fun cdv A outer s H vs Q E hr h => ?_)
  · obtain ⟨a, ps, p, rfl, _⟩ := h
    rfl
  obtain ⟨a, ps, p, rfl, hA, h50, q⟩ := h
  refine ⟨_, (pss_one (ps_ret (pe_callB call_srt (by rfl) G.sorted boot_sorted (pa_cons (pe_op op_cat (pv 0) (pe_lst (pa_cons (pv 1) pa_nil))) pa_nil)))), ?_⟩
  refine ⟨_, rfl, _, rfl, (by show 1 ≤ sizeLine; decide), fun l hl => ?_⟩
  have s1 := same_new (o := .lst [V.int p]) hl
  refine ⟨a, l, _, _, rfl, rfl, s1 _ _ hA, upd_same, by rw [len_int]; show _ + 1 ≤ sizeLine; exact small (by omega), fun he hhe => ?_⟩
  have ea : ps.map V.int ++ [V.int p] = (ps ++ [p]).map V.int := by rw [List.map_append]; rfl
  rw [ea]
  have s2 := same_upd (o := .lst ((ps ++ [p]).map V.int)) s1 (s1.free hhe)
  exact ⟨he, _, rfl, SqL.of upd_same, fun r hr' => q r _ (same_upd s2 (s2.free hr')) (s2.free hr') upd_same⟩
def spToTry (K : PySem.W.Frag) : Sp := fun vs H Q _ => ∃ (a b : Addr) (ps g : List Int), vs = [.ref a, .ref b] ∧ SqL K H a (ps.map V.int) ∧ SqL K H b (g.map V.int) ∧ ps.Pairwise (· < ·) ∧ 1 ≤ ps.length ∧ ps.length ≤ 50 ∧ ∀ l H', Same H H' → H l = none → H' l = some (.lst ((if g = [] then [] else nextIn g ps).map V.int)) → Q (.ref l) H'
theorem scToTry : FnScope ["places", "rest", "ends"] ["places", "rest"] (defScope dPlacesToTry) := ⟨rfl, rfl, rfl, by decide +kernel, rfl, by decide +kernel, by decide +kernel⟩
theorem ok_toTry (F : Fun K "places_to_try" "places_to_try" dPlacesToTry f fd) (m : mg "places_to_try" = some (.ref f)) (G : MgS mg) : Def P w K mg base CX0 "places_to_try" ["places", "rest"] 1 (spToTry K) := by
  refine ⟨f, fd, ?_, F.binds fun _ _ _ _ _ _ us hl => match us, hl with | [_, _], _ => rfl, F.kp, m⟩
  refine F.ok (k := 0) scToTry (fun vs H Q E h => ?_) (fun cdv A outer s H vs Q E hr h => ?_)
  · obtain ⟨a, b, ps, gr, rfl, _⟩ := h
    rfl
  obtain ⟨a, b, ps, gr, rfl, hS, hG, hri, h1, h50, q⟩ := h
  refine ⟨_, (pss_cons (ps_if (pt_cmpR (op_eqD hr.units) (pv 1) (pe_lst pa_nil) (nomark _)) (pss_one (ps_ret (pe_lst pa_nil))) pss_nil)
    (pss_cons (ps_set (i := 2) scToTry.nd rfl (Or.inl rfl) (pe_callB (call_srt_set rfl) (by rfl) G.sorted boot_sorted (pa_cons (pe_callTy (call_set_of rfl) (by rfl) G.set boot_set (pa_cons (pe_lst (pa_cons (pe_ix ix_list (pv 1) (pe_un un_neg pe_int) (fun _ _ => rfl)) (pa_cons (pe_op op_sub (pe_ix ix_list (pv 0) (pe_un un_neg pe_int) (fun _ _ => rfl)) (pe_ix ix_list (pv 1) (pe_un un_neg pe_int) (fun _ _ => rfl))) pa_nil))) pa_nil)) pa_nil)))
    (pss_one (ps_ret (pe_comp ["place"] [("places", 0)] rfl (pi_list (pv 2)) (N := ["places", "rest", "ends"]) (osc := defScope dPlacesToTry) ⟨rfl, by decide +kernel, by decide +kernel, by decide +kernel, by decide +kernel⟩
      (fun _ _ _ => pg_name (i := 0) (show (["place", "places"] : List Str).Nodup by decide +kernel) rfl (Or.inl rfl)) (fun _ _ _ => pf_one (pt_cmpR (op_notInK K) (pv 0) (pv 1) (by rfl))) (fun _ _ _ => (pv 0))))))), ?_⟩
  refine ⟨_, rfl, (by show 0 ≤ sizeLine; decide), fun n hn => ?_⟩
  have s2 := same_new (o := .lst []) hn
  have hl2 := s2.seq hG
  refine ⟨_, .list (([] : List Int).map PyData.int), .lst hl2 (dt_ints _), .lst (SqL.of upd_same) (dt_ints []), shaped_ints _, shaped_ints _, ?_⟩
  rw [eqv_ints]
  refine ⟨_, rfl, ite2 (fun z => ?_) (fun z => ?_)⟩
  · have z' : gr = [] := by simpa using z
    refine ⟨(by show 0 ≤ sizeLine; decide), fun n2 hn2 => q n2 _ (same_upd s2 (s2.free hn2)) (s2.free hn2) ?_⟩
    rw [upd_same, if_pos z']
    rfl
  have z' : gr ≠ [] := by simpa using z
  have gl1 : 1 ≤ gr.length := List.length_pos_iff.mpr z'
  rw [if_neg z'] at q
  unfold nextIn at q
  rw [← rise_max hri h1] at q
  refine ⟨_, rfl, _, rfl, b, _, _, _, rfl, rfl, hl2, last_atR gl1, _, rfl, _, rfl, a, _, _, _, rfl, rfl, s2.seq hS, last_atR h1, _, rfl, _, rfl, b, _, _, _, rfl, rfl, hl2, last_atR gl1, _, _, rfl, rfl, (by show 2 ≤ sizeLine; decide), fun p hp => ?_⟩
  have s3 := same_upd (o := .lst [V.int (lastI gr), V.int (lastI ps - lastI gr)]) s2 (s2.free hp)
  refine ⟨p, [lastI gr, lastI ps - lastI gr], rfl, SqL.of upd_same, (by show 2 ≤ 4000; decide), fun S hS0 => ⟨S, _, rfl, upd_same, fun r hr' => ?_⟩⟩
  have s4 := same_upd (o := setO w S (Rg.dds [] [lastI gr, lastI ps - lastI gr])) s3 (s3.free hS0)
  have s5 := same_upd (o := .lst ((Rg.srt (Rg.dds [] [lastI gr, lastI ps - lastI gr])).map V.int)) s4 (s4.free hr')
  refine ⟨_, rfl, r, rfl, ⟨_, SqL.of upd_same⟩, fun D hD => ?_⟩
  have dl : (Rg.srt (Rg.dds [] [lastI gr, lastI ps - lastI gr])).length ≤ 2 := by rw [Rg.srt_length]; exact Nat.le_trans (Rg.dds_len _ _) (by simp)
  refine comp_keep (fun p => !decide (p ∈ ps)) hD (SqL.of upd_same) (small (by omega)) (fun z ys Q' hz q' => ?_) (fun z ys Q' q' => ⟨_, rfl, q'⟩) ?_
  · refine ⟨_, rfl, _, rfl, a, _, rfl, .inl (sq_ne (s5.seq hS) hD), rfl, flat_ints _, _, rfl, ?_⟩
    rw [inV_ints]
    cases e : decide (z ∈ ps) with
    | true => rw [e] at q'; exact q'
    | false => rw [e] at q'; exact q'
  · refine q D _ (same_upd s5 (s5.free hD)) (s5.free hD) ?_
    rw [upd_same]
/-- the trials behind some places: by how many more may stand behind them -/
def spBehind (K : PySem.W.Frag) : Nat → Sp
  | 0 => fun _ _ _ _ => False
  | n + 1 => fun vs H Q _ => ∃ (a b : Addr) (ps gs : List Int), vs = [.ref a, .ref b] ∧ H a = some (.lst (ps.map V.int)) ∧ SqL K H b (gs.map V.int) ∧ gs.length ≤ 21 ∧ ps.Pairwise (· < ·) ∧ 1 ≤ ps.length ∧ ps.length ≤ 40 ∧ lackOf ps gs = none ∧ (nextOf gs ps = [] ∨ 7 ≤ ps.length + n) ∧ ∀ v H', Same H H' → DtN H H' v (.list (kidsD n gs ps)) → Q v H'
theorem scBehind : FnScope ["places", "gaps", "found", "place", "together", "lack", "further"] ["places", "gaps"] (defScope dTrialsBehind) := ⟨rfl, rfl, rfl, by decide +kernel, rfl, by decide +kernel, by decide +kernel⟩
theorem ok_behind (F : Fun K "trials_behind" "trials_behind" dTrialsBehind f fd) (m : mg "trials_behind" = some (.ref f)) (D1 : Def P w K mg base CX0 "rest_without" ["places", "gaps"] 3 (spRest K)) (D2 : Def P w K mg base CX0 "places_to_try" ["places", "rest"] 1 (spToTry K)) (D3 : Def P w K mg base CX0 "with_place" ["places", "place"] 1 (spPut K)) (D4 : Def P w K mg base CX0 "least_lacking" ["places", "gaps"] 2 (spLeast K)) :
    ∀ n : Nat, Def P w K mg base CX0 "trials_behind" ["places", "gaps"] (3 + n) (spBehind K n) := by
  intro n
  induction n with
  | zero => exact ⟨f, fd, ⟨fun _ _ _ _ h => False.elim h, fun _ _ _ _ _ _ _ _ _ _ _ _ _ h => False.elim h⟩, F.binds fun _ _ _ _ _ _ us hl => match us, hl with | [_, _], _ => rfl, F.kp, m⟩
  | succ n Dtrials_behind =>
  have Drest_without := D1.mono (show 3 ≤ 3 + n by omega)
  have Dplaces_to_try := D2.mono (show 1 ≤ 3 + n by omega)
  have Dwith_place := D3.mono (show 1 ≤ 3 + n by omega)
  have Dleast_lacking := D4.mono (show 2 ≤ 3 + n by omega)
  refine ⟨f, fd, ?_, F.binds fun _ _ _ _ _ _ us hl => match us, hl with | [_, _], _ => rfl, F.kp, m⟩
  refine F.ok (k := 3 + n) scBehind (fun vs H Q E h => ?_) (fun cdv A outer s H vs Q E hr h => ?_)
  · obtain ⟨a, b, ps, gs, rfl, _⟩ := h
    rfl
  obtain ⟨a, b, ps, gs, rfl, hA, hG, h21, hri, h1, h40, hlk, hn, q⟩ := h
  refine ⟨_, (pss_cons (ps_set (i := 2) scBehind.nd rfl (Or.inl rfl) (pe_lst pa_nil))
    (pss_cons (ps_for PassesOwn.never rfl (pi_list (pe_fn Dplaces_to_try hr (by rfl) (pa_cons (pv 0) (pa_cons (pe_fn Drest_without hr (by rfl) (pa_cons (pv 0) (pa_cons (pv 1) pa_nil))) pa_nil)))) (pg_name (i := 3) scBehind.nd rfl (Or.inl rfl))
      (pss_cons (ps_set (i := 4) scBehind.nd rfl (Or.inl rfl) (pe_fn Dwith_place hr (by rfl) (pa_cons (pv 0) (pa_cons (pv 3) pa_nil))))
    (pss_cons (ps_set (i := 5) scBehind.nd rfl (Or.inl rfl) (pe_fn Dleast_lacking hr (by rfl) (pa_cons (pv 4) (pa_cons (pv 1) pa_nil))))
    (pss_cons (ps_set (i := 6) scBehind.nd rfl (Or.inl rfl) (pe_lst pa_nil))
    (pss_cons (ps_if (pt_cmp (pc_isN (pv 5))) (pss_one (ps_set (i := 6) scBehind.nd rfl (Or.inl rfl) (pe_fn Dtrials_behind hr (by rfl) (pa_cons (pv 4) (pa_cons (pv 1) pa_nil))))) pss_nil)
    (pss_one (ps_expr (pe_bm PySem.F.plainAttrs_list PySem.F.slot_list_append PySem.F.type_list_append mt_append (pv 2) (pa_cons (pe_tup (pa_cons (pv 3) (pa_cons (pv 5) (pa_cons (pv 6) pa_nil)))) pa_nil)))))))))
    (pss_one (ps_ret (pv 2))))), ?_⟩
  refine ⟨(by show 0 ≤ sizeLine; decide), fun l hl => ?_⟩
  have s1 := same_new (o := .lst []) hl
  refine ⟨_, rfl, _, rfl, _, rfl, a, b, ps, gs, rfl, ⟨s1.seq (SqL.of hA), by omega, s1.seq hG⟩, fun e => absurd hlk (fun z => by rw [z] at e; cases e), fun _ r H2 s2 r0 r1 => ?_⟩
  have s12 := s1.trans s2
  refine ⟨a, r, ps, _, rfl, s12.seq (SqL.of hA), SqL.of r1, hri, h1, by omega, fun nl H3 s3 nl0 nl1 => ⟨nl, rfl, ⟨_, SqL.of nl1⟩, ?_⟩⟩
  have s13 := s12.trans s3
  have en : (if restOf ps gs = [] then [] else nextIn (restOf ps gs) ps) = nextOf gs ps := by
    have er := rest_lef hri hlk
    by_cases z : restOf ps gs = []
    · rw [if_pos z]
      rw [z] at er
      exact (nextOf_nil er).symm
    · rw [if_neg z]
      exact (nextOf_some er z).symm
  rw [en] at nl1
  have l3 : H3 l = some (.lst []) := s3 _ _ (s2 _ _ upd_same)
  obtain ⟨ns, hns⟩ : ∃ ns, ns = nextOf gs ps := ⟨_, rfl⟩
  have nlen := nextOf_len gs ps
  rw [← hns] at nl1 nlen hn
  have ln : l ≠ nl := fun z => by rw [← z, s2 _ _ upd_same] at nl0; cases nl0
  have main : ∀ i, i ≤ ns.length → (kidsD n gs ps).take i = (ns.take i).map (trD (n - 1) gs ps) := fun i hi => by
    cases n with
    | zero =>
      have : ns = [] := by
        rcases hn with z | z
        · exact z
        · rw [hns]; exact nextOf_long (Rg.rise_nodup hri) (by omega) h21
      rw [this]; simp [kidsD]
    | succ n => show ((nextOf gs ps).map (trD n gs ps)).take i = _; rw [← hns, List.map_take]; rfl
  refine for_list (xs := ns.map V.int) (fun i σ H' => (∃ o1 o2 o3 o4, σ = [some (.ref a), some (.ref b), some (.ref l), o1, o2, o3, o4]) ∧ Same H H' ∧ H' nl = some (.lst (ns.map V.int)) ∧ ∃ vs, H' l = some (.lst vs) ∧ DtNs (upd H l (.lst [])) H' vs ((ns.take i).map (trD (n - 1) gs ps))) ⟨⟨_, _, _, _, rfl⟩, s13, nl1, [], l3, by simpa using DtNs.nil⟩ ?_ ?_ ?_
  · rintro i σ H' _ ⟨_, _, h3, _⟩
    exact SqL.of h3
  · rintro i x σ H' hx ⟨⟨o1, o2, o3, o4, rfl⟩, sm, hnl, vs, hvs, hds⟩
    obtain ⟨p, hp, rfl⟩ := int_at hx
    have pin : p ∈ nextOf gs ps := hns ▸ List.mem_of_getElem? hp
    have pn : p ∉ ps := nextOf_new pin
    have hi := (List.getElem?_eq_some_iff.mp hp).1
    have vl := hds.length
    rw [List.length_map, List.length_take] at vl
    have lt7 : ¬ 7 ≤ ps.length := fun c => by
      rw [nextOf_long (Rg.rise_nodup hri) c h21] at pin
      cases pin
    have hn' : 7 ≤ ps.length + n := hn.resolve_left fun z => by rw [z] at hi; cases hi
    have pr := put_rise hri pn
    have pm := Rg.srt_perm (ps ++ [p])
    have pl := put_len ps p
    refine ⟨_, rfl, _, rfl, a, ps, p, rfl, sm _ _ hA, by omega, fun tg H4 s4 tg0 tg1 => ?_⟩
    refine ⟨_, rfl, _, rfl, tg, b, _, gs, rfl, ⟨SqL.of tg1, by omega, (sm.trans s4).seq hG⟩, fun H5 s5 => ?_⟩
    have s45 := s4.trans s5
    refine ⟨(by show 0 ≤ sizeLine; decide), fun fu hfu => ?_⟩
    have s6 := s45.trans (same_new (o := .lst []) hfu)
    have el : lackOf (Rg.srt (ps ++ [p])) gs = (Rg.lef gs (needs (ps ++ [p]))).2 := by rw [lack_lef pr, needs_perm pm]
    have done : ∀ H7 (fk : Addr), Same H' H7 → DtN H' H7 (.ref fk) (.list (kidsD (n - 1) gs (ps ++ [p]))) → ∀ t, H7 t = none →
        (∃ vs', upd H7 t (.tup [.int p, optV (lackOf (Rg.srt (ps ++ [p])) gs), .ref fk]) l = some (.lst vs') ∧ vs'.length < sizeLine ∧
          ((∃ o1 o2 o3 o4, [some (V.ref a), some (.ref b), some (.ref l), some (.int p), some (.ref tg), some (optV (lackOf (Rg.srt (ps ++ [p])) gs)), some (.ref fk)] = [some (V.ref a), some (.ref b), some (.ref l), o1, o2, o3, o4]) ∧ Same H (upd (upd H7 t (.tup [.int p, optV (lackOf (Rg.srt (ps ++ [p])) gs), .ref fk])) l (.lst (vs' ++ [.ref t]))) ∧ (upd (upd H7 t (.tup [.int p, optV (lackOf (Rg.srt (ps ++ [p])) gs), .ref fk])) l (.lst (vs' ++ [.ref t]))) nl = some (.lst (ns.map V.int)) ∧
            ∃ vs, (upd (upd H7 t (.tup [.int p, optV (lackOf (Rg.srt (ps ++ [p])) gs), .ref fk])) l (.lst (vs' ++ [.ref t]))) l = some (.lst vs) ∧ DtNs (upd H l (.lst [])) (upd (upd H7 t (.tup [.int p, optV (lackOf (Rg.srt (ps ++ [p])) gs), .ref fk])) l (.lst (vs' ++ [.ref t]))) vs ((ns.take (i + 1)).map (trD (n - 1) gs ps)))) := fun H7 fk s7 hk t ht => by
      have s8 := same_new (o := .tup [.int p, optV (lackOf (Rg.srt (ps ++ [p])) gs), .ref fk]) ht
      have s78 := s7.trans s8
      have dom : Dom (upd H l (.lst [])) H' := fun b h => by
        have : b ≠ l := fun z => by rw [z, hvs] at h; cases h
        rw [upd_ne this]
        exact sm.free h
      have nD : (upd H l (.lst [])) l ≠ none := by rw [upd_same]; exact fun z => nomatch z
      refine ⟨vs, s78 _ _ hvs, by rw [vl]; exact Nat.lt_of_le_of_lt (show _ ≤ 2 by omega) (by decide), ⟨_, _, _, _, rfl⟩, same_upd (sm.trans s78) hl, ?_, _, upd_same, ?_⟩
      · rw [upd_ne (Ne.symm ln)]
        exact s78 _ _ hnl
      · rw [Rg.take_succ hp, List.map_append]
        refine ((hds.mono s78).snoc (DtN.weak dom ?_)).upd nD
        rw [trD_eq, ← el]
        exact .tup (s7.free ht) upd_same (.cons (.int p) (.cons (dtn_opt _) (.cons (hk.mono s8) .nil)))
    cases e : lackOf (Rg.srt (ps ++ [p])) gs with
    | some d =>
      rw [e] at done el
      have kn : kidsD (n - 1) gs (ps ++ [p]) = [] := kidsD_nil (by
        rcases Rg.lef_two (needs (ps ++ [p])) gs with ⟨g0, z⟩ | ⟨d0, z⟩
        · rw [z] at el; cases el
        · exact nextOf_none z)
      refine ⟨_, rfl, _, rfl, _, rfl, .inl ⟨rfl, _, SqL.of (s6 _ _ hvs)⟩, _, rfl, _, rfl, _, rfl, (by show 3 ≤ sizeLine; decide), fun t ht => ?_⟩
      obtain ⟨vs', g1, g2, g3⟩ := done _ fu s6 (by rw [kn]; exact .lst (s45.free hfu) upd_same .nil) t ht
      exact ⟨l, _, _, rfl, rfl, g1, g2, g3⟩
    | none =>
      rw [e] at done
      cases n with
      | zero => omega
      | succ n =>
      refine ⟨_, rfl, _, rfl, _, rfl, _, rfl, tg, b, _, gs, rfl, (s5.trans (same_new (o := .lst []) hfu)) _ _ tg1, (sm.trans s6).seq hG, h21, pr, by omega, by omega, e, .inr (by omega), fun v H7 s7 hv => ?_⟩
      obtain ⟨fk, ys, rfl, f0, f1, f2⟩ := hv.ref_lst
      have s67 := s6.trans s7
      refine ⟨_, rfl, .inl ⟨rfl, _, SqL.of (s67 _ _ hvs)⟩, _, rfl, _, rfl, _, rfl, (by show 3 ≤ sizeLine; decide), fun t ht => ?_⟩
      obtain ⟨vs', g1, g2, g3⟩ := done H7 fk s67 (by
        rw [show n + 1 - 1 = n from rfl, ← kidsD_perm n pm]
        exact hv.weak s6.dom) t ht
      exact ⟨l, _, _, rfl, rfl, g1, g2, g3⟩
  · rintro σ H' ⟨⟨o1, o2, o3, o4, rfl⟩, sm, hnl, vs, hvs, hds⟩
    rw [len_int] at hds
    have e : (ns.take ns.length).map (trD (n - 1) gs ps) = kidsD n gs ps := by
      rw [← main ns.length (Nat.le_refl _)]
      refine List.take_of_length_le ?_
      cases n with
      | zero => exact Nat.zero_le _
      | succ n => show ((nextOf gs ps).map (trD n gs ps)).length ≤ _; rw [List.length_map, ← hns]; exact Nat.le_refl _
    rw [e] at hds
    exact ⟨_, rfl, q _ _ sm (.lst hl hvs (hds.weak fun b h => upd_none h))⟩
theorem scTrials : FnScope ["gaps"] ["gaps"] (defScope dTrials) := ⟨rfl, rfl, rfl, by decide +kernel, rfl, by decide +kernel, by decide +kernel⟩
theorem next_nil : nextOf [] [0] = [] := nextOf_nil (by decide +kernel)
theorem trials_sure (gs : List Int) : kidsD 5 gs (sureL gs) = trialsOf gs := by
  unfold trialsOf sureL
  split
  · rename_i z
    rw [z]
    exact kidsD_nil next_nil
  · rfl
theorem ok_trials (F : Fun K "trials" "trials" dTrials f fd) (m : mg "trials" = some (.ref f)) (Dcheck_gaps : Def P w K mg base (CXE P w) "check_gaps" ["gaps"] 9 (spGapsE K CT CG okNone)) (Dsure_places : Def P w K mg base CX0 "sure_places" ["gaps"] 9 (spSure K)) (Dtrials_behind : Def P w K mg base CX0 "trials_behind" ["places", "gaps"] 9 (spBehind K 6)) :
    Def P w K mg base (CXE P w) "trials" ["gaps"] 10 (spGapsE K CT CG okTrials) := by
  refine ⟨f, fd, ?_, F.binds fun _ _ _ _ _ _ us hl => match us, hl with | [_], _ => rfl, F.kp, m⟩
  refine F.okE (k := 9) scTrials (fun vs H Q E h => ?_) (fun cdv A outer s H vs Q E hr h => ?_)
  · obtain ⟨b, gs, rfl, _⟩ := h
    rfl
  obtain ⟨b, gs, rfl, hG, l1, q, qt, qg⟩ := h
  refine ⟨_, (pss_cons (ps_expr (pe_fnX Dcheck_gaps hr passE (by rfl) (pa_cons (pv 0) pa_nil)))
    (pss_one (ps_ret (pe_fn Dtrials_behind hr (by rfl) (pa_cons (pe_fn Dsure_places hr (by rfl) (pa_cons (pv 0) pa_nil)) (pa_cons (pv 0) pa_nil)))))), ?_⟩
  refine ⟨_, rfl, b, gs, rfl, hG, l1, fun ok H1 s1 => ?_, qt, qg⟩
  have sl := sure_len gs
  refine ⟨_, rfl, b, gs, rfl, s1.seq hG, fun a H2 s2 a0 a1 => ⟨_, rfl, a, b, sureL gs, gs, rfl, a1, (s1.trans s2).seq hG, ok.few, sure_rise ok, sl.1, by omega, sure_lack ok, ?_, fun v H3 s3 hv => ?_⟩⟩
  · unfold sureL
    split
    · rename_i z
      subst z
      exact .inl next_nil
    · exact .inr (by simp)
  · rw [trials_sure] at hv
    exact q ok v H3 ((s1.trans s2).trans s3) (hv.weak (s1.trans s2).dom)
end
end Rd
namespace Rd
open PySem L2 PyProof.Rows
/-! ### the program's roads -/
open Rg (needs_perm nextOf_perm sureL last_in maxI maxI_eq needs lastI nextIn nextOf nextOf_none nextOf_nil nextOf_some nextOf_new nextOf_len nextOf_long lef_len endsOf endsOf_perm endsOf_lack endsOf_len Fit Told llt)
theorem done_iff {gs ps : List Int} (hri : ps.Pairwise (· < ·)) (hlk : lackOf ps gs = none) : Rg.done gs ps = decide (restOf ps gs = []) := by
  unfold Rg.done
  rw [rest_lef hri hlk, decide_eq_decide]
  constructor
  · intro h
    have := congrArg Prod.fst h
    exact Option.some.inj this
  · intro h; rw [h]
section
variable {P : Program} {w : World} {K : PySem.W.Frag} {mg : Str → Option Value} {base : Heap} {f g CN CT CG : Addr} {fd gd : FuncData}
/-- the roads behind some places, whose trials are told -/
def spEnds (K : PySem.W.Frag) : Nat → Sp
  | 0 => fun _ _ _ _ => False
  | n + 1 => fun vs H Q _ => ∃ (a b : Addr) (v : V) (H0 : Hp) (ps gs : List Int), vs = [.ref a, v, .ref b] ∧ H a = some (.lst (ps.map V.int)) ∧ DtN H0 H v (.list (kidsD n gs ps)) ∧ SqL K H b (gs.map V.int) ∧ gs.length ≤ 21 ∧ ps.Pairwise (· < ·) ∧ 1 ≤ ps.length ∧ ps.length + n ≤ 40 ∧ n ≤ 8 ∧ lackOf ps gs = none ∧
    ∀ r H' zs, Same H H' → H r = none → H' r = some (.lst (refs zs)) → LL H' zs → zs.map (·.2) = endsOf n gs ps → (∀ z ∈ zs, z.1 = a ∨ H z.1 = none) → Q (.ref r) H'
theorem scEnds : FnScope ["places", "tried", "gaps", "found", "place", "lack", "further"] ["places", "tried", "gaps"] (defScope dRoadsBehind) := ⟨rfl, rfl, rfl, by decide +kernel, rfl, by decide +kernel, by decide +kernel⟩
theorem open_tr' {H0 H : Hp} {v : V} {p : Int} {lk : Option Int} {kids : List PyData} (h : DtN H0 H v (.tuple [.int p, optD lk, .list kids])) : ∃ (t k : Addr), v = .ref t ∧ H t = some (.tup [.int p, optV lk, .ref k]) ∧ DtN H0 H (.ref k) (.list kids) := by
  obtain ⟨t, xs, rfl, n, ht, hs⟩ := h.ref_tup
  cases hs with
  | cons h1 r =>
    cases r with
    | cons h2 r =>
      cases r with
      | cons h3 r =>
        cases r
        have e1 : ∀ {v : V}, DtN H0 H v (.int p) → v = .int p := fun h => by cases h; rfl
        have e2 : ∀ {v : V}, DtN H0 H v (optD lk) → v = optV lk := fun h => by
          cases lk with
          | none => cases h; rfl
          | some d => cases h; rfl
        rw [e1 h1, e2 h2] at ht
        obtain ⟨k, ys, rfl, _⟩ := h3.ref_lst
        exact ⟨t, k, rfl, ht, h3⟩
theorem ok_ends (F : Fun K "roads_behind" "roads_behind" dRoadsBehind f fd) (m : mg "roads_behind" = some (.ref f)) (D1 : Def P w K mg base CX0 "rest_without" ["places", "gaps"] 3 (spRest K)) (D3 : Def P w K mg base CX0 "with_place" ["places", "place"] 1 (spPut K)) :
    ∀ n : Nat, Def P w K mg base CX0 "roads_behind" ["places", "tried", "gaps"] (3 + n) (spEnds K n) := by
  intro n
  induction n with
  | zero => exact ⟨f, fd, ⟨fun _ _ _ _ h => False.elim h, fun _ _ _ _ _ _ _ _ _ _ _ _ _ h => False.elim h⟩, F.binds fun _ _ _ _ _ _ us hl => match us, hl with | [_, _, _], _ => rfl, F.kp, m⟩
  | succ n Droads_behind =>
  have Drest_without := D1.mono (show 3 ≤ 3 + n by omega)
  have Dwith_place := D3.mono (show 1 ≤ 3 + n by omega)
  refine ⟨f, fd, ?_, F.binds fun _ _ _ _ _ _ us hl => match us, hl with | [_, _, _], _ => rfl, F.kp, m⟩
  refine F.ok (k := 3 + n) scEnds (fun vs H Q E h => ?_) (fun cdv A outer s H vs Q E hr h => ?_)
  · obtain ⟨a, b, v, H0, ps, gs, rfl, _⟩ := h
    rfl
  obtain ⟨a, b, v, H0, ps, gs, rfl, hA, hT, hG, h21, hri, h1, h40, h8, hlk, q⟩ := h
  obtain ⟨tr, ts, rfl, tr0, htr, hts⟩ := hT.ref_lst
  refine ⟨_, (pss_cons (ps_if (pt_cmpR (op_eqD hr.units) (pe_fn Drest_without hr (by rfl) (pa_cons (pv 0) (pa_cons (pv 2) pa_nil))) (pe_lst pa_nil) (nomark _)) (pss_one (ps_ret (pe_lst (pa_cons (pv 0) pa_nil)))) pss_nil)
    (pss_cons (ps_set (i := 3) scEnds.nd rfl (Or.inl rfl) (pe_lst pa_nil))
    (pss_cons (ps_for PassesOwn.never rfl (pi_list (pv 1)) (pg_tup rfl (pgs_cons (pg_name (i := 4) scEnds.nd rfl (Or.inl rfl)) (pgs_cons (pg_name (i := 5) scEnds.nd rfl (Or.inl rfl)) (pgs_cons (pg_name (i := 6) scEnds.nd rfl (Or.inl rfl)) pgs_nil))))
      (pss_one (ps_if (pt_cmp (pc_isN (pv 5))) (pss_one (ps_expr (pe_bm PySem.F.plainAttrs_list PySem.F.slot_list_extend PySem.F.type_list_extend mt_extend (pv 3) (pa_cons (pe_fn Droads_behind hr (by rfl) (pa_cons (pe_fn Dwith_place hr (by rfl) (pa_cons (pv 0) (pa_cons (pv 4) pa_nil))) (pa_cons (pv 6) (pa_cons (pv 2) pa_nil)))) pa_nil)))) pss_nil)))
    (pss_one (ps_ret (pv 3)))))), ?_⟩
  refine ⟨_, rfl, _, rfl, a, b, ps, gs, rfl, ⟨SqL.of hA, by omega, hG⟩, fun e => absurd hlk (fun z => by rw [z] at e; cases e), fun _ r H1 s1 r0 r1 => ?_⟩
  refine ⟨(by show 0 ≤ sizeLine; decide), fun e0 he0 => ?_⟩
  have s2 := same_upd (o := .lst []) s1 (s1.free he0)
  have r2 : upd H1 e0 (.lst []) r = some (.lst ((restOf ps gs).map V.int)) := by rw [upd_ne (ne_of_none r1 he0)]; exact r1
  refine ⟨_, .list (([] : List Int).map PyData.int), .lst (SqL.of r2) (dt_ints _), .lst (SqL.of upd_same) (dt_ints []), shaped_ints _, shaped_ints _, ?_⟩
  rw [eqv_ints]
  have ed := done_iff hri hlk
  refine ⟨_, rfl, ite2 (fun z => ?_) (fun z => ?_)⟩
  · have z' : restOf ps gs = [] := by simpa using z
    rw [z', decide_eq_true rfl] at ed
    have ee : endsOf n gs ps = [ps] := by
      have sp : Rg.srt ps = ps := Rg.srt_of_sorted (Rg.rise_le hri)
      cases n with
      | zero => unfold endsOf; rw [if_pos ed, sp]
      | succ n => unfold endsOf; rw [if_pos ed, sp]
    refine ⟨_, rfl, (by show 1 ≤ sizeLine; decide), fun l hl => ?_⟩
    have s3 := same_upd (o := .lst [V.ref a]) s2 (s2.free hl)
    exact q l _ [(a, ps)] s3 (s2.free hl) upd_same (fun z hz => by cases List.mem_singleton.mp hz; exact s3 _ _ hA) (by rw [ee]; rfl) (fun z hz => by cases List.mem_singleton.mp hz; exact .inl rfl)
  have z' : restOf ps gs ≠ [] := by simpa using z
  rw [decide_eq_false z'] at ed
  refine ⟨(by show 0 ≤ sizeLine; decide), fun l hl => ?_⟩
  have s3 := same_upd (o := .lst []) s2 (s2.free hl)
  have l3 : upd (upd H1 e0 (.lst [])) l (.lst []) l = some (.lst []) := upd_same
  have lH : H l = none := s2.free hl
  obtain ⟨H3, eH⟩ : ∃ H3, H3 = upd (upd H1 e0 (.lst [])) l (.lst []) := ⟨_, rfl⟩
  rw [← eH] at s3 l3 ⊢
  refine ⟨_, rfl, tr, rfl, ⟨_, SqL.of (s3 _ _ htr)⟩, ?_⟩
  obtain ⟨ns, hns⟩ : ∃ ns, ns = if n = 0 then [] else nextOf gs ps := ⟨_, rfl⟩
  have ek : kidsD n gs ps = ns.map (trD (n - 1) gs ps) := by
    cases n with
    | zero => rw [hns, if_pos rfl]; rfl
    | succ n => rw [hns, if_neg (by omega)]; rfl
  have ee : endsOf n gs ps = ns.flatMap fun p => endsOf (n - 1) gs (ps ++ [p]) := by
    have nd : ¬ Rg.done gs ps = true := by rw [ed]; decide
    cases n with
    | zero => rw [hns, if_pos rfl]; exact if_neg nd
    | succ n => rw [hns, if_neg (by omega)]; exact if_neg nd
  rw [ek] at hts
  rw [ee] at q
  have nl2 : ns.length ≤ 2 := by
    rw [hns]
    split
    · simp
    · exact nextOf_len gs ps
  have hin : ∀ p ∈ ns, p ∉ ps ∧ n ≠ 0 := fun p hp => by
    rw [hns] at hp
    split at hp
    · cases hp
    · rename_i c
      exact ⟨nextOf_new hp, c⟩
  have hl' := hts.length
  rw [List.length_map] at hl'
  refine for_list (xs := ts) (fun i σ H' => (∃ o1 o2 o3, σ = [some (.ref a), some (.ref tr), some (.ref b), some (.ref l), o1, o2, o3]) ∧ Same H H' ∧ ∃ zs, H' l = some (.lst (refs zs)) ∧ LL H' zs ∧ (∀ z ∈ zs, H z.1 = none ∧ z.1 ≠ l) ∧ zs.map (·.2) = (ns.take i).flatMap fun p => endsOf (n - 1) gs (ps ++ [p])) ⟨⟨_, _, _, rfl⟩, s3, [], l3, (fun z hz => by cases hz), (fun z hz => by cases hz), by simp⟩ ?_ ?_ ?_
  · rintro i σ H' _ ⟨_, sm, _⟩
    exact SqL.of (sm _ _ htr)
  · rintro i x σ H' hx ⟨⟨o1, o2, o3, rfl⟩, sm, zs, hzs, hLL, hnew, hcon⟩
    obtain ⟨d, hd, dn⟩ := hts.get' hx
    rw [List.getElem?_map] at hd
    obtain ⟨p, hp, rfl⟩ : ∃ p, ns[i]? = some p ∧ trD (n - 1) gs ps p = d := by
      cases e : ns[i]? with
      | none => rw [e] at hd; cases hd
      | some p => rw [e] at hd; exact ⟨p, rfl, Option.some.inj hd⟩
    obtain ⟨pn, n0⟩ := hin p (List.mem_of_getElem? hp)
    rw [trD_eq] at dn
    obtain ⟨t, k, rfl, ht, hk⟩ := open_tr' dn
    have pr := put_rise hri pn
    have pm := Rg.srt_perm (ps ++ [p])
    have pl := put_len ps p
    have el : lackOf (Rg.srt (ps ++ [p])) gs = (Rg.lef gs (needs (ps ++ [p]))).2 := by rw [lack_lef pr, needs_perm pm]
    refine ⟨t, _, rfl, SqT.of (sm _ _ ht), rfl, _, _, rfl, _, _, rfl, _, _, rfl, rfl, ?_⟩
    cases e : (Rg.lef gs (needs (ps ++ [p]))).2 with
    | some d =>
      have ez : endsOf (n - 1) gs (ps ++ [p]) = [] := by
        rcases Rg.lef_two (needs (ps ++ [p])) gs with ⟨g0, z⟩ | ⟨d0, z⟩
        · rw [z] at e; cases e
        · exact endsOf_lack z
      refine ⟨_, rfl, _, rfl, ⟨_, _, _, rfl⟩, sm, zs, hzs, hLL, hnew, ?_⟩
      rw [Rg.take_succ hp, List.flatMap_append, hcon]
      simp [ez]
    | none =>
      cases n with
      | zero => exact absurd rfl n0
      | succ n =>
      refine ⟨_, rfl, _, rfl, _, rfl, .inl ⟨rfl, _, SqL.of hzs⟩, _, rfl, _, rfl, a, ps, p, rfl, sm _ _ hA, by omega, fun tg H4 s4 tg0 tg1 => ?_⟩
      have sm4 := sm.trans s4
      refine ⟨_, rfl, _, rfl, tg, b, .ref k, H0, Rg.srt (ps ++ [p]), gs, rfl, tg1, ?_, sm4.seq hG, h21, pr, by omega, by omega, by omega, by rw [el]; exact e, fun rr H5 zs5 s5 rr0 rr1 hL5 ec5 hn5 => ?_⟩
      · rw [kidsD_perm n pm]
        exact hk.mono sm4
      have l5 := s5 _ _ (s4 _ _ hzs)
      have lr : l ≠ rr := fun z => by rw [← z, s4 _ _ hzs] at rr0; cases rr0
      have s45 := s4.trans s5
      rw [endsOf_perm n pm] at ec5
      have new5 : ∀ z ∈ zs5, H z.1 = none ∧ z.1 ≠ l := fun z hz => by
        rcases hn5 z hz with c | c
        · refine ⟨by rw [c]; exact sm.free tg0, fun y => ?_⟩
          rw [← c, y, hzs] at tg0
          cases tg0
        · refine ⟨sm4.free c, fun y => ?_⟩
          rw [y, s4 _ _ hzs] at c
          cases c
      have len1 : zs.length ≤ 2 * 2 ^ n := by
        have : zs.length = ((ns.take i).flatMap fun p => endsOf n gs (ps ++ [p])).length := by rw [show n + 1 - 1 = n from rfl] at hcon; rw [← hcon, List.length_map]
        rw [this]
        have gen : ∀ l : List Int, (l.flatMap fun p => endsOf n gs (ps ++ [p])).length ≤ l.length * 2 ^ n := fun l => by
          induction l with
          | nil => simp
          | cons x l ih =>
            have := endsOf_len n gs (ps ++ [x])
            rw [List.flatMap_cons, List.length_append, List.length_cons, Nat.succ_mul]
            (first | lia | omega)
        refine Nat.le_trans (gen _) (Nat.mul_le_mul_right _ ?_)
        rw [List.length_take]; (first | lia | omega)
      have len2 : zs5.length ≤ 2 ^ n := by
        have : zs5.length = (endsOf n gs (ps ++ [p])).length := by rw [← ec5, List.length_map]
        rw [this]; exact endsOf_len _ _ _
      have p8 : 2 ^ n ≤ 256 := Nat.pow_le_pow_right (by decide) (show n ≤ 8 by omega)
      refine ⟨l, rr, _, _, rfl, rfl, l5, rr1, by rw [refs_len, refs_len]; exact small (by omega), ⟨_, _, _, rfl⟩, same_upd (sm.trans s45) lH, zs ++ zs5, by rw [upd_same, refs_app], ?_, fun z hz => (List.mem_append.mp hz).elim (hnew z) (new5 z), ?_⟩
      · refine LL.app (fun z hz => ?_) fun z hz => ?_
        · rw [upd_ne (hnew z hz).2]; exact s45 _ _ (hLL z hz)
        · rw [upd_ne (new5 z hz).2]; exact hL5 z hz
      · rw [Rg.take_succ hp, List.flatMap_append, List.map_append, hcon, ec5]
        simp
  · rintro σ H' ⟨⟨o1, o2, o3, rfl⟩, sm, zs, hzs, hLL, hnew, hcon⟩
    rw [hl', List.take_length] at hcon
    exact ⟨_, rfl, q l H' zs sm lH hzs hLL hcon fun z hz => .inr (hnew z hz).1⟩
/-- what roads tells -/
def okRoads : Addr → List Int → Hp → VK → Prop := fun _ gs H Q => ∀ r zs H', Same H H' → H r = none → H' r = some (.lst (refs zs)) → LL H' zs → (∀ z ∈ zs, H z.1 = none ∧ z.1 ≠ r) → Told gs (zs.map (·.2)) → zs.length ≤ 32 → Q (.ref r) H'
theorem scRoads : FnScope ["gaps", "tried", "told", "road"] ["gaps"] (defScope dRoads) := ⟨rfl, rfl, rfl, by decide +kernel, rfl, by decide +kernel, by decide +kernel⟩
theorem ok_roads (F : Fun K "roads" "roads" dRoads f fd) (m : mg "roads" = some (.ref f)) (G : MgS mg) (Dtrials : Def P w K mg base (CXE P w) "trials" ["gaps"] 10 (spGapsE K CT CG okTrials)) (Dsure_places : Def P w K mg base CX0 "sure_places" ["gaps"] 10 (spSure K)) (Droads_behind : Def P w K mg base CX0 "roads_behind" ["places", "tried", "gaps"] 10 (spEnds K 6)) :
    Def P w K mg base (CXE P w) "roads" ["gaps"] 11 (spGapsE K CT CG okRoads) := by
  refine ⟨f, fd, ?_, F.binds fun _ _ _ _ _ _ us hl => match us, hl with | [_], _ => rfl, F.kp, m⟩
  refine F.okE (k := 10) scRoads (fun vs H Q E h => ?_) (fun cdv A outer s H vs Q E hr h => ?_)
  · obtain ⟨b, gs, rfl, _⟩ := h
    rfl
  obtain ⟨b, gs, rfl, hG, l1, q, qt, qg⟩ := h
  refine ⟨_, (pss_cons (ps_set (i := 1) scRoads.nd rfl (Or.inl rfl) (pe_fnX Dtrials hr passE (by rfl) (pa_cons (pv 0) pa_nil)))
    (pss_cons (ps_set (i := 2) scRoads.nd rfl (Or.inl rfl) (pe_lst pa_nil))
    (pss_cons (ps_for PassesOwn.leaving rfl (pi_list (pe_callB (call_srtL hr.units) (by rfl) G.sorted boot_sorted (pa_cons (pe_fn Droads_behind hr (by rfl) (pa_cons (pe_fn Dsure_places hr (by rfl) (pa_cons (pv 0) pa_nil)) (pa_cons (pv 1) (pa_cons (pv 0) pa_nil)))) pa_nil))) (pg_name (i := 3) scRoads.nd rfl (Or.inl rfl))
      (pss_one (ps_if (pt_cmpR (op_notInD hr.units1) (pv 3) (pv 2) (by rfl)) (pss_one (ps_expr (pe_bm PySem.F.plainAttrs_list PySem.F.slot_list_append PySem.F.type_list_append mt_append (pv 2) (pa_cons (pv 3) pa_nil)))) pss_nil)))
    (pss_one (ps_ret (pv 2)))))), ?_⟩
  refine ⟨_, rfl, b, gs, rfl, hG, l1, fun ok v H1 s1 hv => ?_, qt, qg⟩
  have sl := sure_len gs
  refine ⟨(by show 0 ≤ sizeLine; decide), fun td htd => ?_⟩
  have s2 := same_upd (o := .lst []) s1 (s1.free htd)
  have td2 : upd H1 td (.lst []) td = some (.lst []) := upd_same
  have v2 := hv.mono (same_new (o := .lst []) htd)
  have tdH : H td = none := s1.free htd
  obtain ⟨H2, eH⟩ : ∃ H2, H2 = upd H1 td (.lst []) := ⟨_, rfl⟩
  rw [← eH] at s2 td2 v2 ⊢
  refine ⟨_, rfl, b, gs, rfl, s2.seq hG, fun a H3 s3 a0 a1 => ⟨_, rfl, _, rfl, a, b, v, H, sureL gs, gs, rfl, a1, ?_, (s2.trans s3).seq hG, ok.few, sure_rise ok, sl.1, (by show (sureL gs).length + 5 ≤ 40; omega), (by show 5 ≤ 8; decide), sure_lack ok, fun r H4 zs s4 r0 r1 hLL ec hn => ?_⟩⟩
  · rw [trials_sure]
    exact v2.mono s3
  have s23 := s2.trans s3
  have s24 := s23.trans s4
  have lz : zs.length ≤ 32 := by
    have : zs.length = (endsOf 5 gs (sureL gs)).length := by rw [← ec, List.length_map]
    rw [this]; exact endsOf_len _ _ _
  have ntd : ∀ z ∈ zs, H z.1 = none ∧ z.1 ≠ td := fun z hz => by
    rcases hn z hz with c | c
    · refine ⟨by rw [c]; exact s2.free a0, fun y => ?_⟩
      rw [← c, y, td2] at a0
      cases a0
    · refine ⟨s23.free c, fun y => ?_⟩
      rw [y, s3 _ _ td2] at c
      cases c
  refine ⟨r, zs, rfl, SqL.of r1, hLL, fun l ys hl pm pw => ⟨l, rfl, ⟨_, SqL.of upd_same⟩, ?_⟩⟩
  have s5 := same_upd (o := .lst (refs ys)) s24 (s24.free hl)
  have td5 := s4 _ _ (s3 _ _ td2)
  have ltd : td ≠ l := ne_of_none td5 hl
  have lly : LL (upd H4 l (.lst (refs ys))) ys := (hLL.sub fun z hz => pm.mem_iff.mp hz).mono (same_new hl _)
  refine for_list (xs := refs ys) (fun i σ H' => (∃ o, σ = [some (.ref b), some v, some (.ref td), o]) ∧ Same H H' ∧ H' l = some (.lst (refs ys)) ∧ LL H' ys ∧ ∃ ts, H' td = some (.lst (refs ts)) ∧ (∀ z ∈ ts, z ∈ ys.take i) ∧ (ts.map (·.2)).Pairwise (fun a b => llt a b = true) ∧ ts.length ≤ i ∧ ∀ z ∈ ys.take i, z.2 ∈ ts.map (·.2))
    ⟨⟨_, rfl⟩, s5, upd_same, lly, [], by rw [upd_ne ltd]; exact td5, by simp, by simp, by simp, by simp⟩ ?_ ?_ ?_
  · rintro i σ H' _ ⟨_, _, h3, _⟩
    exact SqL.of h3
  · rintro i x σ H' hx ⟨⟨o, rfl⟩, sm, hl', hLy, ts, hts, tin, tord, tlen, tall⟩
    have hi : i < ys.length := by have := (List.getElem?_eq_some_iff.mp hx).1; rw [refs_len] at this; exact this
    have gy : ys[i]? = some ys[i] := List.getElem?_eq_getElem hi
    obtain ⟨y, ey⟩ : ∃ y, y = ys[i] := ⟨_, rfl⟩
    rw [← ey] at gy
    have hx' : x = .ref y.1 := by
      unfold refs at hx
      rw [List.getElem?_map, gy] at hx
      exact (Option.some.inj hx).symm
    subst hx'
    have ym : y ∈ ys := List.mem_of_getElem? gy
    have tk : ys.take (i + 1) = ys.take i ++ [y] := Rg.take_succ gy
    have hLt : LL H' ts := hLy.sub fun z hz => List.mem_of_mem_take (tin z hz)
    have yl : ys.length ≤ 32 := by rw [pm.length_eq]; exact lz
    refine ⟨_, rfl, _, rfl, td, _, dL y.2, _, rfl, SqL.of hts, .lst (SqL.of (hLy y ym)) (dt_ints _), hLt.dt, shaped_ints _, (fun d hd => by obtain ⟨c, _, rfl⟩ := List.mem_map.mp hd; exact shaped_ints _), _, rfl, ?_⟩
    rw [any_dL]
    by_cases c : y.2 ∈ ts.map (·.2)
    · rw [decide_eq_true c]
      refine ⟨⟨_, rfl⟩, sm, hl', hLy, ts, hts, fun z hz => by rw [tk]; exact List.mem_append_left _ (tin z hz), tord, by omega, fun z hz => ?_⟩
      rw [tk] at hz
      rcases List.mem_append.mp hz with e | e
      · exact tall z e
      · cases List.mem_singleton.mp e
        exact c
    · rw [decide_eq_false c]
      have hne : ∀ z ∈ ys, z.1 ≠ td := fun z hz => (ntd z (pm.mem_iff.mp hz)).2
      refine ⟨_, rfl, .inl ⟨rfl, _, SqL.of hts⟩, _, rfl, td, _, _, rfl, rfl, hts, by rw [refs_len]; exact Nat.lt_of_le_of_lt (show _ ≤ 32 by omega) (by decide), ⟨_, rfl⟩, same_upd sm tdH, ?_, ?_, ts ++ [y], ?_, ?_, ?_, ?_, ?_⟩
      · rw [upd_ne (Ne.symm ltd)]; exact hl'
      · intro z hz
        rw [upd_ne (hne z hz)]; exact hLy z hz
      · rw [upd_same, refs_app]; rfl
      · intro z hz
        rw [tk]
        rcases List.mem_append.mp hz with e | e
        · exact List.mem_append_left _ (tin z e)
        · exact List.mem_append_right _ e
      · rw [List.map_append, List.pairwise_append]
        refine ⟨tord, by simp, fun u hu w' hw => ?_⟩
        have : w' = y.2 := by simpa using hw
        subst this
        obtain ⟨z, hz, rfl⟩ := List.mem_map.mp hu
        have pt := pw.sublist (List.take_sublist (i + 1) ys)
        rw [tk, List.pairwise_append] at pt
        have nlt := pt.2.2 z (tin z hz) y (by simp)
        rcases Rg.llt_total z.2 y.2 with e | e | e
        · exact e
        · exact absurd (e ▸ List.mem_map.mpr ⟨z, hz, rfl⟩) c
        · rw [nlt] at e; cases e
      · rw [List.length_append]; simp; (first | lia | omega)
      · intro z hz
        rw [tk] at hz
        rw [List.map_append]
        rcases List.mem_append.mp hz with e | e
        · exact List.mem_append_left _ (tall z e)
        · cases List.mem_singleton.mp e
          exact List.mem_append_right _ (by simp)
  · rintro σ H' ⟨⟨o, rfl⟩, sm, hl', hLy, ts, hts, tin, tord, tlen, tall⟩
    rw [refs_len, List.take_length] at tin tall
    rw [refs_len, pm.length_eq] at tlen
    refine ⟨_, rfl, q ok td ts H' sm tdH hts (hLy.sub tin) (fun z hz => ntd z (pm.mem_iff.mp (tin z hz))) ⟨tord, fun x => ?_⟩ (by omega)⟩
    rw [← Rg.ends_iff ok.rise ok.low ok.few, ← ec]
    constructor
    · intro hx
      obtain ⟨z, hz, rfl⟩ := List.mem_map.mp hx
      exact List.mem_map.mpr ⟨z, pm.mem_iff.mp (tin z hz), rfl⟩
    · intro hx
      obtain ⟨z, hz, rfl⟩ := List.mem_map.mp hx
      exact tall z (pm.mem_iff.mpr hz)
theorem gaps_of {ps : List Int} (h : roadB ps = true) (h7 : ps.length ≤ 7) : GapsOk (Rg.srt (Rg.fnd ps)) := by
  obtain ⟨f1, f2, f3, f4, f5⟩ := roadB_facts h
  have hf := Rg.fnd_in f5 f3
  refine ⟨by rw [Rg.srt_length]; exact Rg.fnd_len21 h7, Rg.srt_sorted _, fun g hg => (hf g (Rg.srt_mem.mp hg)).1, fun g hg => ?_⟩
  have := (hf g (Rg.srt_mem.mp hg)).2
  (first | lia | omega)
end
end Rd
namespace L2
open PySem PySem.Spec PyProof.Rows
theorem call_absI {X : Cx} : CallR X (.builtin "abs") (fun xs H Q => ∃ i, xs = [.int i] ∧ Q (.int (Rg.absI i)) H) := call_abs
end L2
namespace Rd
open PySem L2 PyProof.Rows
open Rg (lastI Told Fit mirr absI foldTo term)
/-! ### the law of crossed roads -/
structure MgF (mg : Str → Option Value) : Prop extends MgA mg where
  abs : mg "abs" = none
section
variable {P : Program} {w : World} {K : PySem.W.Frag} {mg : Str → Option Value} {base : Heap} {f g CN CT CG CM : Addr} {fd gd : FuncData}
def spMeet (K : PySem.W.Frag) : Sp := fun vs H Q _ => ∃ (a b : Addr) (ps qs : List Int), vs = [.ref a, .ref b] ∧ SqL K H a (ps.map V.int) ∧ SqL K H b (qs.map V.int) ∧ ps.length ≤ 50 ∧ qs.length ≤ 50 ∧ ∀ H', Same H H' → Q (.bl (decide ¬ (sms ps qs).Nodup)) H'
theorem scMeet : FnScope ["one", "other", "row", "a"] ["one", "other"] (defScope sMeet) := ⟨rfl, rfl, rfl, by decide +kernel, rfl, by decide +kernel, by decide +kernel⟩
theorem ok_meet (F : Fun K "_law_meet" "_law_meet" sMeet f fd) (m : mg "_law_meet" = some (.ref f)) (G : MgA mg) : Def P w K mg base CX0 "_law_meet" ["one", "other"] 1 (spMeet K) := by
  refine ⟨f, fd, ?_, F.binds fun _ _ _ _ _ _ us hl => match us, hl with | [_, _], _ => rfl, F.kp, m⟩
  refine F.ok (k := 0) scMeet (fun vs H Q E h => ?_) (fun cdv A outer s H vs Q E hr h => ?_)
  · obtain ⟨a, b, ps, qs, rfl, _⟩ := h
    rfl
  obtain ⟨a, b, ps, qs, rfl, hA, hB, l1, l2, q⟩ := h
  refine ⟨_, (pss_cons (ps_set (i := 2) scMeet.nd rfl (Or.inl rfl) (pe_lst pa_nil))
    (pss_cons (ps_for PassesOwn.never rfl (pi_list (pv 0)) (pg_name (i := 3) scMeet.nd rfl (Or.inr rfl))
      (pss_one (ps_expr (pe_bm PySem.F.plainAttrs_list PySem.F.slot_list_extend PySem.F.type_list_extend mt_extend (pv 2) (pa_cons (pe_comp ["b"] [("a", 3)] rfl (pi_list (pv 1)) (N := ["one", "other", "row", "a"]) (osc := defScope sMeet) ⟨rfl, by decide +kernel, by decide +kernel, by decide +kernel, by decide +kernel⟩
      (fun _ _ _ => pg_name (i := 0) (show (["b", "a"] : List Str).Nodup by decide +kernel) rfl (Or.inl rfl)) (fun _ _ _ => pf_nil) (fun _ _ _ => (pe_op op_add (pv 1) (pv 0)))) pa_nil)))))
    (pss_one (ps_ret (pe_cmpR op_lt (pe_callB call_lenSet (by rfl) G.len PySem.boot_len (pa_cons (pe_callTy (call_set_of rfl) (by rfl) G.set boot_set (pa_cons (pv 2) pa_nil)) pa_nil)) (pe_callB call_len_seq (by rfl) G.len PySem.boot_len (pa_cons (pv 2) pa_nil)) (nomark _)))))), ?_⟩
  refine ⟨(by show 0 ≤ sizeLine; decide), fun l hl => ?_⟩
  refine ⟨_, rfl, a, rfl, ⟨_, sq_ne hA hl⟩, for_list (xs := ps.map V.int) (fun i σ H' => (∃ o, σ = [some (.ref a), some (.ref b), some (.ref l), o]) ∧ Same H H' ∧ H' l = some (.lst ((sms (ps.take i) qs).map V.int))) ⟨⟨_, rfl⟩, same_new hl _, upd_same⟩ ?_ ?_ ?_⟩
  · rintro i σ H' _ ⟨_, h1, _⟩
    exact h1.seq hA
  · rintro i x σ H' hx ⟨⟨o, rfl⟩, h1, h2⟩
    obtain ⟨y, hy, rfl⟩ := int_at hx
    have hi := (List.getElem?_eq_some_iff.mp hy).1
    refine ⟨_, rfl, .inl ⟨rfl, _, SqL.of h2⟩, _, rfl, b, rfl, ⟨_, h1.seq hB⟩, fun D hD => ?_⟩
    refine comp_map (plusV y) hD (h1.seq hB) (by rw [len_int]; exact small (by omega)) (fun j x ys Q' hx q' => ?_) ?_
    · obtain ⟨z, _, rfl⟩ := int_at hx
      exact ⟨_, rfl, _, rfl, _, _, rfl, rfl, q'⟩
    · rw [plusV_map]
      have lD : l ≠ D := ne_of_none h2 hD
      have e1 : sms (ps.take (i + 1)) qs = sms (ps.take i) qs ++ qs.map (y + ·) := by
        unfold sms
        rw [Rg.take_succ hy, List.flatMap_append]
        simp
      refine ⟨l, D, _, _, rfl, rfl, by rw [upd_ne lD]; exact h2, upd_same, ?_, ⟨_, rfl⟩, same_upd (same_upd h1 (h1.free hD)) hl, ?_⟩
      · rw [len_int, len_int, sms_len, List.length_map, List.length_take]
        have : min i ps.length * qs.length ≤ 50 * 50 := Nat.mul_le_mul (by omega) l2
        exact small5 (by omega)
      · rw [upd_same, e1, List.map_append]
  · rintro σ H' ⟨⟨o, rfl⟩, h1, h2⟩
    rw [len_int, List.take_length] at h2
    have dl : (sms ps qs).length ≤ 4000 := by
      rw [sms_len]
      have : ps.length * qs.length ≤ 50 * 50 := Nat.mul_le_mul l1 l2
      (first | lia | omega)
    refine ⟨_, rfl, l, _, rfl, SqL.of h2, dl, fun S hS => ?_⟩
    have t1 := same_new (o := setO w S (Rg.dds [] (sms ps qs))) hS
    refine ⟨S, _, rfl, upd_same, _, rfl, l, _, rfl, .inl (SqL.of (t1 _ _ h2)), _, _, rfl, rfl, ?_⟩
    have e : decide (((Rg.dds [] (sms ps qs)).length : Int) < ((((sms ps qs).map V.int).length : Nat) : Int)) = decide ¬ (sms ps qs).Nodup := by
      rw [len_int]
      refine decide_eq_decide.mpr ?_
      rw [← Rg.dds_short]
      (first | lia | omega)
    have q' := q _ (h1.trans t1)
    rw [← e] at q'
    exact q'
def spFold (K : PySem.W.Frag) : Sp := fun vs H Q _ => ∃ (a b : Addr) (ls rs : List Int) (d : Int), vs = [.ref a, .ref b, .int d] ∧ SqL K H a (ls.map V.int) ∧ SqL K H b (rs.map V.int) ∧ 1 ≤ ls.length ∧ ls.length ≤ 4001 ∧ rs.length ≤ 4001 ∧ (∀ i : Nat, 0 ≤ ls.getD i 0 ∧ ls.getD i 0 ≤ 4000) ∧ Q (.int (foldTo ls rs d (2 * ls.length - 1))) H
theorem scFold : FnScope ["left", "right", "d", "total", "e"] ["left", "right", "d"] (defScope sFolded) := ⟨rfl, rfl, rfl, by decide +kernel, rfl, by decide +kernel, by decide +kernel⟩
theorem ok_folded (F : Fun K "_law_folded" "_law_folded" sFolded f fd) (m : mg "_law_folded" = some (.ref f)) (G : MgF mg) : Def P w K mg base CX0 "_law_folded" ["left", "right", "d"] 1 (spFold K) := by
  refine ⟨f, fd, ?_, F.binds fun _ _ _ _ _ _ us hl => match us, hl with | [_, _, _], _ => rfl, F.kp, m⟩
  refine F.ok (k := 0) scFold (fun vs H Q E h => ?_) (fun cdv A outer s H vs Q E hr h => ?_)
  · obtain ⟨a, b, ls, rs, d, rfl, _⟩ := h
    rfl
  obtain ⟨a, b, ls, rs, d, rfl, hA, hB, n1, l1, l2, bd, q⟩ := h
  refine ⟨_, (pss_cons (ps_set (i := 3) scFold.nd rfl (Or.inl rfl) pe_int)
    (pss_cons (ps_for PassesOwn.never rfl (pi_range2 (by rfl) G.range (pa_cons (pe_op op_sub pe_int (pe_callB call_len_seq (by rfl) G.len PySem.boot_len (pa_cons (pv 0) pa_nil))) (pa_cons (pe_callB call_len_seq (by rfl) G.len PySem.boot_len (pa_cons (pv 0) pa_nil)) pa_nil))) (pg_name (i := 4) scFold.nd rfl (Or.inl rfl))
      (pss_one (ps_if (pt_cmpR op_lt (pe_callB call_absI (by rfl) G.abs PyProof.Rows.boot_abs (pa_cons (pe_op op_sub (pv 2) (pv 4)) pa_nil)) (pe_callB call_len_seq (by rfl) G.len PySem.boot_len (pa_cons (pv 1) pa_nil)) (nomark _)) (pss_one (ps_set (i := 3) scFold.nd rfl (Or.inl rfl) (pe_op op_add (pv 3) (pe_op op_mul (pe_ix ix_list (pv 0) (pe_callB call_absI (by rfl) G.abs PyProof.Rows.boot_abs (pa_cons (pv 4) pa_nil)) (fun _ _ => rfl)) (pe_ix ix_list (pv 1) (pe_callB call_absI (by rfl) G.abs PyProof.Rows.boot_abs (pa_cons (pe_op op_sub (pv 2) (pv 4)) pa_nil)) (fun _ _ => rfl)))))) pss_nil)))
    (pss_one (ps_ret (pv 3))))), ?_⟩
  refine ⟨_, rfl, a, _, rfl, .inl hA, _, _, rfl, rfl, _, rfl, a, _, rfl, .inl hA, ?_⟩
  rw [len_int]
  refine ⟨_, _, rfl, ⟨by omega, by omega, by omega, by omega⟩, ?_⟩
  have en : ((ls.length : Nat) - (1 - (ls.length : Nat)) : Int).toNat = 2 * ls.length - 1 := by (first | lia | omega)
  rw [en]
  refine for_range (fun i σ H' => H' = H ∧ ∃ o, σ = [some (.ref a), some (.ref b), some (.int d), some (.int (foldTo ls rs d i)), o]) ⟨rfl, _, rfl⟩ ?_ ?_
  · rintro i σ H' hi ⟨rfl, o, rfl⟩
    obtain ⟨e, ee⟩ : ∃ e : Int, e = 1 - (ls.length : Nat) + ((i : Nat) : Int) := ⟨_, rfl⟩
    have ft : foldTo ls rs d (i + 1) = foldTo ls rs d i + term ls rs d e := by rw [ee]; rfl
    rw [← ee]
    have nn := Rg.absI_nn e
    have nn2 := Rg.absI_nn (d - e)
    refine ⟨_, rfl, _, rfl, _, _, rfl, rfl, _, rfl, _, rfl, b, _, rfl, .inl hB, _, _, rfl, rfl, _, rfl, ?_⟩
    rw [len_int]
    refine ite2 (fun z => ?_) (fun z => ?_)
    · have z' : absI (d - e) < ((rs.length : Nat) : Int) := of_decide_eq_true z
      have le : (absI e).toNat < ls.length := by unfold absI; split <;> (first | lia | omega)
      have bb := bd (absI e).toNat
      refine ⟨_, rfl, _, rfl, _, rfl, _, rfl, a, _, _, _, rfl, rfl, hA, at_pos nn le, _, rfl, _, rfl, _, rfl, _, _, rfl, rfl, _, rfl, b, _, _, _, rfl, rfl, hB, at_pos nn2 (by omega), _, _, rfl, rfl, .inl ⟨by omega, by omega⟩, _, _, rfl, rfl, rfl, some (.int e), ?_⟩
      rw [ft]
      unfold term
      rw [if_pos z']
      rfl
    · have z' : ¬ absI (d - e) < ((rs.length : Nat) : Int) := of_decide_eq_false (Bool.eq_false_iff.mpr z)
      refine ⟨rfl, some (.int e), ?_⟩
      rw [ft]
      unfold term
      rw [if_neg z', Int.add_zero]
      rfl
  · rintro σ H' ⟨rfl, o, rfl⟩
    exact ⟨_, rfl, q⟩
end
end Rd
namespace Rd
open PySem L2 PyProof.Rows
open Rg (lastI Told Fit mirr absI foldTo)
section
variable {P : Program} {w : World} {K : PySem.W.Frag} {mg : Str → Option Value} {base : Heap} {f g CN CT CG CM : Addr} {fd gd : FuncData}
/-- two roads, as the law draws them -/
structure Pair (ps qs : List Int) : Prop where
  p : roadB ps = true
  q : roadB qs = true
  pl : ps.length ≤ 7
  ql : qs.length ≤ 4
  pe : lastI ps ≤ 24
  qe : lastI qs ≤ 300
theorem mul_road {qs : List Int} {c : Int} (h : roadB qs = true) (h1 : 1 ≤ c) (h2 : lastI qs * c ≤ 4000) : roadB (qs.map (· * c)) = true ∧ lastI (qs.map (· * c)) = lastI qs * c := by
  obtain ⟨f1, f2, f3, f4, f5⟩ := roadB_facts h
  have g : ∀ i : Nat, (qs.map (· * c)).getD i 0 = qs.getD i 0 * c := fun i => by
    rw [List.getD_eq_getElem?_getD, List.getD_eq_getElem?_getD, List.getElem?_map]
    cases qs[i]? with
    | none => show (0 : Int) = 0 * c; (first | lia | omega)
    | some x => rfl
  have l : lastI (qs.map (· * c)) = lastI qs * c := by
    unfold lastI
    rw [g, List.length_map]
  refine ⟨roadB_true (by rw [List.length_map]; exact f1) (by rw [List.length_map]; exact f2) (by rw [g, f3]; omega) ?_ ?_, l⟩
  · have := l
    unfold lastI at this h2
    rw [this]
    exact h2
  · exact List.pairwise_map.mpr (f5.imp fun {x y} hxy => Int.mul_lt_mul_of_pos_right hxy (by omega))
theorem drawn_road {ps : List Int} {many : Nat} {top : Int} (h : Drawn ps many top) (h1 : 1 ≤ many) (h2 : many ≤ 50) (h3 : top ≤ 4000) : roadB ps = true ∧ lastI ps ≤ top := by
  have dl := h.len
  have hm : ps.getD (ps.length - 1) 0 ∈ ps := by
    have : ps.getD (ps.length - 1) 0 = ps[ps.length - 1] := by simp [List.getD_eq_getElem?_getD, show ps.length - 1 < ps.length by omega]
    rw [this]; exact List.getElem_mem _
  have := (h.high _ hm).2
  exact ⟨roadB_true (by omega) (by omega) h.zero (by omega) h.rise, this⟩
theorem mirr_road {ps : List Int} (h : roadB ps = true) : roadB (mirr ps) = true := by
  obtain ⟨f1, f2, f3, f4, f5⟩ := roadB_facts h
  refine roadB_true (by rw [Rg.mirr_len]; exact f1) (by rw [Rg.mirr_len]; exact f2) (Rg.mirr_zero f1) ?_ (Rg.mirr_rise f5)
  have := Rg.mirr_last f1 f3
  unfold Rg.lastI at this
  rw [this]
  exact f4
/-- the crossed roads -/
theorem cross_road {ps qs : List Int} (hp : roadB ps = true) (hq : roadB qs = true) (hl : ps.length * qs.length ≤ 50) (he : lastI ps + lastI qs ≤ 4000) (hn : (sms ps qs).Nodup) : roadB (Rg.srt (sms ps qs)) = true ∧ lastI (Rg.srt (sms ps qs)) = lastI ps + lastI qs := by
  obtain ⟨a1, a2, a3, a4, a5⟩ := roadB_facts hp
  obtain ⟨b1, b2, b3, b4, b5⟩ := roadB_facts hq
  have l := Rg.cross_last a5 a3 a1 b5 b3 b1 hn
  have sl : (Rg.srt (sms ps qs)).length = ps.length * qs.length := by rw [Rg.srt_length, sms_len]
  refine ⟨roadB_true ?_ (by omega) (Rg.cross_zero a5 a3 a1 b5 b3 b1) ?_ (Rg.rise_srt hn), l⟩
  · rw [sl]
    exact Nat.mul_pos a1 b1
  · have l' : lastI (Rg.srt (sms ps qs)) ≤ 4000 := by
      show lastI (Rg.srt (Rg.sums ps qs)) ≤ 4000
      (first | lia | omega)
    exact l'
/-- what stands once the roads are crossed -/
structure Cr (ps qs : List Int) : Prop extends Pair ps qs where
  n1 : (sms ps qs).Nodup
theorem Cr.n2 {ps qs : List Int} (h : Cr ps qs) : (sms ps (mirr qs)).Nodup := Rg.cross_nodup h.n1
theorem Pair.few {ps qs : List Int} (h : Pair ps qs) : ps.length * qs.length ≤ 28 := Nat.mul_le_mul h.pl h.ql
theorem Cr.code {ps qs : List Int} (h : Cr ps qs) : xcode ps qs = 0 := by
  unfold xcode
  have := h.few
  have := h.pe
  have := h.qe
  rw [h.p, h.q, if_neg (by decide), if_neg (by omega), if_neg fun z => z.elim (fun z => z h.n1) fun z => z h.n2]
theorem Cr.r1 {ps qs : List Int} (h : Cr ps qs) : roadB (Rg.srt (sms ps qs)) = true ∧ lastI (Rg.srt (sms ps qs)) = lastI ps + lastI qs := by
  have := h.few
  have := h.pe
  have := h.qe
  exact cross_road h.p h.q (by omega) (by omega) h.n1
theorem Cr.r2 {ps qs : List Int} (h : Cr ps qs) : roadB (Rg.srt (sms ps (mirr qs))) = true ∧ lastI (Rg.srt (sms ps (mirr qs))) = lastI ps + lastI qs := by
  obtain ⟨b1, b2, b3, b4, b5⟩ := roadB_facts h.q
  have e := Rg.mirr_last b1 b3
  have := h.few
  have := h.pe
  have := h.qe
  have r := cross_road h.p (mirr_road h.q) (by rw [Rg.mirr_len]; omega) (by omega) h.n2
  rw [e] at r
  exact r
theorem Cr.gaps {ps qs : List Int} (h : Cr ps qs) : Rg.srt (Rg.fnd (Rg.srt (sms ps (mirr qs)))) = Rg.srt (Rg.fnd (Rg.srt (sms ps qs))) := Rg.cross_gaps h.n1
theorem Cr.spr {ps qs : List Int} (h : Cr ps qs) : Rg.spr (Rg.srt (sms ps (mirr qs))) = Rg.spr (Rg.srt (sms ps qs)) := by
  obtain ⟨a1, a2, a3, a4, a5⟩ := roadB_facts h.r1.1
  obtain ⟨b1, b2, b3, b4, b5⟩ := roadB_facts h.r2.1
  refine Rg.spr_same b5 b3 b1 a5 a3 a1 (by rw [h.r1.2, h.r2.2]) fun d => ?_
  rw [(Rg.df_perm (Rg.srt_perm _)).count_eq, (Rg.df_perm (Rg.srt_perm (sms ps qs))).count_eq]
  exact (Rg.cross_df ps qs).count_eq d
theorem Cr.fold {ps qs : List Int} (h : Cr ps qs) {i : Nat} (hi : (i : Int) ≤ lastI ps + lastI qs) : (Rg.spr (Rg.srt (sms ps qs))).getD i 0 = foldTo (Rg.spr ps) (Rg.spr qs) (i : Int) (2 * (Rg.spr ps).length - 1) := by
  obtain ⟨a1, a2, a3, a4, a5⟩ := roadB_facts h.p
  obtain ⟨b1, b2, b3, b4, b5⟩ := roadB_facts h.q
  obtain ⟨c1, c2, c3, c4, c5⟩ := roadB_facts h.r1.1
  have n := Rg.last_nn a5 a3 a1
  rw [Rg.spr_at c5 c3 c1 (by rw [h.r1.2]; exact hi), (Rg.df_perm (Rg.srt_perm (sms ps qs))).count_eq]
  exact (Rg.fold_spr a5 a3 a1 b5 b3 b1 (i : Int) (by rw [Rg.spr_len]; omega)).symm
def spLaw (K : PySem.W.Frag) : Sp := fun vs H Q _ => ∃ (a : Addr) (ns : List Int), vs = [.ref a] ∧ SqL K H a (ns.map V.int) ∧ ns.length ≤ 63 ∧ ∀ H', Q (.bl true) H'
theorem scLaw : FnScope ["script", "one", "other", "found", "due", "left", "right", "both", "d", "told"] ["script"] (defScope sLaw) := ⟨rfl, rfl, rfl, by decide +kernel, rfl, by decide +kernel, by decide +kernel⟩
def MidA (H : Hp) (a : Addr) (σ : L2.St) (H' : Hp) : Prop := ∃ (oa ob : Addr) (ps qs : List Int), σ = [some (.ref a), some (.ref oa), some (.ref ob), none, none, none, none, none, none, none] ∧ Same H H' ∧ H' oa = some (.lst (ps.map V.int)) ∧ H' ob = some (.lst (qs.map V.int)) ∧ Pair ps qs
theorem last_atI {ps : List Int} (h : 1 ≤ ps.length) : atI (ps.map V.int) (-1) = some (.int (lastI ps)) := last_at h
set_option maxHeartbeats 16000000
theorem ok_law {k : Nat} (F : Fun K "law" "law" sLaw f fd) (G : MgA mg) (D_law_cell_at : Def P w K mg base CX0 "_law_cell_at" ["script", "k"] k (spCellX K)) (D_law_road : Def P w K mg base CX0 "_law_road" ["script", "first", "many", "steps"] k (spRoad K)) (D_law_between : Def P w K mg base CX0 "_law_between" ["places"] k (spBtwL K))
    (D_law_meet : Def P w K mg base CX0 "_law_meet" ["one", "other"] k (spMeet K)) (D_law_folded : Def P w K mg base CX0 "_law_folded" ["left", "right", "d"] k (spFold K))
    (Dcrossed : Def P w K mg base (CXE P w) "crossed" ["one", "other"] k (spCross K CN CT CM)) (Droads : Def P w K mg base (CXE P w) "roads" ["gaps"] k (spGapsE K CT CG okRoads)) (Ddistances : Def P w K mg base (CXE P w) "distances" ["road"] k (spTell K CN fun ps => Rg.srt (Rg.fnd ps))) (Dspread : Def P w K mg base (CXE P w) "spread" ["road"] k (spTell K CN Rg.spr)) : FnOk P w K mg base CX0 (k + 1) f fd ["script"] (spLaw K) := by
  refine F.ok (k := k) scLaw (fun vs H Q E h => ?_) (fun cdv A outer s H vs Q E hr h => ?_)
  · obtain ⟨a, ns, rfl, _⟩ := h
    rfl
  obtain ⟨a, ns, rfl, hS, h63, q⟩ := h
  refine ⟨_, (pss_cons (ps_set (i := 1) scLaw.nd rfl (Or.inr rfl) (pe_fn D_law_road hr (by rfl) (pa_cons (pv 0) (pa_cons pe_int (pa_cons (pe_op op_add pe_int (pe_op op_mod (pe_fn D_law_cell_at hr (by rfl) (pa_cons (pv 0) (pa_cons pe_int pa_nil))) pe_int)) (pa_cons pe_int pa_nil))))))
    (pss_cons (ps_set (i := 2) scLaw.nd rfl (Or.inl rfl) (pe_fn D_law_road hr (by rfl) (pa_cons (pv 0) (pa_cons pe_int (pa_cons (pe_op op_add pe_int (pe_op op_mod (pe_op op_fdiv (pe_fn D_law_cell_at hr (by rfl) (pa_cons (pv 0) (pa_cons pe_int pa_nil))) pe_int) pe_int)) (pa_cons pe_int pa_nil))))))
    (pss_mid (MidA H a) (ps_if (pt_cmpR op_eq (pe_op op_mod (pe_fn D_law_cell_at hr (by rfl) (pa_cons (pv 0) (pa_cons pe_int pa_nil))) pe_int) pe_int (nomark _)) (pss_one (ps_comp (i := 2) ["place"] [("one", 1), ("script", 0)] scLaw.nd rfl rfl rfl rfl (pi_list (pv 2)) (N := ["script", "one", "other", "found", "due", "left", "right", "both", "d", "told"]) (osc := defScope sLaw) ⟨rfl, by decide +kernel, by decide +kernel, by decide +kernel, by decide +kernel⟩
      (fun _ _ _ => pg_name (i := 0) (show (["place", "one", "script"] : List Str).Nodup by decide +kernel) rfl (Or.inl rfl)) (fun _ _ _ => pf_nil) (fun _ _ _ => (pe_op op_mul (pv 0) (pe_op op_add (pe_op op_add (pe_ix (ix_listK K) (pv 1) (pe_un un_neg pe_int) (fun _ _ => rfl)) pe_int) (pe_op op_mod (pe_op op_fdiv (pe_fn D_law_cell_at hr (by rfl) (pa_cons (pv 2) (pa_cons pe_int pa_nil))) pe_int) pe_int)))))) pss_nil)
    (pss_cons (ps_if (pt_val (pe_fn D_law_meet hr (by rfl) (pa_cons (pv 1) (pa_cons (pv 2) pa_nil)))) (pss_one (ps_ret pe_bl)) pss_nil)
    (pss_cons (ps_set (i := 3) scLaw.nd rfl (Or.inl rfl) (pe_fnX Dcrossed hr passN (by rfl) (pa_cons (pe_callTy call_list_of (by rfl) G.list PyProof.Rows.Boot.«list» (pa_cons (pv 1) pa_nil)) (pa_cons (pe_callTy call_list_of (by rfl) G.list PyProof.Rows.Boot.«list» (pa_cons (pv 2) pa_nil)) pa_nil))))
    (pss_cons (ps_set (i := 4) scLaw.nd rfl (Or.inl rfl) (pe_fn D_law_between hr (by rfl) (pa_cons (pe_ix ix_tup (pv 3) pe_int (fun _ _ => rfl)) pa_nil)))
    (pss_cons (ps_if (pw_or (pt_cmpR (op_neD hr.units) (pe_fn D_law_between hr (by rfl) (pa_cons (pe_ix ix_tup (pv 3) pe_int (fun _ _ => rfl)) pa_nil)) (pv 4) (nomark _)) (pw_or (pt_cmpR (op_neD hr.units) (pe_fnX Ddistances hr passN (by rfl) (pa_cons (pe_callTy call_list_of (by rfl) G.list PyProof.Rows.Boot.«list» (pa_cons (pe_ix ix_tup (pv 3) pe_int (fun _ _ => rfl)) pa_nil)) pa_nil)) (pv 4) (nomark _)) (pw_or1 (pt_cmpR (op_neD hr.units) (pe_fnX Ddistances hr passN (by rfl) (pa_cons (pe_callTy call_list_of (by rfl) G.list PyProof.Rows.Boot.«list» (pa_cons (pe_ix ix_tup (pv 3) pe_int (fun _ _ => rfl)) pa_nil)) pa_nil)) (pv 4) (nomark _))))).pt (pss_one (ps_ret pe_bl)) pss_nil)
    (pss_cons (ps_set (i := 5) scLaw.nd rfl (Or.inl rfl) (pe_fnX Dspread hr passN (by rfl) (pa_cons (pe_callTy call_list_of (by rfl) G.list PyProof.Rows.Boot.«list» (pa_cons (pv 1) pa_nil)) pa_nil)))
    (pss_cons (ps_set (i := 6) scLaw.nd rfl (Or.inl rfl) (pe_fnX Dspread hr passN (by rfl) (pa_cons (pe_callTy call_list_of (by rfl) G.list PyProof.Rows.Boot.«list» (pa_cons (pv 2) pa_nil)) pa_nil)))
    (pss_cons (ps_set (i := 7) scLaw.nd rfl (Or.inl rfl) (pe_fnX Dspread hr passN (by rfl) (pa_cons (pe_callTy call_list_of (by rfl) G.list PyProof.Rows.Boot.«list» (pa_cons (pe_ix ix_tup (pv 3) pe_int (fun _ _ => rfl)) pa_nil)) pa_nil)))
    (pss_cons (ps_if (pw_or (pt_cmpR (op_neD hr.units) (pv 7) (pe_fnX Dspread hr passN (by rfl) (pa_cons (pe_callTy call_list_of (by rfl) G.list PyProof.Rows.Boot.«list» (pa_cons (pe_ix ix_tup (pv 3) pe_int (fun _ _ => rfl)) pa_nil)) pa_nil)) (nomark _)) (pw_or1 (pt_cmpR op_ne (pe_callB call_len_seq (by rfl) G.len PySem.boot_len (pa_cons (pv 7) pa_nil)) (pe_op op_add (pe_op op_add (pe_ix ix_list (pv 1) (pe_un un_neg pe_int) (fun _ _ => rfl)) (pe_ix ix_list (pv 2) (pe_un un_neg pe_int) (fun _ _ => rfl))) pe_int) (nomark _)))).pt (pss_one (ps_ret pe_bl)) pss_nil)
    (pss_cons (ps_for PassesOwn.never rfl (pi_range1 (by rfl) G.range (pa_cons (pe_callB call_len_seq (by rfl) G.len PySem.boot_len (pa_cons (pv 7) pa_nil)) pa_nil)) (pg_name (i := 8) scLaw.nd rfl (Or.inl rfl))
      (pss_one (ps_if (pt_cmpR op_ne (pe_ix ix_list (pv 7) (pv 8) (fun _ _ => rfl)) (pe_fn D_law_folded hr (by rfl) (pa_cons (pv 5) (pa_cons (pv 6) (pa_cons (pv 8) pa_nil)))) (nomark _)) (pss_one (ps_ret pe_bl)) pss_nil)))
    (pss_cons (ps_if (pt_cmpR op_gt (pe_callB call_len_seq (by rfl) G.len PySem.boot_len (pa_cons (pe_ix ix_tup (pv 3) pe_int (fun _ _ => rfl)) pa_nil)) pe_int (nomark _)) (pss_one (ps_ret pe_bl)) pss_nil)
    (pss_cons (ps_set (i := 9) scLaw.nd rfl (Or.inl rfl) (pe_fnX Droads hr passN (by rfl) (pa_cons (pe_callTy call_list_of (by rfl) G.list PyProof.Rows.Boot.«list» (pa_cons (pv 4) pa_nil)) pa_nil)))
    (pss_one (ps_ret (pe_and (pe_cmpR (op_inD hr.units1) (pe_ix ix_tup (pv 3) pe_int (fun _ _ => rfl)) (pv 9) (by rfl)) (pe_one (pe_cmpR (op_inD hr.units1) (pe_ix ix_tup (pv 3) pe_int (fun _ _ => rfl)) (pv 9) (by rfl)))))))))))))))))))), ?_⟩
  refine ⟨_, rfl, _, rfl, a, ns, 0, rfl, hS, by omega, ?_⟩
  obtain ⟨c1, e1⟩ : ∃ c : Int, c = ns.getD (0 : Int).toNat 0 := ⟨_, rfl⟩
  rw [← e1]
  refine ⟨_, _, rfl, rfl, (by show (0 : Int) < 7; decide), _, _, rfl, rfl, a, ns, 2, _, 4, rfl, hS, by omega, by omega, by omega, by decide, fun oa H2 ps s2 oa0 oa1 hD => ?_⟩
  obtain ⟨pR, pE⟩ := drawn_road hD (by omega) (by omega) (by omega)
  have p7 : ps.length ≤ 7 := by have := hD.len; (first | lia | omega)
  refine ⟨_, rfl, _, rfl, a, ns, 0, rfl, s2.seq hS, by omega, ?_⟩
  rw [← e1]
  refine ⟨_, _, rfl, rfl, ⟨by decide, by decide⟩, _, _, rfl, rfl, (by show (0 : Int) < 4; decide), _, _, rfl, rfl, a, ns, 10, _, 3, rfl, s2.seq hS, by omega, by omega, by omega, by decide, fun ob H3 qs s3 ob0 ob1 hE => ?_⟩
  obtain ⟨qR, qE⟩ := drawn_road hE (by omega) (by omega) (by omega)
  have q4 : qs.length ≤ 4 := by have := hE.len; (first | lia | omega)
  have s23 := s2.trans s3
  have oa3 := s3 _ _ oa1
  -- wide apart, or not
  refine ⟨?_, fun σ' H5 hM => ?_⟩
  · refine ⟨_, rfl, a, ns, 1, rfl, s23.seq hS, by omega, ?_⟩
    obtain ⟨c2, e2⟩ : ∃ c : Int, c = ns.getD (1 : Int).toNat 0 := ⟨_, rfl⟩
    rw [← e2]
    refine ⟨_, _, rfl, rfl, (by show (0 : Int) < 2; decide), rfl, _, rfl, ?_⟩
    refine ite2 (fun z => ?_) (fun z => ⟨oa, ob, ps, qs, rfl, s23, oa3, ob1, pR, qR, p7, q4, by omega, by omega⟩)
    obtain ⟨f1, f2, f3, f4, f5⟩ := roadB_facts pR
    have nn := Rg.last_nn f5 f3 f1
    obtain ⟨t, et⟩ : ∃ t : Int, t = lastI ps + 1 + c2 / 2 % 3 := ⟨_, rfl⟩
    refine ⟨_, rfl, ob, rfl, ⟨_, SqL.of ob1⟩, fun D hD2 => ?_⟩
    refine comp_map (mulV t) hD2 (SqL.of ob1) (by rw [len_int]; exact small (by omega)) (fun j x ys Q' hx q' => ?_) ?_
    · obtain ⟨z, hz, rfl⟩ := int_at hx
      refine ⟨_, rfl, _, rfl, _, rfl, oa, _, _, _, rfl, rfl, sq_ne (SqL.of oa3) hD2, last_atI f1, _, _, rfl, rfl, _, rfl, a, ns, 1, rfl, sq_ne (s23.seq hS) hD2, by omega, ?_⟩
      rw [← e2]
      refine ⟨_, _, rfl, rfl, ⟨by decide, by decide⟩, _, _, rfl, rfl, (by show (0 : Int) < 3; decide), _, _, rfl, rfl, _, _, rfl, rfl, .inr ⟨by omega, by omega⟩, ?_⟩
      rw [et] at q'
      exact q'
    rw [mulV_map]
    have s5 := same_upd (o := .lst ((qs.map (· * t)).map V.int)) s23 (s23.free hD2)
    have tb : lastI qs * t ≤ 9 * 27 := Int.mul_le_mul (by omega) (by omega) (by omega) (by decide)
    obtain ⟨mR, mE⟩ := mul_road qR (c := t) (by omega) (by omega)
    refine ⟨oa, D, ps, qs.map (· * t), rfl, s5, ?_, upd_same, pR, mR, p7, by rw [List.length_map]; exact q4, by omega, by omega⟩
    rw [upd_ne (ne_of_none oa3 hD2)]
    exact oa3
  clear qE qR q4 s23 oa3 s3 ob0 ob1 hE pR pE p7 s2 oa0 oa1 hD e1
  obtain ⟨oa, ob, ps, qs, rfl, s5, oa5, ob5, hP⟩ := hM
  have few := hP.few
  have hpl := hP.pl
  have hql := hP.ql
  refine ⟨_, rfl, _, rfl, oa, ob, ps, qs, rfl, SqL.of oa5, SqL.of ob5, by omega, by omega, fun H6 t6 => ?_⟩
  by_cases hn : (sms ps qs).Nodup
  rotate_left
  · rw [decide_eq_true hn]
    exact ⟨true, rfl, q _⟩
  rw [decide_eq_false (fun z => z hn)]
  refine ⟨false, rfl, ?_⟩
  have hC : Cr ps qs := ⟨hP, hn⟩
  have s6 := s5.trans t6
  have oa6 := t6 _ _ oa5
  have ob6 := t6 _ _ ob5
  clear t6 s5 oa5 ob5
  have ec := hC.code
  -- the crossed roads
  refine ⟨_, rfl, oa, _, rfl, .inl (SqL.of oa6), fun h1 hh1 => ⟨_, rfl, ob, _, rfl, .inl (sq_ne (SqL.of ob6) hh1), fun h2 hh2 => ?_⟩⟩
  have n12 : h1 ≠ h2 := fun z => by rw [z, upd_same] at hh2; cases hh2
  have t7 : Same H6 (upd (upd H6 h1 (.lst (ps.map V.int))) h2 (.lst (qs.map V.int))) := same_upd (same_new hh1 _) (upd_none hh2)
  refine ⟨h1, h2, ps, qs, rfl, SqL.of (by rw [upd_ne n12]; exact upd_same), SqL.of upd_same, by omega, by omega, fun _ u r1 r2 H8 t8 r10 r20 rne g1 g2 hu => ?_, fun z => by omega, fun z => by omega, fun z => by omega⟩
  have t68 := t7.trans t8
  have s8 := s6.trans t68
  have oa8 := t68 _ _ oa6
  have ob8 := t68 _ _ ob6
  clear t7 t8 t68 s6 oa6 ob6 hh1 hh2 n12 r10 r20
  obtain ⟨A, eA⟩ : ∃ A, A = Rg.srt (sms ps qs) := ⟨_, rfl⟩
  obtain ⟨B, eB⟩ : ∃ B, B = Rg.srt (sms ps (mirr qs)) := ⟨_, rfl⟩
  obtain ⟨aR, aL⟩ := hC.r1
  obtain ⟨bR, bL⟩ := hC.r2
  have gB := hC.gaps
  have sB := hC.spr
  have fo := fun {i : Nat} => hC.fold (i := i)
  rw [← eA] at g1 aR aL gB sB
  rw [← eB] at g2 bR bL gB sB
  have lA : A.length ≤ 28 := by rw [eA, Rg.srt_length, sms_len]; exact few
  have lB : B.length ≤ 28 := by rw [eB, Rg.srt_length, sms_len, Rg.mirr_len]; exact few
  obtain ⟨a1, a2, a3, a4, a5⟩ := roadB_facts aR
  obtain ⟨b1, b2, b3, b4, b5⟩ := roadB_facts bR
  have no : ∀ {l : List Int}, roadB l = true → ¬ roadB l = false := fun h z => by rw [h] at z; cases z
  have j0 : ∀ {u k : Addr}, atI [V.ref u, V.ref k] 0 = some (V.ref u) := rfl
  have j1 : ∀ {u k : Addr}, atI [V.ref u, V.ref k] 1 = some (V.ref k) := rfl
  -- their distances
  refine ⟨_, rfl, u, _, _, _, rfl, rfl, SqT.of hu, j0, r1, A, rfl, SqL.of g1, by omega, a5, fun du H9 t9 du0 du9 => ?_⟩
  refine ⟨_, rfl, u, _, _, _, rfl, rfl, SqT.of (t9 _ _ hu), j1, r2, B, rfl, SqL.of (t9 _ _ g2), by omega, b5, fun x1 H10 t10 x10 x11 => ?_⟩
  have t810 := t9.trans t10
  have du10 := t10 _ _ du9
  refine ⟨_, rfl, _, _, .lst (SqL.of x11) (dt_ints _), .lst (SqL.of du10) (dt_ints _), shaped_ints _, shaped_ints _, false, by rw [eqv_ints, gB, decide_eq_true rfl]; rfl, ?_⟩
  refine ⟨_, rfl, u, _, _, _, rfl, rfl, SqT.of (t810 _ _ hu), j0, r1, _, rfl, .inl (SqL.of (t810 _ _ g1)), fun l1 hl1 => ?_⟩
  refine ⟨l1, A, rfl, SqL.of upd_same, by omega, fun _ x2 H11 t11 x20 x21 => ?_, fun z => absurd z (no aR)⟩
  have t1011 := (same_new (o := .lst (A.map V.int)) hl1).trans t11
  have t811 := t810.trans t1011
  have du11 := t1011 _ _ du10
  refine ⟨_, rfl, _, _, .lst (SqL.of x21) (dt_ints _), .lst (SqL.of du11) (dt_ints _), shaped_ints _, shaped_ints _, false, by rw [eqv_ints, decide_eq_true rfl]; rfl, ?_⟩
  refine ⟨_, rfl, u, _, _, _, rfl, rfl, SqT.of (t811 _ _ hu), j1, r2, _, rfl, .inl (SqL.of (t811 _ _ g2)), fun l2 hl2 => ?_⟩
  refine ⟨l2, B, rfl, SqL.of upd_same, by omega, fun _ x3 H12 t12 x30 x31 => ?_, fun z => absurd z (no bR)⟩
  have t1112 := (same_new (o := .lst (B.map V.int)) hl2).trans t12
  have t812 := t811.trans t1112
  have du12 := t1112 _ _ du11
  refine ⟨_, rfl, _, _, .lst (SqL.of x31) (dt_ints _), .lst (SqL.of du12) (dt_ints _), shaped_ints _, shaped_ints _, false, by rw [eqv_ints, show (fun ps => Rg.srt (Rg.fnd ps)) B = Rg.srt (Rg.fnd A) from gB, decide_eq_true rfl]; rfl, ?_⟩
  have oa12 := t812 _ _ oa8
  have ob12 := t812 _ _ ob8
  have hu12 := t812 _ _ hu
  have g112 := t812 _ _ g1
  have g212 := t812 _ _ g2
  have s12 := s8.trans t812
  clear t812 t1112 t811 t1011 t810 t9 t10 t11 t12 x10 x11 x20 x21 x30 x31 hl1 hl2 du0 du9 du10 du11 hu g1 g2 oa8 ob8 s8
  -- the spreads
  refine ⟨_, rfl, oa, _, rfl, .inl (SqL.of oa12), fun l1 hl1 => ⟨l1, ps, rfl, SqL.of upd_same, by omega, fun _ le H13 t13' le0 le13 => ?_, fun z => absurd z (no hP.p)⟩⟩
  have t13 := (same_new (o := .lst (ps.map V.int)) hl1).trans t13'
  refine ⟨_, rfl, ob, _, rfl, .inl (SqL.of (t13 _ _ ob12)), fun l2 hl2 => ⟨l2, qs, rfl, SqL.of upd_same, by omega, fun _ ri H14 t14' ri0 ri14 => ?_, fun z => absurd z (no hP.q)⟩⟩
  have t14 := (same_new (o := .lst (qs.map V.int)) hl2).trans t14'
  have u14 := t13.trans t14
  refine ⟨_, rfl, u, _, _, _, rfl, rfl, SqT.of (u14 _ _ hu12), j0, r1, _, rfl, .inl (SqL.of (u14 _ _ g112)), fun l3 hl3 => ⟨l3, A, rfl, SqL.of upd_same, by omega, fun _ bo H15 t15' bo0 bo15 => ?_, fun z => absurd z (no aR)⟩⟩
  have t15 := (same_new (o := .lst (A.map V.int)) hl3).trans t15'
  have u15 := u14.trans t15
  refine ⟨_, rfl, _, rfl, u, _, _, _, rfl, rfl, SqT.of (u15 _ _ hu12), j1, r2, _, rfl, .inl (SqL.of (u15 _ _ g212)), fun l4 hl4 => ⟨l4, B, rfl, SqL.of upd_same, by omega, fun _ x4 H16 t16' x40 x41 => ?_, fun z => absurd z (no bR)⟩⟩
  have t16 := (same_new (o := .lst (B.map V.int)) hl4).trans t16'
  have u16 := u15.trans t16
  have bo16 := t16 _ _ bo15
  refine ⟨_, _, .lst (SqL.of bo16) (dt_ints _), .lst (SqL.of x41) (dt_ints _), shaped_ints _, shaped_ints _, false, by rw [eqv_ints, sB, decide_eq_true rfl]; rfl, ?_⟩
  have oa16 := u16 _ _ oa12
  have ob16 := u16 _ _ ob12
  have du16 := u16 _ _ du12
  have hu16 := u16 _ _ hu12
  have g116 := u16 _ _ g112
  have g216 := u16 _ _ g212
  have le16 := t16 _ _ (t15 _ _ (t14 _ _ le13))
  have ri16 := t16 _ _ (t15 _ _ ri14)
  have s16 := s12.trans u16
  clear u16 u15 u14 t13 t14 t15 t16 t13' t14' t15' t16' le0 le13 ri0 ri14 bo0 bo15 x40 x41 hl1 hl2 hl3 hl4 oa12 ob12 du12 hu12 g112 g212 s12
  obtain ⟨p1, p2, p3, p4, p5⟩ := roadB_facts hP.p
  obtain ⟨q1, q2, q3, q4, q5⟩ := roadB_facts hP.q
  have pn := Rg.last_nn p5 p3 p1
  have qn := Rg.last_nn q5 q3 q1
  have bl : (Rg.spr A).length = (lastI ps + lastI qs + 1).toNat := by rw [Rg.spr_len, aL]
  have hpe := hP.pe
  have hqe := hP.qe
  refine ⟨_, rfl, bo, _, rfl, .inl (SqL.of bo16), _, rfl, _, rfl, oa, _, _, _, rfl, rfl, SqL.of oa16, last_atI p1, _, rfl, _, rfl, ob, _, _, _, rfl, rfl, SqL.of ob16, last_atI q1, _, _, rfl, rfl, _, _, rfl, rfl, rfl, false, ?_, ?_⟩
  · rw [len_int, bl]
    have e : (((lastI ps + lastI qs + 1).toNat : Nat) : Int) = lastI ps + lastI qs + 1 := by (first | lia | omega)
    rw [e]
    show V.bl (!decide (V.int (lastI ps + lastI qs + 1) = V.int (lastI ps + lastI qs + 1))) = V.bl false
    rw [decide_eq_true rfl]
    rfl
  -- at each number
  refine ⟨_, rfl, bo, _, rfl, .inl (SqL.of bo16), _, rfl, by rw [len_int]; omega, by rw [len_int]; omega, ?_⟩
  rw [len_int, Int.toNat_natCast]
  refine for_range (lo := 0) (n := (Rg.spr A).length) (fun i σ H' => H' = H16 ∧ ∃ o, σ = [some (.ref a), some (.ref oa), some (.ref ob), some (.ref u), some (.ref du), some (.ref le), some (.ref ri), some (.ref bo), o, none]) ⟨rfl, _, rfl⟩ ?_ ?_
  · rintro i σ H' hi ⟨rfl, o, rfl⟩
    have fi := fo (i := i) (by omega)
    rw [← eA] at fi
    refine ⟨_, rfl, _, rfl, bo, _, _, _, rfl, rfl, SqL.of bo16, at_pos (by omega) (by omega), _, rfl, _, rfl, _, rfl, le, ri, _, _, _, rfl, SqL.of le16, SqL.of ri16, ?_, ?_, ?_, ?_, ?_⟩
    · rw [Rg.spr_len]; (first | lia | omega)
    · rw [Rg.spr_len]; (first | lia | omega)
    · rw [Rg.spr_len]; (first | lia | omega)
    · intro j
      have b := Rg.spr_bound p5 p3 p1 j
      have : ps.length * ps.length ≤ 7 * 7 := Nat.mul_le_mul hpl hpl
      (first | lia | omega)
    · have ei : (0 + (i : Int)).toNat = i := by (first | lia | omega)
      rw [ei, show 0 + (i : Int) = (i : Int) by omega, fi]
      refine ⟨rfl, false, congrArg V.bl (by simp), rfl, _, rfl⟩
  rintro σ H17 ⟨rfl, o, rfl⟩
  -- up to seven places
  refine ⟨_, rfl, u, _, _, _, rfl, rfl, SqT.of hu16, j0, r1, _, rfl, .inl (SqL.of g116), _, _, rfl, rfl, _, rfl, ?_⟩
  rw [len_int]
  refine ite2 (fun z => q _) (fun z => ?_)
  have z' : ¬ (7 : Int) < ((A.length : Nat) : Int) := of_decide_eq_false (Bool.eq_false_iff.mpr z)
  have a7 : A.length ≤ 7 := by (first | lia | omega)
  have gok := gaps_of aR a7
  have gfew := gok.few
  refine ⟨_, rfl, du, _, rfl, .inl (SqL.of du16), fun l5 hl5 => ?_⟩
  have t17 := same_new (o := .lst ((Rg.srt (Rg.fnd A)).map V.int)) hl5
  refine ⟨l5, _, rfl, SqL.of upd_same, by omega, fun _ ar as H18 t18' ar0 ar1 hL18 hn18 hT18 h18 => ?_, fun z => absurd z (by omega), fun _ z => absurd gok z⟩
  have t18 := t17.trans t18'
  have in1 : A ∈ as.map (·.2) := (hT18.all _).mpr (Rg.fit_self a1 a5 a3)
  have in2 : B ∈ as.map (·.2) := (hT18.all _).mpr (gB ▸ Rg.fit_self b1 b5 b3)
  refine ⟨_, rfl, u, _, _, _, rfl, rfl, SqT.of (t18 _ _ hu16), j0, _, rfl, ar, _, dL A, _, rfl, SqL.of ar1, .lst (SqL.of (t18 _ _ g116)) (dt_ints _), hL18.dt, shaped_ints _, (fun d hd => by obtain ⟨c, _, rfl⟩ := List.mem_map.mp hd; exact shaped_ints _), ?_⟩
  rw [any_dL, decide_eq_true in1]
  refine ⟨true, rfl, ?_⟩
  refine ⟨_, rfl, u, _, _, _, rfl, rfl, SqT.of (t18 _ _ hu16), j1, _, rfl, ar, _, dL B, _, rfl, SqL.of ar1, .lst (SqL.of (t18 _ _ g216)) (dt_ints _), hL18.dt, shaped_ints _, (fun d hd => by obtain ⟨c, _, rfl⟩ := List.mem_map.mp hd; exact shaped_ints _), ?_⟩
  rw [any_dL, decide_eq_true in2]
  exact q _
end
end Rd
namespace Rd
open PySem L2 PyProof.Rows
theorem all_mk {l : PySem.W.OpenLaw} {w : World} {K : PySem.W.Frag} {h : Heap} {mg : Str → Option Value} {fa f1 f2 f3 f4 f5 f6 f7 f8 f9 f10 f11 f12 f13 f14 f15 f16 f17 f18 f19 f20 f21 f22 f23 f24 f25 f26 : Addr} (X : K.In h) (G : h.Ns mainGlobals mg) (hfa : mg "law" = some (.ref fa))
    {od1 an1 od2 an2 od3 an3 od4 an4 od5 an5 od6 an6 od7 an7 od8 an8 od9 an9 od10 an10 od11 an11 od12 an12 od13 an13 od14 an14 od15 an15 od16 an16 od17 an17 od18 an18 od19 an19 od20 an20 od21 an21 od22 an22 od23 an23 od24 an24 od25 an25 od26 an26 : Option Addr}
    {sl1 sl2 sl3 sl4 sl5 sl6 sl7 sl8 sl9 sl10 sl11 sl12 sl13 sl14 sl15 sl16 sl17 sl18 sl19 sl20 sl21 sl22 sl23 sl24 sl25 sl26 : Array (Option Value)} {oc1 kV1 dc1 pm1 cd1 ct1 oc2 kV2 dc2 pm2 cd2 ct2 oc3 kV3 dc3 pm3 cd3 ct3 oc4 kV4 dc4 pm4 cd4 ct4 oc5 kV5 dc5 pm5 cd5 ct5 oc6 kV6 dc6 pm6 cd6 ct6 oc7 kV7 dc7 pm7 cd7 ct7 oc8 kV8 dc8 pm8 cd8 ct8 oc9 kV9 dc9 pm9 cd9 ct9 oc10 kV10 dc10 pm10 cd10 ct10 oc11 kV11 dc11 pm11 cd11 ct11 oc12 kV12 dc12 pm12 cd12 ct12 oc13 kV13 dc13 pm13 cd13 ct13 oc14 kV14 dc14 pm14 cd14 ct14 oc15 kV15 dc15 pm15 cd15 ct15 oc16 kV16 dc16 pm16 cd16 ct16 oc17 kV17 dc17 pm17 cd17 ct17 oc18 kV18 dc18 pm18 cd18 ct18 oc19 kV19 dc19 pm19 cd19 ct19 oc20 kV20 dc20 pm20 cd20 ct20 oc21 kV21 dc21 pm21 cd21 ct21 oc22 kV22 dc22 pm22 cd22 ct22 oc23 kV23 dc23 pm23 cd23 ct23 oc24 kV24 dc24 pm24 cd24 ct24 oc25 kV25 dc25 pm25 cd25 ct25 oc26 kV26 dc26 pm26 cd26 ct26 : Value}
    {tk1 tk2 tk3 : Tok}
    (a1 : PySem.W.nsIn K mainGlobals "is_road" = some (some (.ref f1))) (l1 : K.lookup f1 = some ⟨oc1, od1, .func (PySem.W.fnOf "is_road" "is_road" (defArgs sIsRoad) (defBody sIsRoad) (defScope sIsRoad) .none kV1 dc1 pm1 an1 cd1 ct1), sl1⟩) (c1 : PySem.W.codeIn K cd1 "is_road" = true) (k1 : PySem.W.keepIn K (.ref f1) = true)
    (a2 : PySem.W.nsIn K mainGlobals "check_road" = some (some (.ref f2))) (l2 : K.lookup f2 = some ⟨oc2, od2, .func (PySem.W.fnOf "check_road" "check_road" (defArgs sCheckRoad) (defBody sCheckRoad) (defScope sCheckRoad) .none kV2 dc2 pm2 an2 cd2 ct2), sl2⟩) (c2 : PySem.W.codeIn K cd2 "check_road" = true) (k2 : PySem.W.keepIn K (.ref f2) = true)
    (a3 : PySem.W.nsIn K mainGlobals "gaps_between" = some (some (.ref f3))) (l3 : K.lookup f3 = some ⟨oc3, od3, .func (PySem.W.fnOf "gaps_between" "gaps_between" (defArgs sGapsBetween) (defBody sGapsBetween) (defScope sGapsBetween) .none kV3 dc3 pm3 an3 cd3 ct3), sl3⟩) (c3 : PySem.W.codeIn K cd3 "gaps_between" = true) (k3 : PySem.W.keepIn K (.ref f3) = true)
    (a4 : PySem.W.nsIn K mainGlobals "distances" = some (some (.ref f4))) (l4 : K.lookup f4 = some ⟨oc4, od4, .func (PySem.W.fnOf "distances" "distances" (defArgs sDistances) (defBody sDistances) (defScope sDistances) .none kV4 dc4 pm4 an4 cd4 ct4), sl4⟩) (c4 : PySem.W.codeIn K cd4 "distances" = true) (k4 : PySem.W.keepIn K (.ref f4) = true)
    (a5 : PySem.W.nsIn K mainGlobals "mirrored" = some (some (.ref f5))) (l5 : K.lookup f5 = some ⟨oc5, od5, .func (PySem.W.fnOf "mirrored" "mirrored" (defArgs sMirrored) (defBody sMirrored) (defScope sMirrored) .none kV5 dc5 pm5 an5 cd5 ct5), sl5⟩) (c5 : PySem.W.codeIn K cd5 "mirrored" = true) (k5 : PySem.W.keepIn K (.ref f5) = true)
    (a6 : PySem.W.nsIn K mainGlobals "spread" = some (some (.ref f6))) (l6 : K.lookup f6 = some ⟨oc6, od6, .func (PySem.W.fnOf "spread" "spread" (defArgs sSpread) (defBody sSpread) (defScope sSpread) .none kV6 dc6 pm6 an6 cd6 ct6), sl6⟩) (c6 : PySem.W.codeIn K cd6 "spread" = true) (k6 : PySem.W.keepIn K (.ref f6) = true)
    (a7 : PySem.W.nsIn K mainGlobals "check_bounds" = some (some (.ref f7))) (l7 : K.lookup f7 = some ⟨oc7, od7, .func (PySem.W.fnOf "check_bounds" "check_bounds" (defArgs dCheckBounds) (defBody dCheckBounds) (defScope dCheckBounds) .none kV7 dc7 pm7 an7 cd7 ct7), sl7⟩) (c7 : PySem.W.codeIn K cd7 "check_bounds" = true) (k7 : PySem.W.keepIn K (.ref f7) = true)
    (a8 : PySem.W.nsIn K mainGlobals "all_sums" = some (some (.ref f8))) (l8 : K.lookup f8 = some ⟨oc8, od8, .func (PySem.W.fnOf "all_sums" "all_sums" (defArgs dAllSums) (defBody dAllSums) (defScope dAllSums) .none kV8 dc8 pm8 an8 cd8 ct8), sl8⟩) (c8 : PySem.W.codeIn K cd8 "all_sums" = true) (k8 : PySem.W.keepIn K (.ref f8) = true)
    (a9 : PySem.W.nsIn K mainGlobals "check_sums" = some (some (.ref f9))) (l9 : K.lookup f9 = some ⟨oc9, od9, .func (PySem.W.fnOf "check_sums" "check_sums" (defArgs dCheckSums) (defBody dCheckSums) (defScope dCheckSums) .none kV9 dc9 pm9 an9 cd9 ct9), sl9⟩) (c9 : PySem.W.codeIn K cd9 "check_sums" = true) (k9 : PySem.W.keepIn K (.ref f9) = true)
    (a10 : PySem.W.nsIn K mainGlobals "crossed" = some (some (.ref f10))) (l10 : K.lookup f10 = some ⟨oc10, od10, .func (PySem.W.fnOf "crossed" "crossed" (defArgs dCrossed) (defBody dCrossed) (defScope dCrossed) .none kV10 dc10 pm10 an10 cd10 ct10), sl10⟩) (c10 : PySem.W.codeIn K cd10 "crossed" = true) (k10 : PySem.W.keepIn K (.ref f10) = true)
    (a11 : PySem.W.nsIn K mainGlobals "check_gaps" = some (some (.ref f11))) (l11 : K.lookup f11 = some ⟨oc11, od11, .func (PySem.W.fnOf "check_gaps" "check_gaps" (defArgs sCheckGaps) (defBody sCheckGaps) (defScope sCheckGaps) .none kV11 dc11 pm11 an11 cd11 ct11), sl11⟩) (c11 : PySem.W.codeIn K cd11 "check_gaps" = true) (k11 : PySem.W.keepIn K (.ref f11) = true)
    (a12 : PySem.W.nsIn K mainGlobals "least_lacking" = some (some (.ref f12))) (l12 : K.lookup f12 = some ⟨oc12, od12, .func (PySem.W.fnOf "least_lacking" "least_lacking" (defArgs sLeast) (defBody sLeast) (defScope sLeast) .none kV12 dc12 pm12 an12 cd12 ct12), sl12⟩) (c12 : PySem.W.codeIn K cd12 "least_lacking" = true) (k12 : PySem.W.keepIn K (.ref f12) = true)
    (a13 : PySem.W.nsIn K mainGlobals "rest_without" = some (some (.ref f13))) (l13 : K.lookup f13 = some ⟨oc13, od13, .func (PySem.W.fnOf "rest_without" "rest_without" (defArgs sRestWithout) (defBody sRestWithout) (defScope sRestWithout) .none kV13 dc13 pm13 an13 cd13 ct13), sl13⟩) (c13 : PySem.W.codeIn K cd13 "rest_without" = true) (k13 : PySem.W.keepIn K (.ref f13) = true)
    (a14 : PySem.W.nsIn K mainGlobals "sure_places" = some (some (.ref f14))) (l14 : K.lookup f14 = some ⟨oc14, od14, .func (PySem.W.fnOf "sure_places" "sure_places" (defArgs dSurePlaces) (defBody dSurePlaces) (defScope dSurePlaces) .none kV14 dc14 pm14 an14 cd14 ct14), sl14⟩) (c14 : PySem.W.codeIn K cd14 "sure_places" = true) (k14 : PySem.W.keepIn K (.ref f14) = true)
    (a15 : PySem.W.nsIn K mainGlobals "with_place" = some (some (.ref f15))) (l15 : K.lookup f15 = some ⟨oc15, od15, .func (PySem.W.fnOf "with_place" "with_place" (defArgs dWithPlace) (defBody dWithPlace) (defScope dWithPlace) .none kV15 dc15 pm15 an15 cd15 ct15), sl15⟩) (c15 : PySem.W.codeIn K cd15 "with_place" = true) (k15 : PySem.W.keepIn K (.ref f15) = true)
    (a16 : PySem.W.nsIn K mainGlobals "places_to_try" = some (some (.ref f16))) (l16 : K.lookup f16 = some ⟨oc16, od16, .func (PySem.W.fnOf "places_to_try" "places_to_try" (defArgs dPlacesToTry) (defBody dPlacesToTry) (defScope dPlacesToTry) .none kV16 dc16 pm16 an16 cd16 ct16), sl16⟩) (c16 : PySem.W.codeIn K cd16 "places_to_try" = true) (k16 : PySem.W.keepIn K (.ref f16) = true)
    (a17 : PySem.W.nsIn K mainGlobals "trials_behind" = some (some (.ref f17))) (l17 : K.lookup f17 = some ⟨oc17, od17, .func (PySem.W.fnOf "trials_behind" "trials_behind" (defArgs dTrialsBehind) (defBody dTrialsBehind) (defScope dTrialsBehind) .none kV17 dc17 pm17 an17 cd17 ct17), sl17⟩) (c17 : PySem.W.codeIn K cd17 "trials_behind" = true) (k17 : PySem.W.keepIn K (.ref f17) = true)
    (a18 : PySem.W.nsIn K mainGlobals "roads_behind" = some (some (.ref f18))) (l18 : K.lookup f18 = some ⟨oc18, od18, .func (PySem.W.fnOf "roads_behind" "roads_behind" (defArgs dRoadsBehind) (defBody dRoadsBehind) (defScope dRoadsBehind) .none kV18 dc18 pm18 an18 cd18 ct18), sl18⟩) (c18 : PySem.W.codeIn K cd18 "roads_behind" = true) (k18 : PySem.W.keepIn K (.ref f18) = true)
    (a19 : PySem.W.nsIn K mainGlobals "trials" = some (some (.ref f19))) (l19 : K.lookup f19 = some ⟨oc19, od19, .func (PySem.W.fnOf "trials" "trials" (defArgs dTrials) (defBody dTrials) (defScope dTrials) .none kV19 dc19 pm19 an19 cd19 ct19), sl19⟩) (c19 : PySem.W.codeIn K cd19 "trials" = true) (k19 : PySem.W.keepIn K (.ref f19) = true)
    (a20 : PySem.W.nsIn K mainGlobals "roads" = some (some (.ref f20))) (l20 : K.lookup f20 = some ⟨oc20, od20, .func (PySem.W.fnOf "roads" "roads" (defArgs dRoads) (defBody dRoads) (defScope dRoads) .none kV20 dc20 pm20 an20 cd20 ct20), sl20⟩) (c20 : PySem.W.codeIn K cd20 "roads" = true) (k20 : PySem.W.keepIn K (.ref f20) = true)
    (a21 : PySem.W.nsIn K mainGlobals "_law_cell_at" = some (some (.ref f21))) (l21 : K.lookup f21 = some ⟨oc21, od21, .func (PySem.W.fnOf "_law_cell_at" "_law_cell_at" (defArgs sCell) (defBody sCell) (defScope sCell) .none kV21 dc21 pm21 an21 cd21 ct21), sl21⟩) (c21 : PySem.W.codeIn K cd21 "_law_cell_at" = true) (k21 : PySem.W.keepIn K (.ref f21) = true)
    (a22 : PySem.W.nsIn K mainGlobals "_law_between" = some (some (.ref f22))) (l22 : K.lookup f22 = some ⟨oc22, od22, .func (PySem.W.fnOf "_law_between" "_law_between" (defArgs sBetween) (defBody sBetween) (defScope sBetween) .none kV22 dc22 pm22 an22 cd22 ct22), sl22⟩) (c22 : PySem.W.codeIn K cd22 "_law_between" = true) (k22 : PySem.W.keepIn K (.ref f22) = true)
    (a23 : PySem.W.nsIn K mainGlobals "_law_road" = some (some (.ref f23))) (l23 : K.lookup f23 = some ⟨oc23, od23, .func (PySem.W.fnOf "_law_road" "_law_road" (defArgs sRoad) (defBody sRoad) (defScope sRoad) .none kV23 dc23 pm23 an23 cd23 ct23), sl23⟩) (c23 : PySem.W.codeIn K cd23 "_law_road" = true) (k23 : PySem.W.keepIn K (.ref f23) = true)
    (a24 : PySem.W.nsIn K mainGlobals "_law_meet" = some (some (.ref f24))) (l24 : K.lookup f24 = some ⟨oc24, od24, .func (PySem.W.fnOf "_law_meet" "_law_meet" (defArgs sMeet) (defBody sMeet) (defScope sMeet) .none kV24 dc24 pm24 an24 cd24 ct24), sl24⟩) (c24 : PySem.W.codeIn K cd24 "_law_meet" = true) (k24 : PySem.W.keepIn K (.ref f24) = true)
    (a25 : PySem.W.nsIn K mainGlobals "_law_folded" = some (some (.ref f25))) (l25 : K.lookup f25 = some ⟨oc25, od25, .func (PySem.W.fnOf "_law_folded" "_law_folded" (defArgs sFolded) (defBody sFolded) (defScope sFolded) .none kV25 dc25 pm25 an25 cd25 ct25), sl25⟩) (c25 : PySem.W.codeIn K cd25 "_law_folded" = true) (k25 : PySem.W.keepIn K (.ref f25) = true)
    (a26 : PySem.W.nsIn K mainGlobals "law" = some (some (.ref f26))) (l26 : K.lookup f26 = some ⟨oc26, od26, .func (PySem.W.fnOf "law" "law" (defArgs sLaw) (defBody sLaw) (defScope sLaw) .none kV26 dc26 pm26 an26 cd26 ct26), sl26⟩) (c26 : PySem.W.codeIn K cd26 "law" = true) (k26 : PySem.W.keepIn K (.ref f26) = true)
    (m1 : PySem.W.nsIn K mainGlobals "MOST_PLACES" = some (some (.int 50 tk1)))
    (m2 : PySem.W.nsIn K mainGlobals "LONGEST" = some (some (.int 4000 tk2)))
    (m3 : PySem.W.nsIn K mainGlobals "MOST_GAPS" = some (some (.int 21 tk3)))
    {CN CG CT CM : Addr}
    (xN : PySem.W.nsIn K mainGlobals "NoRoad" = some (some (.ref CN)))
    (xG : PySem.W.nsIn K mainGlobals "NoGaps" = some (some (.ref CG)))
    (xT : PySem.W.nsIn K mainGlobals "TooMany" = some (some (.ref CT)))
    (xM : PySem.W.nsIn K mainGlobals "Meets" = some (some (.ref CM)))
    (eN : PySem.W.excIn K CN bmV "ValueError.__new__" = true)
    (eG : PySem.W.excIn K CG bmV "ValueError.__new__" = true)
    (eT : PySem.W.excIn K CT bmV "ValueError.__new__" = true)
    (eM : PySem.W.excIn K CM bmV "ValueError.__new__" = true)
    (z1 : PySem.W.nsIn K mainGlobals "len" = some none)
    (z2 : PySem.W.nsIn K mainGlobals "range" = some none)
    (z3 : PySem.W.nsIn K mainGlobals "all" = some none)
    (z4 : PySem.W.nsIn K mainGlobals "sorted" = some none)
    (z5 : PySem.W.nsIn K mainGlobals "list" = some none)
    (z6 : PySem.W.nsIn K mainGlobals "isinstance" = some none)
    (z7 : PySem.W.nsIn K mainGlobals "int" = some none)
    (z8 : PySem.W.nsIn K mainGlobals "bool" = some none)
    (z9 : PySem.W.nsIn K mainGlobals "max" = some none)
    (z10 : PySem.W.nsIn K mainGlobals "min" = some none)
    (z11 : PySem.W.nsIn K mainGlobals "reversed" = some none)
    (z12 : PySem.W.nsIn K mainGlobals "set" = some none)
    (z13 : PySem.W.nsIn K mainGlobals "ValueError" = some none)
    (z14 : PySem.W.nsIn K mainGlobals "tuple" = some none)
    (z15 : PySem.W.nsIn K mainGlobals "str" = some none)
    (z16 : PySem.W.nsIn K mainGlobals "abs" = some none)
    : ∃ fd : FuncData, (∀ (s : Shared) (v : Value), BindsTo s fd ⟨[v], []⟩ [("script", v)]) ∧ ∀ base : Heap, K.In base → base.Ns mainGlobals mg → FnOk l.prog w K mg base CX0 13 fa fd ["script"] (spLaw K) := by
  have e := hfa.symm.trans (PySem.W.mg_of X G a26)
  cases e
  have Fis_road := fun_mk (st := sIsRoad) l1 c1 k1
  have Mis_road := PySem.W.mg_of X G a1
  have Fcheck_road := fun_mk (st := sCheckRoad) l2 c2 k2
  have Mcheck_road := PySem.W.mg_of X G a2
  have Fgaps_between := fun_mk (st := sGapsBetween) l3 c3 k3
  have Mgaps_between := PySem.W.mg_of X G a3
  have Fdistances := fun_mk (st := sDistances) l4 c4 k4
  have Mdistances := PySem.W.mg_of X G a4
  have Fmirrored := fun_mk (st := sMirrored) l5 c5 k5
  have Mmirrored := PySem.W.mg_of X G a5
  have Fspread := fun_mk (st := sSpread) l6 c6 k6
  have Mspread := PySem.W.mg_of X G a6
  have Fcheck_bounds := fun_mk (st := dCheckBounds) l7 c7 k7
  have Mcheck_bounds := PySem.W.mg_of X G a7
  have Fall_sums := fun_mk (st := dAllSums) l8 c8 k8
  have Mall_sums := PySem.W.mg_of X G a8
  have Fcheck_sums := fun_mk (st := dCheckSums) l9 c9 k9
  have Mcheck_sums := PySem.W.mg_of X G a9
  have Fcrossed := fun_mk (st := dCrossed) l10 c10 k10
  have Mcrossed := PySem.W.mg_of X G a10
  have Fcheck_gaps := fun_mk (st := sCheckGaps) l11 c11 k11
  have Mcheck_gaps := PySem.W.mg_of X G a11
  have Fleast_lacking := fun_mk (st := sLeast) l12 c12 k12
  have Mleast_lacking := PySem.W.mg_of X G a12
  have Frest_without := fun_mk (st := sRestWithout) l13 c13 k13
  have Mrest_without := PySem.W.mg_of X G a13
  have Fsure_places := fun_mk (st := dSurePlaces) l14 c14 k14
  have Msure_places := PySem.W.mg_of X G a14
  have Fwith_place := fun_mk (st := dWithPlace) l15 c15 k15
  have Mwith_place := PySem.W.mg_of X G a15
  have Fplaces_to_try := fun_mk (st := dPlacesToTry) l16 c16 k16
  have Mplaces_to_try := PySem.W.mg_of X G a16
  have Ftrials_behind := fun_mk (st := dTrialsBehind) l17 c17 k17
  have Mtrials_behind := PySem.W.mg_of X G a17
  have Froads_behind := fun_mk (st := dRoadsBehind) l18 c18 k18
  have Mroads_behind := PySem.W.mg_of X G a18
  have Ftrials := fun_mk (st := dTrials) l19 c19 k19
  have Mtrials := PySem.W.mg_of X G a19
  have Froads := fun_mk (st := dRoads) l20 c20 k20
  have Mroads := PySem.W.mg_of X G a20
  have F_law_cell_at := fun_mk (st := sCell) l21 c21 k21
  have M_law_cell_at := PySem.W.mg_of X G a21
  have F_law_between := fun_mk (st := sBetween) l22 c22 k22
  have M_law_between := PySem.W.mg_of X G a22
  have F_law_road := fun_mk (st := sRoad) l23 c23 k23
  have M_law_road := PySem.W.mg_of X G a23
  have F_law_meet := fun_mk (st := sMeet) l24 c24 k24
  have M_law_meet := PySem.W.mg_of X G a24
  have F_law_folded := fun_mk (st := sFolded) l25 c25 k25
  have M_law_folded := PySem.W.mg_of X G a25
  have Flaw := fun_mk (st := sLaw) l26 c26 k26
  have Mlaw := PySem.W.mg_of X G a26
  have CMOST_PLACES := PySem.W.mg_of X G m1
  have CLONGEST := PySem.W.mg_of X G m2
  have CMOST_GAPS := PySem.W.mg_of X G m3
  have Nlen := PySem.W.mg_none_of X G z1
  have Nrange := PySem.W.mg_none_of X G z2
  have Nall := PySem.W.mg_none_of X G z3
  have Nsorted := PySem.W.mg_none_of X G z4
  have Nlist := PySem.W.mg_none_of X G z5
  have Nisinstance := PySem.W.mg_none_of X G z6
  have Nint := PySem.W.mg_none_of X G z7
  have Nbool := PySem.W.mg_none_of X G z8
  have Nmax := PySem.W.mg_none_of X G z9
  have Nmin := PySem.W.mg_none_of X G z10
  have Nreversed := PySem.W.mg_none_of X G z11
  have Nset := PySem.W.mg_none_of X G z12
  have NValueError := PySem.W.mg_none_of X G z13
  have Ntuple := PySem.W.mg_none_of X G z14
  have Nstr := PySem.W.mg_none_of X G z15
  have Nabs := PySem.W.mg_none_of X G z16
  have G1 : Mg mg := ⟨Nlen, Nrange, Nall, Nsorted, ⟨_, CLONGEST⟩⟩
  have GP : MgP mg := ⟨G1, ⟨_, CMOST_PLACES⟩⟩
  have GR : MgR mg := ⟨G1, Nreversed⟩
  have GG : MgG mg := ⟨G1, ⟨_, CMOST_GAPS⟩, Nlist⟩
  have G3 : MgL mg := ⟨Nlen, Nrange, Nsorted, Nisinstance, Nint, Nbool, Nlist⟩
  have GA : MgA mg := ⟨G3, Nset, Nmax, Nmin, Nreversed, NValueError, Ntuple, Nstr⟩
  have GS : MgS mg := ⟨Nset, Nsorted⟩
  have GF : MgF mg := ⟨GA, Nabs⟩
  have ON := PySem.W.mg_of X G xN
  have OG := PySem.W.mg_of X G xG
  have OT := PySem.W.mg_of X G xT
  have OM := PySem.W.mg_of X G xM
  have ZXN : XCls K "NoRoad" CN := ⟨xN, eN⟩
  have ZXG : XCls K "NoGaps" CG := ⟨xG, eG⟩
  have ZXT : XCls K "TooMany" CT := ⟨xT, eT⟩
  have ZXM : XCls K "Meets" CM := ⟨xM, eM⟩
  refine ⟨PySem.W.fnOf "law" "law" (defArgs sLaw) (defBody sLaw) (defScope sLaw) .none kV26 dc26 pm26 an26 cd26 ct26, fun s v => .of_eq rfl, fun base _ _ => ?_⟩
  have E1 := ok_isRoad (P := l.prog) (w := w) (base := base) Fis_road Mis_road GP
  have E2 := ok_checkRoadE Fcheck_road Mcheck_road GP ZXN ON E1
  have E5 := ok_mirrored Fmirrored Mmirrored GR E2
  have E3 := ok_gapsBetween (P := l.prog) (w := w) (base := base) Fgaps_between Mgaps_between G1
  have E4 := ok_checkGapsE (P := l.prog) (w := w) (base := base) Fcheck_gaps Mcheck_gaps GG ZXT OT ZXG OG
  have E6 := ok_least Fleast_lacking Mleast_lacking E3
  have E7 := ok_rest Frest_without Mrest_without GG E6 E3
  have S1 := ok_sure (P := l.prog) (w := w) (base := base) Fsure_places Msure_places
  have S2 := ok_put (P := l.prog) (w := w) (base := base) Fwith_place Mwith_place GS
  have S3 := ok_toTry (P := l.prog) (w := w) (base := base) Fplaces_to_try Mplaces_to_try GS
  have S4 := ok_behind Ftrials_behind Mtrials_behind E7 S3 S2 E6 6
  have S5 := ok_trials Ftrials Mtrials (E4.mono (by decide)) (S1.mono (by decide)) S4
  have S6 := ok_ends Froads_behind Mroads_behind E7 S2 6
  have S7 := ok_roads Froads Mroads GS S5 (S1.mono (by decide)) (S6.mono (by decide))
  have E8 := ok_distances Fdistances Mdistances E2 (E3.mono (by decide))
  have E9 := ok_spread Fspread Mspread GR E2 (E3.mono (by decide))
  have Y1 := ok_bounds (P := l.prog) (w := w) (base := base) Fcheck_bounds Mcheck_bounds GP ZXT OT
  have Y2 := ok_allSums (P := l.prog) (w := w) (base := base) Fall_sums Mall_sums GA
  have Y3 := ok_checkSums (P := l.prog) (w := w) (base := base) Fcheck_sums Mcheck_sums GA ZXM OM
  have Y4 := ok_crossed Fcrossed Mcrossed (E2.mono (by decide)) (Y1.mono (by decide)) (Y2.mono (by decide)) E5 (Y3.mono (by decide))
  have L1 := ok_cell (P := l.prog) (w := w) (base := base) F_law_cell_at M_law_cell_at G3
  have L1x := ok_cellX (P := l.prog) (w := w) (base := base) F_law_cell_at M_law_cell_at G3
  have L4 := ok_between (P := l.prog) (w := w) (base := base) F_law_between M_law_between G3
  have L5 := ok_road F_law_road M_law_road G3 L1
  have Q1 := ok_meet (P := l.prog) (w := w) (base := base) F_law_meet M_law_meet GA
  have Q2 := ok_folded (P := l.prog) (w := w) (base := base) F_law_folded M_law_folded GF
  exact ok_law (k := 12) Flaw GA (L1x.mono (by decide)) (L5.mono (by decide)) (L4.mono (by decide)) (Q1.mono (by decide)) (Q2.mono (by decide)) (Y4.mono (by decide)) (S7.mono (by decide)) (E8.mono (by decide)) (E9.mono (by decide))
theorem walk {l : PySem.W.OpenLaw} {q : Program} {loose : List Str} {XP : (Str → Option Value) → Heap → Prop} {YP : World → Heap → Prop} {d : DefRec} {K : Params → PySem.W.Frag} (hn : l.most = some 63) (hdf : d.params.defaults = [])
    (hY : ∀ (w : World) (h : Heap), YP w h → (K w.params).In h)
    (F : ∀ (w : World) (mg : Str → Option Value) (fa : Addr) (h : Heap), (K w.params).In h → h.Ns mainGlobals mg → mg d.name = some (.ref fa) →
      ∃ fd : FuncData, (∀ (s : Shared) (u : Value), BindsTo s fd ⟨[u], []⟩ [("script", u)]) ∧ ∀ base : Heap, (K w.params).In base → base.Ns mainGlobals mg → FnOk l.prog w (K w.params) mg base CX0 13 fa fd ["script"] (spLaw (K w.params))) :
    PySem.W.WalkO q loose XP YP l.row.toRowW d [] (fun f vs => PySem.call f vs) :=
  L2.walk_of (n := 63) (k := 13) (x := "script") (CX := fun _ => CX0) (sp := fun w => spLaw (K w.params)) hn (by decide) hdf ⟨rfl, by decide, by decide⟩ hY F (fun _ _ a ns hl _ hS => ⟨a, ns, rfl, hS, hl, fun _ => rfl⟩) fun _ _ _ _ _ z => z
end Rd
open PySem PySem.W PyProof.Rows
set_option maxRecDepth 100000 in
set_option maxHeartbeats 0 in
theorem PySem.Challenge.cw_roadgaps_k09_whole_crossed_alike_holds : PySem.Challenge.rw_roadgaps_k09_whole_crossed_alike.Holds := by
  w_on; o_law; k_head; (case hw => w_witness2)
  k_fill
  refine Rd.walk (l := PySem.Challenge.rw_roadgaps_k09_whole_crossed_alike) rfl rfl (fun w h Y => PySem.W.kIn_of Y) ?F
  case F =>
    intro w mg fa h KX G hmg
    refine' Rd.all_mk KX G hmg ?a1 ?l1 ?c1 ?k1 ?a2 ?l2 ?c2 ?k2 ?a3 ?l3 ?c3 ?k3 ?a4 ?l4 ?c4 ?k4 ?a5 ?l5 ?c5 ?k5 ?a6 ?l6 ?c6 ?k6 ?a7 ?l7 ?c7 ?k7 ?a8 ?l8 ?c8 ?k8 ?a9 ?l9 ?c9 ?k9 ?a10 ?l10 ?c10 ?k10 ?a11 ?l11 ?c11 ?k11 ?a12 ?l12 ?c12 ?k12 ?a13 ?l13 ?c13 ?k13 ?a14 ?l14 ?c14 ?k14 ?a15 ?l15 ?c15 ?k15 ?a16 ?l16 ?c16 ?k16 ?a17 ?l17 ?c17 ?k17 ?a18 ?l18 ?c18 ?k18 ?a19 ?l19 ?c19 ?k19 ?a20 ?l20 ?c20 ?k20 ?a21 ?l21 ?c21 ?k21 ?a22 ?l22 ?c22 ?k22 ?a23 ?l23 ?c23 ?k23 ?a24 ?l24 ?c24 ?k24 ?a25 ?l25 ?c25 ?k25 ?a26 ?l26 ?c26 ?k26 ?m1 ?m2 ?m3 ?xN ?xG ?xT ?xM ?eN ?eG ?eT ?eM ?z1 ?z2 ?z3 ?z4 ?z5 ?z6 ?z7 ?z8 ?z9 ?z10 ?z11 ?z12 ?z13 ?z14 ?z15 ?z16
    (case a1 => k_is)
    (case l1 => k_is)
    (case c1 => k_is)
    (case k1 => k_is)
    (case a2 => k_is)
    (case l2 => k_is)
    (case c2 => k_is)
    (case k2 => k_is)
    (case a3 => k_is)
    (case l3 => k_is)
    (case c3 => k_is)
    (case k3 => k_is)
    (case a4 => k_is)
    (case l4 => k_is)
    (case c4 => k_is)
    (case k4 => k_is)
    (case a5 => k_is)
    (case l5 => k_is)
    (case c5 => k_is)
    (case k5 => k_is)
    (case a6 => k_is)
    (case l6 => k_is)
    (case c6 => k_is)
    (case k6 => k_is)
    (case a7 => k_is)
    (case l7 => k_is)
    (case c7 => k_is)
    (case k7 => k_is)
    (case a8 => k_is)
    (case l8 => k_is)
    (case c8 => k_is)
    (case k8 => k_is)
    (case a9 => k_is)
    (case l9 => k_is)
    (case c9 => k_is)
    (case k9 => k_is)
    (case a10 => k_is)
    (case l10 => k_is)
    (case c10 => k_is)
    (case k10 => k_is)
    (case a11 => k_is)
    (case l11 => k_is)
    (case c11 => k_is)
    (case k11 => k_is)
    (case a12 => k_is)
    (case l12 => k_is)
    (case c12 => k_is)
    (case k12 => k_is)
    (case a13 => k_is)
    (case l13 => k_is)
    (case c13 => k_is)
    (case k13 => k_is)
    (case a14 => k_is)
    (case l14 => k_is)
    (case c14 => k_is)
    (case k14 => k_is)
    (case a15 => k_is)
    (case l15 => k_is)
    (case c15 => k_is)
    (case k15 => k_is)
    (case a16 => k_is)
    (case l16 => k_is)
    (case c16 => k_is)
    (case k16 => k_is)
    (case a17 => k_is)
    (case l17 => k_is)
    (case c17 => k_is)
    (case k17 => k_is)
    (case a18 => k_is)
    (case l18 => k_is)
    (case c18 => k_is)
    (case k18 => k_is)
    (case a19 => k_is)
    (case l19 => k_is)
    (case c19 => k_is)
    (case k19 => k_is)
    (case a20 => k_is)
    (case l20 => k_is)
    (case c20 => k_is)
    (case k20 => k_is)
    (case a21 => k_is)
    (case l21 => k_is)
    (case c21 => k_is)
    (case k21 => k_is)
    (case a22 => k_is)
    (case l22 => k_is)
    (case c22 => k_is)
    (case k22 => k_is)
    (case a23 => k_is)
    (case l23 => k_is)
    (case c23 => k_is)
    (case k23 => k_is)
    (case a24 => k_is)
    (case l24 => k_is)
    (case c24 => k_is)
    (case k24 => k_is)
    (case a25 => k_is)
    (case l25 => k_is)
    (case c25 => k_is)
    (case k25 => k_is)
    (case a26 => k_is)
    (case l26 => k_is)
    (case c26 => k_is)
    (case k26 => k_is)
    (case m1 => k_is)
    (case m2 => k_is)
    (case m3 => k_is)
    (case xN => k_is)
    (case xG => k_is)
    (case xT => k_is)
    (case xM => k_is)
    (case eN => k_exc)
    (case eG => k_exc)
    (case eT => k_exc)
    (case eM => k_exc)
    (case z1 => k_is)
    (case z2 => k_is)
    (case z3 => k_is)
    (case z4 => k_is)
    (case z5 => k_is)
    (case z6 => k_is)
    (case z7 => k_is)
    (case z8 => k_is)
    (case z9 => k_is)
    (case z10 => k_is)
    (case z11 => k_is)
    (case z12 => k_is)
    (case z13 => k_is)
    (case z14 => k_is)
    (case z15 => k_is)
    (case z16 => k_is)
