import PyProof.Rows.All
import Wide.All
import OpenK.AllK
import Wide.FinOn
import Lean
import PyProof.EqAt
import PyProof.EqKinds
import PyProof.TupleCall
import PyProof.Rows.SortShell
import PyProof.Rows.SortWalk
import OpenK.KLaw
import KE.KIsAll
import KE.KxBytes
import KE.KSortAsk
import KE.KRevIter
import PyProof.SetScanFacts
import PyProof.Rows.SetFrom
import PyProof.CollectWalk
import PyProof.SetRoads
import PyProof.StrCalls2
import PyProof.StrLawsTight
import PyProof.RulesTry
import KE.KIntText
import PySem.Challenge.RW_roadgaps_k10_written
set_option Elab.async false
set_option linter.all false
set_option maxRecDepth 100000
set_option maxHeartbeats 4000000
/-! THE HAND LAYER, for ints, bools, texts, own classes, LISTS and tuples (index, slices, in, append, pop ..), calls, loops. Paste it whole ahead of your own text; what your proof does not reach may be deleted. -/
namespace L2
open PySem PySem.Spec PyProof.Rows
/-- a key: an int or a str -/
abbrev Key := Sum Int Str
def keyIs : Key → Value → Bool
  | .inl k, v => Value.isInt k v
  | .inr x, v => Value.isStrOf x v
def keyH (w : World) : Key → Int
  | .inl k => hashInt k
  | .inr x => hashStr w x
theorem keyIs_shape : ∀ {k : Key} {v : Value}, keyIs k v = true → (∃ i t, k = Sum.inl i ∧ v = Value.int i t) ∨ (∃ x t, k = Sum.inr x ∧ v = Value.str x t)
  | .inl i, v, h => by
    obtain ⟨t, e⟩ := Value.isInt_shape (k := i) (v := v) h
    exact .inl ⟨i, t, rfl, e⟩
  | .inr x, v, h => by
    obtain ⟨t, e⟩ := Value.isStrOf_shape (x := x) (v := v) h
    exact .inr ⟨x, t, rfl, e⟩
theorem key_ll (a b : Int) : decide ((Sum.inl a : Key) = Sum.inl b) = (a == b) := by
  by_cases e : a = b
  · subst e; simp
  · have h : ¬ (Sum.inl a : Key) = Sum.inl b := fun q => e (Sum.inl.inj q)
    rw [decide_eq_false h]
    exact (beq_eq_false_iff_ne.mpr e).symm
theorem key_rr (a b : Str) : decide ((Sum.inr a : Key) = Sum.inr b) = decide (a = b) := by
  by_cases e : a = b
  · subst e; simp
  · have h : ¬ (Sum.inr a : Key) = Sum.inr b := fun q => e (Sum.inr.inj q)
    rw [decide_eq_false h, decide_eq_false e]
theorem key_lr (a : Int) (b : Str) : decide ((Sum.inl a : Key) = Sum.inr b) = false := decide_eq_false (fun q => nomatch q)
theorem key_rl (a : Str) (b : Int) : decide ((Sum.inr a : Key) = Sum.inl b) = false := decide_eq_false (fun q => nomatch q)
def mixKind (prog : Program) (w : World) : PySem.KeyKind prog w Key where
  is := keyIs
  hash := keyH w
  inj := fun v a b ha hb => by
    rcases keyIs_shape ha with ⟨i, t, rfl, rfl⟩ | ⟨x, t, rfl, rfl⟩
    · rcases keyIs_shape hb with ⟨j, u, rfl, e⟩ | ⟨y, u, rfl, e⟩
      · injection e with e1 _; rw [e1]
      · exact nomatch e
    · rcases keyIs_shape hb with ⟨j, u, rfl, e⟩ | ⟨y, u, rfl, e⟩
      · exact nomatch e
      · injection e with e1 _; rw [e1]
  byValue := fun k v h => by
    rcases keyIs_shape h with ⟨i, t, rfl, rfl⟩ | ⟨x, t, rfl, rfl⟩ <;> rfl
  pyHash := fun hv h => by
    rcases keyIs_shape hv with ⟨i, t, rfl, rfl⟩ | ⟨x, t, rfl, rfl⟩
    · exact wpAny_pyHash_int h
    · exact wpAny_pyHash_str h
  eqBool := fun hu hv h => by
    rcases keyIs_shape hu with ⟨i, t, rfl, rfl⟩ | ⟨x, t, rfl, rfl⟩
    · rcases keyIs_shape hv with ⟨j, u, rfl, rfl⟩ | ⟨y, u, rfl, rfl⟩
      · rw [key_ll] at h; exact wpAny_eqBool_int h
      · rw [key_lr] at h; exact SeqAt.EqAt.int_str i t y u _ _ _ _ h
    · rcases keyIs_shape hv with ⟨j, u, rfl, rfl⟩ | ⟨y, u, rfl, rfl⟩
      · rw [key_rl] at h; exact SeqAt.EqAt.str_int x t j u _ _ _ _ h
      · rw [key_rr] at h; exact wpAny_eqBool_str h
  «strs» := fun k x t v h => by
    rcases keyIs_shape h with ⟨i, u, rfl, e⟩ | ⟨y, u, rfl, e⟩
    · exact nomatch e
    · injection e with e1 _
      subst e1
      cases v <;> rfl
end L2
namespace L2
open PySem PySem.Spec PyProof.Rows
/-- a value, without the heap -/
inductive V where
  | non | bl (b : Bool) | int (i : Int) | str (x : Str) | byt (b : Array UInt8) | flt (b : UInt64) | ref (a : Addr) | ty (n : String)
  deriving DecidableEq
def RelV : V → Value → Prop
  | .non, u => u = Value.none
  | .bl b, u => u = Value.bool b
  | .int i, u => ∃ t, u = Value.int i t
  | .str x, u => ∃ t, u = Value.str x t
  | .byt b, u => ∃ t, u = Value.bytes b t
  | .flt b, u => ∃ t, u = Value.float b t
  | .ref a, u => u = Value.ref a
  | .ty n, u => u = Value.type n
abbrev Vals : List V → List Value → Prop := Paired RelV
theorem Vals.length {xs : List V} {us : List Value} (r : Vals xs us) : xs.length = us.length := Paired.length r
theorem Vals.get : ∀ {xs : List V} {us : List Value} {i : Nat} {x : V}, Vals xs us → xs[i]? = some x → ∃ u, us[i]? = some u ∧ RelV x u
  | _, _, _, _, .nil, e => by simp at e
  | _, _, 0, _, .cons r _, e => by simp at e; subst e; exact ⟨_, rfl, r⟩
  | _, _, i + 1, x, .cons _ t, e => by
    obtain ⟨u, h1, h2⟩ := Vals.get (i := i) (x := x) t (by simpa using e)
    exact ⟨u, by simpa using h1, h2⟩
theorem Vals.set {x : V} {u : Value} (r : RelV x u) : ∀ {xs : List V} {us : List Value} (i : Nat), Vals xs us → Vals (xs.set i x) (us.set i u)
  | _, _, _, .nil => .nil
  | _, _, 0, .cons _ t => .cons r t
  | _, _, i + 1, .cons q t => .cons q (Vals.set r i t)
theorem Vals.append : ∀ {xs ys : List V} {us ws : List Value}, Vals xs us → Vals ys ws → Vals (xs ++ ys) (us ++ ws)
  | _, _, _, _, .nil, s => s
  | _, _, _, _, .cons r t, s => .cons r (Vals.append t s)
theorem Vals.take : ∀ {xs : List V} {us : List Value} (n : Nat), Vals xs us → Vals (xs.take n) (us.take n)
  | _, _, 0, _ => .nil
  | _, _, _ + 1, .nil => .nil
  | _, _, n + 1, .cons r t => .cons r (Vals.take n t)
theorem Vals.drop : ∀ {xs : List V} {us : List Value} (n : Nat), Vals xs us → Vals (xs.drop n) (us.drop n)
  | _, _, 0, r => r
  | _, _, _ + 1, .nil => .nil
  | _, _, n + 1, .cons _ t => Vals.drop n t
def RelO : Option V → Option Value → Prop
  | some v, some u => RelV v u
  | none, none => True
  | _, _ => False
def KV {κ : Type} : List (κ × V) → List (κ × Value) → Prop := Paired fun (p : κ × V) (q : κ × Value) => p.1 = q.1 ∧ RelV p.2 q.2
/-- a key of a dict (00_mix): an int or a text -/
def kV : Key → V
  | .inl i => .int i
  | .inr x => .str x
/-- what stands at a tracked address -/
inductive HO where
  /-- a list -/
  | lst (xs : List V)
  /-- a tuple (never changes) -/
  | tup (xs : List V)
  /-- a dict whose keys are ints and texts; one whose keys are tuples of ints and texts (the empty one is both) -/
  | dK (kvs : List (Key × V)) | dT (kvs : List (List Key × V))
  /-- a set of ints: its members, its size -/
  | set (S : Int → Bool) (n : Nat)
  /-- an instance of the class at C, its dict at dx, its attributes -/
  | ins (C dx : Addr) (fs : List (Str × V))
  /-- the dict of the instance at x -/
  | own (x : Addr)
  /-- the dict of an exception -/
  | xd (fs : List (Str × V))
  /-- a bound method, f of x -/
  | met (f x : Addr)
  /-- a range object lo, lo + 1, .. below hi -/
  | rng (lo hi : Int)
  /-- a thing that is known to the object (the script; a dict while a loop walks it): read, never written while it is so -/
  | frz (o : Obj) (u : HO)
  /-- a code object's table -/
  | tbl (ps : Array Value)
  /-- any other thing, by what is true of its one object (a def of one's own: SetO a S n := HO.ext fun h => ..) -/
  | ext (φ : Heap → Prop)
abbrev Hp := Addr → Option HO
def upd (H : Hp) (a : Addr) (o : HO) : Hp := fun b => if b = a then some o else H b
theorem upd_same {H : Hp} {a : Addr} {o : HO} : upd H a o a = some o := by unfold upd; rw [if_pos rfl]
theorem upd_ne {H : Hp} {a b : Addr} {o : HO} (h : b ≠ a) : upd H a o b = H b := by unfold upd; rw [if_neg h]
theorem upd_upd {H : Hp} {a : Addr} {o u : HO} : upd (upd H a o) a u = upd H a u := by
  funext b; unfold upd; split <;> rfl
theorem ne_of_none {H : Hp} {a b : Addr} {o : HO} (h : H a = some o) (h' : H b = none) : a ≠ b := by
  intro e; subst e; rw [h] at h'; cases h'
section
variable (P : Program) (w : World)
def ObjOk (H : Hp) (h : Heap) (a : Addr) : HO → Prop
  | .lst xs => xs.length ≤ sizeLine ∧ ∃ (its : List Value) (n : Nat), Vals xs its ∧ h.get? a = some { cls := .type "list", data := .seq its.toArray n }
  | .tup xs => xs.length ≤ sizeLine ∧ ∃ its : List Value, Vals xs its ∧ IsTup h a its.toArray
  | .dK kvs => kvs.length ≤ sizeLine ∧ (a == sysModules) = false ∧ ∃ vs, KV kvs vs ∧ h.DictOf (mixKind P w) a vs
  | .dT kvs => kvs.length ≤ sizeLine ∧ (a == sysModules) = false ∧ ∃ xs : List (List Key × Addr × Value),
      Paired (fun (p : List Key × V) (q : List Key × Addr × Value) => p.1 = q.1 ∧ H q.2.1 = some (.tup (p.1.map kV)) ∧ RelV p.2 q.2.2) kvs xs ∧
      ∃ o es ep, h.get? a = some o ∧ o.ExactDict ∧ o.data = .dict es ep ∧ es.toList = xs.map (entryOfKey (tupleKind (mixKind P w))) ∧ (xs.map (·.1)).Nodup
  | .set S n => h.SetOf (intKind P w) a S n
  | .ins C dx fs => H dx = some (.own a) ∧ fs.length ≤ 1000 ∧ dx ≠ a ∧ h.get? a = some (PySem.W.instObj C dx) ∧
      ∃ mA, h.Ns1 dx mA ∧ (∀ f, RelO (fs.lookup f) (mA f)) ∧ PySem.Within mA (fs.map (·.1))
  | .own _ => ∃ o, h.get? a = some o
  | .xd fs => ∃ mA, h.Ns1 a mA ∧ ∀ f, RelO (fs.lookup f) (mA f)
  | .rng lo hi => ∃ t u v, h.get? a = some { cls := .type "range", data := .fields #[.int lo t, .int hi u, .int 1 v] }
  | .frz o u => h.get? a = some o ∧ ObjOk H h a u
  | .tbl ps => h.get? a = some { cls := .none, data := .fields ps }
  | .met f x => h.get? a = some (PySem.W.methodObj (.ref f) (.ref x))
  | .ext φ => φ h ∧ (∃ o, h.get? a = some o) ∧ ∀ h1 h2 : Heap, φ h1 → (∀ o, h1.get? a = some o → h2.get? a = some o) → φ h2
/-- the abstract heap is held -/
def HOk (H : Hp) (h : Heap) : Prop := ∀ a o, H a = some o → ObjOk P w H h a o
end
section
variable {P : Program} {w : World} {H H' : Hp} {h h' : Heap} {a : Addr} {o : HO}
theorem ObjOk.lt (x : ObjOk P w H h a o) : a < h.objs.size := by
  cases o with
  | lst xs => obtain ⟨_, _, _, _, e⟩ := x; exact Heap.lt_size e
  | tup xs => obtain ⟨_, _, _, p⟩ := x; exact p.lt
  | dK kvs => obtain ⟨_, _, _, _, o, _, _, e, _⟩ := x; exact Heap.lt_size e
  | dT kvs => obtain ⟨_, _, _, _, o, _, _, e, _⟩ := x; exact Heap.lt_size e
  | set S n => obtain ⟨o, _, _, _, e, _⟩ := x; exact Heap.lt_size e
  | ins C dx fs => obtain ⟨_, _, _, e, _⟩ := x; exact Heap.lt_size e
  | own y => obtain ⟨_, e⟩ := x; exact Heap.lt_size e
  | xd fs => obtain ⟨_, ⟨_, _, _, e, _⟩, _⟩ := x; exact Heap.lt_size e
  | rng lo hi => obtain ⟨_, _, _, e⟩ := x; exact Heap.lt_size e
  | frz ob u => obtain ⟨e, _⟩ := x; exact Heap.lt_size e
  | tbl ps => exact Heap.lt_size (show h.get? a = some _ from x)
  | met f y => exact Heap.lt_size (show h.get? a = some _ from x)
  | ext φ => obtain ⟨_, ⟨_, e⟩, _⟩ := x; exact Heap.lt_size e
theorem Paired.mapP {α β : Type} {F G : α → β → Prop} : ∀ {l₁ : List α} {l₂ : List β}, Paired F l₁ l₂ → (∀ a b, F a b → G a b) → Paired G l₁ l₂
  | _, _, .nil, _ => .nil
  | _, _, .cons r t, f => .cons (f _ _ r) (Paired.mapP t f)
/-- what an object's description leans on: its own object, its own dict, the tuples -/
theorem ObjOk.stay (x : ObjOk P w H h a o) (k : ∀ b u, (b = a ∨ H b = some (.own a)) → h.get? b = some u → h'.get? b = some u)
    (ho : ∀ b, H b = some (.own a) → H' b = some (.own a)) (ht : ∀ b xs, H b = some (.tup xs) → H' b = some (.tup xs)) : ObjOk P w H' h' a o := by
  induction o with
  | lst xs => obtain ⟨z, its, n, r, e⟩ := x; exact ⟨z, its, n, r, k _ _ (.inl rfl) e⟩
  | tup xs => obtain ⟨z, its, r, ob, e, c⟩ := x; exact ⟨z, its, r, ob, k _ _ (.inl rfl) e, c⟩
  | dK kvs => obtain ⟨z, y, vs, r, ob, es, ep, e, c⟩ := x; exact ⟨z, y, vs, r, ob, es, ep, k _ _ (.inl rfl) e, c⟩
  | dT kvs =>
    obtain ⟨z, y, xs, r, ob, es, ep, e, c⟩ := x
    exact ⟨z, y, xs, Paired.mapP r fun p q z => ⟨z.1, ht _ _ z.2.1, z.2.2⟩, ob, es, ep, k _ _ (.inl rfl) e, c⟩
  | set S n => obtain ⟨ob, es, ep, t, e, c⟩ := x; exact ⟨ob, es, ep, t, k _ _ (.inl rfl) e, c⟩
  | ins C dx fs =>
    obtain ⟨d, z, ne, e, mA, ⟨od, es, ep, e2, c⟩, r⟩ := x
    exact ⟨ho _ d, z, ne, k _ _ (.inl rfl) e, mA, ⟨od, es, ep, k _ _ (.inr d) e2, c⟩, r⟩
  | own y => obtain ⟨ob, e⟩ := x; exact ⟨ob, k _ _ (.inl rfl) e⟩
  | xd fs => obtain ⟨mA, ⟨od, es, ep, e, c⟩, r⟩ := x; exact ⟨mA, ⟨od, es, ep, k _ _ (.inl rfl) e, c⟩, r⟩
  | rng lo hi => obtain ⟨t, u, v, e⟩ := x; exact ⟨t, u, v, k _ _ (.inl rfl) e⟩
  | frz ob u ih => obtain ⟨e, q⟩ := x; exact ⟨k _ _ (.inl rfl) e, ih q⟩
  | tbl ps =>
    have e : h.get? a = some { cls := .none, data := .fields ps } := x
    show h'.get? a = some { cls := .none, data := .fields ps }
    exact k a _ (.inl rfl) e
  | met f y =>
    have e : h.get? a = some (PySem.W.methodObj (.ref f) (.ref y)) := x
    show h'.get? a = some (PySem.W.methodObj (.ref f) (.ref y))
    exact k a _ (.inl rfl) e
  | ext φ => obtain ⟨p, ⟨o, e⟩, st⟩ := x; exact ⟨st _ _ p fun o q => k _ _ (.inl rfl) q, ⟨o, k _ _ (.inl rfl) e⟩, st⟩
theorem HOk.lt (x : HOk P w H h) (e : H a = some o) : a < h.objs.size := (x a o e).lt
theorem HOk.fresh (x : HOk P w H h) (e : h.objs.size ≤ a) : H a = none := by
  cases q : H a with
  | none => rfl
  | some u => exact absurd (Nat.lt_of_lt_of_le (x.lt q) e) (Nat.lt_irrefl _)
/-- every object of the heap is kept -/
theorem HOk.kept (x : HOk P w H h) (k : ∀ b u, h.get? b = some u → h'.get? b = some u) : HOk P w H h' := fun a o e =>
  (x a o e).stay (fun b u _ q => k b u q) (fun _ q => q) fun _ _ q => q
/-- a new object is laid and tracked -/
theorem HOk.laid (x : HOk P w H h) (k : ∀ b u, h.get? b = some u → h'.get? b = some u) (hp : h.objs.size ≤ a) (new : ObjOk P w (upd H a o) h' a o) : HOk P w (upd H a o) h' := fun b u e => by
  have hn := x.fresh hp
  by_cases hb : b = a
  · subst hb; rw [upd_same] at e; cases e; exact new
  · rw [upd_ne hb] at e
    exact (x b u e).stay (fun c v _ q => k c v q) (fun c q => by rw [upd_ne (ne_of_none q hn)]; exact q) fun c xs q => by rw [upd_ne (ne_of_none q hn)]; exact q
end
/-- what may be read as u: it is u, or a known u -/
def Rd (H : Hp) (a : Addr) (u : HO) : Prop := H a = some u ∨ ∃ o, H a = some (.frz o u)
theorem Rd.of {H : Hp} {a : Addr} {u : HO} (h : H a = some u) : Rd H a u := .inl h
theorem Rd.ok {P : Program} {w : World} {H : Hp} {h : Heap} {a : Addr} {u : HO} (r : Rd H a u) (x : HOk P w H h) : ObjOk P w H h a u := by
  rcases r with r | ⟨o, r⟩
  · exact x a u r
  · obtain ⟨_, q⟩ := x a _ r
    exact q
/-- what may be written -/
def Mut : Option HO → Prop
  | some (.lst _) => True
  | some (.dK _) => True
  | some (.dT _) => True
  | some (.set _ _) => True
  | some (.ins _ _ _) => True
  | some (.ext _) => True
  | _ => False
section
variable {P : Program} {w : World} {H : Hp} {h h' : Heap} {x e : Addr} {o' : HO}
/-- the object at e is changed: x itself, or the dict of the instance x -/
theorem HOk.write (ok : HOk P w H h) (mu : Mut (H x)) (he : e = x ∨ H e = some (.own x)) (k : ∀ b u, b ≠ e → h.get? b = some u → h'.get? b = some u) (heo : ∃ u, h'.get? e = some u)
    (new : ObjOk P w (upd H x o') h' x o') : HOk P w (upd H x o') h' := fun b u q => by
  have nown : ∀ c y, H c = some (.own y) → c ≠ x := fun c y r z => by subst z; rw [r] at mu; exact mu
  have ntup : ∀ c xs, H c = some (.tup xs) → c ≠ x := fun c xs r z => by subst z; rw [r] at mu; exact mu
  by_cases hb : b = x
  · subst hb; rw [upd_same] at q; cases q; exact new
  · rw [upd_ne hb] at q
    by_cases hbe : b = e
    · have q' : H b = some (.own x) := by
        rcases he with z | z
        · exact absurd (hbe.trans z) hb
        · rw [hbe]; exact z
      rw [q] at q'; cases q'
      obtain ⟨v, hv⟩ := heo
      exact ⟨v, by rw [hbe]; exact hv⟩
    · refine (ok b u q).stay (fun c v hc r => k c v ?_ r) (fun c r => by rw [upd_ne (nown c b r)]; exact r) fun c xs r => by rw [upd_ne (ntup c xs r)]; exact r
      rcases hc with rfl | hc
      · exact hbe
      · rintro rfl
        rcases he with z | z
        · exact nown c b hc z
        · rw [hc] at z; cases z; exact hb rfl
end
/-! ### kept unless tracked; of the frames at fs (the callers') the slots may change (an exception that passes writes there); of the records at ex (iterators) nothing is said -/
structure Un (fs ex : List Addr) (H H' : Hp) (h h' : Heap) : Prop where
  keep : ∀ b o, h.get? b = some o → H b = none → b ∉ fs → b ∉ ex → h'.get? b = some o
  slot : ∀ b o, h.get? b = some o → H b = none → b ∈ fs → b ∉ ex → ∃ sl, h'.get? b = some { o with slots := sl }
  free : ∀ b o, h.get? b = some o → H b = none → b ∉ ex → H' b = none
  there : ∀ b o, h.get? b = some o → b ∉ ex → ∃ o', h'.get? b = some o'
  tups : ∀ b xs, H b = some (.tup xs) → H' b = some (.tup xs)
  frzs : ∀ b o u, H b = some (.frz o u) → H' b = some (.frz o u)
  tbls : ∀ b ps, H b = some (.tbl ps) → ∃ more, H' b = some (.tbl (ps ++ more))
section
variable {fs fs' ex ex' : List Addr} {H H1 H2 : Hp} {h h1 h2 h' : Heap} {a x e : Addr} {o : HO}
theorem Un.any (u : Un fs ex H H1 h h1) {b : Addr} {ob : Obj} (q : h.get? b = some ob) (n : H b = none) (hx : b ∉ ex) : ∃ sl, h1.get? b = some { ob with slots := sl } := by
  by_cases hb : b ∈ fs
  · exact u.slot b ob q n hb hx
  · exact ⟨ob.slots, u.keep b ob q n hb hx⟩
theorem Un.trans (a : Un fs ex H H1 h h1) (b : Un fs ex H1 H2 h1 h2) : Un fs ex H H2 h h2 where
  keep := fun c ob q n hc hx => b.keep c ob (a.keep c ob q n hc hx) (a.free c ob q n hx) hc hx
  slot := fun c ob q n hc hx => by
    obtain ⟨sl, e1⟩ := a.slot c ob q n hc hx
    obtain ⟨sl', e2⟩ := b.slot c _ e1 (a.free c ob q n hx) hc hx
    exact ⟨sl', e2⟩
  free := fun c ob q n hx => by
    obtain ⟨o', e1⟩ := a.there c ob q hx
    exact b.free c o' e1 (a.free c ob q n hx) hx
  there := fun c ob q hx => by
    obtain ⟨o', e1⟩ := a.there c ob q hx
    exact b.there c o' e1 hx
  tups := fun c xs q => b.tups c xs (a.tups c xs q)
  frzs := fun c ob xs q => b.frzs c ob xs (a.frzs c ob xs q)
  tbls := fun c ps q => by
    obtain ⟨m1, e1⟩ := a.tbls c ps q
    obtain ⟨m2, e2⟩ := b.tbls c _ e1
    exact ⟨m1 ++ m2, by rw [e2, Array.append_assoc]⟩
theorem Un.kept (k : ∀ b u, h.get? b = some u → h'.get? b = some u) : Un fs ex H H h h' :=
  ⟨fun b ob q _ _ _ => k b ob q, fun b ob q _ _ _ => ⟨ob.slots, k b ob q⟩, fun _ _ _ n _ => n, fun b ob q _ => ⟨ob, k b ob q⟩, fun _ _ q => q, fun _ _ _ q => q, fun _ ps q => ⟨#[], by rw [q]; simp⟩⟩
theorem Un.refl : Un fs ex H H h h := Un.kept fun _ _ q => q
theorem Un.laid (k : ∀ b u, h.get? b = some u → h'.get? b = some u) (hp : h.objs.size ≤ a) (hn : H a = none) : Un fs ex H (upd H a o) h h' where
  keep := fun b u q _ _ _ => k b u q
  slot := fun b u q _ _ _ => ⟨u.slots, k b u q⟩
  free := fun b u q n _ => by rw [upd_ne (Nat.ne_of_lt (Nat.lt_of_lt_of_le (Heap.lt_size q) hp))]; exact n
  there := fun b u q _ => ⟨u, k b u q⟩
  tups := fun b xs q => by rw [upd_ne (ne_of_none q hn)]; exact q
  frzs := fun b u xs q => by rw [upd_ne (ne_of_none q hn)]; exact q
  tbls := fun b ps q => ⟨#[], by rw [upd_ne (ne_of_none q hn), q]; simp⟩
theorem Un.write (mu : Mut (H x)) (he : e = x ∨ H e = some (.own x)) (k : ∀ b u, b ≠ e → h.get? b = some u → h'.get? b = some u) (heo : ∃ u, h'.get? e = some u) : Un fs ex H (upd H x o) h h' := by
  have hx : ∀ b, H b = none → b ≠ x := fun b n z => by subst z; rw [n] at mu; exact mu
  have hb : ∀ b, H b = none → b ≠ e := fun b n z => by
    subst z
    rcases he with r | r
    · exact hx b n r
    · rw [n] at r; cases r
  have hm : ∀ b u, H b = some u → ¬ Mut (some u) → b ≠ x := fun b u q nm z => by subst z; rw [q] at mu; exact nm mu
  refine ⟨fun b u q n _ _ => k b u (hb b n) q, fun b u q n _ _ => ⟨u.slots, k b u (hb b n) q⟩, fun b u q n _ => by rw [upd_ne (hx b n)]; exact n, fun b u q _ => ?_,
    fun b xs q => by rw [upd_ne (hm b _ q fun z => z)]; exact q, fun b u xs q => by rw [upd_ne (hm b _ q fun z => z)]; exact q, fun b ps q => ⟨#[], by rw [upd_ne (hm b _ q fun z => z), q]; simp⟩⟩
  by_cases hbe : b = e
  · subst hbe; exact heo
  · exact ⟨u, k b u hbe q⟩
theorem Un.mono (u : Un fs ex H H1 h h1) (hs : ∀ b ∈ fs, b ∈ fs') (hx : ∀ b ∈ ex, b ∈ ex') : Un fs' ex' H H1 h h1 :=
  ⟨fun b ob q n hb he => u.keep b ob q n (fun z => hb (hs b z)) fun z => he (hx b z), fun _ _ q n _ he => u.any q n fun z => he (hx _ z), fun b ob q n he => u.free b ob q n fun z => he (hx b z), fun b ob q he => u.there b ob q fun z => he (hx b z), u.tups, u.frzs, u.tbls⟩
end
/-! ### the heap without what is tracked -/
def trk (h : Heap) (H : Hp) : List Addr := (List.range h.objs.size).filter fun a => (H a).isSome
def hidT (h : Heap) (H : Hp) : Heap := PySem.W.hideAll h (trk h H)
theorem hidT_size (h : Heap) (H : Hp) : (hidT h H).objs.size = h.objs.size := PySem.W.hideAll_size _ _
theorem hidT_get {h : Heap} {H : Hp} {b : Addr} {o : Obj} (e : h.get? b = some o) (n : H b = none) : (hidT h H).get? b = some o :=
  PySem.W.hideAll_get _ e fun hm => by
    have q : (H b).isSome = true := (List.mem_filter.mp hm).2
    rw [n] at q; simp at q
theorem of_hidT {h : Heap} {H : Hp} {b : Addr} {o : Obj} (e : (hidT h H).get? b = some o) : h.get? b = some o ∧ H b = none := by
  have e' : h.get? b = some o := PySem.W.of_hideAll (trk h H) e
  refine ⟨e', ?_⟩
  cases q : H b with
  | none => rfl
  | some x =>
    have hm : b ∈ trk h H := List.mem_filter.mpr ⟨List.mem_range.mpr (Heap.lt_size e'), by simp [q]⟩
    have z : (hidT h H).get? b = none := PySem.W.hideAll_none (trk h H) hm
    rw [z] at e; cases e
/-! ### OpenK's ledger, filled with every new object but one -/
def allNews (g h : Heap) (L : Addr) : List (Addr × Obj) := (List.range h.objs.size).filterMap fun a => if a = L ∨ (g.get? a).isSome = true then none else (h.get? a).map fun o => (a, o)
def rest (g h : Heap) (L d : Addr) : List (Addr × Obj) := (allNews g h L).filter fun p => decide (p.1 ≠ d)
end L2
namespace L2
open PySem PySem.Spec PyProof.Rows
/-- the module's facts, over the base: the heap at the law's entry without what is tracked there -/
structure Mod (K : PySem.W.Frag) (mg : Str → Option Value) (base : Heap) : Prop where
  kin : K.In base
  glob : base.Ns mainGlobals mg
  blt : ∃ mb, base.Ns builtinsNs mb ∧ ∀ x : Str, x ≠ "__name__" → mb x = bootBuiltins x
  nolimit : base.NoLimit
/-- the context: a def's body (or a comprehension's block) running. base: fixed through the whole law; s₀, H₀: the entry; outer: the frames whose slots others may change (a def's callers); stack: all frames that run;
   ex: iterators that were made ahead of the entry and are walked here (a comprehension's); fn: the names whose cells were made at the entry (a def: all; a comprehension's block: its own); calm: not within an except suite; pn: pins that every state bears; xe: what is wanted of an exception that leaves the code -/
structure Cx where
  prog : Program
  w : World
  K : PySem.W.Frag
  mg : Str → Option Value
  base : Heap
  A : Around
  N : List Str
  s₀ : Shared
  H₀ : Hp
  env : Env
  outer : List Env
  stack : List Env
  ex : List Addr
  fn : Str → Bool
  calm : Bool
  pn : List (Addr × Obj)
  xe : Value → Shared → Prop
/-- the callers' frames -/
def frs (l : List Env) : List Addr := l.filterMap (·.frame)
abbrev Cx.fs (X : Cx) : List Addr := frs X.outer
def Vis (sc : Scope) (x : Str) : Prop := sc.names.lookup x = some .local ∨ sc.names.lookup x = some .cell ∨ sc.names.lookup x = some .free
def Loc (sc : Scope) (x : Str) : Prop := sc.names.lookup x = some .local ∨ sc.names.lookup x = some .cell
def Look (env : Env) (h : Heap) (m : Str → Option Value) (x : Str) (u : Value) : Prop :=
  (env.kindOf x = some .local ∧ m x = some u) ∨ ((env.kindOf x = some .cell ∨ env.kindOf x = some .free) ∧ ∃ c, env.cells.lookup x = some c ∧ h.IsCell c (some u))
structure Cx.Ok (X : Cx) : Prop where
  mod : Mod X.K X.mg X.base
  kind : X.env.scope.kind = .function
  glob : X.env.globals = mainGlobals
  blt : X.env.builtins = builtinsNs
  above : X.s₀.heap.objs.size ≤ X.env.locals
  inj : ∀ x y c, X.env.cells.lookup x = some c → X.env.cells.lookup y = some c → x = y
  has : ∀ x, (X.env.kindOf x = some .cell ∨ X.env.kindOf x = some .free) → ∃ c, X.env.cells.lookup x = some c
  cab : ∀ x c, X.fn x = true → X.env.cells.lookup x = some c → X.s₀.heap.objs.size ≤ c
  hd : X.calm = true → X.A.handled = none
  frames : X.A.frames = some X.stack
  stk : X.stack = X.outer ∨ (X.stack = X.env :: X.outer ∧ X.env.frame = some X.env.locals)
  exf : ∀ b ∈ X.ex, b ≠ X.env.locals ∧ ∀ x c, X.env.cells.lookup x = some c → c ≠ b
  bs : ∀ b o, X.base.get? b = some o → X.s₀.heap.get? b = some o ∧ X.H₀ b = none
  bsz : X.base.objs.size ≤ X.s₀.heap.objs.size
  noex : ∀ b o, X.base.get? b = some o → b ∉ X.ex
  exfs : ∀ b ∈ X.ex, b ∉ X.fs
  funs : X.s₀.heap.FunFrames X.base X.outer
  frf : ∀ b ∈ X.fs, X.H₀ b = none
structure Inv (X : Cx) (pins : List (Addr × Obj)) (σ : List (Option V)) (H : Hp) (s : Shared) : Prop where
  ok : X.Ok
  os : s.os = X.s₀.os
  bare : AllBare s.gens
  base : Un X.fs X.ex X.H₀ H X.s₀.heap s.heap
  loc : ∃ m, s.heap.Ns X.env.locals m ∧ ∀ (i : Nat) (x : Str) (v : V), X.N[i]? = some x → σ[i]? = some (some v) → Vis X.env.scope x → ∃ u, RelV v u ∧ Look X.env s.heap m x u
  cell : ∀ x c, X.env.cells.lookup x = some c → ∃ v, s.heap.IsCell c v
  free : H X.env.locals = none
  freeC : ∀ x c, X.env.cells.lookup x = some c → H c = none
  pin : ∀ p ∈ X.pn ++ pins, s.heap.get? p.1 = some p.2 ∧ H p.1 = none ∧ p.1 ≠ X.env.locals ∧ p.1 ∉ X.fs ∧ ∀ v, p.2.data ≠ .cell v
  hok : HOk X.prog X.w H s.heap
  len : σ.length = X.N.length
section
variable {X : Cx} {pins : List (Addr × Obj)} {σ : List (Option V)} {H H' : Hp} {s : Shared} {h' : Heap}
theorem Cx.Ok.nofr (ok : X.Ok) {b : Addr} {o : Obj} (e : X.base.get? b = some o) : b ∉ X.fs := fun hb => by
  have := (ok.funs.mem hb).1
  rw [e] at this; cases this
theorem Inv.bs (I : Inv X pins σ H s) : ∀ b o, X.base.get? b = some o → s.heap.get? b = some o ∧ H b = none := fun b o e =>
  ⟨I.base.keep b o (I.ok.bs b o e).1 (I.ok.bs b o e).2 (I.ok.nofr e) (I.ok.noex b o e), I.base.free b o (I.ok.bs b o e).1 (I.ok.bs b o e).2 (I.ok.noex b o e)⟩
theorem Inv.bk (I : Inv X pins σ H s) : ∀ b o, X.base.get? b = some o → s.heap.get? b = some o := fun b o e => (I.bs b o e).1
theorem Inv.mod (I : Inv X pins σ H s) : Mod X.K X.mg X.base := I.ok.mod
theorem Inv.kIn (I : Inv X pins σ H s) : X.K.In s.heap := I.ok.mod.kin.keeps I.bk
theorem Inv.nolimit (I : Inv X pins σ H s) : s.heap.NoLimit := I.ok.mod.nolimit.keeps I.bk
/-- the frame over the base: for OpenK's rules (K.In X.base is I.mod.kin) -/
theorem Inv.fr (I : Inv X pins σ H s) : ∃ m, Fr X.base X.env.locals s.heap m :=
  let ⟨m, hn, _⟩ := I.loc
  ⟨m, hn, I.bk, Nat.le_trans I.ok.bsz I.ok.above⟩
theorem Inv.lt (I : Inv X pins σ H s) : X.env.locals < s.heap.objs.size := let ⟨_, hn, _⟩ := I.loc; hn.lt
theorem Inv.sz (I : Inv X pins σ H s) : X.s₀.heap.objs.size ≤ s.heap.objs.size := Nat.le_trans I.ok.above (Nat.le_of_lt I.lt)
theorem Inv.nofs (I : Inv X pins σ H s) {a : Addr} (h : s.heap.objs.size ≤ a) : a ∉ X.fs := fun hb => by
  obtain ⟨_, o, ho, _⟩ := I.ok.funs.mem hb
  exact absurd (Nat.lt_of_lt_of_le (Heap.lt_size ho) (Nat.le_trans I.sz h)) (Nat.lt_irrefl _)
theorem Inv.cne (I : Inv X pins σ H s) : ∀ x c, X.env.cells.lookup x = some c → c ≠ X.env.locals := fun x c e z => by
  obtain ⟨v, o, ho, hd⟩ := I.cell x c e
  obtain ⟨m, ⟨o', es, ep, ho', hd', _⟩, _⟩ := I.loc
  rw [z, ho'] at ho; cases ho; rw [hd'] at hd; cases hd
theorem Inv.funs (I : Inv X pins σ H s) : s.heap.FunFrames X.base X.outer := by
  have all : ∀ (l : List Env), (∀ b ∈ frs l, b ∈ X.fs) → X.s₀.heap.FunFrames X.base l → s.heap.FunFrames X.base l := by
    intro l
    induction l with
    | nil => intro _ _; trivial
    | cons env r ih =>
      intro hs hl
      obtain ⟨hk, ⟨L, o, hf, hn, ho, hd⟩, hr⟩ := hl
      have hL : L ∈ X.fs := hs L (by unfold frs; rw [List.filterMap_cons, hf]; exact List.mem_cons_self)
      obtain ⟨sl, e⟩ := I.base.slot L o ho (I.ok.frf L hL) hL fun z => I.ok.exfs L z hL
      exact ⟨hk, ⟨L, _, hf, hn, e, hd⟩, ih (fun b hb => hs b (by unfold frs; rw [List.filterMap_cons, hf]; exact List.mem_cons_of_mem _ hb)) hr⟩
  exact all X.outer (fun _ hb => hb) I.ok.funs
/-- the frames that run, for a call -/
theorem Inv.stack (I : Inv X pins σ H s) : s.heap.FunFrames X.base X.stack := by
  rcases I.ok.stk with e | ⟨e, hf⟩
  · rw [e]; exact I.funs
  · rw [e]
    obtain ⟨m, hn, _⟩ := I.loc
    refine .cons (by rw [I.ok.kind]; decide) hf hn ?_ I.funs
    exact Heap.get?_none_of_le (Nat.le_trans I.ok.bsz I.ok.above)
theorem Inv.stkSub (I : Inv X pins σ H s) : ∀ b ∈ frs X.stack, b ∈ X.env.locals :: X.fs := fun b hb => by
  rcases I.ok.stk with e | ⟨e, hf⟩
  · rw [e] at hb; exact List.mem_cons_of_mem _ hb
  · rw [e] at hb
    unfold frs at hb
    rw [List.filterMap_cons, hf] at hb
    exact hb
theorem Inv.stkFree (I : Inv X pins σ H s) : ∀ b ∈ frs X.stack, H b = none := fun b hb => by
  rcases List.mem_cons.mp (I.stkSub b hb) with e | hb
  · rw [e]; exact I.free
  · obtain ⟨_, o, ho, _⟩ := I.ok.funs.mem hb
    exact I.base.free b o ho (I.ok.frf b hb) fun z => I.ok.exfs b z hb
/-- THE STEP: the untracked objects but the frame and the records at ch are kept (the callers' frames up to slots), the frame's map is kept, the new abstract heap is held -/
theorem Inv.step {g' : Array GenState} {t' : Nat} {d' : Drawn} {ch : List Addr} (I : Inv X pins σ H s)
    (hch : ∀ b ∈ ch, (b ∈ X.ex ∨ X.s₀.heap.objs.size ≤ b) ∧ b ≠ X.env.locals ∧ (∀ x c, X.env.cells.lookup x = some c → c ≠ b) ∧ ∀ p ∈ X.pn ++ pins, p.1 ≠ b)
    (keep : ∀ b o, b ≠ X.env.locals → b ∉ X.fs → b ∉ ch → s.heap.get? b = some o → H b = none → h'.get? b = some o)
    (slot : ∀ b o, b ≠ X.env.locals → b ∈ X.fs → b ∉ ch → s.heap.get? b = some o → H b = none → ∃ sl, h'.get? b = some { o with slots := sl }) (free : ∀ b o, b ∉ ch → s.heap.get? b = some o → H b = none → H' b = none)
    (there : ∀ b o, b ∉ ch → s.heap.get? b = some o → ∃ o', h'.get? b = some o')
    (tups : ∀ b xs, H b = some (.tup xs) → H' b = some (.tup xs)) (frzs : ∀ b o u, H b = some (.frz o u) → H' b = some (.frz o u)) (tbls : ∀ b ps, H b = some (.tbl ps) → ∃ more, H' b = some (.tbl (ps ++ more)))
    (ns : ∀ m, s.heap.Ns X.env.locals m → h'.Ns X.env.locals m) (hok : HOk X.prog X.w H' h') (hg : AllBare g') :
    Inv X pins σ H' { s with heap := h', gens := g', drawn := d', toks := t' } := by
  have neL : ∀ b o, X.s₀.heap.get? b = some o → b ≠ X.env.locals := fun b o e => Nat.ne_of_lt (Nat.lt_of_lt_of_le (Heap.lt_size e) I.ok.above)
  have neC : ∀ b o, X.s₀.heap.get? b = some o → b ∉ X.ex → b ∉ ch := fun b o e hx hb => by
    rcases (hch b hb).1 with z | z
    · exact hx z
    · exact absurd (Nat.lt_of_lt_of_le (Heap.lt_size e) z) (Nat.lt_irrefl _)
  have cellK : ∀ x c, X.env.cells.lookup x = some c → ∀ v, s.heap.IsCell c v → h'.IsCell c v := fun x c e v ⟨o, ho, hd⟩ => by
    have nch : c ∉ ch := fun z => (hch c z).2.2.1 x c e rfl
    by_cases hc : c ∈ X.fs
    · obtain ⟨sl, q⟩ := slot c o (I.cne x c e) hc nch ho (I.freeC x c e)
      exact ⟨_, q, hd⟩
    · exact ⟨o, keep c o (I.cne x c e) hc nch ho (I.freeC x c e), hd⟩
  refine ⟨I.ok, I.os, hg, ⟨fun b o e n hb hx => ?_, fun b o e n hb hx => ?_, fun b o e n hx => ?_, fun b o e hx => ?_, fun b xs e => tups b xs (I.base.tups b xs e), fun b o xs e => frzs b o xs (I.base.frzs b o xs e), fun b ps e => ?_⟩, ?_, fun x c e => ?_, ?_, fun x c e => ?_, fun p hp => ?_, hok, I.len⟩
  · exact keep b o (neL b o e) hb (neC b o e hx) (I.base.keep b o e n hb hx) (I.base.free b o e n hx)
  · obtain ⟨sl, e1⟩ := I.base.slot b o e n hb hx
    obtain ⟨sl', e2⟩ := slot b _ (neL b o e) hb (neC b o e hx) e1 (I.base.free b o e n hx)
    exact ⟨sl', e2⟩
  · obtain ⟨o', e1⟩ := I.base.there b o e hx
    exact free b o' (neC b o e hx) e1 (I.base.free b o e n hx)
  · obtain ⟨o', e1⟩ := I.base.there b o e hx
    exact there b o' (neC b o e hx) e1
  · obtain ⟨m1, e1⟩ := I.base.tbls b ps e
    obtain ⟨m2, e2⟩ := tbls b _ e1
    exact ⟨m1 ++ m2, by rw [e2, Array.append_assoc]⟩
  · obtain ⟨m, hn, hl⟩ := I.loc
    refine ⟨m, ns m hn, fun i x v e1 e2 e3 => ?_⟩
    obtain ⟨u, r, l⟩ := hl i x v e1 e2 e3
    refine ⟨u, r, ?_⟩
    rcases l with l | ⟨k, c, e, z⟩
    · exact .inl l
    · exact .inr ⟨k, c, e, cellK x c e _ z⟩
  · obtain ⟨v, z⟩ := I.cell x c e
    exact ⟨v, cellK x c e v z⟩
  · obtain ⟨m, ⟨o, _, _, ho, _⟩, _⟩ := I.loc
    exact free _ o (fun z => (hch _ z).2.1 rfl) ho I.free
  · obtain ⟨v, o, ho, hd⟩ := I.cell x c e
    exact free c o (fun z => (hch c z).2.2.1 x c e rfl) ho (I.freeC x c e)
  · obtain ⟨e, n, ne, nf, d⟩ := I.pin p hp
    have nch : p.1 ∉ ch := fun z => (hch p.1 z).2.2.2 p hp rfl
    exact ⟨keep p.1 p.2 ne nf nch e n, free p.1 p.2 nch e n, ne, nf, d⟩
/-- .. where the frame's own object is kept too -/
theorem Inv.un {t' : Nat} (I : Inv X pins σ H s) (u : Un X.fs [] H H' s.heap h') (hok : HOk X.prog X.w H' h') : Inv X pins σ H' { s with heap := h', toks := t' } := by
  obtain ⟨m, ⟨o, es, ep, ho, r⟩, _⟩ := id I.loc
  obtain ⟨sl, hL⟩ := u.any ho I.free (by simp)
  exact I.step (g' := s.gens) (d' := s.drawn) (ch := []) (fun _ z => nomatch z) (fun b o _ hb _ e n => u.keep b o e n hb (by simp)) (fun b o _ hb _ e n => u.slot b o e n hb (by simp)) (fun b o _ e n => u.free b o e n (by simp)) (fun b o _ e => u.there b o e (by simp)) u.tups u.frzs u.tbls (fun m' hm => by
    obtain ⟨o', es', ep', ho', r'⟩ := hm
    rw [ho] at ho'; cases ho'
    exact ⟨_, es', ep', hL, r'⟩) hok I.bare
/-- behind a call (or a comprehension's block): the slots of this frame may have changed too, the records at ch may have turned -/
theorem Inv.call {g' : Array GenState} {t' : Nat} {d' : Drawn} {ch : List Addr} (I : Inv X pins σ H s) (u : Un (frs X.stack) ch H H' s.heap h') (hok : HOk X.prog X.w H' h') (hg : AllBare g')
    (hch : ∀ b ∈ ch, (b ∈ X.ex ∨ X.s₀.heap.objs.size ≤ b) ∧ b ≠ X.env.locals ∧ (∀ x c, X.env.cells.lookup x = some c → c ≠ b) ∧ ∀ p ∈ X.pn ++ pins, p.1 ≠ b) :
    Inv X pins σ H' { s with heap := h', gens := g', drawn := d', toks := t' } := by
  obtain ⟨m, ⟨o, es, ep, ho, r⟩, _⟩ := id I.loc
  obtain ⟨sl, hL⟩ := u.any ho I.free fun z => (hch _ z).2.1 rfl
  exact I.step (ch := ch) hch (fun b o hL hb hc e n => u.keep b o e n (fun z => (List.mem_cons.mp (I.stkSub b z)).elim hL hb) hc) (fun b o _ _ hc e n => u.any e n hc) (fun b o hc e n => u.free b o e n hc) (fun b o hc e => u.there b o e hc) u.tups u.frzs u.tbls (fun m' hm => by
    obtain ⟨o', es', ep', ho', r'⟩ := hm
    rw [ho] at ho'; cases ho'
    exact ⟨_, es', ep', hL, r'⟩) hok hg
/-- an untracked record of ours (an iterator) has turned -/
theorem Inv.turned {t' : Nat} {it : Addr} (I : Inv X pins σ H s) (k : ∀ b o, b ≠ it → s.heap.get? b = some o → h'.get? b = some o) (hn : H it = none) (hL : it ≠ X.env.locals)
    (h1 : it ∈ X.ex ∨ X.s₀.heap.objs.size ≤ it) (h2 : ∀ x c, X.env.cells.lookup x = some c → c ≠ it) (h3 : ∀ p ∈ X.pn ++ pins, p.1 ≠ it) : Inv X pins σ H { s with heap := h', toks := t' } := by
  have nit : ∀ b u, H b = some u → b ≠ it := fun b u e z => by rw [z, hn] at e; cases e
  refine I.step (g' := s.gens) (d' := s.drawn) (ch := [it]) (fun b hb => ?_) (fun b o _ _ hc e _ => k b o (fun z => hc (by simp [z])) e) (fun b o _ _ hc e _ => ⟨o.slots, k b o (fun z => hc (by simp [z])) e⟩) (fun _ _ _ _ n => n)
    (fun b o hc e => ⟨o, k b o (fun z => hc (by simp [z])) e⟩) (fun _ _ e => e) (fun _ _ _ e => e) (fun b ps e => ⟨#[], by rw [e]; simp⟩) (fun m hm => ?_) (fun b u e => ?_) I.bare
  · have e : b = it := by simpa using hb
    subst e
    exact ⟨h1, hL, h2, h3⟩
  · obtain ⟨o, es, ep, ho, r⟩ := hm
    exact ⟨o, es, ep, k _ o (Ne.symm hL) ho, r⟩
  · refine (I.hok b u e).stay (fun c v hc q => k c v ?_ q) (fun _ q => q) fun _ _ q => q
    rcases hc with z | z
    · rw [z]; exact nit b u e
    · exact nit c _ z
theorem Inv.tok (I : Inv X pins σ H s) (t : Nat) : Inv X pins σ H { s with toks := t } := I.un (h' := s.heap) (t' := t) Un.refl I.hok
/-- all objects kept -/
theorem Inv.kept {t' : Nat} (I : Inv X pins σ H s) (k : ∀ b u, s.heap.get? b = some u → h'.get? b = some u) : Inv X pins σ H { s with heap := h', toks := t' } := I.un (Un.kept k) (I.hok.kept k)
/-- a new object laid and tracked -/
theorem Inv.laid {a : Addr} {o : HO} {t' : Nat} (I : Inv X pins σ H s) (k : ∀ b u, s.heap.get? b = some u → h'.get? b = some u) (hp : s.heap.objs.size ≤ a) (new : ObjOk X.prog X.w (upd H a o) h' a o) :
    Inv X pins σ (upd H a o) { s with heap := h', toks := t' } := I.un (Un.laid k hp (I.hok.fresh hp)) (I.hok.laid k hp new)
/-- an object written -/
theorem Inv.write {x e : Addr} {o : HO} {t' : Nat} (I : Inv X pins σ H s) (mu : Mut (H x)) (he : e = x ∨ H e = some (.own x)) (k : ∀ b u, b ≠ e → s.heap.get? b = some u → h'.get? b = some u) (heo : ∃ u, h'.get? e = some u)
    (new : ObjOk X.prog X.w (upd H x o) h' x o) : Inv X pins σ (upd H x o) { s with heap := h', toks := t' } := I.un (Un.write mu he k heo) (I.hok.write mu he k heo new)
/-- forgetting slots, pins -/
theorem Inv.weak {σ' : List (Option V)} (I : Inv X pins σ H s) (hl : σ'.length = σ.length) (w : ∀ (i : Nat) v, σ'[i]? = some (some v) → σ[i]? = some (some v)) : Inv X pins σ' H s :=
  ⟨I.ok, I.os, I.bare, I.base, let ⟨m, hn, hl'⟩ := I.loc; ⟨m, hn, fun i x v e1 e2 e3 => hl' i x v e1 (w i v e2) e3⟩, I.cell, I.free, I.freeC, I.pin, I.hok, hl.trans I.len⟩
theorem Inv.pins_of {pins' : List (Addr × Obj)} (I : Inv X pins σ H s) (h : ∀ p ∈ pins', s.heap.get? p.1 = some p.2 ∧ H p.1 = none ∧ p.1 ≠ X.env.locals ∧ p.1 ∉ X.fs ∧ ∀ v, p.2.data ≠ .cell v) : Inv X pins' σ H s :=
  ⟨I.ok, I.os, I.bare, I.base, I.loc, I.cell, I.free, I.freeC, fun p hp => (List.mem_append.mp hp).elim (fun z => I.pin p (List.mem_append_left _ z)) (h p), I.hok, I.len⟩
theorem nodup_ix {N : List Str} (hN : N.Nodup) {i j : Nat} {x : Str} (a : N[i]? = some x) (b : N[j]? = some x) : i = j := by
  obtain ⟨h1, e1⟩ := List.getElem?_eq_some_iff.mp a
  obtain ⟨h2, e2⟩ := List.getElem?_eq_some_iff.mp b
  exact (List.getElem_inj hN).mp (e1.trans e2.symm)
/-- a name is stored; what changed -/
theorem store_ok2 {M : Model} {A : Around} {E : Value → Shared → Prop} {i : Nat} {x : Str} {v : V} {u : Value} {Q : Unit → Shared → Prop} (I : Inv X pins σ H s) (hN : X.N.Nodup) (hi : X.N[i]? = some x) (hx : Loc X.env.scope x) (r : RelV v u)
    (h : ∀ s', Inv X pins (σ.set i (some v)) H s' → (∃ a, Heap.SameBut a s.heap s'.heap ∧ (a = X.env.locals ∨ X.env.cells.lookup x = some a)) → Q () s') (hf : X.fn x = true ∨ X.env.scope.names.lookup x = some .local := by first | exact .inl rfl | exact .inr rfl | assumption) : wpAny M A (storeName X.env x u) Q E s := by
  obtain ⟨m, hn, hl⟩ := id I.loc
  have hcls : (X.env.scope.kind == .class || (X.env.scope.kind == .module && X.env.locals != X.env.globals)) = false := by rw [I.ok.kind]; rfl
  have hiσ : i < σ.length := by rw [I.len]; exact (List.getElem?_eq_some_iff.mp hi).1
  have cne := I.cne
  have tracked : ∀ {a : Addr} {h' : Heap}, (∃ o, s.heap.get? a = some o ∧ H a = none) → Heap.SameBut a s.heap h' → HOk X.prog X.w H h' := fun {a h'} ha hs b ob e => by
    obtain ⟨_, _, hfree⟩ := ha
    refine (I.hok b ob e).stay (fun c w' hc q => (hs.2 c ?_).trans q) (fun _ q => q) fun _ _ q => q
    rintro rfl
    rcases hc with rfl | hc
    · rw [hfree] at e; cases e
    · rw [hfree] at hc; cases hc
  rcases hx with hk | hk
  · refine wpAny_storeName_local hk hn (fun h' hn' hs => ?_) hcls
    obtain ⟨oL, _, _, hoL, _⟩ := id hn
    refine h _ ⟨I.ok, I.os, I.bare, ⟨fun b o e n hb hx => ?_, fun b o e n hb hx => ?_, I.base.free, fun b o e hx => ?_, I.base.tups, I.base.frzs, I.base.tbls⟩, ⟨_, hn', fun j y v' e1 e2 e3 => ?_⟩, fun y c e => ?_, I.free, I.freeC, fun p hp => ?_, tracked ⟨oL, hoL, I.free⟩ hs, by simpa using I.len⟩ ⟨_, hs, .inl rfl⟩
    · exact (hs.2 b (Nat.ne_of_lt (Nat.lt_of_lt_of_le (Heap.lt_size e) I.ok.above))).trans (I.base.keep b o e n hb hx)
    · obtain ⟨sl, e1⟩ := I.base.slot b o e n hb hx
      exact ⟨sl, (hs.2 b (Nat.ne_of_lt (Nat.lt_of_lt_of_le (Heap.lt_size e) I.ok.above))).trans e1⟩
    · obtain ⟨o', e1⟩ := I.base.there b o e hx
      exact ⟨o', (hs.2 b (Nat.ne_of_lt (Nat.lt_of_lt_of_le (Heap.lt_size e) I.ok.above))).trans e1⟩
    · by_cases hj : j = i
      · subst hj
        rw [hi] at e1; cases e1
        rw [List.getElem?_set_self hiσ] at e2
        cases e2
        exact ⟨u, r, .inl ⟨hk, by simp⟩⟩
      · rw [List.getElem?_set_ne (Ne.symm hj)] at e2
        obtain ⟨u', r', q⟩ := hl j y v' e1 e2 e3
        refine ⟨u', r', ?_⟩
        rcases q with ⟨k, e⟩ | ⟨k, c, e, z⟩
        · refine .inl ⟨k, ?_⟩
          have : y ≠ x := fun e => hj (nodup_ix hN e1 (e ▸ hi))
          simp [this, e]
        · exact .inr ⟨k, c, e, z.sameBut hs (cne y c e)⟩
    · obtain ⟨w', z⟩ := I.cell y c e
      exact ⟨w', z.sameBut hs (cne y c e)⟩
    · obtain ⟨e, n, ne, nf, d⟩ := I.pin p hp
      exact ⟨(hs.2 p.1 ne).trans e, n, ne, nf, d⟩
  · have hfn : X.fn x = true := by
      rcases hf with z | z
      · exact z
      · rw [z] at hk; cases hk
    obtain ⟨c, hc⟩ := I.ok.has x (.inl hk)
    obtain ⟨w', z⟩ := I.cell x c hc
    refine wpAny_storeName_cell I.ok.kind hk hc z (fun h' hc' hs => ?_)
    obtain ⟨oc, hoc, hocd⟩ := id z
    refine h { s with heap := h' } ⟨I.ok, I.os, I.bare, ⟨fun b o e n hb hx => ?_, fun b o e n hb hx => ?_, I.base.free, fun b o e hx => ?_, I.base.tups, I.base.frzs, I.base.tbls⟩, ⟨m, hn.sameBut hs (Ne.symm (cne x c hc)), fun j y v' e1 e2 e3 => ?_⟩, fun y c' e => ?_, I.free, I.freeC, fun p hp => ?_, tracked ⟨oc, hoc, I.freeC x c hc⟩ hs, by simpa using I.len⟩ ⟨c, hs, .inr hc⟩
    · exact (hs.2 b (Nat.ne_of_lt (Nat.lt_of_lt_of_le (Heap.lt_size e) (I.ok.cab x c hfn hc)))).trans (I.base.keep b o e n hb hx)
    · obtain ⟨sl, e1⟩ := I.base.slot b o e n hb hx
      exact ⟨sl, (hs.2 b (Nat.ne_of_lt (Nat.lt_of_lt_of_le (Heap.lt_size e) (I.ok.cab x c hfn hc)))).trans e1⟩
    · obtain ⟨o', e1⟩ := I.base.there b o e hx
      exact ⟨o', (hs.2 b (Nat.ne_of_lt (Nat.lt_of_lt_of_le (Heap.lt_size e) (I.ok.cab x c hfn hc)))).trans e1⟩
    · by_cases hj : j = i
      · subst hj
        rw [hi] at e1; cases e1
        rw [List.getElem?_set_self hiσ] at e2
        cases e2
        exact ⟨u, r, .inr ⟨.inl hk, c, hc, hc'⟩⟩
      · rw [List.getElem?_set_ne (Ne.symm hj)] at e2
        obtain ⟨u', r', q⟩ := hl j y v' e1 e2 e3
        refine ⟨u', r', ?_⟩
        rcases q with q | ⟨k, c', e, z'⟩
        · exact .inl q
        · refine .inr ⟨k, c', e, z'.sameBut hs ?_⟩
          rintro rfl
          exact hj (nodup_ix hN e1 (I.ok.inj _ _ _ e hc ▸ hi))
    · by_cases hcc : c' = c
      · subst hcc; exact ⟨_, hc'⟩
      · obtain ⟨w2, z2⟩ := I.cell y c' e
        exact ⟨w2, z2.sameBut hs hcc⟩
    · obtain ⟨e, n, ne, nf, d⟩ := I.pin p hp
      refine ⟨(hs.2 p.1 ?_).trans e, n, ne, nf, d⟩
      intro q
      rw [q, hoc] at e
      have q' : oc = p.2 := Option.some.inj e
      exact d w' (by rw [← q']; exact hocd)
theorem store_ok {M : Model} {A : Around} {E : Value → Shared → Prop} {i : Nat} {x : Str} {v : V} {u : Value} {Q : Unit → Shared → Prop} (I : Inv X pins σ H s) (hN : X.N.Nodup) (hi : X.N[i]? = some x) (hx : Loc X.env.scope x) (r : RelV v u)
    (h : ∀ s', Inv X pins (σ.set i (some v)) H s' → Q () s') (hf : X.fn x = true ∨ X.env.scope.names.lookup x = some .local := by first | exact .inl rfl | exact .inr rfl | assumption) : wpAny M A (storeName X.env x u) Q E s :=
  store_ok2 I hN hi hx r (fun s' I' _ => h s' I') hf
/-- behind a call or a block, the state as it is -/
theorem Inv.call' {s' : Shared} {ch : List Addr} (I : Inv X pins σ H s) (ho : s'.os = s.os) (u : Un (frs X.stack) ch H H' s.heap s'.heap) (hok : HOk X.prog X.w H' s'.heap) (hg : AllBare s'.gens)
    (hch : ∀ b ∈ ch, (b ∈ X.ex ∨ X.s₀.heap.objs.size ≤ b) ∧ b ≠ X.env.locals ∧ (∀ x c, X.env.cells.lookup x = some c → c ≠ b) ∧ ∀ p ∈ X.pn ++ pins, p.1 ≠ b) : Inv X pins σ H' s' := by
  obtain ⟨h', g', d', t', o'⟩ := s'
  have e : o' = s.os := ho
  subst e
  exact I.call (g' := g') (t' := t') (d' := d') u hok hg hch
end
/-! ### the judgements -/
/-- an exception: its class, its own dict's address (where it has one), the abstract heap behind it -/
abbrev XK := Value → Option Addr → Hp → Prop
abbrev St := List (Option V)
abbrev VK := V → Hp → Prop
/-- an expression's reading; a test's; an argument list's -/
abbrev TE := St → Hp → VK → Prop
abbrev TT := St → Hp → (Bool → Hp → Prop) → Prop
abbrev TA := St → Hp → (List V → Hp → Prop) → Prop
/-- what is wanted behind a statement -/
structure Ends where
  nx : St → Hp → Prop
  rt : VK
  bk : St → Hp → Prop := fun _ _ => False
  ct : St → Hp → Prop := fun _ _ => False
abbrev TS := Ends → St → Hp → Prop
def EP (X : Cx) (pins : List (Addr × Obj)) (σ : St) (Q : VK) (u : Value) (s' : Shared) : Prop := ∃ v H', Inv X pins σ H' s' ∧ RelV v u ∧ Q v H'
def TP (X : Cx) (pins : List (Addr × Obj)) (σ : St) (Q : Bool → Hp → Prop) (b : Bool) (s' : Shared) : Prop := ∃ H', Inv X pins σ H' s' ∧ Q b H'
def AP (X : Cx) (pins : List (Addr × Obj)) (σ : St) (Q : List V → Hp → Prop) (us : List Value) (s' : Shared) : Prop := ∃ vs H', Inv X pins σ H' s' ∧ Vals vs us ∧ Q vs H'
def SP (X : Cx) (pins : List (Addr × Obj)) (D : Ends) (f : Flow) (s' : Shared) : Prop :=
  match f with
  | .next => ∃ σ' H', Inv X pins σ' H' s' ∧ D.nx σ' H'
  | .brk => ∃ σ' H', Inv X pins σ' H' s' ∧ D.bk σ' H'
  | .cont => ∃ σ' H', Inv X pins σ' H' s' ∧ D.ct σ' H'
  | .ret u => ∃ v σ' H', Inv X pins σ' H' s' ∧ RelV v u ∧ D.rt v H'
def PE (X : Cx) (e : Expr) (t : TE) : Prop :=
  ∀ (pins : List (Addr × Obj)) (s : Shared) (σ : St) (H : Hp) (Q : VK), Inv X pins σ H s → t σ H Q → wpAny (model X.prog X.w) X.A (eval e X.env) (EP X pins σ Q) X.xe s
def PT (X : Cx) (e : Expr) (t : TT) : Prop :=
  ∀ (pins : List (Addr × Obj)) (s : Shared) (σ : St) (H : Hp) (Q : Bool → Hp → Prop), Inv X pins σ H s → t σ H Q → wpAny (model X.prog X.w) X.A (isTrue e X.env (eval e X.env)) (TP X pins σ Q) X.xe s
/-- a test whatever its 'whole' is (and, or) -/
def PW (X : Cx) (e : Expr) (t : TT) : Prop :=
  ∀ (whole : Sem Value) (pins : List (Addr × Obj)) (s : Shared) (σ : St) (H : Hp) (Q : Bool → Hp → Prop), Inv X pins σ H s → t σ H Q → wpAny (model X.prog X.w) X.A (isTrue e X.env whole) (TP X pins σ Q) X.xe s
theorem PW.pt {X : Cx} {e : Expr} {t : TT} (h : PW X e t) : PT X e t := h _
/-- an argument list (no star), from the left -/
def PA (X : Cx) (es : List Expr) (t : TA) : Prop :=
  ∀ (pos : Pos) (pins : List (Addr × Obj)) (s : Shared) (σ : St) (H : Hp) (Q : List V → Hp → Prop), Inv X pins σ H s → t σ H Q → wpAny (model X.prog X.w) X.A (spliced (backTo pos (starEach es X.env))) (AP X pins σ Q) X.xe s
def PS (X : Cx) (st : Stmt) (t : TS) : Prop :=
  ∀ (pins : List (Addr × Obj)) (s : Shared) (σ : St) (H : Hp) (D : Ends), Inv X pins σ H s → t D σ H → wpAny (model X.prog X.w) X.A (exec st X.env) (SP X pins D) X.xe s
def PSs (X : Cx) (st : List Stmt) (t : TS) : Prop :=
  ∀ (pins : List (Addr × Obj)) (s : Shared) (σ : St) (H : Hp) (D : Ends), Inv X pins σ H s → t D σ H → wpAny (model X.prog X.w) X.A (execs st X.env) (SP X pins D) X.xe s
/-- weaken the end -/
theorem thn {α : Type} {t : Sem α} {Q Q' : α → Shared → Prop} {M : Model} {A : Around} {E : Value → Shared → Prop} {s : Shared} (h : wpAny M A t Q E s) (hQ : ∀ a s, Q a s → Q' a s) : wpAny M A t Q' E s := wpAny_mono h hQ fun _ _ x => x
end L2
namespace L2
open PySem PySem.Spec PyProof.Rows
section
variable {X : Cx}
/-! ### names and constants -/
def tVar (i : Nat) : TE := fun σ H Q => ∃ v, σ[i]? = some (some v) ∧ Q v H
def tC (v : V) : TE := fun _ H Q => Q v H
theorem pe_var {i : Nat} {x : Str} {pos : Pos} (hN : X.N[i]? = some x) (hv : Vis X.env.scope x) (hd : (x == ("__debug__" : Str)) = false := by decide) (hcd : (x == ("__classdict__" : Str)) = false := by decide) : PE X (.Name x pos) (tVar i) := by
  intro pins s σ H Q I h
  obtain ⟨v, e, h⟩ := h
  obtain ⟨m, hn, hl⟩ := I.loc
  obtain ⟨u, r, l⟩ := hl i x v hN e hv
  have fin : EP X pins σ Q u s := ⟨v, H, I, r, h⟩
  rcases l with ⟨hk, hm⟩ | ⟨hk, c, hc, hcell⟩
  · exact wpAny_Name (wpAny_loadName_local I.ok.kind hk hn hm fin) hd
  · rcases hk with hk | hk
    · exact wpAny_Name (wpAny_loadName_cell I.ok.kind hk hc hcell fin) hd
    · exact wpAny_Name (wpAny_loadName_free I.ok.kind hk hc hcell fin hcd) hd
theorem pe_int {i j pos} : PE X (.Constant (.int i) j pos) (tC (.int i)) := fun _ _ _ H _ I h => wpAny_Constant_int ⟨.int i, H, I.tok _, ⟨_, rfl⟩, h⟩
theorem pe_bl {b j pos} : PE X (.Constant (.bool b) j pos) (tC (.bl b)) := fun _ _ _ H _ I h => Constant_bool ⟨.bl b, H, I, rfl, h⟩
theorem pe_str {x j pos} : PE X (.Constant (.str x) j pos) (tC (.str x)) := fun _ _ _ H _ I h => Calls.Constant_str ⟨.str x, H, I.tok _, ⟨_, rfl⟩, h⟩
/-- a global name of the def -/
def Gl (X : Cx) (x : Str) : Prop := X.env.kindOf x = some .globalImplicit
theorem ld_glob {E : Value → Shared → Prop} {pins : List (Addr × Obj)} {s : Shared} {σ : St} {H : Hp} {x : Str} {u : Value} {pos : Pos} {Q : Value → Shared → Prop} (I : Inv X pins σ H s) (hg : Gl X x) (hm : X.mg x = some u) (h : Q u s)
    (hd : (x == ("__debug__" : Str)) = false := by decide) : wpAny (model X.prog X.w) X.A (eval (.Name x pos) X.env) Q E s :=
  Calls.Name_function_global I.ok.kind hg (Calls.loadGlobal_global (by rw [I.ok.glob]; exact I.mod.glob.keeps I.bk) hm h) hd
theorem ld_blt {E : Value → Shared → Prop} {pins : List (Addr × Obj)} {s : Shared} {σ : St} {H : Hp} {x : Str} {u : Value} {pos : Pos} {Q : Value → Shared → Prop} (I : Inv X pins σ H s) (hg : Gl X x) (hm : X.mg x = none) (hv : bootBuiltins x = some u) (h : Q u s)
    (hn : x ≠ "__name__" := by decide) (hd : (x == ("__debug__" : Str)) = false := by decide) : wpAny (model X.prog X.w) X.A (eval (.Name x pos) X.env) Q E s := by
  obtain ⟨mb, h1, h2⟩ := I.mod.blt
  exact Calls.Name_function_global I.ok.kind hg (Calls.loadGlobal_builtin (by rw [I.ok.glob]; exact I.mod.glob.keeps I.bk) hm (by rw [I.ok.blt]; exact h1.keeps I.bk) ((h2 x hn).trans hv) h) hd
/-- a module's constant, a class, a function, as a value -/
theorem pe_glob {x : Str} {v : V} {u : Value} {pos : Pos} (hg : Gl X x) (hm : X.mg x = some u) (r : RelV v u) (hd : (x == ("__debug__" : Str)) = false := by decide) : PE X (.Name x pos) (tC v) :=
  fun _ _ _ H _ I h => ld_glob I hg hm ⟨v, H, I, r, h⟩ hd
theorem pe_bltn {x : Str} {v : V} {u : Value} {pos : Pos} (hg : Gl X x) (hm : X.mg x = none) (hv : bootBuiltins x = some u) (r : RelV v u) (hn : x ≠ "__name__" := by decide) (hd : (x == ("__debug__" : Str)) = false := by decide) : PE X (.Name x pos) (tC v) :=
  fun _ _ _ H _ I h => ld_blt I hg hm hv ⟨v, H, I, r, h⟩ hn hd
variable {a b : Expr} {ta tb : TE} {pos : Pos}
/-- a comparison as a value, as a test -/
def tB (t : TE) : TT := fun σ H Q => t σ H fun x H1 => ∃ c, x = .bl c ∧ Q c H1
/-- an expression whose value is a bool, as a test -/
theorem pt_val {e : Expr} {t : TE} (h : PE X e t) (he : ∀ whole, isTrue e X.env whole = (do let v ← whole; standAt e.pos; holding [v] (truthy v)) := by intro _; rfl) : PT X e (tB t) := by
  intro pins s σ H Q I hw
  refine isTrue_plain (thn (h pins s σ H _ I hw) fun v s1 ⟨x, H1, I1, r1, q1⟩ => ?_) (he _)
  obtain ⟨d, rfl, q⟩ := q1
  cases r1
  exact wpAny_truthy_bool ⟨H1, I1, q⟩
/-! ### and, or, not -/
variable {tA tB' : TT} {rest : List Expr}
def tAnd (t u : TT) : TT := fun σ H Q => t σ H fun c H1 => if c = true then u σ H1 Q else Q false H1
def tOr (t u : TT) : TT := fun σ H Q => t σ H fun c H1 => if c = true then Q true H1 else u σ H1 Q
def tNot (t : TT) : TT := fun σ H Q => t σ H fun c H1 => Q (!c) H1
theorem pw_and1 (ha : PT X a tA) : PW X (.BoolOp .And [a] pos) tA := by
  intro wh pins s σ H Q I h
  refine isTrue_and (thn (ha pins s σ H Q I h) fun c s1 e => ?_)
  cases c with
  | true => exact isTrue_and_nil e
  | false => exact e
theorem pw_or1 (ha : PT X a tA) : PW X (.BoolOp .Or [a] pos) tA := by
  intro wh pins s σ H Q I h
  refine isTrue_or (thn (ha pins s σ H Q I h) fun c s1 e => ?_)
  cases c with
  | false => exact isTrue_or_nil e
  | true => exact e
theorem pw_and (ha : PT X a tA) (hb : PW X (.BoolOp .And (b :: rest) pos) tB') : PW X (.BoolOp .And (a :: b :: rest) pos) (tAnd tA tB') := by
  intro wh pins s σ H Q I h
  refine isTrue_and (thn (ha pins s σ H _ I h) fun c s1 ⟨H1, I1, q1⟩ => ?_)
  cases c with
  | true => exact hb wh pins s1 σ H1 Q I1 q1
  | false => exact ⟨H1, I1, q1⟩
theorem pw_or (ha : PT X a tA) (hb : PW X (.BoolOp .Or (b :: rest) pos) tB') : PW X (.BoolOp .Or (a :: b :: rest) pos) (tOr tA tB') := by
  intro wh pins s σ H Q I h
  refine isTrue_or (thn (ha pins s σ H _ I h) fun c s1 ⟨H1, I1, q1⟩ => ?_)
  cases c with
  | true => exact ⟨H1, I1, q1⟩
  | false => exact hb wh pins s1 σ H1 Q I1 q1
theorem pt_not (ha : PT X a tA) : PT X (.UnaryOp .Not a pos) (tNot tA) := by
  intro pins s σ H Q I h
  exact isTrue_not (ha pins s σ H (fun c H1 => Q (!c) H1) I h)
/-- .. as values (bools) -/
def tAndV (ta tb : TE) : TE := fun σ H Q => ta σ H fun x H1 => ∃ c, x = .bl c ∧ if c = true then tb σ H1 Q else Q (.bl false) H1
def tNotV (ta : TE) : TE := fun σ H Q => ta σ H fun x H1 => ∃ c, x = .bl c ∧ Q (.bl (!c)) H1
theorem pe_one {op} {t : TE} (h : PE X a t) : PE X (.BoolOp op [a] pos) t := fun pins s σ H Q I hw => BoolOp_one (h pins s σ H Q I hw)
theorem pe_and (ha : PE X a ta) (hb : PE X (.BoolOp .And (b :: rest) pos) tb) : PE X (.BoolOp .And (a :: b :: rest) pos) (tAndV ta tb) := by
  intro pins s σ H Q I h
  refine BoolOp_and (thn (ha pins s σ H _ I h) fun v s1 ⟨x, H1, I1, r1, q1⟩ => ?_)
  obtain ⟨c, rfl, q1⟩ := q1
  cases r1
  refine wpAny_truthy_bool ?_
  cases c with
  | true => exact hb pins s1 σ H1 Q I1 q1
  | false => exact ⟨.bl false, H1, I1, rfl, q1⟩
theorem pe_not (ha : PE X a ta) : PE X (.UnaryOp .Not a pos) (tNotV ta) := by
  intro pins s σ H Q I h
  refine UnaryOp_ (thn (ha pins s σ H _ I h) fun v s1 ⟨x, H1, I1, r1, q1⟩ => ?_)
  obtain ⟨c, rfl, q1⟩ := q1
  cases r1
  exact not_of (wpAny_truthy_bool ⟨.bl (!c), H1, I1, rfl, q1⟩)
end
end L2
namespace L2
open PySem PySem.Spec PyProof.Rows
/-! ### a list, a tuple that is read: tracked, frozen, or an object of the module -/
def SqL (K : PySem.W.Frag) (H : Hp) (a : Addr) (xs : List V) : Prop :=
  Rd H a (.lst xs) ∨
    ∃ (o : Obj) (its : Array Value) (n : Nat), K.lookup a = some o ∧ o.cls = .type "list" ∧ o.dict = none ∧ o.data = .seq its n ∧ its.size ≤ sizeLine ∧ Vals xs its.toList
def SqT (K : PySem.W.Frag) (H : Hp) (a : Addr) (xs : List V) : Prop :=
  Rd H a (.tup xs) ∨
    ∃ (o : Obj) (its : Array Value) (n : Nat), K.lookup a = some o ∧ o.cls = .type "tuple" ∧ o.data = .seq its n ∧ its.size ≤ sizeLine ∧ Vals xs its.toList
def absV : Value → Option V
  | .none => some .non
  | .bool b => some (.bl b)
  | .int i _ => some (.int i)
  | .str x _ => some (.str x)
  | .bytes b _ => some (.byt b)
  | .float b _ => some (.flt b)
  | .ref a => some (.ref a)
  | .type n => some (.ty n)
  | _ => none
theorem RelV.abs {x : V} {u : Value} (r : RelV x u) : absV u = some x := by
  cases x with
  | non => cases r; rfl
  | bl _ => cases r; rfl
  | int _ => obtain ⟨t, rfl⟩ := r; rfl
  | str _ => obtain ⟨t, rfl⟩ := r; rfl
  | byt _ => obtain ⟨t, rfl⟩ := r; rfl
  | flt _ => obtain ⟨t, rfl⟩ := r; rfl
  | ref _ => cases r; rfl
  | ty _ => cases r; rfl
theorem RelV.inj {x y : V} {u : Value} (r : RelV x u) (q : RelV y u) : x = y := Option.some.inj (r.abs.symm.trans q.abs)
theorem Vals.inj : ∀ {xs ys : List V} {us : List Value}, Vals xs us → Vals ys us → xs = ys
  | _, _, _, .nil, .nil => rfl
  | _, _, _, .cons r t, .cons r' t' => by rw [r.inj r', Vals.inj t t']
section
variable {X : Cx} {pins : List (Addr × Obj)} {σ : St} {H : Hp} {s : Shared} {a : Addr} {xs ys : List V}
theorem SqL.of {K : PySem.W.Frag} (h : H a = some (.lst xs)) : SqL K H a xs := .inl (.inl h)
theorem SqT.of {K : PySem.W.Frag} (h : H a = some (.tup xs)) : SqT K H a xs := .inl (.inl h)
theorem Inv.list (I : Inv X pins σ H s) (h : SqL X.K H a xs) : ∃ its : List Value, Vals xs its ∧ PlainL s.heap a its.toArray ∧ xs.length ≤ sizeLine := by
  rcases h with h | ⟨o, its, n, hk, hc, hd, hs, hz, r⟩
  · obtain ⟨z, its, n, r, e⟩ := h.ok I.hok
    exact ⟨its, r, ⟨_, n, e, rfl, rfl, rfl⟩, z⟩
  · refine ⟨its.toList, r, ⟨o, n, I.kIn a o hk, hc, hd, by simpa using hs⟩, ?_⟩
    have e := r.length
    simp only [Array.length_toList] at e
    omega
theorem Inv.tuple (I : Inv X pins σ H s) (h : SqT X.K H a xs) : ∃ its : List Value, Vals xs its ∧ IsTup s.heap a its.toArray ∧ xs.length ≤ sizeLine := by
  rcases h with h | ⟨o, its, n, hk, hc, hs, hz, r⟩
  · obtain ⟨z, its, r, p⟩ := h.ok I.hok
    exact ⟨its, r, p, z⟩
  · refine ⟨its.toList, r, ⟨o, I.kIn a o hk, hc, n, by simpa using hs⟩, ?_⟩
    have e := r.length
    simp only [Array.length_toList] at e
    omega
theorem Inv.list_inj (I : Inv X pins σ H s) (h : SqL X.K H a xs) (h' : SqL X.K H a ys) : xs = ys := by
  obtain ⟨its, r, ⟨o, n, e, _, _, d⟩, _⟩ := I.list h
  obtain ⟨its', r', ⟨o', n', e', _, _, d'⟩, _⟩ := I.list h'
  rw [e] at e'; cases e'
  rw [d] at d'
  injection d' with d1 _
  have : its = its' := by simpa using congrArg Array.toList d1
  subst this
  exact r.inj r'
end
/-! ### another wish about exceptions -/
abbrev Cx.wish (X : Cx) (E : Value → Shared → Prop) : Cx := { X with xe := E }
/-- no exception leaves -/
abbrev Cx.nox (X : Cx) : Cx := X.wish fun _ _ => False
theorem Cx.Ok.wish {X : Cx} (ok : X.Ok) (E : Value → Shared → Prop) : (X.wish E).Ok :=
  ⟨ok.mod, ok.kind, ok.glob, ok.blt, ok.above, ok.inj, ok.has, ok.cab, ok.hd, ok.frames, ok.stk, ok.exf, ok.bs, ok.bsz, ok.noex, ok.exfs, ok.funs, ok.frf⟩
theorem Cx.Ok.unwish {X : Cx} {E : Value → Shared → Prop} (ok : (X.wish E).Ok) : X.Ok :=
  ⟨ok.mod, ok.kind, ok.glob, ok.blt, ok.above, ok.inj, ok.has, ok.cab, ok.hd, ok.frames, ok.stk, ok.exf, ok.bs, ok.bsz, ok.noex, ok.exfs, ok.funs, ok.frf⟩
section
variable {X : Cx} {pins : List (Addr × Obj)} {σ : St} {H : Hp} {s : Shared} {E : Value → Shared → Prop}
theorem Inv.wish (I : Inv X pins σ H s) (E : Value → Shared → Prop) : Inv (X.wish E) pins σ H s := ⟨I.ok.wish E, I.os, I.bare, I.base, I.loc, I.cell, I.free, I.freeC, I.pin, I.hok, I.len⟩
theorem Inv.unwish (I : Inv (X.wish E) pins σ H s) : Inv X pins σ H s := ⟨I.ok.unwish, I.os, I.bare, I.base, I.loc, I.cell, I.free, I.freeC, I.pin, I.hok, I.len⟩
theorem SP.unwish {D : Ends} {f : Flow} {s' : Shared} (h : SP (X.wish E) pins D f s') : SP X pins D f s' := by
  cases f with
  | next => obtain ⟨σ', H', I, q⟩ := h; exact ⟨σ', H', I.unwish, q⟩
  | brk => obtain ⟨σ', H', I, q⟩ := h; exact ⟨σ', H', I.unwish, q⟩
  | cont => obtain ⟨σ', H', I, q⟩ := h; exact ⟨σ', H', I.unwish, q⟩
  | ret u => obtain ⟨v, σ', H', I, r, q⟩ := h; exact ⟨v, σ', H', I.unwish, r, q⟩
theorem PE.nox {e : Expr} {t : TE} (h : PE X.nox e t) : PE X e t := fun pins s σ H Q I hw =>
  wpAny_mono (h pins s σ H Q (I.wish _) hw) (fun _ _ ⟨v, H', I', r, q⟩ => ⟨v, H', I'.unwish, r, q⟩) fun _ _ z => False.elim z
theorem PT.nox {e : Expr} {t : TT} (h : PT X.nox e t) : PT X e t := fun pins s σ H Q I hw =>
  wpAny_mono (h pins s σ H Q (I.wish _) hw) (fun _ _ ⟨H', I', q⟩ => ⟨H', I'.unwish, q⟩) fun _ _ z => False.elim z
theorem PSs.nox {st : List Stmt} {t : TS} (h : PSs X.nox st t) : PSs X st t := fun pins s σ H D I hw =>
  wpAny_mono (h pins s σ H D (I.wish _) hw) (fun _ _ q => q.unwish) fun _ _ z => False.elim z
end
/-! ### blocks and small statements -/
section
variable {X : Cx} {st : Stmt} {rest : List Stmt} {t u : TS} {e : Expr} {te : TE} {pos : Pos}
def tNext : TS := fun D σ H => D.nx σ H
def tSeq (t u : TS) : TS := fun D σ H => t { D with nx := u D } σ H
theorem pss_nil : PSs X [] tNext := fun _ _ σ H _ I h => wpAny_execs_nil ⟨σ, H, I, h⟩
theorem pss_cons (h1 : PS X st t) (h2 : PSs X rest u) : PSs X (st :: rest) (tSeq t u) := by
  intro pins s σ H D I h
  refine wpAny_execs_cons (thn (h1 pins s σ H { D with nx := u D } I h) fun f s1 q => ?_)
  cases f with
  | next =>
    obtain ⟨σ', H', I', q⟩ := q
    exact h2 pins s1 σ' H' D I' q
  | ret v => exact q
  | brk => exact q
  | cont => exact q
theorem pss_one (h1 : PS X st t) : PSs X [st] t := by
  intro pins s σ H D I h
  refine wpAny_execs_cons (thn (h1 pins s σ H D I h) fun f s1 q => ?_)
  cases f with
  | next => exact wpAny_execs_nil q
  | ret v => exact q
  | brk => exact q
  | cont => exact q
/-- in a def's body nothing is shown -/
theorem Inv.quiet {pins : List (Addr × Obj)} {σ : St} {H : Hp} {s : Shared} (I : Inv X pins σ H s) : interactive X.env = false := by simp [interactive, I.ok.kind]
/-- an expression whose value is dropped -/
def tDrop (te : TE) : TS := fun D σ H => te σ H fun _ H1 => D.nx σ H1
theorem ps_expr (he : PE X e te) (hs : swapsWith e none pos.line X.env = pure false := by rfl) : PS X (.Expr e pos) (tDrop te) := by
  intro pins s σ H D I h
  exact wpAny_Expr_any (thn (he pins s σ H _ I h) fun v s1 ⟨x, H1, I1, r1, q1⟩ => ⟨σ, H1, I1, q1⟩) I.quiet hs
def tRet (te : TE) : TS := fun D σ H => te σ H D.rt
theorem ps_ret (he : PE X e te) : PS X (.Return (some e) pos) (tRet te) := by
  intro pins s σ H D I h
  exact wpAny_Return_some (thn (he pins s σ H _ I h) fun v s1 ⟨x, H1, I1, r1, q1⟩ => ⟨x, σ, H1, I1, r1, q1⟩)
def tIfS (c : TT) (t u : TS) : TS := fun D σ H => c σ H fun b H1 => if b = true then t D σ H1 else u D σ H1
theorem ps_if {c : Expr} {a b : List Stmt} {tc : TT} (hc : PT X c tc) (ha : PSs X a t) (hb : PSs X b u) : PS X (.If c a b pos) (tIfS tc t u) := by
  intro pins s σ H D I h
  refine wpAny_If (thn (hc pins s σ H _ I h) fun d s1 ⟨H1, I1, q1⟩ => ?_)
  cases d with
  | true => exact ha pins s1 σ H1 D I1 q1
  | false => exact hb pins s1 σ H1 D I1 q1
/-- code that the proof never comes to -/
def tNever : TS := fun _ _ _ => False
theorem pss_never {sts : List Stmt} : PSs X sts tNever := fun _ _ _ _ _ _ h => h.elim
end
/-! ### targets -/
abbrev TG := V → St → Hp → (St → Hp → Prop) → Prop
def PG (X : Cx) (target : Expr) (t : TG) : Prop :=
  ∀ (pins : List (Addr × Obj)) (s : Shared) (σ : St) (H : Hp) (v : V) (u : Value) (Q : St → Hp → Prop), Inv X pins σ H s → RelV v u → t v σ H Q →
    wpAny (model X.prog X.w) X.A (assign target X.env u) (fun _ s' => ∃ σ' H', Inv X pins σ' H' s' ∧ Q σ' H') X.xe s
/-- o[i] = v, by values -/
abbrev TSet := V → V → V → Hp → (Hp → Prop) → Prop
def PSet (X : Cx) (t : TSet) : Prop :=
  ∀ (pins : List (Addr × Obj)) (s : Shared) (σ : St) (H : Hp) (o i v : V) (ov iv u : Value) (Q : Hp → Prop), Inv X pins σ H s → RelV o ov → RelV i iv → RelV v u → t o i v H Q →
    wpAny (model X.prog X.w) X.A (setItem ov iv u) (fun _ s' => ∃ H', Inv X pins σ H' s' ∧ Q H') X.xe s
section
variable {X : Cx} {pos : Pos}
def gName (i : Nat) : TG := fun v σ H Q => Q (σ.set i (some v)) H
theorem pg_name {i : Nat} {x : Str} (hN : X.N.Nodup) (hi : X.N[i]? = some x) (hx : Loc X.env.scope x) (hf : X.fn x = true ∨ X.env.scope.names.lookup x = some .local := by first | exact .inl rfl | exact .inr rfl | assumption) : PG X (.Name x pos) (gName i) := by
  intro pins s σ H v u Q I r h
  exact wpAny_assign_Name (store_ok I hN hi hx r (fun s' I' => ⟨_, H, I', h⟩) hf)
/-- o[i] = .. -/
def gSub (to ti : TE) (t : TSet) : TG := fun v σ H Q => to σ H fun o H1 => ti σ H1 fun i H2 => t o i v H2 fun H3 => Q σ H3
theorem pg_sub {o i : Expr} {to ti : TE} {t : TSet} (ho : PE X o to) (hi : PE X i ti) (hs : PSet X t)
    (ha : ∀ v, assign (.Subscript o i pos) X.env v = (do
      let ov ← holding [v] (eval o X.env)
      let iv ← holding [v, ov] (eval i X.env)
      standAt pos
      holding [v, ov, iv] (setItem ov iv v)
      release [v, ov, iv] []) := by intro _; rfl) : PG X (.Subscript o i pos) (gSub to ti t) := by
  intro pins s σ H v u Q I r h
  rw [ha]
  refine wpAny_bind (wpAny_holding (thn (ho pins s σ H _ I h) fun ov s1 ⟨x, H1, I1, r1, q1⟩ => ?_))
  refine wpAny_bind (wpAny_holding (thn (hi pins s1 σ H1 _ I1 q1) fun iv s2 ⟨y, H2, I2, r2, q2⟩ => ?_))
  refine wpAny_bind (wpAny_standAt (wpAny_bind (wpAny_holding (thn (hs pins s2 σ H2 x y v ov iv u _ I2 r1 r2 r q2) fun _ s3 ⟨H3, I3, q3⟩ => ?_))))
  exact wpAny_release ⟨σ, H3, I3, q3⟩
/-- target = value -/
def tAsg (te : TE) (g : TG) : TS := fun D σ H => te σ H fun x H1 => g x σ H1 D.nx
theorem ps_asg {tg e : Expr} {te : TE} {g : TG} (he : PE X e te) (hg : PG X tg g) (hs : swapsWithSole [tg] e pos.line X.env = pure false := by rfl) (hw : swappedStores [tg] e X.env = pure none := by rfl)
    (h1 : (assignEach [tg] X.env).map (·.2) = [assign tg X.env] := by rfl) : PS X (.Assign [tg] e pos) (tAsg te g) := by
  intro pins s σ H D I h
  refine wpAny_Assign_stores (thn (he pins s σ H _ I h) fun v s1 ⟨x, H1, I1, r1, q1⟩ => ?_) hs hw
  rw [h1]
  exact thn (hg pins s1 σ H1 x v _ I1 r1 q1) fun _ s2 q => q
/-- name = value -/
theorem ps_set {i : Nat} {x : Str} {e : Expr} {te : TE} {pos' : Pos} (hN : X.N.Nodup) (hi : X.N[i]? = some x) (hx : Loc X.env.scope x) (he : PE X e te) (hs : swapsWith e (some (.Name x pos')) pos.line X.env = pure false := by rfl) (hf : X.fn x = true ∨ X.env.scope.names.lookup x = some .local := by first | exact .inl rfl | exact .inr rfl | assumption) :
    PS X (.Assign [.Name x pos'] e pos) (tAsg te (gName i)) := by
  intro pins s σ H D I h
  refine wpAny_Assign_Name (thn (he pins s σ H _ I h) fun v s1 ⟨y, H1, I1, r1, q1⟩ => ?_) hs
  exact store_ok I1 hN hi hx r1 (fun s2 I2 => ⟨_, H1, I2, q1⟩) hf
end
/-! ### while -/
section
variable {X : Cx} {pos : Pos}
end
/-! ### what a loop or a comprehension walks -/
/-- at turn i: it yields x (the heap may grow), or it stops -/
structure It where
  go : Nat → Hp → Prop
  yld : Nat → Hp → V → Hp → Prop
  stop : Nat → Hp → Prop
/-- the iterator's own objects may turn: they are not the frame's, not pinned, younger than the entry (or a comprehension's own) -/
def FpOk (X : Cx) (pins : List (Addr × Obj)) (H : Hp) (b : Addr) : Prop :=
  H b = none ∧ b ≠ X.env.locals ∧ b ∉ X.fs ∧ (b ∈ X.ex ∨ X.s₀.heap.objs.size ≤ b) ∧ (∀ x c, X.env.cells.lookup x = some c → c ≠ b) ∧ ∀ p ∈ X.pn ++ pins, p.1 ≠ b
theorem Inv.fpOk {X : Cx} {pins : List (Addr × Obj)} {σ : St} {H H' : Hp} {s : Shared} {b : Addr} (I : Inv X pins σ H s) (hb : s.heap.objs.size ≤ b) (hn : H' b = none) : FpOk X pins H' b := by
  refine ⟨hn, Nat.ne_of_gt (Nat.lt_of_lt_of_le I.lt hb), I.nofs hb, .inr (Nat.le_trans I.sz hb), fun x c e z => ?_, fun p hp z => ?_⟩
  · obtain ⟨v, q⟩ := I.cell x c e
    exact absurd (Nat.lt_of_lt_of_le q.lt (by rw [z]; exact hb)) (Nat.lt_irrefl _)
  · exact absurd (Nat.lt_of_lt_of_le (Heap.lt_size (I.pin p hp).1) (by rw [z]; exact hb)) (Nat.lt_irrefl _)
structure Turn (P : Program) (w : World) (K : PySem.W.Frag) (tg : Expr) (J : It) (fp : List Addr) (it : Addr) (tn : Nat → Heap → Prop) : Prop where
  mem : it ∈ fp
  obj : ∀ i h, tn i h → ∀ b ∈ fp, ∃ o, h.get? b = some o ∧ ∀ v, o.data ≠ .cell v
  keep : ∀ i h h', tn i h → (∀ b ∈ fp, ∀ o, h.get? b = some o → h'.get? b = some o) → tn i h'
  item : ∀ (X : Cx), X.prog = P → X.w = w → X.K = K → X.calm = true → ∀ (i : Nat) (pins : List (Addr × Obj)) (s : Shared) (σ : St) (H : Hp) (E : Value → Shared → Prop), Inv X pins σ H s → (∀ b ∈ fp, FpOk X pins H b) → tn i s.heap → J.go i H →
    wpAny (model P w) X.A (pyNext (.ref it)) (fun r s1 => ∃ u, r = some u ∧
      wpAny (model P w) X.A (letOwnedTupleGo tg (.ref it) u) (fun _ s2 => ∃ x H', Inv X pins σ H' s2 ∧ RelV x u ∧ J.yld i H x H' ∧ tn (i + 1) s2.heap ∧ ∀ b ∈ fp, H' b = none) E s1) E s
  done : ∀ (X : Cx), X.prog = P → X.w = w → X.K = K → X.calm = true → ∀ (i : Nat) (pins : List (Addr × Obj)) (s : Shared) (σ : St) (H : Hp) (E : Value → Shared → Prop), Inv X pins σ H s → (∀ b ∈ fp, FpOk X pins H b) → tn i s.heap → J.stop i H →
    wpAny (model P w) X.A (pyNext (.ref it)) (fun r s1 => r = none ∧ Inv X pins σ H s1) E s
  self : ∀ (A : Around) (i : Nat) (s : Shared) (Q : Value → Shared → Prop) (E : Value → Shared → Prop), tn i s.heap → Q (.ref it) s → wpAny (model P w) A (pyIter (.ref it)) Q E s
abbrev TI := St → Hp → (It → Hp → Prop) → Prop
/-- an iterator has come -/
def PIE (X : Cx) (pins : List (Addr × Obj)) (σ : St) (tg : Expr) (R : It → Hp → Prop) (itv : Value) (s2 : Shared) : Prop :=
  ∃ (it : Addr) (fp : List Addr) (tn : Nat → Heap → Prop) (J : It) (H' : Hp), itv = .ref it ∧ Inv X pins σ H' s2 ∧ Turn X.prog X.w X.K tg J fp it tn ∧ tn 0 s2.heap ∧ (∀ b ∈ fp, FpOk X pins H' b) ∧ R J H'
def PI (X : Cx) (tg iter : Expr) (wi : TI) : Prop :=
  ∀ (pins : List (Addr × Obj)) (s : Shared) (σ : St) (H : Hp) (R : It → Hp → Prop), Inv X pins σ H s → wi σ H R →
    wpAny (model X.prog X.w) X.A (eval iter X.env) (fun v s1 => wpAny (model X.prog X.w) X.A (pyIter v) (PIE X pins σ tg R) X.xe s1) X.xe s
/-- the step ahead of the store is nothing for an iterator that keeps no tuple -/
theorem go_of {M : Model} {A : Around} {E : Value → Shared → Prop} {s : Shared} {tg : Expr} {it : Addr} {u : Value} {o : Obj} {n : String} {vs : Array Value} {Q : Unit → Shared → Prop} (ho : s.heap.get? it = some o) (hc : o.cls = .type n) (hd : o.data = .fields vs)
    (hn : ["enumerate", "zip", "dict_itemiterator", "dict_reverseitemiterator", "odict_iterator", "itertools.zip_longest", "itertools.pairwise"].contains n = false) (hQ : Q () s) : wpAny M A (letOwnedTupleGo tg (.ref it) u) Q E s := by
  unfold letOwnedTupleGo
  cases tg <;> first
    | exact wpAny_pure hQ
    | (cases u <;> first
        | exact wpAny_pure hQ
        | (refine wpAny_bind (wpAny_load ho ?_)
           rw [hc, hd]
           show wpAny M A (if (["enumerate", "zip", "dict_itemiterator", "dict_reverseitemiterator", "odict_iterator", "itertools.zip_longest", "itertools.pairwise"].contains n && vs[0]? == some (rawInt _)) = true then _ else _) Q E s
           rw [if_neg (by intro h; rw [hn, Bool.false_and] at h; cases h)]
           exact wpAny_pure hQ))
/-- the list at a, as it stands at each turn (a loop may append to it) -/
def Itl (K : PySem.W.Frag) (a : Addr) : It :=
  ⟨fun i H => ∃ xs x, SqL K H a xs ∧ xs[i]? = some x, fun i H x H' => H' = H ∧ ∀ xs, SqL K H a xs → xs[i]? = some x, fun i H => ∃ xs, SqL K H a xs ∧ xs.length ≤ i⟩
/-- lo, lo + 1, .. (n of them) -/
def Itr (lo : Int) (n : Nat) : It := ⟨fun i _ => i < n, fun i H x H' => H' = H ∧ x = .int (lo + i), fun i _ => n ≤ i⟩
theorem turn_list {P : Program} {w : World} {K : PySem.W.Frag} {tg : Expr} (a it : Addr) : Turn P w K tg (Itl K a) [it] it (fun i h => h.IsListIter it a i) where
  mem := by simp
  obj := fun i h st b hb => by
    have e : b = it := by simpa using hb
    subst e
    obtain ⟨o, e, c, d⟩ := st
    exact ⟨o, e, fun v z => by rw [d] at z; cases z⟩
  keep := fun i h h' st k => st.at fun o e => k it (by simp) o e
  item := by
    intro X hP hw hK hc i pins s σ H E I hf st hg
    subst hP hw hK
    obtain ⟨xs, x, hq, hx⟩ := hg
    obtain ⟨its, rv, p, hz⟩ := I.list hq
    obtain ⟨u, hu, ru⟩ := rv.get hx
    obtain ⟨f0, f1, f2, f3, f4, f5⟩ := hf it (by simp)
    refine wpAny_pyNext_list_item st p.isList (x := u) (by simpa using hu) fun h' st' sb => ?_
    have I1 : Inv X pins σ H { s with heap := h' } := I.turned (t' := s.toks) (fun b o hb e => (sb.2 b hb).trans e) f0 f1 f3 f4 f5
    obtain ⟨o, e, c, d⟩ := id st'
    exact ⟨u, rfl, go_of (s := { s with heap := h' }) e c d (by decide) ⟨x, H, I1, ru, ⟨rfl, fun ys hy => by rw [I.list_inj hy hq]; exact hx⟩, st', fun b hb => (hf b hb).1⟩⟩
  done := by
    intro X hP hw hK hc i pins s σ H E I hf st hg
    subst hP hw hK
    obtain ⟨xs, hq, hx⟩ := hg
    obtain ⟨its, rv, p, hz⟩ := I.list hq
    obtain ⟨f0, f1, f2, f3, f4, f5⟩ := hf it (by simp)
    have hl := rv.length
    exact wpAny_pyNext_list_end (I.ok.hd hc) st p.isList (by simp; omega) fun h' eb => ⟨rfl, I.turned (t' := s.toks) (fun b o hb e => eb b o hb e) f0 f1 f3 f4 f5⟩
  self := fun _ _ _ _ _ st h => wpAny_pyIter_listiter st h
theorem turn_range {P : Program} {w : World} {K : PySem.W.Frag} {tg : Expr} (it : Addr) (lo : Int) (n : Nat) : Turn P w K tg (Itr lo n) [it] it (fun i h => IsRangeIter h it (lo + (i : Nat) * 1) ((n : Int) - (i : Nat)) 1) where
  mem := by simp
  obj := fun i h st b hb => by
    have e : b = it := by simpa using hb
    subst e
    exact ⟨_, st, fun v z => by
      have z' : Data.fields _ = Data.cell v := z
      cases z'⟩
  keep := fun i h h' st k => k it (by simp) _ st
  item := by
    intro X hP hw hK hc i pins s σ H E I hf st hg
    subst hP hw hK
    obtain ⟨f0, f1, f2, f3, f4, f5⟩ := hf it (by simp)
    have W := Walks.range (prog := X.prog) (w := X.w) (I.ok.hd hc) it lo 1 n
    refine W.item i s _ _ hg st fun v h' tk hv st' kk => ?_
    obtain ⟨t, rfl⟩ := hv
    have I1 : Inv X pins σ H { s with heap := h', toks := tk } := I.turned (fun b o hb e => kk b o (by simpa using hb) e) f0 f1 f3 f4 f5
    refine ⟨_, rfl, go_of (s := { s with heap := h', toks := tk }) (n := "range_iterator") st' rfl rfl (by decide) ⟨.int (lo + i), H, I1, ⟨t, ?_⟩, ⟨rfl, rfl⟩, st', fun b hb => (hf b hb).1⟩⟩
    rw [Int.mul_one]
  done := by
    intro X hP hw hK hc i pins s σ H E I hf st hg
    subst hP hw hK
    obtain ⟨f0, f1, f2, f3, f4, f5⟩ := hf it (by simp)
    exact wpAny_pyNext_range_end (I.ok.hd hc) st (by have : n ≤ i := hg; omega) fun h' eb => ⟨rfl, I.turned (t' := s.toks) (fun b o hb e => eb b o hb e) f0 f1 f3 f4 f5⟩
  self := fun _ _ _ _ _ st h => wpAny_pyIter_rangeiter st h
end L2
namespace L2
open PySem PySem.Spec PyProof.Rows
section
variable {X : Cx} {tg : Expr}
def iList (K : PySem.W.Frag) (tl : TE) : TI := fun σ H R => tl σ H fun x H1 => ∃ a, x = .ref a ∧ (∃ xs, SqL K H1 a xs) ∧ R (Itl K a) H1
theorem pi_list {l : Expr} {tl : TE} (hl : PE X l tl) : PI X tg l (iList X.K tl) := by
  intro pins s σ H R I h
  refine thn (hl pins s σ H _ I h) fun v s1 ⟨x, H1, I1, r1, q1⟩ => ?_
  obtain ⟨a, e, ⟨xs, hq⟩, q⟩ := q1
  subst e
  cases r1
  obtain ⟨its, rv, p, hz⟩ := I1.list hq
  refine wpAny_pyIter_list p.isList ?_
  refine ⟨s1.heap.objs.size, [s1.heap.objs.size], _, _, H1, rfl, I1.kept (t' := s1.toks) fun b o e => Heap.get?_push_of_some _ e, turn_list a _, ⟨_, Heap.get?_push_size _ rfl, rfl, rfl⟩, fun b hb => ?_, q⟩
  have e : b = s1.heap.objs.size := by simpa using hb
  subst e
  exact I1.fpOk (Nat.le_refl _) (I1.hok.fresh (Nat.le_refl _))
/-- a range object just made, walked -/
theorem range_it {pins : List (Addr × Obj)} {σ : St} {H : Hp} {s : Shared} {R : It → Hp → Prop} {E : Value → Shared → Prop} {lo hi : Int} {t u v : Tok} {tk : Nat} (I : Inv X pins σ H s) (h1 : -(2 ^ 62) ≤ lo) (h2 : lo < 2 ^ 62) (h3 : -(2 ^ 62) ≤ hi) (h4 : hi < 2 ^ 62)
    (q : R (Itr lo (hi - lo).toNat) H) : wpAny (model X.prog X.w) X.A (pyIter (.ref s.heap.objs.size)) (PIE X pins σ tg R) E { s with heap := s.heap.push { cls := .type "range", data := .fields #[.int lo t, .int hi u, .int 1 v] }, toks := tk } := by
  refine wpAny_pyIter_range (IsRange.new ..) (small_one h1 h2 h3 h4) ?_
  have I1 : Inv X pins σ H { s with heap := s.heap.push { cls := .type "range", data := .fields #[.int lo t, .int hi u, .int 1 v] }, toks := tk } := I.kept fun b o e => Heap.get?_push_of_some _ e
  refine ⟨(s.heap.push { cls := .type "range", data := .fields #[.int lo t, .int hi u, .int 1 v] }).objs.size, [(s.heap.push { cls := .type "range", data := .fields #[.int lo t, .int hi u, .int 1 v] }).objs.size], _, _, H, rfl,
    I1.kept (t' := tk) fun b o e => Heap.get?_push_of_some _ e, turn_range _ lo (hi - lo).toNat, ?_, fun b hb => ?_, q⟩
  · have e1 : lo + ((0 : Nat) : Int) * 1 = lo := by simp
    have e2 : (((hi - lo).toNat : Nat) : Int) - ((0 : Nat) : Int) = Builtin.Range.rangeSize lo hi 1 := by rw [rangeSize_one]; split <;> omega
    show IsRangeIter _ _ (lo + ((0 : Nat) : Int) * 1) ((((hi - lo).toNat : Nat) : Int) - ((0 : Nat) : Int)) 1
    rw [e1, e2]
    exact Heap.get?_push_size _ rfl
  · have e : b = (s.heap.push { cls := .type "range", data := .fields #[.int lo t, .int hi u, .int 1 v] }).objs.size := by simpa using hb
    subst e
    exact I1.fpOk (Nat.le_refl _) (I1.hok.fresh (Nat.le_refl _))
def iRng1 (ta : TA) : TI := fun σ H R => ta σ H fun vs H1 => ∃ j : Int, vs = [.int j] ∧ -(2 ^ 62) ≤ j ∧ j < 2 ^ 62 ∧ R (Itr 0 j.toNat) H1
def iRng2 (ta : TA) : TI := fun σ H R => ta σ H fun vs H1 => ∃ i j : Int, vs = [.int i, .int j] ∧ (-(2 ^ 62) ≤ i ∧ i < 2 ^ 62 ∧ -(2 ^ 62) ≤ j ∧ j < 2 ^ 62) ∧ R (Itr i (j - i).toNat) H1
theorem pi_range1 {a : Expr} {ta : TA} {p pos : Pos} (hg : Gl X "range") (hm : X.mg "range" = none) (ha : PA X [a] ta) (hs : starEach [a] X.env = [(false, eval a X.env)] := by rfl) : PI X tg (.Call (.Name "range" p) [a] [] pos) (iRng1 ta) := by
  intro pins s σ H R I h
  refine Call_ (ld_blt I hg hm boot_range (PyProof.Rows.callWith_type1 (thn (ha pos pins s σ H _ I h) fun us s1 ⟨vs, H1, I1, r1, q1⟩ => ?_) hs rfl))
  obtain ⟨j, e, q1, q2, q⟩ := q1
  subst e
  cases r1 with
  | cons r rr =>
    cases rr
    obtain ⟨t, rfl⟩ := r
    exact call_range_1 (range_it I1 (by omega) (by omega) q1 q2 (by simpa using q))
theorem pi_range2 {a b : Expr} {ta : TA} {p pos : Pos} (hg : Gl X "range") (hm : X.mg "range" = none) (ha : PA X [a, b] ta) (hs : starEach [a, b] X.env = [(false, eval a X.env), (false, eval b X.env)] := by rfl) (hs2 : starEach [b] X.env = [(false, eval b X.env)] := by rfl) :
    PI X tg (.Call (.Name "range" p) [a, b] [] pos) (iRng2 ta) := by
  intro pins s σ H R I h
  refine Call_ (ld_blt I hg hm boot_range (PyProof.Rows.callWith_type1 (thn (ha pos pins s σ H _ I h) fun us s1 ⟨vs, H1, I1, r1, q1⟩ => ?_) (by rw [hs, hs2]) (by rw [hs2]; rfl)))
  obtain ⟨i, j, e, ⟨q1, q2, q3, q4⟩, q⟩ := q1
  subst e
  cases r1 with
  | cons r rr =>
    cases rr with
    | cons r' rr =>
      cases rr
      obtain ⟨t, rfl⟩ := r
      obtain ⟨t', rfl⟩ := r'
      exact call_range_2 (range_it I1 q1 q2 q3 q4 q)
/-! ### for -/
/-- W: the invariant by the turn and a measure; N: what the body is to reach -/
def tFor (wi : TI) (g : TG) (tb : TS) : TS := fun D σ H => wi σ H fun J H1 => ∃ W : Nat → Nat → St → Hp → Prop, (∃ m, W 0 m σ H1) ∧ ∀ i m σ H, W i m σ H →
  (J.stop i H ∧ D.nx σ H) ∨ (J.go i H ∧ ∃ N : St → Hp → Prop, (∀ σ' H', N σ' H' → ∃ m', m' < m ∧ W (i + 1) m' σ' H') ∧ ∀ x H', J.yld i H x H' → g x σ H' fun σ2 H2 => tb { D with nx := N, ct := N, bk := D.nx } σ2 H2)
/-- the records at fp as they stand -/
def pinsAt (fp : List Addr) (h : Heap) : List (Addr × Obj) := fp.filterMap fun b => (h.get? b).map fun o => (b, o)
theorem mem_pinsAt {fp : List Addr} {h : Heap} {b : Addr} {o : Obj} (hb : b ∈ fp) (e : h.get? b = some o) : (b, o) ∈ pinsAt fp h := List.mem_filterMap.mpr ⟨b, hb, by rw [e]; rfl⟩
theorem of_pinsAt {fp : List Addr} {h : Heap} {p : Addr × Obj} (hp : p ∈ pinsAt fp h) : p.1 ∈ fp ∧ h.get? p.1 = some p.2 := by
  obtain ⟨b, hb, e⟩ := List.mem_filterMap.mp hp
  cases q : h.get? b with
  | none => rw [q] at e; cases e
  | some o =>
    rw [q] at e
    have e' : (b, o) = p := Option.some.inj e
    subst e'
    exact ⟨hb, q⟩
theorem Inv.pinned {pins : List (Addr × Obj)} {σ : St} {H : Hp} {s : Shared} {fp : List Addr} (I : Inv X pins σ H s) (hf : ∀ b ∈ fp, FpOk X pins H b) (ho : ∀ b ∈ fp, ∃ o, s.heap.get? b = some o ∧ ∀ v, o.data ≠ .cell v) : Inv X (pins ++ pinsAt fp s.heap) σ H s :=
  I.pins_of fun p hp => (List.mem_append.mp hp).elim (fun z => I.pin p (List.mem_append_right _ z)) fun z => by
    obtain ⟨hb, e⟩ := of_pinsAt z
    obtain ⟨f0, f1, f2, _⟩ := hf p.1 hb
    obtain ⟨o, e', d⟩ := ho p.1 hb
    rw [e] at e'; cases e'
    exact ⟨e, f0, f1, f2, d⟩
theorem Inv.unpinned {pins pl : List (Addr × Obj)} {σ : St} {H : Hp} {s : Shared} (I : Inv X (pins ++ pl) σ H s) : Inv X pins σ H s := I.pins_of fun p hp => I.pin p (List.mem_append_right _ (List.mem_append_left _ hp))
theorem ps_for {iter : Expr} {body : List Stmt} {wi : TI} {g : TG} {tb : TS} {pos : Pos} (hp : PassesOwn (model X.prog X.w) X.A X.env X.xe) (hc : X.calm = true) (hi : PI X tg iter wi) (hg : PG X tg g) (hb : PSs X body tb)
    (hs : ∀ x, foldedSetIterable iter X.env x = pure x := by intro _; rfl) : PS X (.For tg iter body [] pos) (tFor wi g tb) := by
  intro pins s σ H D I h
  refine wpAny_For (thn (hi pins s σ H _ I h) fun v s1 h1 => thn h1 fun itv s2 h2 => ?_) hs
  obtain ⟨it, fp, tn, J, H2, e, I2, T, st2, f2, W, ⟨m0, w0⟩, turn⟩ := h2
  subst e
  -- what stays true of the iterator's objects through the loop
  have stat : ∀ {H' : Hp}, (∀ b ∈ fp, H' b = none) → ∀ b ∈ fp, FpOk X pins H' b := fun hn b hb => ⟨hn b hb, (f2 b hb).2⟩
  refine codeAny_forLoop_any (fun n s' => ∃ i σ' H', Inv X pins σ' H' s' ∧ tn i s'.heap ∧ (∀ b ∈ fp, H' b = none) ∧ W i n σ' H') ?_ m0 ⟨0, σ, H2, I2, st2, fun b hb => (f2 b hb).1, w0⟩
  rintro n s3 ⟨i, σ3, H3, I3, st3, fr3, w3⟩
  rcases turn i n σ3 H3 w3 with ⟨stop, qn⟩ | ⟨go, N, hN, step⟩
  · refine wpAny_passesOwn hp (thn (T.done X rfl rfl rfl hc i pins s3 σ3 H3 X.xe I3 (stat fr3) st3 stop) fun r s4 ⟨hr, I4⟩ => ?_)
    subst hr
    exact wpAny_execs_nil ⟨σ3, H3, I4, qn⟩
  · refine wpAny_passesOwn hp (thn (T.item X rfl rfl rfl hc i pins s3 σ3 H3 X.xe I3 (stat fr3) st3 go) fun r s4 ⟨u, hr, h4⟩ => ?_)
    subst hr
    refine wpAny_passesOwn hp (thn h4 fun _ s5 ⟨x, H5, I5, r5, y5, st5, fr5⟩ => ?_)
    have I5' := I5.pinned (stat fr5) (T.obj _ _ st5)
    refine wpAny_passesOwn hp (thn (hg _ s5 σ3 H5 x u _ I5' r5 (step x H5 y5)) fun _ s6 ⟨σ6, H6, I6, q6⟩ => ?_)
    refine wpAny_passesOwn hp (thn (hb _ s6 σ6 H6 _ I6 q6) fun f s7 q7 => ?_)
    have again : ∀ {σ7 : St} {H7 : Hp}, Inv X (pins ++ pinsAt fp s5.heap) σ7 H7 s7 → N σ7 H7 → ∃ m, m < n ∧ ∃ i σ' H', Inv X pins σ' H' s7 ∧ tn i s7.heap ∧ (∀ b ∈ fp, H' b = none) ∧ W i m σ' H' := fun {σ7 H7} I7 n7 => by
      obtain ⟨m', hm, w7⟩ := hN σ7 H7 n7
      refine ⟨m', hm, i + 1, σ7, H7, I7.unpinned, T.keep _ _ _ st5 fun b hb o e => (I7.pin (b, o) (List.mem_append_right _ (List.mem_append_right _ (mem_pinsAt hb e)))).1, fun b hb => ?_, w7⟩
      obtain ⟨o, e, d⟩ := T.obj _ _ st5 b hb
      exact (I7.pin (b, o) (List.mem_append_right _ (List.mem_append_right _ (mem_pinsAt hb e)))).2.1
    cases f with
    | next => obtain ⟨σ7, H7, I7, n7⟩ := q7; exact again I7 n7
    | cont => obtain ⟨σ7, H7, I7, n7⟩ := q7; exact again I7 n7
    | brk => obtain ⟨σ7, H7, I7, q7⟩ := q7; exact ⟨σ7, H7, I7.unpinned, q7⟩
    | ret v => obtain ⟨x7, σ7, H7, I7, r7, q7⟩ := q7; exact ⟨x7, σ7, H7, I7.unpinned, r7, q7⟩
end
/-! ### the forms one uses -/
/-- over a list that the body leaves as it is -/
theorem for_list {K : PySem.W.Frag} {a : Addr} {xs : List V} {g : TG} {tb : TS} {D : Ends} {σ : St} {H : Hp} (Pv : Nat → St → Hp → Prop) (h0 : Pv 0 σ H) (hl : ∀ i σ H, i ≤ xs.length → Pv i σ H → SqL K H a xs)
    (hs : ∀ i x σ H, xs[i]? = some x → Pv i σ H → g x σ H fun σ2 H2 => tb { D with nx := Pv (i + 1), ct := Pv (i + 1), bk := D.nx } σ2 H2) (hd : ∀ σ H, Pv xs.length σ H → D.nx σ H) :
    ∃ W : Nat → Nat → St → Hp → Prop, (∃ m, W 0 m σ H) ∧ ∀ i m σ H, W i m σ H →
      ((Itl K a).stop i H ∧ D.nx σ H) ∨ ((Itl K a).go i H ∧ ∃ N : St → Hp → Prop, (∀ σ' H', N σ' H' → ∃ m', m' < m ∧ W (i + 1) m' σ' H') ∧ ∀ x H', (Itl K a).yld i H x H' → g x σ H' fun σ2 H2 => tb { D with nx := N, ct := N, bk := D.nx } σ2 H2) := by
  refine ⟨fun i m σ H => m = xs.length - i ∧ i ≤ xs.length ∧ Pv i σ H, ⟨xs.length, by simp, Nat.zero_le _, h0⟩, ?_⟩
  rintro i m σ H ⟨rfl, hi, p⟩
  have q := hl i σ H hi p
  by_cases hlt : i < xs.length
  · refine .inr ⟨⟨xs, xs[i], q, by simp [hlt]⟩, Pv (i + 1), fun σ' H' p' => ⟨xs.length - (i + 1), by omega, rfl, hlt, p'⟩, fun x H' y => ?_⟩
    obtain ⟨e, y⟩ := y
    subst e
    exact hs i x σ _ (y xs q) p
  · have e : i = xs.length := by omega
    subst e
    exact .inl ⟨⟨xs, q, Nat.le_refl _⟩, hd σ H p⟩
theorem for_range {lo : Int} {n : Nat} {g : TG} {tb : TS} {D : Ends} {σ : St} {H : Hp} (Pv : Nat → St → Hp → Prop) (h0 : Pv 0 σ H)
    (hs : ∀ i σ H, i < n → Pv i σ H → g (.int (lo + i)) σ H fun σ2 H2 => tb { D with nx := Pv (i + 1), ct := Pv (i + 1), bk := D.nx } σ2 H2) (hd : ∀ σ H, Pv n σ H → D.nx σ H) :
    ∃ W : Nat → Nat → St → Hp → Prop, (∃ m, W 0 m σ H) ∧ ∀ i m σ H, W i m σ H →
      ((Itr lo n).stop i H ∧ D.nx σ H) ∨ ((Itr lo n).go i H ∧ ∃ N : St → Hp → Prop, (∀ σ' H', N σ' H' → ∃ m', m' < m ∧ W (i + 1) m' σ' H') ∧ ∀ x H', (Itr lo n).yld i H x H' → g x σ H' fun σ2 H2 => tb { D with nx := N, ct := N, bk := D.nx } σ2 H2) := by
  refine ⟨fun i m σ H => m = n - i ∧ i ≤ n ∧ Pv i σ H, ⟨n, by simp, Nat.zero_le _, h0⟩, ?_⟩
  rintro i m σ H ⟨rfl, hi, p⟩
  by_cases hlt : i < n
  · refine .inr ⟨hlt, Pv (i + 1), fun σ' H' p' => ⟨n - (i + 1), by omega, rfl, hlt, p'⟩, fun x H' y => ?_⟩
    obtain ⟨e, y⟩ := y
    subst e y
    exact hs i σ _ hlt p
  · have e : i = n := by omega
    subst e
    exact .inl ⟨Nat.le_refl _, hd σ H p⟩
end L2
namespace L2
open PySem PySem.Spec PyProof.Rows
abbrev R2 := V → V → Hp → VK → Prop
/-- a two-place operation on values: f is binaryOp op, inplaceOp op or compareOp op -/
def OpR (X : Cx) (f : Value → Value → Sem Value) (r : R2) : Prop :=
  ∀ (pins : List (Addr × Obj)) (s : Shared) (σ : St) (H : Hp) (x y : V) (v u : Value) (Q : VK), Inv X pins σ H s → RelV x v → RelV y u → r x y H Q →
    wpAny (model X.prog X.w) X.A (f v u) (EP X pins σ Q) X.xe s
/-- a one-place operation -/
def UnR (X : Cx) (f : Value → Sem Value) (r : V → Hp → VK → Prop) : Prop :=
  ∀ (pins : List (Addr × Obj)) (s : Shared) (σ : St) (H : Hp) (x : V) (v : Value) (Q : VK), Inv X pins σ H s → RelV x v → r x H Q →
    wpAny (model X.prog X.w) X.A (f v) (EP X pins σ Q) X.xe s
/-- a call of a value that is known (a builtin, a type) with values -/
def CallR (X : Cx) (f : Value) (r : List V → Hp → VK → Prop) : Prop :=
  ∀ (pins : List (Addr × Obj)) (s : Shared) (σ : St) (H : Hp) (xs : List V) (us : List Value) (Q : VK), Inv X pins σ H s → Vals xs us → r xs H Q →
    wpAny (model X.prog X.w) X.A (call f us) (EP X pins σ Q) X.xe s
def tOp (r : R2) (ta tb : TE) : TE := fun σ H Q => ta σ H fun x H1 => tb σ H1 fun y H2 => r x y H2 Q
def tUn (r : V → Hp → VK → Prop) (ta : TE) : TE := fun σ H Q => ta σ H fun x H1 => r x H1 Q
/-- ints in, under C, and a value out -/
def rI (C : Int → Int → Prop) (g : Int → Int → V) : R2 := fun x y H Q => ∃ i j, x = .int i ∧ y = .int j ∧ C i j ∧ Q (g i j) H
def rI0 (g : Int → Int → V) : R2 := fun x y H Q => ∃ i j, x = .int i ∧ y = .int j ∧ Q (g i j) H
def rU (g : Int → V) : V → Hp → VK → Prop := fun x H Q => ∃ i, x = .int i ∧ Q (g i) H
section
variable {X : Cx} {a b c : Expr} {ta tb tc : TE} {pos : Pos}
theorem binT (ha : PE X a ta) (hb : PE X b tb) {pins : List (Addr × Obj)} {s : Shared} {σ : St} {H : Hp} {R : V → V → Hp → Prop} (I : Inv X pins σ H s)
    (h : ta σ H fun x H1 => tb σ H1 fun y H2 => R x y H2) {Q : Value → Shared → Prop} {f : Value → Value → Sem Value}
    (hf : ∀ v u s2 x y H2, Inv X pins σ H2 s2 → RelV x v → RelV y u → R x y H2 → wpAny (model X.prog X.w) X.A (f v u) Q X.xe s2) :
    wpAny (model X.prog X.w) X.A (eval a X.env) (fun v s₁ => wpAny (model X.prog X.w) X.A (eval b X.env) (fun u s₂ => wpAny (model X.prog X.w) X.A (f v u) Q X.xe s₂) X.xe s₁) X.xe s := by
  refine thn (ha pins s σ H _ I h) fun v s1 ⟨x, H1, I1, r1, q1⟩ => ?_
  refine thn (hb pins s1 σ H1 _ I1 q1) fun u s2 ⟨y, H2, I2, r2, q2⟩ => ?_
  exact hf v u s2 x y H2 I2 r1 r2 q2
theorem pe_op {op : Operator} {r : R2} (ho : OpR X (binaryOp op) r) (ha : PE X a ta) (hb : PE X b tb) : PE X (.BinOp a op b pos) (tOp r ta tb) := by
  intro pins s σ H Q I h
  exact wpAny_BinOp (binT ha hb I h fun v u s2 x y H2 I2 rx ry q => ho pins s2 σ H2 x y v u Q I2 rx ry q)
theorem pe_un {op : UnaryOp} {r : V → Hp → VK → Prop} (ho : UnR X (unaryOp op) r) (ha : PE X a ta) : PE X (.UnaryOp op a pos) (tUn r ta) := by
  intro pins s σ H Q I h
  exact UnaryOp_ (thn (ha pins s σ H _ I h) fun v s1 ⟨x, H1, I1, r1, q1⟩ => ho pins s1 σ H1 x v Q I1 r1 q1)
/-! ### ints -/
theorem opI {f : Value → Value → Sem Value} {C : Int → Int → Prop} {g : Int → Int → Int}
    (rule : ∀ (i j : Int) (t u : Tok) (s : Shared) (Q : Value → Shared → Prop) (E : Value → Shared → Prop), C i j → Q (.int (g i j) s.toks) { s with toks := s.toks + 1 } → wpAny (model X.prog X.w) X.A (f (.int i t) (.int j u)) Q E s) :
    OpR X f (rI C fun i j => .int (g i j)) := by
  intro pins s σ H x y v u Q I rx ry h
  obtain ⟨i, j, rfl, rfl, hc, q⟩ := h
  obtain ⟨t, rfl⟩ := rx
  obtain ⟨t', rfl⟩ := ry
  exact rule i j t t' s _ _ hc ⟨.int (g i j), H, I.tok _, ⟨_, rfl⟩, q⟩
theorem opI0 {f : Value → Value → Sem Value} {g : Int → Int → Int}
    (rule : ∀ (i j : Int) (t u : Tok) (s : Shared) (Q : Value → Shared → Prop) (E : Value → Shared → Prop), Q (.int (g i j) s.toks) { s with toks := s.toks + 1 } → wpAny (model X.prog X.w) X.A (f (.int i t) (.int j u)) Q E s) :
    OpR X f (rI0 fun i j => .int (g i j)) := by
  intro pins s σ H x y v u Q I rx ry h
  obtain ⟨i, j, rfl, rfl, q⟩ := h
  obtain ⟨t, rfl⟩ := rx
  obtain ⟨t', rfl⟩ := ry
  exact rule i j t t' s _ _ ⟨.int (g i j), H, I.tok _, ⟨_, rfl⟩, q⟩
theorem opB0 {f : Value → Value → Sem Value} {g : Int → Int → Bool}
    (rule : ∀ (i j : Int) (t u : Tok) (s : Shared) (Q : Value → Shared → Prop) (E : Value → Shared → Prop), Q (.bool (g i j)) s → wpAny (model X.prog X.w) X.A (f (.int i t) (.int j u)) Q E s) :
    OpR X f (rI0 fun i j => .bl (g i j)) := by
  intro pins s σ H x y v u Q I rx ry h
  obtain ⟨i, j, rfl, rfl, q⟩ := h
  obtain ⟨t, rfl⟩ := rx
  obtain ⟨t', rfl⟩ := ry
  exact rule i j t t' s _ _ ⟨.bl (g i j), H, I, rfl, q⟩
def CDiv (i j : Int) : Prop := 0 < j ∧ j < 1073741824
def CMul (i j : Int) : Prop := (-(2 ^ 64) < i ∧ i < 2 ^ 64) ∨ (-(2 ^ 64) < j ∧ j < 2 ^ 64)
theorem CMul.ok {i j : Int} (h : CMul i j) : IntMulOk i j := by
  rcases h with ⟨h1, h2⟩ | ⟨h1, h2⟩
  · exact .of_left (intBits_le_64 h1 h2)
  · exact .of_right (intBits_le_64 h1 h2)
theorem op_add : OpR X (binaryOp .Add) (rI0 fun i j => .int (i + j)) := opI0 fun _ _ _ _ _ _ _ q => add_int q
theorem op_sub : OpR X (binaryOp .Sub) (rI0 fun i j => .int (i - j)) := opI0 fun _ _ _ _ _ _ _ q => sub_int q
/-- // by a positive divisor -/
theorem op_fdiv : OpR X (binaryOp .FloorDiv) (rI CDiv fun i j => .int (i / j)) := opI fun i j _ _ _ _ _ hc q => by
  have h1 : (0 : Int) < j := hc.1
  have h2 : j < 1073741824 := hc.2
  exact floordiv_int (by omega) (by rw [Int.fdiv_eq_ediv_of_nonneg i (by omega)]; exact q) (.inl (PyProof.noPylong_small (by omega)))
/-- % by a positive divisor of any size -/
theorem op_mod : OpR X (binaryOp .Mod) (rI (fun _ j => 0 < j) fun i j => .int (i % j)) := opI fun i j _ _ _ _ _ hc q => by
  have h1 : (0 : Int) < j := hc
  exact mod_int' (by omega) (by rw [Int.fmod_eq_emod_of_nonneg i (by omega)]; exact q)
theorem unI {f : Value → Sem Value} {g : Int → Int}
    (rule : ∀ (i : Int) (t : Tok) (s : Shared) (Q : Value → Shared → Prop) (E : Value → Shared → Prop), Q (.int (g i) s.toks) { s with toks := s.toks + 1 } → wpAny (model X.prog X.w) X.A (f (.int i t)) Q E s) :
    UnR X f (rU fun i => .int (g i)) := by
  intro pins s σ H x v Q I rx h
  obtain ⟨i, rfl, q⟩ := h
  obtain ⟨t, rfl⟩ := rx
  exact rule i t s _ _ ⟨.int (g i), H, I.tok _, ⟨_, rfl⟩, q⟩
theorem un_neg : UnR X (unaryOp .USub) (rU fun i => .int (-i)) := unI fun _ _ _ _ _ q => neg_int q
end
/-! ### comparisons -/
/-- the scalars that == tells apart as data does -/
def scal : V → V → Bool
  | .non, .non => true | .non, .int _ => true | .int _, .non => true | .non, .bl _ => true | .bl _, .non => true | .non, .str _ => true | .str _, .non => true
  | .int _, .int _ => true | .bl _, .bl _ => true | .str _, .str _ => true | .byt _, .byt _ => true
  | .int _, .str _ => true | .str _, .int _ => true | .bl _, .str _ => true | .str _, .bl _ => true
  | _, _ => false
def rEq : R2 := fun x y H Q => scal x y = true ∧ Q (.bl (decide (x = y))) H
def rNe : R2 := fun x y H Q => scal x y = true ∧ Q (.bl (!decide (x = y))) H
theorem dec_int {i j : Int} : decide (V.int i = V.int j) = (i == j) := by
  rw [Bool.eq_iff_iff]
  simp
theorem dec_bl {i j : Bool} : decide (V.bl i = V.bl j) = (i == j) := by
  rw [Bool.eq_iff_iff]
  simp
theorem dec_str {i j : Str} : decide (V.str i = V.str j) = (i == j) := by
  rw [Bool.eq_iff_iff]
  simp
theorem dec_byt {i j : Array UInt8} : decide (V.byt i = V.byt j) = (i.toList == j.toList) := by
  rw [Bool.eq_iff_iff]
  cases i
  cases j
  simp
section
variable {X : Cx} {a b c : Expr} {ta tb tc : TE} {pos : Pos}
theorem fin_bl {pins : List (Addr × Obj)} {σ : St} {H : Hp} {s : Shared} {Q : VK} {k k' : Bool} (I : Inv X pins σ H s) (q : Q (.bl k) H) (e : k = k') : EP X pins σ Q (.bool k') s := by
  subst e
  exact ⟨.bl k, H, I, rfl, q⟩
theorem op_eq : OpR X (compareOp .Eq) rEq := by
  intro pins s σ H x y v u Q I rx ry h
  obtain ⟨hs, q⟩ := h
  cases x with
  | non =>
    cases rx
    cases y with
    | non => cases ry; exact PySem.EqNone.eq_none_none (fin_bl I q (by simp))
    | bl j => cases ry; exact PySem.EqNone.eq_none_bool (fin_bl I q (by simp))
    | int j => obtain ⟨t', rfl⟩ := ry; exact PySem.EqNone.eq_none_int (fin_bl I q (by simp))
    | str j => obtain ⟨t', rfl⟩ := ry; exact PySem.EqNone.eq_none_str (fin_bl I q (by simp))
    | _ => exact absurd (show false = true from hs) Bool.false_ne_true
  | bl i =>
    cases rx
    cases y with
    | non => cases ry; exact PySem.EqNone.eq_bool_none (fin_bl I q (by simp))
    | bl j => cases ry; exact eq_bool (fin_bl I q dec_bl)
    | str j => obtain ⟨t', rfl⟩ := ry; exact PySem.EqMixed.eq_bool_str (fin_bl I q (by simp))
    | _ => exact absurd (show false = true from hs) Bool.false_ne_true
  | int i =>
    obtain ⟨t, rfl⟩ := rx
    cases y with
    | non => cases ry; exact PySem.EqNone.eq_int_none (fin_bl I q (by simp))
    | int j => obtain ⟨t', rfl⟩ := ry; exact eq_int (fin_bl I q dec_int)
    | str j => obtain ⟨t', rfl⟩ := ry; exact PySem.EqMixed.eq_int_str (fin_bl I q (by simp))
    | _ => exact absurd (show false = true from hs) Bool.false_ne_true
  | str i =>
    obtain ⟨t, rfl⟩ := rx
    cases y with
    | non => cases ry; exact PySem.EqNone.eq_str_none (fin_bl I q (by simp))
    | bl j => cases ry; exact PySem.EqMixed.eq_str_bool (fin_bl I q (by simp))
    | int j => obtain ⟨t', rfl⟩ := ry; exact PySem.EqMixed.eq_str_int (fin_bl I q (by simp))
    | str j => obtain ⟨t', rfl⟩ := ry; exact eq_str (fin_bl I q dec_str)
    | _ => exact absurd (show false = true from hs) Bool.false_ne_true
  | byt i =>
    obtain ⟨t, rfl⟩ := rx
    cases y with
    | byt j => obtain ⟨t', rfl⟩ := ry; exact PySem.W.eq_bytes (fin_bl I q dec_byt)
    | _ => exact absurd (show false = true from hs) Bool.false_ne_true
  | _ => cases y <;> exact absurd (show false = true from hs) Bool.false_ne_true
theorem op_ne : OpR X (compareOp .NotEq) rNe := by
  intro pins s σ H x y v u Q I rx ry h
  obtain ⟨hs, q⟩ := h
  cases x with
  | non =>
    cases rx
    cases y with
    | non => cases ry; exact PySem.EqNone.ne_none_none (fin_bl I q (by simp))
    | bl j => cases ry; exact PySem.EqNone.ne_none_bool (fin_bl I q (by simp))
    | int j => obtain ⟨t', rfl⟩ := ry; exact PySem.EqNone.ne_none_int (fin_bl I q (by simp))
    | str j => obtain ⟨t', rfl⟩ := ry; exact PySem.EqNone.ne_none_str (fin_bl I q (by simp))
    | _ => exact absurd (show false = true from hs) Bool.false_ne_true
  | bl i =>
    cases rx
    cases y with
    | non => cases ry; exact PySem.EqNone.ne_bool_none (fin_bl I q (by simp))
    | bl j => cases ry; exact ne_bool (fin_bl I q (congrArg not dec_bl))
    | str j => obtain ⟨t', rfl⟩ := ry; exact PySem.EqMixed.ne_bool_str (fin_bl I q (by simp))
    | _ => exact absurd (show false = true from hs) Bool.false_ne_true
  | int i =>
    obtain ⟨t, rfl⟩ := rx
    cases y with
    | non => cases ry; exact PySem.EqNone.ne_int_none (fin_bl I q (by simp))
    | int j => obtain ⟨t', rfl⟩ := ry; exact ne_int (fin_bl I q (congrArg not dec_int))
    | str j => obtain ⟨t', rfl⟩ := ry; exact PySem.EqMixed.ne_int_str (fin_bl I q (by simp))
    | _ => exact absurd (show false = true from hs) Bool.false_ne_true
  | str i =>
    obtain ⟨t, rfl⟩ := rx
    cases y with
    | non => cases ry; exact PySem.EqNone.ne_str_none (fin_bl I q (by simp))
    | bl j => cases ry; exact PySem.EqMixed.ne_str_bool (fin_bl I q (by simp))
    | int j => obtain ⟨t', rfl⟩ := ry; exact PySem.EqMixed.ne_str_int (fin_bl I q (by simp))
    | str j => obtain ⟨t', rfl⟩ := ry; exact ne_str (fin_bl I q (congrArg not dec_str))
    | _ => exact absurd (show false = true from hs) Bool.false_ne_true
  | byt i =>
    obtain ⟨t, rfl⟩ := rx
    cases y with
    | byt j => obtain ⟨t', rfl⟩ := ry; exact PySem.W.ne_bytes (fin_bl I q (congrArg not dec_byt))
    | _ => exact absurd (show false = true from hs) Bool.false_ne_true
  | _ => cases y <;> exact absurd (show false = true from hs) Bool.false_ne_true
theorem op_lt : OpR X (compareOp .Lt) (rI0 fun i j => .bl (decide (i < j))) := opB0 fun _ _ _ _ _ _ _ q => lt_int q
theorem op_le : OpR X (compareOp .LtE) (rI0 fun i j => .bl (decide (i ≤ j))) := opB0 fun _ _ _ _ _ _ _ q => le_int q
theorem op_gt : OpR X (compareOp .Gt) (rI0 fun i j => .bl (decide (j < i))) := opB0 fun _ _ _ _ _ _ _ q => gt_int q
/-- two rules for one operation: by cases -/
theorem OpR.or {f : Value → Value → Sem Value} {r r' : R2} (h : OpR X f r) (h' : OpR X f r') : OpR X f (fun x y H Q => r x y H Q ∨ r' x y H Q) := by
  intro pins s σ H x y v u Q I rx ry q
  rcases q with q | q
  · exact h pins s σ H x y v u Q I rx ry q
  · exact h' pins s σ H x y v u Q I rx ry q
theorem nomark (b : Expr) {op : CmpOp} (h : op ≠ .In := by decide) (h2 : op ≠ .NotIn := by decide) : behindInMarks op b = false := by
  have e1 : (op == CmpOp.In) = false := by cases op <;> first | rfl | exact absurd rfl h
  have e2 : (op == CmpOp.NotIn) = false := by cases op <;> first | rfl | exact absurd rfl h2
  cases b <;> simp [behindInMarks, e1, e2]
/-- a comparison as a value; hm: nomark b, or (for in, not in) by with_unfolding_all rfl -/
theorem pe_cmpR {op : CmpOp} {r : R2} (ho : OpR X (compareOp op) r) (ha : PE X a ta) (hb : PE X b tb) (hm : behindInMarks op b = false) : PE X (.Compare a [op] [b] pos) (tOp r ta tb) := by
  intro pins s σ H Q I h
  exact wpAny_Compare1 (binT ha hb I h fun v u s2 x y H2 I2 rx ry q => ho pins s2 σ H2 x y v u Q I2 rx ry q) hm
/-- a reading of a value as a test -/
def tTest (t : TE) : TT := fun σ H Q => t σ H fun x H' => ∃ k, x = .bl k ∧ Q k H'
theorem pt_cmpR {op : CmpOp} {r : R2} (ho : OpR X (compareOp op) r) (ha : PE X a ta) (hb : PE X b tb) (hm : behindInMarks op b = false) : PT X (.Compare a [op] [b] pos) (tTest (tOp r ta tb)) := by
  intro pins s σ H Q I h
  refine wpAny_isTrue_Compare1 (thn (ha pins s σ H _ I h) fun v s1 ⟨x, H1, I1, r1, q1⟩ => thn (hb pins s1 σ H1 _ I1 q1) fun u s2 ⟨y, H2, I2, r2, q2⟩ =>
    thn (ho pins s2 σ H2 x y v u _ I2 r1 r2 q2) fun c s3 ⟨z, H3, I3, r3, k, e, q3⟩ => ?_) hm
  subst e
  cases r3
  exact wpAny_truthy_bool ⟨H3, I3, q3⟩
/-- a op1 b op2 c -/
def tChain (r r' : R2) (ta tb tc : TE) : TE := fun σ H Q => ta σ H fun x H1 => tb σ H1 fun y H2 => r x y H2 fun z H3 => ∃ k, z = .bl k ∧
  (if k = true then tc σ H3 fun w' H4 => r' y w' H4 Q else Q (.bl false) H3)
theorem pt_chain {op op' : CmpOp} {r r' : R2} (ho : OpR X (compareOp op) r) (ho' : OpR X (compareOp op') r') (ha : PE X a ta) (hb : PE X b tb) (hc : PE X c tc)
    (hm : lastMarks [op, op'] [b, c] = false := by with_unfolding_all rfl) : PT X (.Compare a [op, op'] [b, c] pos) (tTest (tChain r r' ta tb tc)) := by
  intro pins s σ H Q I h
  refine isTrue_chain (thn (ha pins s σ H _ I h) fun v s1 ⟨x, H1, I1, r1, q1⟩ => test_link (thn (hb pins s1 σ H1 _ I1 q1) fun u s2 ⟨y, H2, I2, r2, q2⟩ =>
    thn (ho pins s2 σ H2 x y v u _ I2 r1 r2 q2) fun d s3 ⟨z, H3, I3, r3, k, e, q3⟩ => ?_)) hm
  subst e
  cases r3
  refine wpAny_truthy_bool ?_
  cases k with
  | false =>
    obtain ⟨k', e', q'⟩ := q3
    cases e'
    exact ite_ff ⟨H3, I3, q'⟩
  | true =>
    refine ite_tt (test_last (thn (hc pins s3 σ H3 _ I3 q3) fun w' s4 ⟨z', H4, I4, r4, q4⟩ => thn (ho' pins s4 σ H4 y z' u w' _ I4 r2 r4 q4) fun d' s5 ⟨z2, H5, I5, r5, k2, e2, q5⟩ => ?_))
    subst e2
    cases r5
    exact wpAny_truthy_bool ⟨H5, I5, q5⟩
theorem line63 : (sizeLine : Nat) < 2 ^ 63 := by rw [sizeLine_eq]; decide
theorem op_add_str : OpR X (binaryOp .Add) (fun x y H Q => ∃ i j, x = .str i ∧ y = .str j ∧ i.length + j.length ≤ sizeLine ∧ Q (.str (i ++ j)) H) := by
  intro pins s σ H x y v u Q I rx ry h
  obtain ⟨i, j, rfl, rfl, hz, q⟩ := h
  obtain ⟨t, rfl⟩ := rx
  obtain ⟨t', rfl⟩ := ry
  exact add_str (fun t' tk => ⟨.str (i ++ j), H, I.tok _, ⟨_, rfl⟩, q⟩) hz
/-! ### scalar builtins, by CallR -/
theorem vals1 {x : V} {us : List Value} (r : Vals [x] us) : ∃ u, us = [u] ∧ RelV x u := by
  cases r with
  | cons r1 r2 => cases r2; exact ⟨_, rfl, r1⟩
theorem call_str_int : CallR X (.type "str") (fun xs H Q => ∃ i, xs = [.int i] ∧ i.natAbs.log2 < 1920 ∧ Q (.str (toString i)) H) := by
  intro pins s σ H xs us Q I r h
  obtain ⟨i, rfl, hz, q⟩ := h
  obtain ⟨u, rfl, t, rfl⟩ := vals1 r
  exact PySem.P.str_of_int hz ⟨.str _, H, I.tok _, ⟨_, rfl⟩, q⟩
end
end L2
namespace L2
open PySem PySem.Spec PyProof.Rows
/-! ### an instance, its attributes a map -/
structure ObjM (h : Heap) (x dx C : Addr) (mA : Str → Option Value) : Prop where
  obj : h.get? x = some (PySem.W.instObj C dx)
  ns : h.Ns1 dx mA
  ne : dx ≠ x
theorem lookIn_ns {h : Heap} {dx : Addr} {mA : Str → Option Value} (n : h.Ns1 dx mA) : ∃ od, h.get? dx = some od ∧ ∀ name, PySem.W.lookIn name od = some (mA name) := by
  obtain ⟨o, es, ep, ho, hd, hk, _, hm⟩ := n
  refine ⟨o, ho, fun name => ?_⟩
  have e := hm name
  unfold nsFind findBy at e
  rw [← Array.find?_toList] at e
  unfold PySem.W.lookIn
  rw [hd]
  dsimp only
  split
  · rename_i y q
    rw [q] at e
    exact congrArg some e
  · rename_i q
    rw [q] at e
    have a : es.toList.any (·.refKey) = false := by
      rw [List.any_eq_false]
      intro y hy
      obtain ⟨z, t, hkey⟩ := hk y (Array.mem_toList_iff.mp hy)
      simp [DictEntry.refKey, hkey]
    have a' : ¬ es.toList.any (·.refKey) = true := by rw [a]; exact Bool.false_ne_true
    rw [if_neg a']
    exact congrArg some e
theorem ObjM.look {h : Heap} {x dx C : Addr} {mA : Str → Option Value} (I : ObjM h x dx C mA) : ∃ od, PySem.W.InstAt h x (PySem.W.instObj C dx) C (some od) ∧ ∀ name, PySem.W.lookIn name od = some (mA name) :=
  let ⟨od, ho, hl⟩ := lookIn_ns I.ns
  ⟨od, ⟨I.obj, rfl, rfl, ho⟩, hl⟩
section
variable {prog : Program} {w : World} {A : Around} {E : Value → Shared → Prop} {s : Shared} {K : PySem.W.Frag} {x dx C f : Addr} {mA : Str → Option Value} {name : Str} {v : Value}
end
section
variable {P : Program} {w : World} {H H' : Hp} {h h' : Heap} {a C dx : Addr} {fs fs' : List (Str × V)}
theorem ins_get (hok : HOk P w H h) (e : H a = some (.ins C dx fs)) : ∃ mA, ObjM h a dx C mA ∧ (∀ f, RelO (fs.lookup f) (mA f)) ∧ PySem.Within mA (fs.map (·.1)) ∧ fs.length ≤ 1000 ∧ H dx = some (.own a) := by
  obtain ⟨d, z, ne, ob, mA, n, r, q⟩ := (show ObjOk P w H h a (.ins C dx fs) from hok a _ e)
  exact ⟨mA, ⟨ob, n, ne⟩, r, q, z, d⟩
end
/-! ### what of the text a class must have -/
structure Cls (K : PySem.W.Frag) (C : Addr) : Prop where
  pg : PySem.W.plainGet K C Str.empty = true
  hd : PySem.W.hasDictIn K C = true
  po : PySem.W.plainOver K C = true
  sa : PySem.W.findIn K (.ref C) "__setattr__" = some (some (.builtin "object.__setattr__"))
theorem Cls.get {K : PySem.W.Frag} {C : Addr} (c : Cls K C) (f : Str) : PySem.W.plainGet K C f = true := c.pg
section
variable {X : Cx} {pins : List (Addr × Obj)} {σ : St} {H : Hp} {s : Shared} {a C dx : Addr} {fs : List (Str × V)} {f : Str} {v : V} {A : Around} {E : Value → Shared → Prop}
/-- a new instance, tracked, without attributes -/
theorem Inv.made (I : Inv X pins σ H s) : Inv X pins σ (upd (upd H s.heap.objs.size (.own (s.heap.objs.size + 1))) (s.heap.objs.size + 1) (.ins C s.heap.objs.size []))
    { s with heap := (s.heap.push PySem.W.emptyDict).push (PySem.W.instObj C s.heap.objs.size) } := by
  have e1 : (s.heap.push PySem.W.emptyDict).get? s.heap.objs.size = some PySem.W.emptyDict := Heap.get?_push_size s.heap rfl
  have e2 : ((s.heap.push PySem.W.emptyDict).push (PySem.W.instObj C s.heap.objs.size)).get? (s.heap.objs.size + 1) = some (PySem.W.instObj C s.heap.objs.size) := by
    have := Heap.get?_push_size (s.heap.push PySem.W.emptyDict) (o := PySem.W.instObj C s.heap.objs.size) rfl
    rwa [Heap.size_push] at this
  have e3 : (s.heap.push PySem.W.emptyDict).Ns s.heap.objs.size (fun _ => none) := ⟨PySem.W.emptyDict, #[], _, e1, rfl, (fun e he => absurd he (by simp)), fun _ => rfl⟩
  have I1 := I.laid (a := s.heap.objs.size) (o := .own (s.heap.objs.size + 1)) (h' := s.heap.push PySem.W.emptyDict) (t' := s.toks) (fun b u q => Heap.get?_push_of_some _ q) (Nat.le_refl _) ⟨_, e1⟩
  refine I1.laid (a := s.heap.objs.size + 1) (o := .ins C s.heap.objs.size []) (t' := s.toks) (fun b u q => Heap.get?_push_of_some _ q) (Nat.le_of_eq (Heap.size_push _ _)) ?_
  have ne : s.heap.objs.size ≠ s.heap.objs.size + 1 := Nat.ne_of_lt (Nat.lt_succ_self _)
  refine ⟨by rw [upd_ne ne, upd_same], Nat.zero_le _, ne, e2, fun _ => none, (Heap.Ns1.of_empty e3).at fun o q => Heap.get?_push_of_some _ q, fun _ => True.intro, fun y hy => absurd rfl hy⟩
end
section
variable {X : Cx} {o e value : Expr} {f : Str} {pos pos' tpos : Pos} {ta tv : TE}
end
/-! ### isinstance -/
section
variable {X : Cx} {pins : List (Addr × Obj)} {σ : St} {H : Hp} {s : Shared} {A : Around} {E : Value → Shared → Prop} {Q : Value → Shared → Prop} {c : Value} {b : Bool}
/-- the type of a value, as the fragment's deciders take it; for an instance its class -/
inductive TyOf (K : PySem.W.Frag) (H : Hp) : V → Value → Prop where
  | non : TyOf K H .non (.type "NoneType")
  | bl (x : Bool) : TyOf K H (.bl x) (.type "bool")
  | int (i : Int) : TyOf K H (.int i) (.type "int")
  | str (x : Str) : TyOf K H (.str x) (.type "str")
  | flt (x : UInt64) : TyOf K H (.flt x) (.type "float")
  | lst {a : Addr} {xs : List V} (e : H a = some (.lst xs)) : TyOf K H (.ref a) (.type "list")
  | frz {a : Addr} {o : Obj} {xs : List V} (e : H a = some (.frz o (.lst xs))) : TyOf K H (.ref a) (.type "list")
  | tup {a : Addr} {xs : List V} (e : H a = some (.tup xs)) : TyOf K H (.ref a) (.type "tuple")
  | dK {a : Addr} {kvs : List (Key × V)} (e : H a = some (.dK kvs)) : TyOf K H (.ref a) (.type "dict")
  | dT {a : Addr} {kvs : List (List Key × V)} (e : H a = some (.dT kvs)) : TyOf K H (.ref a) (.type "dict")
  | ins {a C dx : Addr} {fs : List (Str × V)} (e : H a = some (.ins C dx fs)) (cl : Cls K C) (ha : PySem.W.findIn K (.ref C) "__class__" = some (some (.builtin "object.__class__")))
      (hn : PySem.W.specialIn K (.builtin "object.__class__") "__get__" = some (some (.builtin "getset_descriptor.__get__"))) (htk : PySem.W.takesIn K (.builtin "object.__class__") = some true)
      (hm : PySem.W.mroIn K C (.type "object") = some true) : TyOf K H (.ref a) (.ref C)
/-- isinstance(x, c) for one class c, a built-in or an own one: kitOne's answer -/
theorem isinst_ok {x : V} {u t : Value} (I : Inv X pins σ H s) (rx : RelV x u) (ty : TyOf X.K H x t) (e : PySem.W.kitOne X.K t c = some b) (h : ∀ tk, Q (.bool b) { s with toks := tk }) :
    wpAny (model X.prog X.w) A (call (.builtin "isinstance") [u, c]) Q E s := by
  cases ty with
  | non => cases (show u = Value.none from rx); exact PySem.W.kia_one PySem.W.kitx_none I.kIn True.intro e (fun z => nomatch z) h
  | bl y => cases (show u = Value.bool y from rx); exact PySem.W.kia_one PySem.W.kitx_bool I.kIn True.intro e (fun z => nomatch z) h
  | int i => obtain ⟨t, q⟩ := (show ∃ t, u = Value.int i t from rx); cases q; exact PySem.W.kia_one PySem.W.kitx_int I.kIn True.intro e (fun z => nomatch z) h
  | str y => obtain ⟨t, q⟩ := (show ∃ t, u = Value.str y t from rx); cases q; exact PySem.W.kia_one PySem.W.kitx_str I.kIn True.intro e (fun z => nomatch z) h
  | flt y => obtain ⟨t, q⟩ := (show ∃ t, u = Value.float y t from rx); cases q; exact PySem.W.kia_one PySem.W.kitx_float I.kIn True.intro e (fun z => nomatch z) h
  | @lst a xs ea =>
    cases (show u = Value.ref a from rx)
    obtain ⟨_, _, n, _, h1⟩ := (show ObjOk X.prog X.w H s.heap a (.lst xs) from I.hok a _ ea)
    exact PySem.W.kia_one PySem.W.kitx_list I.kIn ⟨_, h1, rfl⟩ e (fun z => nomatch z) h
  | @frz a ob xs ea =>
    cases (show u = Value.ref a from rx)
    obtain ⟨_, _, _, n, _, h1⟩ := (show ObjOk X.prog X.w H s.heap a (.frz ob (.lst xs)) from I.hok a _ ea)
    exact PySem.W.kia_one PySem.W.kitx_list I.kIn ⟨_, h1, rfl⟩ e (fun z => nomatch z) h
  | @tup a xs ea =>
    cases (show u = Value.ref a from rx)
    obtain ⟨_, _, _, p⟩ := (show ObjOk X.prog X.w H s.heap a (.tup xs) from I.hok a _ ea)
    obtain ⟨o, h1, h2, _⟩ := p
    exact PySem.W.kia_one PySem.W.kitx_tuple I.kIn ⟨o, h1, h2⟩ e (fun z => nomatch z) h
  | @dK a kvs ea =>
    cases (show u = Value.ref a from rx)
    obtain ⟨_, _, vs, _, p⟩ := (show ObjOk X.prog X.w H s.heap a (.dK kvs) from I.hok a _ ea)
    obtain ⟨o, es, ep, h1, h2, _⟩ := p
    exact PySem.W.kia_one PySem.W.kitx_dict I.kIn ⟨o, h1, h2.1⟩ e (fun z => nomatch z) h
  | @dT a kvs ea =>
    cases (show u = Value.ref a from rx)
    obtain ⟨_, _, xs, _, o, es, ep, h1, h2, _⟩ := (show ObjOk X.prog X.w H s.heap a (.dT kvs) from I.hok a _ ea)
    exact PySem.W.kia_one PySem.W.kitx_dict I.kIn ⟨o, h1, h2.1⟩ e (fun z => nomatch z) h
  | @ins a C dx fs ea cl ha hn htk hm =>
    cases (show u = Value.ref a from rx)
    obtain ⟨mA, O, _⟩ := ins_get I.hok ea
    obtain ⟨od, J, _⟩ := O.look
    exact PySem.W.kia_one (PySem.W.kitx_own (cl.get _) cl.hd ha hn htk hm) I.kIn J e (fun z => nomatch z) h
end
end L2
namespace L2
open PySem PySem.Spec PyProof.Rows
/-! ### room -/
structure Room (k : Nat) (A : Around) : Prop where
  hd : A.handled = none
  dp : A.depth + 3 * k + 5 < recursionLimit
  un : A.units + 16 * k + 200 < cLine
theorem Room.mono {j k : Nat} {A : Around} (r : Room k A) (h : j ≤ k) : Room j A := ⟨r.hd, by have := r.dp; omega, by have := r.un; omega⟩
theorem Room.deeper {k : Nat} {A : Around} (r : Room (k + 1) A) (env : Env) : Room k (A.deeper env) :=
  ⟨r.hd, by have := r.dp; show A.depth + 1 + 3 * k + 5 < _; omega, by have := r.un; show A.units + 3 + 16 * k + 200 < _; omega⟩
theorem Room.in1 {k : Nat} {A : Around} (r : Room (k + 1) A) : Room k A.in1 :=
  ⟨r.hd, by have := r.dp; show A.depth + 3 * k + 5 < _; omega, by have := r.un; show A.units + 1 + 16 * k + 200 < _; omega⟩
theorem Room.depth {k : Nat} {A : Around} (r : Room k A) : A.depth < recursionLimit := by have := r.dp; omega
theorem Room.units {k : Nat} {A : Around} (r : Room k A) : A.units + 64 < cLine := by have := r.un; omega
/-! ### argument lists and displays -/
def tNil : TA := fun _ H Q => Q [] H
def tCons (ta : TE) (tr : TA) : TA := fun σ H Q => ta σ H fun x H1 => tr σ H1 fun xs H2 => Q (x :: xs) H2
section
variable {X : Cx} {e : Expr} {es : List Expr} {te : TE} {t : TA} {pos : Pos}
theorem pa_nil : PA X [] tNil := fun _ _ _ _ H Q I h => Calls.spliced_nil ⟨[], H, I, .nil, h⟩
theorem pa_cons (ha : PE X e te) (hr : PA X es t) (hs : starEach (e :: es) X.env = (false, eval e X.env) :: starEach es X.env := by rfl) : PA X (e :: es) (tCons te t) := by
  intro pos pins s σ H Q I h
  rw [hs]
  show wpAny _ _ (spliced ((false, eval e X.env) :: backTo pos (starEach es X.env))) _ _ s
  refine Calls.spliced_cons (thn (ha pins s σ H _ I h) fun u s1 ⟨x, H1, I1, r1, q1⟩ => ?_)
  exact thn (hr pos pins s1 σ H1 _ I1 q1) fun us s2 ⟨xs, H2, I2, r2, q2⟩ => ⟨x :: xs, H2, I2, .cons r1 r2, q2⟩
def tLst (t : TA) : TE := fun σ H Q => t σ H fun xs H1 => xs.length ≤ sizeLine ∧ ∀ p, H1 p = none → Q (.ref p) (upd H1 p (.lst xs))
theorem pe_lst (h : PA X es t) : PE X (.List es pos) (tLst t) := by
  intro pins s σ H Q I hq
  refine wpAny_List_spliced (thn (h pos pins s σ H _ I hq) fun us s1 ⟨xs, H1, I1, r, z, q⟩ => ⟨by rw [← r.length]; exact z, ?_⟩)
  have hf : H1 s1.heap.objs.size = none := I1.hok.fresh (Nat.le_refl _)
  refine ⟨.ref s1.heap.objs.size, upd H1 s1.heap.objs.size (.lst xs), I1.laid (t' := s1.toks) (fun b u e => Heap.get?_push_of_some _ e) (Nat.le_refl _) ?_, rfl, q _ hf⟩
  exact ⟨z, us, 0, r, Heap.get?_push_size _ rfl⟩
end
/-! ### what a def promises -/
/-- a def's promise: the bound arguments in the parameters' order, the heap, the wanted end, the wanted exception -/
abbrev Sp := List V → Hp → VK → XK → Prop
/-- how an exception lies behind a call (file 08 gives it): the callers' frames, abstract heap and state ahead of the call, the wish, the exception, the state -/
abbrev CXT := List Env → Hp → Shared → XK → Value → Shared → Prop
/-- the state at a call -/
structure Env0 (P : Program) (w : World) (K : PySem.W.Frag) (mg : Str → Option Value) (base : Heap) (A : Around) (outer : List Env) (s : Shared) (H : Hp) : Prop where
  frames : A.frames = some outer
  mod : Mod K mg base
  bs : ∀ b o, base.get? b = some o → s.heap.get? b = some o ∧ H b = none
  bsz : base.objs.size ≤ s.heap.objs.size
  funs : s.heap.FunFrames base outer
  frf : ∀ b ∈ frs outer, H b = none
  hok : HOk P w H s.heap
  bare : AllBare s.gens
/-- a call's end -/
def CE (outer : List Env) (P : Program) (w : World) (H : Hp) (s : Shared) (Q : VK) (u : Value) (s' : Shared) : Prop :=
  ∃ v H', s'.os = s.os ∧ AllBare s'.gens ∧ Un (frs outer) [] H H' s.heap s'.heap ∧ HOk P w H' s'.heap ∧ RelV v u ∧ Q v H'
def CR (CX : CXT) (outer : List Env) (P : Program) (w : World) (H : Hp) (s : Shared) (Q : VK) (E : XK) (r : Result) (s' : Shared) : Prop :=
  match r with
  | .ok (.ret u) => CE outer P w H s Q u s'
  | .ok _ => False
  | .error e => CX outer H s E e s'
structure FnOk (P : Program) (w : World) (K : PySem.W.Frag) (mg : Str → Option Value) (base : Heap) (CX : CXT) (k : Nat) (f : Addr) (fd : FuncData) (ps : List Str) (sp : Sp) : Prop where
  len : ∀ vs H Q E, sp vs H Q E → vs.length = ps.length
  run : ∀ (A : Around) (outer : List Env) (s : Shared) (H : Hp) (args : Args) (us : List Value) (vs : List V) (Q : VK) (E : XK), Room k A → Env0 P w K mg base A outer s H → BindsTo s fd args (ps.zip us) → Vals vs us → sp vs H Q E →
    codeAny (model P w) A (.call (.ref f) args) (CR CX outer P w H s Q E) s
theorem FnOk.mono {P : Program} {w : World} {K : PySem.W.Frag} {mg : Str → Option Value} {base : Heap} {CX : CXT} {j k : Nat} {f : Addr} {fd : FuncData} {ps : List Str} {sp : Sp} (F : FnOk P w K mg base CX j f fd ps sp) (h : j ≤ k) :
    FnOk P w K mg base CX k f fd ps sp := ⟨F.len, fun A outer s H args us vs Q E hr => F.run A outer s H args us vs Q E (hr.mono h)⟩
/-- a weaker promise -/
theorem FnOk.imp {P : Program} {w : World} {K : PySem.W.Frag} {mg : Str → Option Value} {base : Heap} {CX : CXT} {k : Nat} {f : Addr} {fd : FuncData} {ps : List Str} {sp sp' : Sp} (F : FnOk P w K mg base CX k f fd ps sp)
    (h : ∀ vs H Q E, sp' vs H Q E → sp vs H Q E) : FnOk P w K mg base CX k f fd ps sp' :=
  ⟨fun vs H Q E q => F.len vs H Q E (h _ _ _ _ q), fun A outer s H args us vs Q E hr he hb hv hs => F.run A outer s H args us vs Q E hr he hb hv (h _ _ _ _ hs)⟩
theorem Env0.in1 {P : Program} {w : World} {K : PySem.W.Frag} {mg : Str → Option Value} {base : Heap} {A : Around} {outer : List Env} {s : Shared} {H : Hp} (e : Env0 P w K mg base A outer s H) :
    Env0 P w K mg base A.in1 outer s H := ⟨e.frames, e.mod, e.bs, e.bsz, e.funs, e.frf, e.hok, e.bare⟩
section
variable {X : Cx} {pins : List (Addr × Obj)} {σ : St} {H : Hp} {s s' : Shared}
/-- from a body: what a callee wants -/
theorem Inv.env0 (I : Inv X pins σ H s) : Env0 X.prog X.w X.K X.mg X.base X.A X.stack s H :=
  ⟨I.ok.frames, I.ok.mod, I.bs, Nat.le_trans I.ok.bsz I.sz, I.stack, I.stkFree, I.hok, I.bare⟩
/-- behind a call -/
theorem Inv.after {Q : VK} {u : Value} (I : Inv X pins σ H s) (h : CE X.stack X.prog X.w H s Q u s') : EP X pins σ Q u s' := by
  obtain ⟨v, H', os, bare, un, hok, r, q⟩ := h
  obtain ⟨hh, g, d, t, os'⟩ := s'
  obtain rfl : os' = s.os := os
  exact ⟨v, H', I.call (h' := hh) (g' := g) (d' := d) (t' := t) (ch := []) un hok bare (fun b z => absurd z (by simp)), r, q⟩
end
/-! ### calls -/
/-- f(..): the written arguments, then the defaults dvs; E: what is wanted of an exception -/
def tCall (sp : Sp) (dvs : List V) (E : XK) (t : TA) : TE := fun σ H Q => t σ H fun vs H1 => sp (vs ++ dvs) H1 Q E
/-- how the parameters are bound: us the positional arguments, kw the keywords' values by name, ds the defaults that fill up -/
def Binds (K : PySem.W.Frag) (fd : FuncData) (ps : List Str) (ds : List Value) : Prop :=
  ∀ (s : Shared) (us : List Value), K.In s.heap → (us ++ ds).length = ps.length → BindsTo s fd ⟨us, []⟩ (ps.zip (us ++ ds))
/-- every parameter is given -/
theorem Binds.all {K : PySem.W.Frag} {fd : FuncData} {ps : List Str} (h : ∀ us : List Value, us.length = ps.length → bindArgs fd ⟨us, []⟩ = pure (ps.zip us)) : Binds K fd ps [] := fun s us _ hl => by
  rw [List.append_nil] at hl ⊢
  exact .of_eq (h us hl)
/-- an exception of a callee reaches what this body wants of exceptions -/
def Passes (CX : CXT) (X : Cx) (E : XK) : Prop := ∀ (pins : List (Addr × Obj)) (σ : St) (H : Hp) (s : Shared) (e : Value) (s' : Shared), Inv X pins σ H s → CX X.stack H s E e s' → X.xe e s'
section
variable {X : Cx} {CX : CXT} {k : Nat} {f C : Addr} {fd : FuncData} {ps : List Str} {sp : Sp} {dvs : List V} {ds : List Value} {E : XK} {x m : Str} {p pos apos : Pos} {e o : Expr} {es : List Expr} {ta : TE} {t : TA}
/-- the callee runs -/
theorem run_fn {pins : List (Addr × Obj)} {σ : St} {H : Hp} {s : Shared} {Q : VK} {us : List Value} {vs : List V} (F : FnOk X.prog X.w X.K X.mg X.base CX k f fd ps sp) (hr : Room k X.A) (hb : Binds X.K fd ps ds) (hd : Vals dvs ds) (hx : Passes CX X E)
    (I : Inv X pins σ H s) (r : Vals vs us) (h : sp (vs ++ dvs) H Q E) : wpAny (model X.prog X.w) X.A (call (.ref f) us) (EP X pins σ Q) X.xe s := by
  have r2 : Vals (vs ++ dvs) (us ++ ds) := r.append hd
  have hl : (us ++ ds).length = ps.length := by rw [← r2.length]; exact F.len _ _ _ _ h
  refine wpAny_call (codeAny_mono (F.run X.A X.stack s H ⟨us, []⟩ (us ++ ds) (vs ++ dvs) Q E hr I.env0 (hb s us I.kIn hl) r2 h) fun r s' hq => ?_)
  cases r with
  | error e => exact hx pins σ H s e s' I hq
  | ok fl =>
    cases fl with
    | ret u => exact I.after hq
    | next => exact False.elim hq
    | brk => exact False.elim hq
    | cont => exact False.elim hq
theorem pe_call (F : FnOk X.prog X.w X.K X.mg X.base CX k f fd ps sp) (hr : Room k X.A) (hg : Gl X x) (hm : X.mg x = some (.ref f)) (hk : PySem.W.keepIn X.K (.ref f) = true) (hb : Binds X.K fd ps ds) (hd : Vals dvs ds) (hx : Passes CX X E)
    (ha : PA X (e :: es) t) (hdb : (x == ("__debug__" : Str)) = false := by decide) (he : starEach (e :: es) X.env = (false, eval e X.env) :: starEach es X.env := by rfl) (hpl : (backTo pos (starEach es X.env)).any (·.1) = false := by rfl) :
    PE X (.Call (.Name x p) (e :: es) [] pos) (tCall sp dvs E t) := by
  intro pins s σ H Q I h
  refine wpAny_Call_Name_kw (ld_glob I hg hm ?_ hdb)
  refine PySem.W.callWith_K (h₀ := X.base) I.ok.mod.kin hk (thn (ha pos pins s σ H _ I h) fun us s1 ⟨vs, H1, I1, r, q⟩ => ⟨I1.kIn, ?_⟩) he hpl
  exact run_fn F hr hb hd hx I1 r q
end
/-! ### keywords -/
/-- the values of the keywords, from the left -/
def PK (X : Cx) (kws : List Keyword) (t : TA) : Prop :=
  ∀ (pos : Pos) (pins : List (Addr × Obj)) (s : Shared) (σ : St) (H : Hp) (Q : List V → Hp → Prop), Inv X pins σ H s → t σ H Q → wpAny (model X.prog X.w) X.A (evalAll ((backToKw pos (keywordEach kws X.env)).map (·.2))) (AP X pins σ Q) X.xe s
section
variable {X : Cx} {CX : CXT} {k : Nat} {f C : Addr} {fd : FuncData} {ps ks : List Str} {sp : Sp} {E : XK} {x m : Str} {p pos apos kpos : Pos} {e o : Expr} {es : List Expr} {kws : List Keyword} {te ta : TE} {t tk : TA} {nm : Option Str}
theorem pk_nil : PK X [] tNil := fun _ _ _ _ H Q I h => wpAny_evalAll_nil ⟨[], H, I, .nil, h⟩
theorem pk_cons (ha : PE X e te) (hr : PK X kws t) : PK X (⟨nm, e, kpos⟩ :: kws) (tCons te t) := by
  intro pos pins s σ H Q I h
  show wpAny _ _ (evalAll ((do let v ← eval e X.env; standAt pos; pure v) :: (backToKw pos (keywordEach kws X.env)).map (·.2))) _ _ s
  refine wpAny_evalAll_cons (wpAny_bind (thn (ha pins s σ H _ I h) fun u s1 ⟨x, H1, I1, r1, q1⟩ => wpAny_bind (wpAny_standAt (wpAny_pure ?_))))
  exact thn (hr pos pins s1 σ H1 _ I1 q1) fun us s2 ⟨xs, H2, I2, r2, q2⟩ => ⟨x :: xs, H2, I2, .cons r1 r2, q2⟩
variable {g : List Value → List Value → List Value} {gV : List V → List V → List V}
end
/-! ### a def's body keeps its promise -/
/-- names: the parameters first -/
structure FnScope (N P : List Str) (sc : Scope) : Prop where
  kind : sc.kind = .function
  co : sc.isCoroutine = false
  gen : sc.isGenerator = false
  nd : N.Nodup
  pre : N.take P.length = P
  par : ∀ x ∈ P, sc.names.lookup x = some .local ∨ sc.names.lookup x = some .cell
  nofree : ∀ y ∈ sc.names, y.2 ≠ .free
theorem bindL_out {kindOf : Str → Option NameKind} {x : Str} : ∀ {binds : List (Str × Value)} {m : Str → Option Value}, (∀ v, (x, v) ∉ binds) → bindL kindOf binds m x = m x
  | [], _, _ => rfl
  | (n, v) :: r, m, h => by
    unfold bindL
    rw [bindL_out fun w hw => h w (List.mem_cons_of_mem _ hw)]
    split
    · have : x ≠ n := by rintro rfl; exact h v List.mem_cons_self
      simp [this]
    · rfl
theorem bindC_out {kindOf : Str → Option NameKind} {x : Str} : ∀ {binds : List (Str × Value)} {m : Str → Option Value}, (∀ v, (x, v) ∉ binds) → bindC kindOf binds m x = m x
  | [], _, _ => rfl
  | (n, v) :: r, m, h => by
    unfold bindC
    rw [bindC_out fun w hw => h w (List.mem_cons_of_mem _ hw)]
    split
    · rfl
    · have : x ≠ n := by rintro rfl; exact h v List.mem_cons_self
      simp [this]
theorem bindL_get {kindOf : Str → Option NameKind} {x : Str} {v : Value} : ∀ {P : List Str} {vs : List Value} {i : Nat} {m : Str → Option Value}, P.Nodup → P[i]? = some x → vs[i]? = some v → kindOf x = some .local →
    bindL kindOf (P.zip vs) m x = some v
  | [], _, _, _, _, h, _, _ => by simp at h
  | _ :: _, [], _, _, _, _, h, _ => by simp at h
  | p :: P, w :: vs, 0, m, nd, h1, h2, hk => by
    simp at h1 h2; subst h1; subst h2
    show bindL kindOf ((p, w) :: P.zip vs) m p = _
    unfold bindL
    rw [bindL_out fun v hv => (List.nodup_cons.mp nd).1 (List.of_mem_zip hv).1, if_pos hk]
    simp
  | p :: P, w :: vs, i + 1, m, nd, h1, h2, hk => by
    show bindL kindOf ((p, w) :: P.zip vs) m x = _
    unfold bindL
    exact bindL_get (i := i) (List.nodup_cons.mp nd).2 (by simpa using h1) (by simpa using h2) hk
theorem bindC_get {kindOf : Str → Option NameKind} {x : Str} {v : Value} : ∀ {P : List Str} {vs : List Value} {i : Nat} {m : Str → Option Value}, P.Nodup → P[i]? = some x → vs[i]? = some v → kindOf x ≠ some .local →
    bindC kindOf (P.zip vs) m x = some v
  | [], _, _, _, _, h, _, _ => by simp at h
  | _ :: _, [], _, _, _, _, h, _ => by simp at h
  | p :: P, w :: vs, 0, m, nd, h1, h2, hk => by
    simp at h1 h2; subst h1; subst h2
    show bindC kindOf ((p, w) :: P.zip vs) m p = _
    unfold bindC
    rw [bindC_out fun v hv => (List.nodup_cons.mp nd).1 (List.of_mem_zip hv).1, if_neg hk]
    simp
  | p :: P, w :: vs, i + 1, m, nd, h1, h2, hk => by
    show bindC kindOf ((p, w) :: P.zip vs) m x = _
    unfold bindC
    exact bindC_get (i := i) (List.nodup_cons.mp nd).2 (by simpa using h1) (by simpa using h2) hk
/-- the names' values at the entry -/
def start (N : List Str) (vs : List V) : St := vs.map some ++ List.replicate (N.length - vs.length) none
/-- the context of a def's body, at its entry; an exception leaves the frame, then lies as CX says -/
def cxOf (CX : CXT) (P : Program) (w : World) (K : PySem.W.Frag) (mg : Str → Option Value) (base : Heap) (N : List Str) (qual : Str) (scope : Scope) (f : Addr) (cd : Value) (A : Around) (outer : List Env) (s : Shared) (H : Hp) (E : XK) : Cx where
  prog := P
  w := w
  K := K
  mg := mg
  base := base
  A := A.deeper (envOfC qual scope s.heap.objs.size f cd)
  N := N
  s₀ := s
  H₀ := H
  env := envOfC qual scope s.heap.objs.size f cd
  outer := outer
  stack := envOfC qual scope s.heap.objs.size f cd :: outer
  ex := []
  calm := true
  fn := fun _ => true
  pn := []
  xe := fun e s' => wpAny (model P w) (A.deeper (envOfC qual scope s.heap.objs.size f cd)) (leaving (envOfC qual scope s.heap.objs.size f cd) e) (fun _ s'' => CX outer H s E e s'') (fun e' s'' => CX outer H s E e' s'') s'
theorem cell_has {sc : Scope} {n : Nat} {x : Str} (h : sc.names.lookup x = some .cell) : ∃ c, (cellsFrom n sc.names []).lookup x = some c := by
  have q := PySem.W.cellsFrom_some sc.names n [] (.inl h)
  exact Option.isSome_iff_exists.mp q
theorem inv_start {CX : CXT} {P : Program} {w : World} {K : PySem.W.Frag} {mg : Str → Option Value} {base : Heap} {N ps : List Str} {qual : Str} {scope : Scope} {f : Addr} {cd : Value} {A : Around} {outer : List Env} {s s1 : Shared} {H : Hp} {E : XK} {us : List Value} {vs : List V}
    (S : FnScope N ps scope) (hd : A.handled = none) (e0 : Env0 P w K mg base A outer s H) (hl : vs.length = ps.length) (r : Vals vs us)
    (x : InCallC s s.heap.objs.size (bindL (envOfC qual scope s.heap.objs.size f cd).kindOf (ps.zip us) fun _ => none) (cellsFrom (s.heap.objs.size + 1) scope.names []) (bindC (envOfC qual scope s.heap.objs.size f cd).kindOf (ps.zip us) fun _ => none) s1) :
    Inv (cxOf CX P w K mg base N qual scope f cd A outer s H E) [] (start N vs) H s1 := by
  have hpl : ps.length ≤ N.length := by have := congrArg List.length S.pre; rw [List.length_take] at this; omega
  obtain ⟨h1, tk, rfl, hk⟩ := x.done
  have noA : ∀ b : Addr, b ∉ (cxOf CX P w K mg base N qual scope f cd A outer s H E).ex := fun b z => absurd (show b ∈ ([] : List Addr) from z) (by simp)
  refine ⟨⟨e0.mod, S.kind, rfl, rfl, Nat.le_refl _, fun y z c h1 h2 => ?_, fun y hy => ?_, fun y c _ h => ?_, fun _ => hd, Around.frames_deeper e0.frames, .inr ⟨rfl, rfl⟩, fun b z => absurd z (noA b), e0.bs, e0.bsz, fun b _ _ => noA b, fun b z => absurd z (noA b), e0.funs, e0.frf⟩,
    rfl, e0.bare, Un.kept hk, ⟨_, x.toInCall.ns, fun i y v h1 h2 h3 => ?_⟩, fun y c h => ⟨_, x.cell y c h⟩, e0.hok.fresh (Nat.le_refl _), fun y c h => ?_, fun p hp => absurd (show p ∈ ([] : List (Addr × Obj)) from hp) (by simp), e0.hok.kept hk, ?_⟩
  · exact name_of_addr x.apart (PySem.mem_of_lookup h1) (PySem.mem_of_lookup h2)
  · have hy : scope.names.lookup y = some .cell ∨ scope.names.lookup y = some .free := hy
    rcases hy with hy | hy
    · exact cell_has hy
    · exact absurd rfl (S.nofree _ (PySem.mem_of_lookup hy))
  · exact Nat.le_of_lt (x.above y c (PySem.mem_of_lookup h))
  · have hi : i < vs.length := by
      unfold start at h2
      by_cases hi : i < vs.length
      · exact hi
      · rw [List.getElem?_append_right (by simpa using hi)] at h2
        rw [List.getElem?_replicate] at h2
        split at h2 <;> cases h2
    have ha : vs[i]? = some v := by
      unfold start at h2
      rw [List.getElem?_append_left (by simpa using hi), List.getElem?_map] at h2
      cases e : vs[i]? with
      | none => rw [e] at h2; cases h2
      | some a => rw [e] at h2; cases h2; rfl
    obtain ⟨u, hu, rv⟩ := r.get ha
    have hp : ps[i]? = some y := by
      rw [← S.pre, List.getElem?_take_of_lt (by omega)]; exact h1
    have ndP : ps.Nodup := by rw [← S.pre]; exact S.nd.sublist (List.take_sublist _ _)
    refine ⟨u, rv, ?_⟩
    rcases S.par y (List.mem_of_getElem? hp) with k | k
    · exact .inl ⟨k, bindL_get ndP hp hu k⟩
    · obtain ⟨c, e⟩ := cell_has (n := s.heap.objs.size + 1) k
      refine .inr ⟨.inl k, c, e, ?_⟩
      have q := x.cell y c e
      rw [bindC_get ndP hp hu (by show scope.names.lookup y ≠ _; rw [k]; decide)] at q
      exact q
  · exact e0.hok.fresh (Nat.le_of_lt (x.above y c (PySem.mem_of_lookup h)))
  · unfold start
    show _ = N.length
    rw [List.length_append, List.length_map, List.length_replicate]
    omega
/-- THE RULE: a def (or a method) of the text, by its body. The body's reading t is chosen for each entry; it is run at the parameters' values -/
theorem fn_of {CX : CXT} {P : Program} {w : World} {K : PySem.W.Frag} {mg : Str → Option Value} {base : Heap} {k : Nat} {f : Addr} {name qual : Str} {params : Arguments} {body : List Stmt} {scope : Scope} {dV kV doc pm cdv ct oc : Value} {an od : Option Addr}
    {osl : Array (Option Value)} {N ps : List Str} {sp : Sp} (lk : K.lookup f = some ⟨oc, od, .func (PySem.W.fnOf name qual params body scope dV kV doc pm an cdv ct), osl⟩) (hcd : PySem.W.codeIn K cdv qual = true) (S : FnScope N ps scope)
    (len : ∀ vs H Q E, sp vs H Q E → vs.length = ps.length)
    (hbody : ∀ (A : Around) (outer : List Env) (s : Shared) (H : Hp) (vs : List V) (Q : VK) (E : XK), Room k (A.deeper (envOfC qual scope s.heap.objs.size f cdv)) → sp vs H Q E →
      ∃ t, PSs (cxOf CX P w K mg base N qual scope f cdv A outer s H E) body t ∧ t { nx := fun _ H' => Q .non H', rt := Q } (start N vs) H) :
    FnOk P w K mg base CX (k + 1) f (PySem.W.fnOf name qual params body scope dV kV doc pm an cdv ct) ps sp := by
  refine ⟨len, fun A outer s H args us vs Q E hr e0 hb r hsp => ?_⟩
  have hl := len _ _ _ _ hsp
  have KX : K.In s.heap := e0.mod.kin.keeps fun b o e => (e0.bs b o e).1
  have lim : s.heap.NoLimit := e0.mod.nolimit.keeps fun b o e => (e0.bs b o e).1
  have hkind : ∀ y ∈ ps.zip us, scope.names.lookup y.1 = some .local ∨ (scope.names.lookup y.1 = some .cell ∧ ((cellsFrom (s.heap.objs.size + 1) scope.names []).lookup y.1).isSome = true) := fun ⟨n, v⟩ hy => by
    rcases S.par n (List.of_mem_zip hy).1 with q | q
    · exact .inl q
    · exact .inr ⟨q, PySem.W.cellsFrom_some _ _ _ (.inl q)⟩
  refine codeAny_call_function hr.depth (KX _ _ lk) rfl S.co S.gen rfl (PySem.W.codeRec_of KX hcd) (hb _ _ _ _ ?_)
  refine wpAny_newFunctionEnv_cells S.kind hkind fun env he s1 x => ?_
  subst he
  refine ⟨lim.keeps x.toInCall.keep, codeAny_func ?_⟩
  obtain ⟨t, ht, hq⟩ := hbody A outer s H vs Q E (hr.deeper _) hsp
  have I : Inv (cxOf CX P w K mg base N qual scope f cdv A outer s H E) [] (start N vs) H s1 := inv_start S hr.hd e0 hl r x
  refine wpAny_mono (ht [] s1 (start N vs) H _ I hq) (fun fl s' hs => ?_) fun e s' hs => hs
  have fin : ∀ {σ' : St} {H' : Hp} {v : V} {u : Value}, Inv (cxOf CX P w K mg base N qual scope f cdv A outer s H E) [] σ' H' s' → RelV v u → Q v H' → CE outer P w H s Q u s' :=
    fun {σ' H' v u} J rv q => ⟨v, H', J.os, J.bare, J.base, J.hok, rv, q⟩
  cases fl with
  | ret u =>
    obtain ⟨v, σ', H', J, rv, q⟩ := hs
    exact fin J rv q
  | next =>
    obtain ⟨σ', H', J, q⟩ := hs
    exact fin (v := V.non) (u := Value.none) J rfl q
  | brk =>
    obtain ⟨_, _, _, q⟩ := hs
    exact False.elim q
  | cont =>
    obtain ⟨_, _, _, q⟩ := hs
    exact False.elim q
end L2
namespace L2
open PySem PySem.Spec PyProof.Rows
section
variable {X : Cx} {x : Str} {p pos : Pos} {e : Expr} {es : List Expr} {t : TA} {id T : String} {r : List V → Hp → VK → Prop}
def tCB (r : List V → Hp → VK → Prop) (t : TA) : TE := fun σ H Q => t σ H fun vs H1 => r vs H1 Q
/-- f(e, ..), f a built-in function -/
theorem pe_callB (hc : CallR X (.builtin id) r) (hg : Gl X x) (hm : X.mg x = none) (hv : bootBuiltins x = some (.builtin id)) (ha : PA X (e :: es) t) (hn : x ≠ "__name__" := by decide) (hdb : (x == ("__debug__" : Str)) = false := by decide)
    (he : starEach (e :: es) X.env = (false, eval e X.env) :: starEach es X.env := by rfl) (hpl : (backTo pos (starEach es X.env)).any (·.1) = false := by rfl) : PE X (.Call (.Name x p) (e :: es) [] pos) (tCB r t) := by
  intro pins s σ H Q I h
  refine wpAny_Call_Name_kw (ld_blt I hg hm hv ?_ hn hdb)
  exact PyProof.Rows.callWith_builtin1 (thn (ha pos pins s σ H _ I h) fun us s1 ⟨vs, H1, I1, r1, q1⟩ => hc pins s1 σ H1 vs us Q I1 r1 q1) he hpl
/-- T(e, ..), T a built-in type -/
theorem pe_callTy (hc : CallR X (.type T) r) (hg : Gl X x) (hm : X.mg x = none) (hv : bootBuiltins x = some (.type T)) (ha : PA X (e :: es) t) (hn : x ≠ "__name__" := by decide) (hdb : (x == ("__debug__" : Str)) = false := by decide)
    (he : starEach (e :: es) X.env = (false, eval e X.env) :: starEach es X.env := by rfl) (hpl : (backTo pos (starEach es X.env)).any (·.1) = false := by rfl) : PE X (.Call (.Name x p) (e :: es) [] pos) (tCB r t) := by
  intro pins s σ H Q I h
  refine wpAny_Call_Name_kw (ld_blt I hg hm hv ?_ hn hdb)
  exact PyProof.Rows.callWith_type1 (thn (ha pos pins s σ H _ I h) fun us s1 ⟨vs, H1, I1, r1, q1⟩ => hc pins s1 σ H1 vs us Q I1 r1 q1) he hpl
end
end L2
namespace HT
open PySem PyProof.Rows
section
open PySem.SeqAt
open PySem.AutoSeq1 (wpAny_loadPart')
open PySem.MeetsSeq PySem.MeetsSeq2 PySem.MeetsSeq3
end
section
variable {prog : Program} {w : World} {A : Around} {E : Value → Shared → Prop} {s : Shared}
/-! ### t[a:b], not the whole -/
/-- a slice's bound as a place among n (d where it is left out) -/
def sIx (n d : Nat) : Option Int → Nat
  | none => d
  | some v => if v < 0 then (v + (n : Int)).toNat else min v.toNat n
end
end HT
namespace L2
open PySem PySem.Spec PyProof.Rows
/-! ### the parts of a slice -/
abbrev TO := St → Hp → (Option Int → Hp → Prop) → Prop
/-- a slice's part (left out, or an int) -/
def PO (X : Cx) (e : Option Expr) (t : TO) : Prop :=
  ∀ (pins : List (Addr × Obj)) (s : Shared) (σ : St) (H : Hp) (Q : Option Int → Hp → Prop), Inv X pins σ H s → t σ H Q →
    wpAny (model X.prog X.w) X.A (evalPart e X.env) (fun u s' => ∃ o H', Inv X pins σ H' s' ∧ IsPart u o ∧ Q o H') X.xe s
def tNoPart : TO := fun _ H Q => Q none H
def tPart (t : TE) : TO := fun σ H Q => t σ H fun x H1 => ∃ i, x = .int i ∧ Q (some i) H1
section
variable {X : Cx} {e : Expr} {te : TE} {lo hi : Option Expr} {tl th : TO} {pos p2 : Pos}
theorem po_none : PO X none tNoPart := by
  intro pins s σ H Q I h
  rw [evalPart_none]
  exact wpAny_pure ⟨none, H, I, .none, h⟩
theorem po_some (h : PE X e te) : PO X (some e) (tPart te) := by
  intro pins s σ H Q I hw
  rw [evalPart_some]
  refine thn (h pins s σ H _ I hw) fun u s1 ⟨x, H1, I1, r1, q1⟩ => ?_
  obtain ⟨i, rfl, q⟩ := q1
  obtain ⟨t, rfl⟩ := r1
  exact ⟨some i, H1, I1, .int i t, q⟩
/-- what a slice of a value is, by values: the slice object stands at sl -/
def SlR (X : Cx) (r : V → Option Int → Option Int → Hp → VK → Prop) : Prop :=
  ∀ (pins : List (Addr × Obj)) (s : Shared) (σ : St) (H : Hp) (x : V) (v vl vu : Value) (lo hi : Option Int) (sl : Addr) (Q : VK), Inv X pins σ H s → RelV x v → s.heap.IsSliceOf sl vl vu .none → IsPart vl lo → IsPart vu hi → r x lo hi H Q →
    ∃ T id, typeLookup (.type T) "__getitem__" = pure (some (.builtin id)) ∧ s.TypeIs v T ∧ wpAny (model X.prog X.w) X.A (getItem v (.ref sl)) (EP X pins σ Q) X.xe s
theorem SlR.or {r r' : V → Option Int → Option Int → Hp → VK → Prop} (h : SlR X r) (h' : SlR X r') : SlR X (fun x lo hi H Q => r x lo hi H Q ∨ r' x lo hi H Q) := by
  intro pins s σ H x v vl vu lo hi sl Q I rx hs pl pu q
  rcases q with q | q
  · exact h pins s σ H x v vl vu lo hi sl Q I rx hs pl pu q
  · exact h' pins s σ H x v vl vu lo hi sl Q I rx hs pl pu q
def tSl (r : V → Option Int → Option Int → Hp → VK → Prop) (te : TE) (tl th : TO) : TE := fun σ H Q => te σ H fun x H1 => tl σ H1 fun l H2 => th σ H2 fun u H3 => r x l u H3 Q
/-- a[lo:hi], any a -/
theorem pe_slice {r : V → Option Int → Option Int → Hp → VK → Prop} (hr : SlR X r) (he : PE X e te) (hl : PO X lo tl) (hu : PO X hi th) : PE X (.Subscript e (.Slice lo hi none p2) pos) (tSl r te tl th) := by
  intro pins s σ H Q I h
  refine Subscript_ (thn (he pins s σ H _ I h) fun v s1 ⟨x, H1, I1, r1, q1⟩ => ?_)
  refine wpAny_Slice (thn (hl pins s1 σ H1 _ I1 q1) fun vl s2 ⟨l, H2, I2, pl, q2⟩ => thn (hu pins s2 σ H2 _ I2 q2) fun vu s3 ⟨u, H3, I3, pu, q3⟩ => ?_)
  rw [evalPart_none]
  refine wpAny_pure ?_
  have I4 : Inv X pins σ H3 { s3 with heap := s3.heap.push { cls := .type "slice", data := .fields #[vl, vu, .none] } } := I3.kept (t' := s3.toks) fun b ob q => Heap.get?_push_of_some _ q
  obtain ⟨T, id, hT, ht, hg⟩ := hr pins { s3 with heap := s3.heap.push { cls := .type "slice", data := .fields #[vl, vu, .none] } } σ H3 x v vl vu l u s3.heap.objs.size Q I4 r1 (Heap.IsSliceOf.new ..) pl pu q3
  show wpAny (model X.prog X.w) X.A (subscriptTail e (.Slice lo hi none p2) v (.ref s3.heap.objs.size)) (EP X pins σ Q) X.xe { s3 with heap := s3.heap.push { cls := .type "slice", data := .fields #[vl, vu, .none] } }
  exact tail_any (ops := [.ref s3.heap.objs.size, v]) ht hT hg (by with_unfolding_all rfl)
/-- the items of xs[lo:hi] -/
def cutV (xs : List V) (lo hi : Option Int) : List V := (xs.drop (HT.sIx xs.length 0 lo)).take (HT.sIx xs.length xs.length hi - HT.sIx xs.length 0 lo)
theorem cutV_length (xs : List V) (lo hi : Option Int) : (cutV xs lo hi).length ≤ xs.length := by
  unfold cutV
  rw [List.length_take, List.length_drop]
  omega
end
end L2
namespace L2
open PySem PySem.Spec PyProof.Rows
/-! ### places -/
/-- the place that an index of any sign means -/
def ixN (n : Nat) (i : Int) : Option Nat := if 0 ≤ i then (if i < n then some i.toNat else none) else if -(n : Int) ≤ i then some (i + n).toNat else none
def atI {α : Type} (xs : List α) (i : Int) : Option α := (ixN xs.length i).bind fun j => xs[j]?
theorem ixN_seq {n : Nat} {i : Int} {j : Nat} (h : ixN n i = some j) : seqIndex? i n = some j ∧ j < n ∧ -(n : Int) ≤ i ∧ i < n := by
  unfold ixN at h
  by_cases h0 : 0 ≤ i
  · rw [if_pos h0] at h
    by_cases h1 : i < n
    · rw [if_pos h1] at h
      have e : i.toNat = j := Option.some.inj h
      exact ⟨by rw [seqIndex_of h0 h1, e], by omega, by omega, h1⟩
    · rw [if_neg h1] at h; cases h
  · rw [if_neg h0] at h
    by_cases h1 : -(n : Int) ≤ i
    · rw [if_pos h1] at h
      have e : (i + n).toNat = j := Option.some.inj h
      exact ⟨by rw [seqIndex_neg (by omega) h1, e], by omega, h1, by omega⟩
    · rw [if_neg h1] at h; cases h
theorem atI_get {α : Type} {xs : List α} {i : Int} {v : α} (h : atI xs i = some v) : ∃ j, seqIndex? i xs.length = some j ∧ xs[j]? = some v ∧ j < xs.length ∧ -(xs.length : Int) ≤ i ∧ i < xs.length := by
  unfold atI at h
  cases e : ixN xs.length i with
  | none => rw [e] at h; cases h
  | some j =>
    rw [e] at h
    obtain ⟨h1, h2, h3, h4⟩ := ixN_seq e
    exact ⟨j, h1, h, h2, h3, h4⟩
theorem atI_nat {α : Type} {xs : List α} {j : Nat} {v : α} (h : xs[j]? = some v) : atI xs (j : Int) = some v := by
  have hj : j < xs.length := (List.getElem?_eq_some_iff.mp h).1
  have e : ixN xs.length (j : Int) = some j := by
    unfold ixN
    rw [if_pos (by omega), if_pos (by omega)]; simp
  unfold atI; rw [e]; exact h
theorem atI_last {α : Type} (xs : List α) (v : α) : atI (xs ++ [v]) (-1) = some v := by
  have hl : (xs ++ [v]).length = xs.length + 1 := by simp
  have e : ixN (xs ++ [v]).length (-1) = some xs.length := by
    unfold ixN
    rw [hl, if_neg (by decide), if_pos (by omega)]
    congr 1
    omega
  unfold atI
  rw [e]
  show (xs ++ [v])[xs.length]? = some v
  simp
/-! ### what may be subscripted -/
/-- what stands as an index of a plain subscript -/
def PlainIx (b : Expr) : Prop := ∀ o i, subscripted b false o i = operate [o, i] (getItem o i)
/-- a subscript by values -/
def IxR (X : Cx) (r : R2) : Prop :=
  ∀ (value slice : Expr) (pins : List (Addr × Obj)) (s : Shared) (σ : St) (H : Hp) (x y : V) (v u : Value) (Q : VK), Inv X pins σ H s → RelV x v → RelV y u → r x y H Q →
    subscripted slice false v u = operate [v, u] (getItem v u) → wpAny (model X.prog X.w) X.A (subscriptTail value slice v u) (EP X pins σ Q) X.xe s
/-- a call of a builtin's method by values: the receiver, the arguments -/
def MtR (X : Cx) (id : String) (r : V → List V → Hp → VK → Prop) : Prop :=
  ∀ (pins : List (Addr × Obj)) (s : Shared) (σ : St) (H : Hp) (x : V) (xs : List V) (v : Value) (us : List Value) (Q : VK), Inv X pins σ H s → RelV x v → Vals xs us → r x xs H Q →
    wpAny (model X.prog X.w) X.A (call (.builtin id) (v :: us)) (EP X pins σ Q) X.xe s
section
variable {X : Cx} {a b : Expr} {ta tb : TE} {pos : Pos}
theorem IxR.or {r r' : R2} (h : IxR X r) (h' : IxR X r') : IxR X (fun x y H Q => r x y H Q ∨ r' x y H Q) := by
  intro value slice pins s σ H x y v u Q I rx ry q hs
  rcases q with q | q
  · exact h value slice pins s σ H x y v u Q I rx ry q hs
  · exact h' value slice pins s σ H x y v u Q I rx ry q hs
theorem MtR.or {id : String} {r r' : V → List V → Hp → VK → Prop} (h : MtR X id r) (h' : MtR X id r') : MtR X id (fun x xs H Q => r x xs H Q ∨ r' x xs H Q) := by
  intro pins s σ H x xs v us Q I rx rs q
  rcases q with q | q
  · exact h pins s σ H x xs v us Q I rx rs q
  · exact h' pins s σ H x xs v us Q I rx rs q
/-- a[b] -/
theorem pe_ix {r : R2} (hr : IxR X r) (ha : PE X a ta) (hb : PE X b tb) (hs : PlainIx b) : PE X (.Subscript a b pos) (tOp r ta tb) := by
  intro pins s σ H Q I h
  exact Subscript_ (binT ha hb I h fun v u s2 x y H2 I2 rx ry q => hr a b pins s2 σ H2 x y v u Q I2 rx ry q (hs _ _))
def rIxL (K : PySem.W.Frag) : R2 := fun x y H Q => ∃ p xs i v, x = .ref p ∧ y = .int i ∧ SqL K H p xs ∧ atI xs i = some v ∧ Q v H
theorem ix_list : IxR X (rIxL X.K) := by
  intro value slice pins s σ H x y v u Q I rx ry h hs
  obtain ⟨p, xs, i, z, rfl, rfl, hq, he, q⟩ := h
  cases rx
  obtain ⟨t, rfl⟩ := ry
  obtain ⟨its, r, pl, hz⟩ := I.list hq
  obtain ⟨j, h1, h2, h3, h4, h5⟩ := atI_get he
  obtain ⟨w, ew, rw'⟩ := r.get h2
  have hl := r.length
  have hn := line63
  have fin : EP X pins σ Q w s := ⟨z, H, I, rw', q⟩
  by_cases h0 : 0 ≤ i
  · have hj : i.toNat = j := by
      rw [seqIndex_of h0 h5] at h1
      exact Option.some.inj h1
    exact item_listR pl.isList h0 (by omega) (by rw [hj]; simpa using ew) fin hs
  · have hj : (i + (its.toArray.size : Int)).toNat = j := by
      rw [seqIndex_neg (by omega) h4] at h1
      rw [List.size_toArray, ← hl]
      exact Option.some.inj h1
    exact subscriptTail_builtinR (x := w) pl.isList.typeIs slot_list_getitem.lookup
      (wpAny_getItem_list_neg (Q := fun r s' => r = w ∧ EP X pins σ Q r s') pl.isList (by omega) (by rw [List.size_toArray] <;> omega) (by omega) (by rw [hj]; simpa using ew) ⟨rfl, fin⟩) hs
/-! ### xs[i] = v, any sign -/
/-- the list's object behind a store -/
theorem mapSeq_set (its : List Value) (n j : Nat) (u : Value) : Obj.mapSeq (·.setIfInBounds j u) { cls := .type "list", data := .seq its.toArray n } = { cls := .type "list", data := .seq (its.set j u).toArray n } := by
  simp [Obj.mapSeq]
theorem Inv.lst {pins : List (Addr × Obj)} {σ : St} {H : Hp} {s : Shared} {p : Addr} {xs : List V} (I : Inv X pins σ H s) (h : H p = some (.lst xs)) :
    ∃ (its : List Value) (n : Nat), Vals xs its ∧ s.heap.get? p = some { cls := .type "list", data := .seq its.toArray n } ∧ xs.length ≤ sizeLine := by
  obtain ⟨z, its, n, r, e⟩ := I.hok p _ h
  exact ⟨its, n, r, e, z⟩
/-- the list at p is written by an update of its object -/
theorem Inv.lstUpd {pins : List (Addr × Obj)} {σ : St} {H : Hp} {s : Shared} {p : Addr} {xs ys : List V} {its its' : List Value} {n n' : Nat} {f : Obj → Obj} (I : Inv X pins σ H s) (h : H p = some (.lst xs))
    (ho : s.heap.get? p = some { cls := .type "list", data := .seq its.toArray n }) (hf : f { cls := .type "list", data := .seq its.toArray n } = { cls := .type "list", data := .seq its'.toArray n' }) (r : Vals ys its') (hz : ys.length ≤ sizeLine) (t : Nat) :
    Inv X pins σ (upd H p (.lst ys)) { s with heap := s.heap.update p f, toks := t } := by
  have e : (s.heap.update p f).get? p = some { cls := .type "list", data := .seq its'.toArray n' } := by
    rw [Heap.get?_update_self f ho (by rw [hf] <;> rfl), hf]
  refine I.write (x := p) (e := p) (by rw [h]; trivial) (.inl rfl) (fun b u hb q => (Heap.get?_update_other _ _ (Ne.symm hb)).trans q) ⟨_, e⟩ ?_
  exact ⟨hz, its', n', r, e⟩
def rSetL : V → V → V → Hp → (Hp → Prop) → Prop := fun o i v H Q => ∃ p xs k j, o = .ref p ∧ i = .int k ∧ H p = some (.lst xs) ∧ ixN xs.length k = some j ∧ Q (upd H p (.lst (xs.set j v)))
theorem set_list : PSet X rSetL := by
  intro pins s σ H o i v ov iv u Q I ro ri rv h
  obtain ⟨p, xs, k, j, rfl, rfl, hp, hj, q⟩ := h
  cases ro
  obtain ⟨t, rfl⟩ := ri
  obtain ⟨its, n, r, ho, hz⟩ := I.lst hp
  obtain ⟨h1, h2, h3, h4⟩ := ixN_seq hj
  have hl := r.length
  have hn := line63
  have I' : Inv X pins σ (upd H p (.lst (xs.set j v))) { s with heap := s.heap.update p (Obj.mapSeq (·.setIfInBounds j u)) } :=
    I.lstUpd hp ho (mapSeq_set its n j u) (r.set rv j) (by rw [List.length_set]; exact hz) s.toks
  by_cases h0 : 0 ≤ k
  · have hk : k.toNat = j := by
      rw [seqIndex_of h0 h4] at h1
      exact Option.some.inj h1
    exact PySem.W.ki_setAt ho h0 (by omega) (by rw [List.size_toArray, ← hl]; exact h4) (by rw [hk]; exact ⟨_, I', q⟩)
  · have hk : (k + (its.toArray.size : Int)).toNat = j := by
      rw [seqIndex_neg (by omega) h3] at h1
      rw [List.size_toArray, ← hl]
      exact Option.some.inj h1
    exact PySem.W.ki_setBack ho (by omega) (by rw [List.size_toArray, ← hl]; exact h3) (by omega) (by rw [hk]; exact ⟨_, I', q⟩)
/-! ### slices -/
theorem slice_bounds (lo hi : Option Int) (n : Nat) : (sliceBounds lo hi none n).1 = ((HT.sIx n 0 lo : Nat) : Int) ∧ (sliceBounds lo hi none n).2.1 = ((HT.sIx n n hi : Nat) : Int) ∧ (sliceBounds lo hi none n).2.2 = 1 := by
  refine ⟨?_, ?_, rfl⟩
  · cases lo with
    | none => simp [sliceBounds, HT.sIx]
    | some i =>
      simp only [sliceBounds, HT.sIx, Option.getD_none, show (1 : Int) > 0 by decide, if_true]
      by_cases h : i < 0
      · simp only [h, if_true] <;> omega
      · simp only [h, if_false] <;> omega
  · cases hi with
    | none => simp [sliceBounds, HT.sIx]
    | some i =>
      simp only [sliceBounds, HT.sIx, Option.getD_none, show (1 : Int) > 0 by decide, if_true]
      by_cases h : i < 0
      · simp only [h, if_true] <;> omega
      · simp only [h, if_false] <;> omega
theorem slicePick_cut (its : List Value) (lo hi : Option Int) : slicePick its.toArray lo hi none = ((its.drop (HT.sIx its.length 0 lo)).take (HT.sIx its.length its.length hi - HT.sIx its.length 0 lo)).toArray := by
  obtain ⟨h1, h2, h3⟩ := slice_bounds lo hi its.toArray.size
  unfold slicePick
  rw [h1, h2, h3]
  simp only [sliceRange_one, pick_run, List.size_toArray] <;> rfl
/-- xs[lo:hi] of a list: a new list -/
def rSlL (K : PySem.W.Frag) : V → Option Int → Option Int → Hp → VK → Prop := fun x lo hi H Q => ∃ a xs, x = .ref a ∧ SqL K H a xs ∧ ∀ p, H p = none → Q (.ref p) (upd H p (.lst (cutV xs lo hi)))
theorem sl_list : SlR X (rSlL X.K) := by
  intro pins s σ H x v vl vu lo hi sl Q I rx hs pl pu h
  obtain ⟨a, xs, rfl, hx, q⟩ := h
  cases rx
  obtain ⟨its, r, ht, hz⟩ := I.list hx
  have hlen := r.length
  refine ⟨"list", _, slot_list_getitem.lookup, ht.isList.typeIs, ?_⟩
  refine wpAny_getItem_list_slice ht.isList hs pl pu .none (by simp) ?_ (by rw [List.size_toArray] <;> omega)
  rw [slicePick_cut, ← hlen]
  refine ⟨.ref s.heap.objs.size, _, I.laid (t' := s.toks) (o := .lst (cutV xs lo hi)) (fun b ob q => Heap.get?_push_of_some _ q) (Nat.le_refl _) ?_, rfl, q _ (I.hok.fresh (Nat.le_refl _))⟩
  exact ⟨Nat.le_trans (cutV_length xs lo hi) hz, _, 0, (r.drop (HT.sIx xs.length 0 lo)).take (HT.sIx xs.length xs.length hi - HT.sIx xs.length 0 lo), Heap.get?_push_size _ rfl⟩
/-! ### len, list(x), tuple(x) of any list or tuple that is read -/
theorem call_len_seq : CallR X (.builtin "len") (fun xs H Q => ∃ p ys, xs = [.ref p] ∧ (SqL X.K H p ys ∨ SqT X.K H p ys) ∧ Q (.int ys.length) H) := by
  intro pins s σ H xs us Q I r h
  obtain ⟨p, ys, rfl, hq, q⟩ := h
  obtain ⟨u, rfl, rx⟩ := vals1 r
  cases rx
  have hn := line63
  rcases hq with hq | hq
  · obtain ⟨its, r', pl, hz⟩ := I.list hq
    have hlen := r'.length
    exact Calls.call_len_list pl.isList (by simp only [List.size_toArray] <;> omega) ⟨.int ys.length, H, I.tok _, ⟨s.toks + 1, by rw [List.size_toArray, hlen]⟩, q⟩
  · obtain ⟨its, r', pl, hz⟩ := I.tuple hq
    have hlen := r'.length
    exact len_tuple pl (by simp only [List.size_toArray] <;> omega) ⟨.int ys.length, H, I.tok _, ⟨s.toks + 1, by rw [List.size_toArray, hlen]⟩, q⟩
theorem CallR.or {f : Value} {r r' : List V → Hp → VK → Prop} (h : CallR X f r) (h' : CallR X f r') : CallR X f (fun xs H Q => r xs H Q ∨ r' xs H Q) := by
  intro pins s σ H xs us Q I rs q
  rcases q with q | q
  · exact h pins s σ H xs us Q I rs q
  · exact h' pins s σ H xs us Q I rs q
theorem call_list_of : CallR X (.type "list") (fun xs H Q => ∃ p ys, xs = [.ref p] ∧ (SqL X.K H p ys ∨ SqT X.K H p ys) ∧ ∀ l, H l = none → Q (.ref l) (upd H l (.lst ys))) := by
  intro pins s σ H xs us Q I r h
  obtain ⟨p, ys, rfl, hq, q⟩ := h
  obtain ⟨u, rfl, rx⟩ := vals1 r
  cases rx
  have fin : ∀ (its : List Value), Vals ys its → ys.length ≤ sizeLine → ∀ (h' : Heap) (c' : Nat), (∀ b o', s.heap.get? b = some o' → h'.get? b = some o') →
      h'.get? s.heap.objs.size = some { cls := .type "list", dict := none, data := .seq its.toArray c', slots := #[] } → EP X pins σ Q (.ref s.heap.objs.size) { s with heap := h' } := fun its r' hz h' c' kp e =>
    ⟨.ref s.heap.objs.size, _, I.laid (t' := s.toks) kp (Nat.le_refl _) (show ObjOk X.prog X.w _ h' _ (.lst ys) from ⟨hz, its, c', r', e⟩), rfl, q _ (I.hok.fresh (Nat.le_refl _))⟩
  rcases hq with hq | hq
  · obtain ⟨its, r', pl, hz⟩ := I.list hq
    have hlen := r'.length
    obtain ⟨o, ho, hc, n, hd⟩ := pl.isList
    exact call_list_seq p (.inl rfl) ho hc hd (fun h' c' kp e => fin its r' hz h' c' kp e) (by simp only [List.size_toArray] <;> omega)
  · obtain ⟨its, r', pl, hz⟩ := I.tuple hq
    have hlen := r'.length
    obtain ⟨o, ho, hc, n, hd⟩ := pl
    exact call_list_seq p (.inr rfl) ho hc hd (fun h' c' kp e => fin its r' hz h' c' kp e) (by simp only [List.size_toArray] <;> omega)
/-! ### the call of a builtin's method: o.m(..) -/
/-- the value is of that builtin type -/
def tyV (K : PySem.W.Frag) (T : String) (x : V) (H : Hp) : Prop := match x with
  | .str _ => T = "str"
  | .int _ => T = "int"
  | .ref p => (T = "list" ∧ ∃ xs, SqL K H p xs) ∨ (T = "tuple" ∧ ∃ o, K.lookup p = some o ∧ o.cls = .type "tuple" ∧ o.dict = none) ∨
      (T = "dict" ∧ ((∃ kvs, H p = some (.dK kvs)) ∨ ∃ kvs, H p = some (.dT kvs))) ∨ (T = "set" ∧ ∃ S n, H p = some (.set S n))
  | _ => False
theorem tyV_is {pins : List (Addr × Obj)} {σ : St} {H : Hp} {s : Shared} {T : String} {x : V} {v : Value} (I : Inv X pins σ H s) (r : RelV x v) (ty : tyV X.K T x H) :
    s.TypeIs v T ∧ ∀ a, v = .ref a → ∃ ob, s.heap.get? a = some ob ∧ ob.dict = none := by
  cases x with
  | str z =>
    obtain ⟨t, rfl⟩ := r
    cases (show T = "str" from ty)
    exact ⟨typeIs_str s z t, fun _ e => nomatch e⟩
  | int i =>
    obtain ⟨t, rfl⟩ := r
    cases (show T = "int" from ty)
    exact ⟨typeIs_int s i t, fun _ e => nomatch e⟩
  | ref p =>
    cases r
    rcases ty with ⟨rfl, xs, hq⟩ | ⟨rfl, o, hk, hc, hd⟩ | ⟨rfl, hk⟩ | ⟨rfl, S, n, hk⟩
    · obtain ⟨its, _, pl, _⟩ := I.list hq
      refine ⟨pl.isList.typeIs, fun a e => ?_⟩
      cases e
      obtain ⟨o, n, e, c, hd, _⟩ := pl
      exact ⟨o, e, hd⟩
    · refine ⟨⟨o, I.kIn p o hk, hc⟩, fun a e => ?_⟩
      cases e
      exact ⟨o, I.kIn _ o hk, hd⟩
    · have z : ∃ o, s.heap.get? p = some o ∧ o.ExactDict := by
        rcases hk with ⟨kvs, hk⟩ | ⟨kvs, hk⟩
        · obtain ⟨_, _, _, _, o, _, _, e, ex, _⟩ := I.hok p _ hk
          exact ⟨o, e, ex⟩
        · obtain ⟨_, _, _, _, o, _, _, e, ex, _⟩ := I.hok p _ hk
          exact ⟨o, e, ex⟩
      obtain ⟨o, e, ex⟩ := z
      refine ⟨⟨o, e, ex.1⟩, fun a e2 => ?_⟩
      cases e2
      exact ⟨o, e, ex.2.1⟩
    · obtain ⟨o, _, _, _, e, ex, _⟩ := I.hok p _ hk
      refine ⟨⟨o, e, ex.1⟩, fun a e2 => ?_⟩
      cases e2
      exact ⟨o, e, ex.2.1⟩
  | _ => exact False.elim ty
def tBM (K : PySem.W.Frag) (T : String) (r : V → List V → Hp → VK → Prop) (to : TE) (t : TA) : TE := fun σ H Q => to σ H fun x H1 => tyV K T x H1 ∧ t σ H1 fun xs H2 => r x xs H2 Q
variable {o e : Expr} {es : List Expr} {to : TE} {t : TA} {name : Str} {apos cpos : Pos} {T id : String} {r : V → List V → Hp → VK → Prop}
theorem pe_bm (pa : PlainAttrs T) (slot : Slot T name id) (hty : typeOf (.builtin id) = pure (.type "method_descriptor")) (hm : MtR X id r) (ho : PE X o to) (ha : PA X (e :: es) t)
    (hbase : attributeBase o name X.env (eval o X.env) = eval o X.env := by rfl)
    (hfew : ((backTo cpos (starEach (e :: es) X.env)).all (fun x => !x.1) && (backToKw cpos (keywordEach [] X.env)).all (fun x => x.1.isSome)
      && decide ((e :: es).length + ([] : List Keyword).length + (if ([] : List Keyword).isEmpty then 0 else 1) < 30)) = true := by rfl)
    (hline : (apos.endLine == cpos.line) = true := by rfl) (hs : starEach (e :: es) X.env = (false, eval e X.env) :: starEach es X.env := by rfl) (hplain : (backTo cpos (starEach es X.env)).any (·.1) = false := by rfl) :
    PE X (.Call (.Attribute o name apos) (e :: es) [] cpos) (tBM X.K T r to t) := by
  intro pins s σ H Q I h
  refine wpAny_Call_method_late hbase hfew hline rfl (thn (ho pins s σ H _ I h) fun v s1 ⟨x, H1, I1, r1, ty, q1⟩ => ?_)
  obtain ⟨h1, h2⟩ := tyV_is I1 r1 ty
  refine ⟨T, id, pa, slot, hty, h1, h2, ?_⟩
  have hA := ha cpos pins s1 σ H1 _ I1 q1
  rw [hs] at hA ⊢
  refine Calls.callWith_builtin (by show (false || (backTo cpos (starEach es X.env)).any (·.1)) = false; rw [hplain] <;> rfl) (Calls.evalArgs_plain ?_)
  exact thn hA fun us s2 ⟨vs, H2, I2, r2, q2⟩ => hm pins s2 σ H2 x vs v us Q I2 r1 r2 q2
/- xs.append(e), list.index on a module's tuple .. are MtR facts of 06m -/
end
end L2
namespace L2
open PySem PySem.Spec PyProof.Rows
def MtM (X : Cx) (id : String) (r : V → List V → Hp → VK → Prop) : Prop :=
  ∀ (pins : List (Addr × Obj)) (s : Shared) (σ : St) (H : Hp) (x : V) (xs : List V) (v : Value) (us : List Value) (Q : VK), Inv X pins σ H s → RelV x v → Vals xs us → r x xs H Q →
    wpAny (model X.prog X.w) X.A (call (.builtin id) (v :: us)) (EP X pins σ Q) X.xe s
/-! ### lists of values -/
theorem Vals.one : ∀ {x : V} {us : List Value}, Vals [x] us → ∃ u, us = [u] ∧ RelV x u
  | _, _, .cons r .nil => ⟨_, rfl, r⟩
theorem Vals.two : ∀ {x y : V} {us : List Value}, Vals [x, y] us → ∃ u v, us = [u, v] ∧ RelV x u ∧ RelV y v
  | _, _, _, .cons r (.cons q .nil) => ⟨_, _, rfl, r, q⟩
theorem Vals.zero : ∀ {us : List Value}, Vals [] us → us = []
  | _, .nil => rfl
theorem Vals.eraseIdx : ∀ {xs : List V} {us : List Value} (i : Nat), Vals xs us → Vals (xs.eraseIdx i) (us.eraseIdx i)
  | _, _, _, .nil => .nil
  | _, _, 0, .cons _ t => t
  | _, _, i + 1, .cons r t => .cons r (Vals.eraseIdx i t)
theorem Vals.reverse {xs : List V} {us : List Value} (h : Vals xs us) : Vals xs.reverse us.reverse := by
  induction h with
  | nil => exact .nil
  | cons r t ih => rw [List.reverse_cons, List.reverse_cons]; exact Vals.append ih (.cons r .nil)
theorem len_erase {α : Type} : ∀ (l : List α) (i : Nat), (l.eraseIdx i).length ≤ l.length
  | [], _ => Nat.le_refl _
  | _ :: _, 0 => Nat.le_succ _
  | _ :: r, i + 1 => Nat.succ_le_succ (len_erase r i)
section
variable {X : Cx} {pins : List (Addr × Obj)} {σ : St} {H : Hp} {s : Shared} {l b : Addr} {xs ys zs : List V}
/-! ### the two steps: a tracked list is rewritten, a new list is laid -/
theorem Inv.lset {its its' : List Value} {n : Nat} {f : Array Value → Array Value} {t' : Nat} (I : Inv X pins σ H s) (hH : H l = some (.lst xs))
    (e : s.heap.get? l = some { cls := .type "list", data := .seq its.toArray n }) (hf : f its.toArray = its'.toArray) (hv : Vals ys its') (hz : ys.length ≤ sizeLine) :
    Inv X pins σ (upd H l (.lst ys)) { s with heap := s.heap.update l (Obj.mapSeq f), toks := t' } := by
  have q := PySem.IsL.update e f
  rw [hf] at q
  refine I.write (x := l) (e := l) (by rw [hH]; exact trivial) (.inl rfl) (fun b' u hb hu => (Heap.get?_update_other s.heap (Obj.mapSeq f) (Ne.symm hb)).trans hu) ⟨_, q⟩ ?_
  exact ⟨hz, its', _, hv, q⟩
theorem Inv.lnew {its : List Value} {t' : Nat} (I : Inv X pins σ H s) (hv : Vals ys its) (hz : ys.length ≤ sizeLine) :
    Inv X pins σ (upd H s.heap.objs.size (.lst ys)) { s with heap := s.heap.push { cls := .type "list", data := .seq its.toArray }, toks := t' } :=
  I.laid (fun _ _ q => Heap.get?_push_of_some _ q) (Nat.le_refl _) ⟨hz, its, 0, hv, Heap.get?_push_size _ rfl⟩
theorem Inv.fresh (I : Inv X pins σ H s) : H s.heap.objs.size = none := I.hok.fresh (Nat.le_refl _)
theorem Inv.lstM (I : Inv X pins σ H s) (hH : H l = some (.lst xs)) : xs.length ≤ sizeLine ∧ ∃ (its : List Value) (n : Nat), Vals xs its ∧ xs.length = its.length ∧ s.heap.get? l = some { cls := .type "list", data := .seq its.toArray n } := by
  obtain ⟨z, its, n, r, e⟩ := I.hok l _ hH
  exact ⟨z, its, n, r, r.length, e⟩
end
section
variable {X : Cx}
/-! ### methods -/
def rAppend : V → List V → Hp → VK → Prop := fun x vs H Q => ∃ l xs y, x = .ref l ∧ vs = [y] ∧ H l = some (.lst xs) ∧ xs.length < sizeLine ∧ Q .non (upd H l (.lst (xs ++ [y])))
theorem mt_append : MtM X "list.append" rAppend := by
  intro pins s σ H x vs v us Q I rx rv h
  obtain ⟨l, xs, y, rfl, rfl, hH, hz, q⟩ := h
  cases rx
  obtain ⟨u, rfl, ru⟩ := rv.one
  obtain ⟨z, its, n, r, hl, e⟩ := I.lstM hH
  refine call_meets F.slot_list_append ⟨_, e, rfl⟩ F.entry_list_append (F.args_list_append_2 _ _) (PySem.list_append l its.toArray n u (by rw [List.size_toArray]; omega)) ⟨e, ?_⟩
  refine ⟨.non, _, I.lset (its' := its ++ [u]) hH e (by simp) (r.append (.cons ru .nil)) ?_, rfl, q⟩
  rw [List.length_append, List.length_singleton]
  omega
def rPopAt : V → List V → Hp → VK → Prop := fun x vs H Q => ∃ l xs i k y, x = .ref l ∧ vs = [.int i] ∧ H l = some (.lst xs) ∧ -(2 ^ 63) ≤ i ∧ i < 2 ^ 63 ∧ seqIndex? i xs.length = some k ∧ xs[k]? = some y ∧ Q y (upd H l (.lst (xs.eraseIdx k)))
theorem mt_popAt : MtM X "list.pop" rPopAt := by
  intro pins s σ H x vs v us Q I rx rv h
  obtain ⟨l, xs, i, k, y, rfl, rfl, hH, h1, h2, hk, hy, q⟩ := h
  cases rx
  obtain ⟨u, rfl, ru⟩ := rv.one
  obtain ⟨t, rfl⟩ := ru
  obtain ⟨z, its, n, r, hl, e⟩ := I.lstM hH
  obtain ⟨w, hw, rw'⟩ := r.get hy
  refine call_meets F.slot_list_pop ⟨_, e, rfl⟩ F.entry_list_pop (F.args_list_pop_2 _ _)
    (MeetsSeq.list_pop_at l its.toArray n i t k w (fitsIndex_both h1 h2) (by rw [List.size_toArray, ← hl]; exact hk) (by rw [← Array.getElem?_toList]; exact hw) (by rw [List.size_toArray]; omega)) ⟨e, ?_⟩
  refine ⟨y, _, I.lset (its' := its.eraseIdx k) hH e ?_ (r.eraseIdx k) ?_, rw', q⟩
  · show its.toArray.eraseIdxIfInBounds k = (its.eraseIdx k).toArray
    rw [List.eraseIdxIfInBounds_toArray]
  · have := len_erase xs k
    omega
/-! ### list + list, list += list, list * int -/
def rCat : R2 := fun x y H Q => ∃ l b xs zs, x = .ref l ∧ y = .ref b ∧ H l = some (.lst xs) ∧ H b = some (.lst zs) ∧ xs.length + zs.length ≤ sizeLine ∧ ∀ p, H p = none → Q (.ref p) (upd H p (.lst (xs ++ zs)))
theorem op_cat : OpR X (binaryOp .Add) rCat := by
  intro pins s σ H x y v u Q I rx ry h
  obtain ⟨l, b, xs, zs, rfl, rfl, hH, hB, hz, q⟩ := h
  cases rx
  cases ry
  obtain ⟨z, its, n, r, hl, e⟩ := I.lstM hH
  obtain ⟨z2, its2, n2, r2, hl2, e2⟩ := I.lstM hB
  refine PySem.P.add_list e e2 ?_ (by rw [List.size_toArray, List.size_toArray]; omega)
  have ea : its.toArray ++ its2.toArray = (its ++ its2).toArray := by simp
  rw [ea]
  exact ⟨.ref _, _, I.lnew (t' := s.toks) (r.append r2) (by rw [List.length_append]; omega), rfl, q _ I.fresh⟩
end
/-! ### xs[a:b] = ys -/
section
variable {prog : Program} {w : World} {A : Around} {E : Value → Shared → Prop} {s : Shared}
end
section
variable {X : Cx}
end
end L2
namespace Att
open PySem PySem.W PySem.Calls PyProof.Rows
/-! ### the script -/
theorem ints_of_wellAll {P : Params} {h : Heap} : ∀ (ns : List Int) (vs : List Value), WellAll P h vs (ns.map WData.int) → IntsAre vs ns := by
  intro ns
  induction ns with
  | nil =>
    intro vs w
    rw [List.map_nil] at w
    cases w
    exact .nil
  | cons n ns ih =>
    intro vs w
    rw [List.map_cons] at w
    cases w with
    | cons a b =>
      cases a
      exact .cons _ _ (ih _ b)
theorem script_of {l : OpenLaw} {n : Nat} (hn : l.most = some n) {P : Params} {h : Heap} {args : List WData} {vals : List Value}
    (hpre : l.row.toRowW.claim.pre args = true) (hwl : WellAll P h vals args) :
    ∃ a vs ns, vals = [Value.ref a] ∧ args = [WData.list (ns.map WData.int)] ∧ h.get? a = some { cls := .type "list", data := .seq vs.toArray } ∧ IntsAre vs ns ∧ ns.length ≤ n := by
  have hsh : WShape.hasAll [] args [.list .int] = true := (pre_splitW hpre).1
  have hc : l.pre.holds [] { args := args } = true := (pre_splitW hpre).2
  obtain ⟨d, r, rfl, h1, h2⟩ := hasAllW_cons hsh
  obtain rfl := hasAllW_nil h2
  obtain ⟨xs, rfl, h3⟩ := hasW_list h1
  obtain ⟨ns, rfl⟩ := items_int h3
  have hlen : ns.length ≤ n := by
    unfold OpenLaw.pre at hc
    have h4 : (WTm.not (.lt (.lit (.int (n : Int))) (.len (.arg 0)))).holds [] { args := [.list (ns.map .int)] } = true := by
      have h4 := (holds_andW hc).1
      rw [hn] at h4
      exact h4
    have h5 := condW_of h4 (w_not (w_lt w_lit (w_len_list (w_arg rfl))))
    rw [List.length_map] at h5
    refine Nat.le_of_not_lt fun q => ?_
    have q' : (n : Int) < ((ns.length : Nat) : Int) := by omega
    first
      | (rw [decide_eq_true q'] at h5; exact absurd h5 (by decide))
      | (simp at h5; omega)
  cases hwl with
  | cons w1 w2 =>
    cases w2
    cases w1 with
    | list ho hall => exact ⟨_, _, ns, rfl, rfl, ho, ints_of_wellAll ns _ hall, hlen⟩
theorem post_true (l : OpenLaw) (args : List WData) : l.row.toRowW.claim.post args (.bool true) args = true :=
  postW_of (r := l.row.toRowW) (X := (true == true))
    (show WShape.has [] (.bool true) .bool = true by first | rfl | decide | simp [WShape.has, WShape.arms, WShape.armsAll])
    (show (WTm.eq .res (.lit (.bool true))).value [] { args := args, res := some (.bool true), after := args } = some (.bool (true == true)) from w_eq_bool (w_res rfl) w_lit) rfl
/-- the same from a codeAny of the CALL (for a layer whose function contracts speak of calls) -/
theorem attach_call {l : OpenLaw} {n : Nat} {q : Program} {loose : List Str} {XP : (Str → Option Value) → Heap → Prop} {YP : World → Heap → Prop} {d : DefRec}
    (hn : l.most = some n) (hdf : d.params.defaults = [])
    (call : ∀ (w : World) (s₀ s₁ : Shared) (mg mb : Str → Option Value) (fa : Addr) (o : Obj) (pm cd doc : Value) (a : Addr) (vs : List Value) (ns : List Int),
      Ground q loose [] XP w s₀ mg mb s₁.heap → YP w s₁.heap →
      s₁.heap.get? fa = some o → o.data = .func (docDef d.name d.params d.body d.scope pm cd doc) → s₁.heap.CodeRec cd d.name → mg d.name = some (.ref fa) →
      s₁.heap.get? a = some { cls := .type "list", data := .seq vs.toArray } → IntsAre vs ns → ns.length ≤ n → s₁.gens = #[] →
      codeAny (model l.prog w) callerA (.call (.ref fa) ⟨[.ref a], []⟩) (fun r s' => r = .ok (.ret (.bool true)) ∧ OldK s₁.heap s'.heap ∧ s'.os = s₁.os ∧ AllBare s'.gens) s₁) :
    WalkO q loose XP YP l.row.toRowW d [] (fun f vs => PySem.call f vs) := by
  intro w s₀ s₁ mg mb G Y fa o pm cd doc dV kV ho hd hcd hD hmg hg args vals as hpre hlay hrd hwl hlo
  obtain rfl : dV = .none := Dflts.none hD hdf
  obtain rfl : kV = .none := Dflts.noKw hD
  obtain ⟨a, vs, ns, rfl, rfl, hobj, hints, hlen⟩ := script_of hn hpre hwl
  refine enter_call (codeAny_mono (call w s₀ s₁ mg mb fa o pm cd doc a vs ns G Y ho (fd_plain hd) hcd hmg hobj hints hlen hg) fun r s' hq => ?_)
  obtain ⟨rfl, h2, h3, h4⟩ := hq
  exact ⟨.inl ⟨.bool true, .bool true, [], rfl, fun _ => rfl, .bool true, post_true l _, fun _ => ⟨List.Pairwise.nil, fun _ hm => (nomatch hm)⟩⟩, h2, h3, h4⟩
/-! ### rules over ANY heap (no ledger) from facts about the written part K: the library's own take a ledger (News) for what they write -/
section
variable {prog : Program} {w : World} {A : Around} {E : Value → Shared → Prop} {s : Shared} {K : Frag}
def ledger (h : Heap) (L d : Addr) : List (Addr × Obj) := (List.range h.objs.size).filterMap fun a => if a = L ∨ a = d then none else (h.get? a).map fun o => (a, o)
end
end Att
namespace L2
open PySem PySem.Spec PyProof.Rows
theorem vals_ints : ∀ {vs : List Value} {ns : List Int}, IntsAre vs ns → Vals (ns.map V.int) vs
  | _, _, .nil => .nil
  | _, _, .cons n t h => .cons ⟨t, rfl⟩ (vals_ints h)
/-- nothing is tracked but the script, known to the object (or it is an object of the module) -/
def Only (H : Hp) : Prop := ∀ b, H b = none ∨ ∃ o xs, H b = some (.frz o (.lst xs))
/-- THE HEAD: the law's promise, at the heap behind the top. F, the promise of the law's def, may use that base is part of the heap (so K.In base, base.Ns mainGlobals mg stand in Mod) -/
theorem law_call {P : Program} {w : World} {K : PySem.W.Frag} {mg mb : Str → Option Value} {CX : CXT} {k : Nat} {fa a : Addr} {fd : FuncData} {x : Str} {sp : Sp} {s₁ : Shared} {vs : List Value} {ns : List Int}
    (KX : K.In s₁.heap) (hns : s₁.heap.Ns mainGlobals mg) (hb : s₁.heap.Ns builtinsNs mb) (hbb : ∀ x : Str, x ≠ "__name__" → mb x = bootBuiltins x) (hlim : s₁.heap.NoLimit) (hg : s₁.gens = #[])
    (ha : s₁.heap.get? a = some { cls := .type "list", data := .seq vs.toArray }) (hi : IntsAre vs ns) (hl : ns.length ≤ sizeLine) (hr : Room k callerA)
    (F : ∀ base : Heap, K.In base → base.Ns mainGlobals mg → FnOk P w K mg base CX k fa fd [x] sp) (hbind : ∀ (s : Shared) (u : Value), BindsTo s fd ⟨[u], []⟩ [(x, u)])
    (hsp : ∀ H : Hp, Only H → SqL K H a (ns.map V.int) → sp [.ref a] H (fun v _ => v = .bl true) fun _ _ _ => False)
    (hCX : ∀ H e s', CX [] H s₁ (fun _ _ _ => False) e s' → False) :
    codeAny (model P w) callerA (.call (.ref fa) ⟨[.ref a], []⟩) (fun r s' => r = .ok (.ret (.bool true)) ∧ OldK s₁.heap s'.heap ∧ s'.os = s₁.os ∧ AllBare s'.gens) s₁ := by
  have rv := vals_ints hi
  have lenV := hi.length
  -- from an abstract heap in which nothing but the script may be tracked
  have core : ∀ H : Hp, Only H → SqL K H a (ns.map V.int) → HOk P w H s₁.heap → (∀ b, H b ≠ none → b = a) → (H a ≠ none → K.lookup a = none) →
      codeAny (model P w) callerA (.call (.ref fa) ⟨[.ref a], []⟩) (fun r s' => r = .ok (.ret (.bool true)) ∧ OldK s₁.heap s'.heap ∧ s'.os = s₁.os ∧ AllBare s'.gens) s₁ := by
    intro H hO hS hok hA hK
    have base_of : ∀ {b : Addr} {o : Obj}, s₁.heap.get? b = some o → H b = none → (hidT s₁.heap H).get? b = some o := fun e n => hidT_get e n
    have noA : ∀ {b : Addr} {o : Obj} {es : Array DictEntry} {ep : Nat}, s₁.heap.get? b = some o → o.data = .dict es ep → H b = none := fun {b o es ep} e d => by
      cases q : H b with
      | none => rfl
      | some u =>
        have e' : b = a := hA b (by rw [q]; simp)
        subst e'
        rw [ha] at e; cases e
        have d' : Data.seq vs.toArray _ = Data.dict es ep := d
        cases d'
    have nsK : ∀ {b : Addr} {m : Str → Option Value}, s₁.heap.Ns b m → (hidT s₁.heap H).Ns b m := fun {b m} ⟨o, es, ep, e, d, r⟩ => ⟨o, es, ep, base_of e (noA e d), d, r⟩
    have hKb : K.In (hidT s₁.heap H) := fun b o e => base_of (KX b o e) (by
      cases q : H b with
      | none => rfl
      | some u =>
        have e' : b = a := hA b (by rw [q]; simp)
        subst e'
        rw [hK (by rw [q]; simp)] at e; cases e)
    have hM : Mod K mg (hidT s₁.heap H) := ⟨hKb, nsK hns, ⟨mb, nsK hb, hbb⟩, let ⟨mc, h1, h2⟩ := hlim; ⟨mc, nsK h1, h2⟩⟩
    have e0 : Env0 P w K mg (hidT s₁.heap H) callerA [] s₁ H := ⟨rfl, hM, fun b o e => of_hidT e, Nat.le_of_eq (hidT_size _ _), trivial, fun b hb => absurd (show b ∈ ([] : List Addr) from hb) (by simp), hok, .of_eq hg⟩
    refine codeAny_mono ((F _ hKb (nsK hns)).run callerA [] s₁ H ⟨[.ref a], []⟩ [.ref a] [.ref a] _ _ hr e0 (hbind s₁ (.ref a)) (.cons rfl .nil) (hsp H hO hS)) fun r s' h => ?_
    cases r with
    | error e => exact (hCX H e s' h).elim
    | ok fl =>
      cases fl with
      | next => exact False.elim h
      | brk => exact False.elim h
      | cont => exact False.elim h
      | ret u =>
        obtain ⟨v, H', os, bare, un, hok', r', q⟩ := h
        have q' : v = .bl true := q
        subst q'
        obtain rfl : u = Value.bool true := r'
        refine ⟨rfl, OldK.of_keep fun b o e => ?_, os, bare⟩
        cases q : H b with
        | none => exact un.keep b o e q (by intro z; exact absurd (show b ∈ ([] : List Addr) from z) (by simp)) (by simp)
        | some u =>
          rcases hO b with z | ⟨ob, xs, z⟩
          · rw [q] at z; cases z
          · have z2 := un.frzs b ob _ z
            obtain ⟨e1, _⟩ := hok b _ z
            obtain ⟨e2, _⟩ := hok' b _ z2
            rw [e] at e1; cases e1
            exact e2
  cases hk : K.lookup a with
  | some o =>
    -- the script is one of the module's own objects
    have e := KX a o hk
    rw [ha] at e
    cases e
    refine core (fun _ => none) (fun _ => .inl rfl) (.inr ⟨_, vs.toArray, _, hk, rfl, rfl, rfl, by rw [List.size_toArray, lenV]; exact hl, by simpa using rv⟩) (fun b u z => by have z' : (none : Option HO) = some u := z; cases z') (fun b z => absurd rfl z) fun z => absurd rfl z
  | none =>
    refine core (fun b => if b = a then some (.frz { cls := .type "list", data := .seq vs.toArray } (.lst (ns.map V.int))) else none) (fun b => ?_) (.inl (.inr ⟨{ cls := .type "list", data := .seq vs.toArray }, if_pos rfl⟩)) (fun b u z => ?_) (fun b z => ?_) fun _ => hk
    · by_cases hb : b = a
      · exact .inr ⟨_, _, if_pos hb⟩
      · exact .inl (if_neg hb)
    · by_cases hb : b = a
      · have z' := (if_pos hb).symm.trans z
        cases z'
        subst hb
        exact ⟨ha, by rw [List.length_map]; exact hl, vs, _, rv, ha⟩
      · have z' := (if_neg hb).symm.trans z
        cases z'
    · by_cases hb : b = a
      · exact hb
      · exact absurd (if_neg hb) z
end L2
namespace L2
open PySem PySem.Spec PyProof.Rows
abbrev KOf {K : PySem.W.Frag} {h : Heap} (_ : K.In h) : PySem.W.Frag := K
/-- the goal that k_head leaves (case hc), from the law's promise. F gives the function object fd (K's own) once, then the promise over every base -/
theorem walk_of {l : PySem.W.OpenLaw} {n k : Nat} {q : Program} {loose : List Str} {XP : (Str → Option Value) → Heap → Prop} {YP : World → Heap → Prop} {d : DefRec} {K : Params → PySem.W.Frag} {CX : World → CXT} {sp : World → Sp} {x : Str}
    (hn : l.most = some n) (hn2 : n ≤ sizeLine) (hdf : d.params.defaults = []) (hr : Room k callerA)
    (hY : ∀ (w : World) (h : Heap), YP w h → (K w.params).In h)
    (F : ∀ (w : World) (mg : Str → Option Value) (fa : Addr) (h : Heap), (K w.params).In h → h.Ns mainGlobals mg → mg d.name = some (.ref fa) →
      ∃ fd : FuncData, (∀ (s : Shared) (u : Value), BindsTo s fd ⟨[u], []⟩ [(x, u)]) ∧
        ∀ base : Heap, (K w.params).In base → base.Ns mainGlobals mg → FnOk l.prog w (K w.params) mg base (CX w) k fa fd [x] (sp w))
    (hsp : ∀ (w : World) (H : Hp) (a : Addr) (ns : List Int), ns.length ≤ n → Only H → SqL (K w.params) H a (ns.map V.int) → sp w [.ref a] H (fun v _ => v = .bl true) fun _ _ _ => False)
    (hCX : ∀ (w : World) (H : Hp) (s : Shared) (e : Value) (s' : Shared), CX w [] H s (fun _ _ _ => False) e s' → False) :
    PySem.W.WalkO q loose XP YP l.row.toRowW d [] (fun f vs => PySem.call f vs) := by
  refine Att.attach_call hn hdf fun w s₀ s₁ mg mb fa o pm cd doc a vs ns G Y ho hd hcd hmg hobj hints hlen hg => ?_
  have KX := hY w _ Y
  obtain ⟨fd, hb, hF⟩ := F w mg fa _ KX G.T.g hmg
  exact law_call KX G.T.g G.T.b G.T.builtins G.T.nolimit hg hobj hints (Nat.le_trans hlen hn2) hr hF hb (fun H hO hS => hsp w H a ns hlen hO hS) fun H e s' => hCX w H s₁ e s'
end L2
/- THE LAST THEOREM (shape; LID, My.* are yours):
   My.Adr: a structure of the addresses that your layer names (classes, functions); My.Txt K t: a structure (Prop) of the equations over K;
   My.txt_mk : {K} {implicit addresses ..} (e1 : nsIn K mainGlobals "law" = some (some (.ref f))) (e2 : K.lookup f = some ⟨oc, od, .func (fnOf "law" "law" params body scope dV kV doc pm an cdv ct), sl⟩) (e3 : codeIn K cdv "law" = true) .. : ∃ t, My.Txt K t
set_option maxRecDepth 100000 in
set_option maxHeartbeats 0 in
theorem PySem.Challenge.cw_LID_holds : PySem.Challenge.rw_LID.Holds := by
  w_on; o_law; k_head; (case hw => w_witness2)
  k_fill
  refine L2.walk_of (l := PySem.Challenge.rw_LID) (n := 63) (k := 40) (x := "script") (CX := fun w => ..) (sp := fun _ => My.sp_law) rfl (by decide) rfl ⟨rfl, by decide, by decide⟩ (fun w h Y => PySem.W.kIn_of Y) ?F ?S ?C
  case F =>
    intro w mg fa h KX G hmg
    have T : ∃ t, My.Txt (L2.KOf KX) t := by
      dsimp only [L2.KOf]                          -- K must stand as «<heap const> w.params» for k_is
      refine' My.txt_mk ?e1 ?e2 ?e3 ..
      (case e1 => PySem.W.k_is)                    -- in the order: a name -> its address -> its object -> its parts
      (case e2 => PySem.W.k_is)
      ..
    obtain ⟨t, T⟩ := T
    have e0 := hmg.symm.trans (PySem.W.mg_of KX G T.law)
    cases e0                                       -- fa is the law's own address
    exact ⟨_, fun s u => .of_eq rfl, fun base kb nb => My.law_fn T kb nb⟩     -- if «.of_eq rfl» comes too early: refine' ⟨_, ?b, fun base kb nb => My.law_fn T kb nb⟩; exact fun s u => .of_eq rfl
  case S => exact fun w H a ns hl hO hS => ..
  case C => exact ..
(the tactic k_is has no namespace: write k_is) -/
/-! SHORT WORDS over the layer: a def of the text, its body, what a loop and a test want. -/
namespace L2
open PySem PySem.Spec PyProof.Rows
def defArgs (s : Stmt) : Arguments := match s with
  | .FunctionDef _ a _ _ _ _ _ _ _ _ => a
  | _ => { posonlyargs := [], args := [], vararg := none, kwonlyargs := [], kw_defaults := [], kwarg := none, defaults := [] }
def defBody (s : Stmt) : List Stmt := match s with
  | .FunctionDef _ _ b _ _ _ _ _ _ _ => b
  | _ => []
def defScope (s : Stmt) : Scope := match s with
  | .FunctionDef _ _ _ _ _ _ sc _ _ _ => sc
  | _ => { kind := .function, names := [], isGenerator := false, isCoroutine := false }
/-! ### no exception leaves a def -/
abbrev CX0 : CXT := fun _ _ _ _ _ _ => False
abbrev E0 : XK := fun _ _ _ => False
theorem pass0 {X : Cx} : Passes CX0 X E0 := fun _ _ _ _ _ _ _ h => h.elim
/-! ### a def (or method) of the text as it stands behind the top -/
structure Fun (K : PySem.W.Frag) (x qual : Str) (st : Stmt) (f : Addr) (fd : FuncData) : Prop where
  ex : ∃ (oc : Value) (od : Option Addr) (kV doc pm : Value) (an : Option Addr) (cdv ct : Value) (osl : Array (Option Value)),
    fd = PySem.W.fnOf x qual (defArgs st) (defBody st) (defScope st) .none kV doc pm an cdv ct ∧ K.lookup f = some ⟨oc, od, .func fd, osl⟩ ∧ PySem.W.codeIn K cdv qual = true
  kp : PySem.W.keepIn K (.ref f) = true
section
variable {P : Program} {w : World} {K : PySem.W.Frag} {mg : Str → Option Value} {base : Heap}
/-- THE RULE for a def: its body as a term of rules, and the reading of that term -/
theorem Fun.ok {x qual : Str} {st : Stmt} {f : Addr} {fd : FuncData} {N ps : List Str} {k : Nat} {sp : Sp} (F : Fun K x qual st f fd) (S : FnScope N ps (defScope st)) (len : ∀ vs H Q E, sp vs H Q E → vs.length = ps.length)
    (hbody : ∀ (cdv : Value) (A : Around) (outer : List Env) (s : Shared) (H : Hp) (vs : List V) (Q : VK) (E : XK), Room k (A.deeper (envOfC qual (defScope st) s.heap.objs.size f cdv)) → sp vs H Q E →
      ∃ t, PSs (cxOf CX0 P w K mg base N qual (defScope st) f cdv A outer s H E).nox (defBody st) t ∧ t { nx := fun _ H' => Q .non H', rt := Q } (start N vs) H) : FnOk P w K mg base CX0 (k + 1) f fd ps sp := by
  obtain ⟨oc, od, kV, doc, pm, an, cdv, ct, osl, rfl, lk, hcd⟩ := F.ex
  refine fn_of lk hcd S len fun A outer s H vs Q E hr hsp => ?_
  obtain ⟨t, h, q⟩ := hbody cdv A outer s H vs Q E hr hsp
  exact ⟨t, h.nox, q⟩
/-- how its arguments bind (no defaults): h is «fun _ _ _ _ _ _ us hl => match us, hl with | [_, _], _ => rfl», one _ a parameter -/
theorem Fun.binds {x qual : Str} {st : Stmt} {f : Addr} {fd : FuncData} {ps : List Str} (F : Fun K x qual st f fd)
    (h : ∀ (kV doc pm : Value) (an : Option Addr) (cdv ct : Value) (us : List Value), us.length = ps.length → bindArgs (PySem.W.fnOf x qual (defArgs st) (defBody st) (defScope st) .none kV doc pm an cdv ct) ⟨us, []⟩ = pure (ps.zip us)) : Binds K fd ps [] := by
  obtain ⟨oc, od, kV, doc, pm, an, cdv, ct, osl, rfl, lk, hcd⟩ := F.ex
  exact .all (h kV doc pm an cdv ct)
theorem fun_mk {x qual : Str} {st : Stmt} {f : Addr} {oc : Value} {od an : Option Addr} {osl : Array (Option Value)} {kV doc pm cdv ct : Value} (l : K.lookup f = some ⟨oc, od, .func (PySem.W.fnOf x qual (defArgs st) (defBody st) (defScope st) .none kV doc pm an cdv ct), osl⟩)
    (c : PySem.W.codeIn K cdv qual = true) (k : PySem.W.keepIn K (.ref f) = true) : Fun K x qual st f (PySem.W.fnOf x qual (defArgs st) (defBody st) (defScope st) .none kV doc pm an cdv ct) := ⟨⟨oc, od, kV, doc, pm, an, cdv, ct, osl, rfl, l, c⟩, k⟩
end
theorem small1000 {n : Nat} (h : n ≤ 1000) : n < sizeLine := Nat.lt_of_le_of_lt h (by decide)
/-! ### expressions in short: the name that stands in the i-th slot -/
section
variable {X : Cx}
theorem pv (i : Nat) {x : Str} {pos : Pos} (hN : X.N[i]? = some x := by rfl) (hv : Vis X.env.scope x := by first | exact Or.inl rfl | exact Or.inr (Or.inl rfl) | exact Or.inr (Or.inr rfl)) (hd : (x == ("__debug__" : Str)) = false := by decide)
    (hcd : (x == ("__classdict__" : Str)) = false := by decide) : PE X (.Name x pos) (tVar i) := pe_var hN hv hd hcd
end
theorem iteT {A B : Prop} (h : A) : if true = true then A else B := by
  rw [if_pos rfl]
  exact h
theorem ite2 {c A B : Prop} [Decidable c] (h1 : c → A) (h2 : ¬ c → B) : if c then A else B := by
  by_cases h : c
  · rw [if_pos h]
    exact h1 h
  · rw [if_neg h]
    exact h2 h
/-! ### heaps -/
/-- all that was tracked is as it was -/
def Same (H H' : Hp) : Prop := ∀ b o, H b = some o → H' b = some o
theorem Same.refl (H : Hp) : Same H H := fun _ _ h => h
theorem Same.trans {H H1 H2 : Hp} (a : Same H H1) (b : Same H1 H2) : Same H H2 := fun c o h => b c o (a c o h)
theorem Same.free {H H' : Hp} (e : Same H H') {l : Addr} (h : H' l = Option.none) : H l = Option.none := by
  cases q : H l with
  | none => rfl
  | some o =>
    rw [e l o q] at h
    cases h
theorem Same.seq {K : PySem.W.Frag} {H H' : Hp} {a : Addr} {xs : List V} (e : Same H H') (h : SqL K H a xs) : SqL K H' a xs := by
  rcases h with (h | ⟨o, h⟩) | h
  · exact .inl (.inl (e _ _ h))
  · exact .inl (.inr ⟨o, e _ _ h⟩)
  · exact .inr h
end L2
/-! A LIST COMPREHENSION OF ONE CLAUSE, over the hand layer: the block has a context of its own. -/
namespace L2
open PySem PySem.Spec PyProof.Rows
section
variable {prog : Program} {w : World} {A : Around} {R : Result → Shared → Prop} {s : Shared}
/-- the tests of a clause -/
abbrev tests (ifs : List Expr) (env : Env) : Sem Bool := forIn ifs true fun c r => if r = true then do let ok ← isTrue c env (eval c env); pure (ForInStep.yield ok) else pure (ForInStep.yield r)
theorem comp_loop {elt target iter : Expr} {ifs : List Expr} {scope : Scope} {pos : Pos} {it acc : Value} {env : Env} (I : Nat → Shared → Prop)
    (turn : ∀ n s, I n s → wpAny (model prog w) A (pyNext it) (fun r s₁ => match r with
      | none => R (.ok .next) s₁
      | some v => wpAny (model prog w) A (letOwnedTupleGo target it v) (fun _ s₁' => wpAny (model prog w) A (assign target env v) (fun _ s₂ =>
          wpAny (model prog w) A (tests ifs env) (fun ok s₃ =>
            if ok = true then wpAny (model prog w) A (eval elt env) (fun x s₄ =>
              wpAny (model prog w) A (call (.builtin "list.append") [acc, x]) (fun _ s₅ => ∃ m, m < n ∧ I m s₅) (fun _ _ => False) s₄) (fun _ _ => False) s₃
            else ∃ m, m < n ∧ I m s₃) (fun _ _ => False) s₂) (fun _ _ => False) s₁') (fun _ _ => False) s₁) (fun _ _ => False) s)
    (n : Nat) (h : I n s) :
    codeAny (model prog w) A (.compLoop (.ListComp elt [⟨target, iter, ifs, 0⟩] scope pos) 0 it acc env) R s := by
  refine codeAny_loop rfl I (fun n s hI => ?_) n h
  show wpAny _ A ((compTurn (.ListComp elt [⟨target, iter, ifs, 0⟩] scope pos) 0 it acc env).onRaise (fun x => do noteFrame x env; theTreesLotGoes x)) _ _ s
  refine wpAny_noted ?_
  rw [compTurn_list]
  refine wpAny_bind (wpAny_standAt (wpAny_bind (wpAny_mono (turn n s hI) (fun r s₁ h₁ => ?_) fun _ _ h' => h'.elim)))
  cases r with
  | none => exact wpAny_pure h₁
  | some v =>
    refine wpAny_bind (wpAny_mono h₁ (fun _ s₁' h₁' => ?_) fun _ _ h' => h'.elim)
    refine wpAny_bind (wpAny_mono h₁' (fun _ s₂ h₂ => wpAny_bind (wpAny_mono h₂ (fun ok s₃ h₃ => ?_) fun _ _ h' => h'.elim)) fun _ _ h' => h'.elim)
    cases ok with
    | false => exact wpAny_pure ⟨rfl, h₃⟩
    | true =>
      exact wpAny_bind (wpAny_bind (wpAny_mono h₃ (fun x s₄ h₄ => wpAny_bind (wpAny_mono h₄ (fun _ s₅ h₅ => wpAny_pure (wpAny_pure ⟨rfl, h₅⟩)) fun _ _ h' => h'.elim)) fun _ _ h' => h'.elim))
end
/-! ### the closure of the block -/
def closeL (env : Env) : List (Str × NameKind) → List (Str × Addr) → List (Str × Addr)
  | [], cs => cs
  | (n, k) :: r, cs => closeL env r (if k == .free then match env.cells.lookup n with | some c => (n, c) :: cs | none => cs else cs)
theorem closure_go (env : Env) : ∀ (names : List (Str × NameKind)) (cs : List (Str × Addr)), (∀ p ∈ names, p.2 = .free → ∃ c, env.cells.lookup p.1 = some c) →
    (forIn names cs (fun (x : Str × NameKind) (cs : List (Str × Addr)) => match x with
      | (name, kind) => if (kind == NameKind.free) = true then (do let a ← cellOf env name; pure (ForInStep.yield ((name, a) :: cs))) else (pure (ForInStep.yield cs) : Sem (ForInStep (List (Str × Addr))))) : Sem (List (Str × Addr))) = pure (closeL env names cs)
  | [], cs, _ => by rw [List.forIn_nil]; rfl
  | (n, k) :: r, cs, h => by
    have ih := fun cs' => closure_go env r cs' fun p hp => h p (List.mem_cons_of_mem _ hp)
    rw [List.forIn_cons]
    by_cases hk : (k == NameKind.free) = true
    · obtain ⟨c, hc⟩ := h (n, k) List.mem_cons_self (by simpa using hk)
      have hc' : env.cells.lookup n = some c := hc
      have e : cellOf env n = pure c := by unfold cellOf; rw [hc']
      simp only [closeL, hk, if_true, e, hc']
      exact ih _
    · simp only [closeL, hk]
      exact ih _
theorem closure_eq {scope : Scope} {env : Env} (h : ∀ p ∈ scope.names, p.2 = .free → ∃ c, env.cells.lookup p.1 = some c) : closureFor scope env = pure (closeL env scope.names []) := by
  unfold closureFor
  have e := closure_go env scope.names [] h
  exact (congrArg (fun m : Sem (List (Str × Addr)) => m >>= fun cs => pure cs) e)
theorem closeL_mem (env : Env) {n : Str} {c : Addr} : ∀ (names : List (Str × NameKind)) (cs : List (Str × Addr)), (n, c) ∈ closeL env names cs → (n, c) ∈ cs ∨ env.cells.lookup n = some c
  | [], cs, h => .inl h
  | (m, k) :: r, cs, h => by
    rcases closeL_mem env r _ h with q | q
    · by_cases hk : (k == NameKind.free) = true
      · rw [if_pos hk] at q
        cases e : env.cells.lookup m with
        | none => rw [e] at q; exact .inl q
        | some c' =>
          rw [e] at q
          rcases List.mem_cons.mp q with z | z
          · cases z; exact .inr e
          · exact .inl z
      · rw [if_neg hk] at q; exact .inl q
    · exact .inr q
theorem closeL_keep (env : Env) {p : Str × Addr} : ∀ (names : List (Str × NameKind)) (cs : List (Str × Addr)), p ∈ cs → p ∈ closeL env names cs
  | [], _, h => h
  | (m, k) :: r, cs, h => by
    refine closeL_keep env r _ ?_
    split
    · split
      · exact List.mem_cons_of_mem _ h
      · exact h
    · exact h
theorem closeL_has (env : Env) {n : Str} {c : Addr} (hc : env.cells.lookup n = some c) : ∀ (names : List (Str × NameKind)) (cs : List (Str × Addr)), (n, NameKind.free) ∈ names → (n, c) ∈ closeL env names cs
  | [], _, h => nomatch h
  | (m, k) :: r, cs, h => by
    rcases List.mem_cons.mp h with z | z
    · cases z
      refine closeL_keep env r _ ?_
      rw [if_pos (by rfl), hc]
      exact List.mem_cons_self
    · exact closeL_has env hc r _ z
theorem lookup_of_mem {n : Str} {c : Addr} : ∀ {l : List (Str × Addr)}, (n, c) ∈ l → ∃ c', l.lookup n = some c'
  | [], h => nomatch h
  | (m, d) :: r, h => by
    rw [List.lookup_cons]
    cases e : n == m with
    | true => exact ⟨d, rfl⟩
    | false =>
      rcases List.mem_cons.mp h with z | z
      · cases z; simp at e
      · exact lookup_of_mem z
theorem closeL_lookup {env : Env} {names : List (Str × NameKind)} {n : Str} {c : Addr} (h : (closeL env names []).lookup n = some c) : env.cells.lookup n = some c := by
  rcases closeL_mem env names [] (PySem.mem_of_lookup h) with z | z
  · exact nomatch z
  · exact z
theorem closeL_some {env : Env} {names : List (Str × NameKind)} {n : Str} {c : Addr} (hc : env.cells.lookup n = some c) (h : (n, NameKind.free) ∈ names) : (closeL env names []).lookup n = some c := by
  obtain ⟨c', e⟩ := lookup_of_mem (closeL_has env hc names [] h)
  rw [e]
  exact (closeL_lookup e).symm.trans hc
theorem mem_of_lookupK {n : Str} {k : NameKind} : ∀ {l : List (Str × NameKind)}, l.lookup n = some k → (n, k) ∈ l
  | [], h => by simp at h
  | (m, d) :: r, h => by
    rw [List.lookup_cons] at h
    cases e : n == m with
    | true =>
      rw [e] at h
      cases h
      rw [eq_of_beq e]
      exact List.mem_cons_self
    | false =>
      rw [e] at h
      exact List.mem_cons_of_mem _ (mem_of_lookupK h)
/-- a name that is free in the block stays a captured one -/
theorem relabel_free {env : Env} {n : Str} : ∀ {names : List (Str × NameKind)}, names.lookup n = some .free →
    (names.map fun (n, k) => if (k == NameKind.free && env.scope.kind == .function && env.kindOf n == some .cell) then (n, NameKind.cell) else (n, k)).lookup n = some .cell ∨
    (names.map fun (n, k) => if (k == NameKind.free && env.scope.kind == .function && env.kindOf n == some .cell) then (n, NameKind.cell) else (n, k)).lookup n = some .free
  | [], h => by simp at h
  | (m, k) :: r, h => by
    have ih := @relabel_free env n r
    rw [List.map_cons]
    rw [List.lookup_cons] at h
    cases e : n == m with
    | true =>
      rw [e] at h
      cases h
      by_cases hc : (NameKind.free == NameKind.free && env.scope.kind == .function && env.kindOf m == some .cell) = true
      · left; show List.lookup n ((if _ then _ else _) :: _) = _; rw [if_pos hc, List.lookup_cons, e]
      · right; show List.lookup n ((if _ then _ else _) :: _) = _; rw [if_neg hc, List.lookup_cons, e]
    | false =>
      rw [e] at h
      have e2 : ∀ l : List (Str × NameKind), List.lookup n ((if (k == NameKind.free && env.scope.kind == .function && env.kindOf m == some .cell) = true then (m, NameKind.cell) else (m, k)) :: l) = l.lookup n := fun l => by
        by_cases hc : (k == NameKind.free && env.scope.kind == .function && env.kindOf m == some .cell) = true
        · rw [if_pos hc, List.lookup_cons, e]
        · rw [if_neg hc, List.lookup_cons, e]
      show List.lookup n ((if _ then _ else _) :: _) = _ ∨ List.lookup n ((if _ then _ else _) :: _) = _
      rw [e2]
      exact ih h
/-- a captured name of the block is one of the text's captured names -/
theorem relabel_back {env : Env} {n : Str} {k' : NameKind} (hk' : k' = .cell ∨ k' = .free) : ∀ {names : List (Str × NameKind)},
    (names.map fun (n, k) => if (k == NameKind.free && env.scope.kind == .function && env.kindOf n == some .cell) then (n, NameKind.cell) else (n, k)).lookup n = some k' →
    names.lookup n = some .free ∨ names.lookup n = some .cell
  | [], h => by simp at h
  | (m, k) :: r, h => by
    have ih := @relabel_back env n k' hk' r
    rw [List.map_cons] at h
    have h : List.lookup n ((if (k == NameKind.free && env.scope.kind == .function && env.kindOf m == some .cell) = true then (m, NameKind.cell) else (m, k)) :: _) = some k' := h
    rw [List.lookup_cons]
    cases e : n == m with
    | true =>
      by_cases hc : (k == NameKind.free && env.scope.kind == .function && env.kindOf m == some .cell) = true
      · left
        have : k = .free := by
          simp only [Bool.and_eq_true, beq_iff_eq] at hc
          exact hc.1.1
        rw [this]
      · rw [if_neg hc, List.lookup_cons, e] at h
        have h : some k = some k' := h
        cases h
        rcases hk' with z | z
        · right; rw [z]
        · left; rw [z]
    | false =>
      have e2 : ∀ l : List (Str × NameKind), List.lookup n ((if (k == NameKind.free && env.scope.kind == .function && env.kindOf m == some .cell) = true then (m, NameKind.cell) else (m, k)) :: l) = l.lookup n := fun l => by
        by_cases hc : (k == NameKind.free && env.scope.kind == .function && env.kindOf m == some .cell) = true
        · rw [if_pos hc, List.lookup_cons, e]
        · rw [if_neg hc, List.lookup_cons, e]
      rw [e2] at h
      exact ih h
/-! ### the block's context -/
/-- what is asked of the block's scope: osc the scope around, M the names taken from there with their slots, N the slots around -/
structure CompSc (scope osc : Scope) (M : List (Str × Nat)) (N : List Str) : Prop where
  kind : scope.kind = .function
  nocell : ∀ p ∈ scope.names, p.2 ≠ .cell
  free : ∀ p ∈ scope.names, p.2 = .free → osc.names.lookup p.1 = some .cell ∨ osc.names.lookup p.1 = some .free
  loc : ∀ p ∈ scope.names, p.2 = .local → scope.names.lookup p.1 = some .local
  imp : ∀ p ∈ M, N[p.2]? = some p.1 ∧ scope.names.lookup p.1 = some .free
def impS (M : List (Str × Nat)) (σ : St) : St := M.map fun p => (σ[p.2]?).join
def Cx.comp (X : Cx) (scope : Scope) (Ns : List Str) (s : Shared) (H : Hp) (ex : List Addr) : Cx :=
  { X with N := Ns, s₀ := s, H₀ := H, env := compEnvC scope (closeL X.env scope.names []) s.heap.objs.size X.env, outer := X.stack, ex := ex, fn := fun _ => false, pn := [], xe := fun _ _ => False }
section
variable {X : Cx} {pins : List (Addr × Obj)} {σ : St} {H : Hp} {s : Shared} {scope : Scope} {own : List Str} {M : List (Str × Nat)} {ex : List Addr}
theorem inv_comp {h' : Heap} {tk : Nat} {m : Str → Option Value} (I : Inv X pins σ H s) (S : CompSc scope X.env.scope M X.N) (hex : ∀ b ∈ ex, FpOk X pins H b ∧ b < s.heap.objs.size)
    (hns : h'.Ns s.heap.objs.size m) (hkp : ∀ b o, s.heap.get? b = some o → h'.get? b = some o) :
    Inv (X.comp scope (own ++ M.map (·.1)) s H ex) [] (List.replicate own.length none ++ impS M σ) H { s with heap := h', toks := tk } := by
  have hfr : ∀ p ∈ scope.names, p.2 = .free → ∃ c, X.env.cells.lookup p.1 = some c := fun p hp hf => I.ok.has p.1 (S.free p hp hf)
  refine ⟨⟨I.ok.mod, S.kind, I.ok.glob, I.ok.blt, Nat.le_refl _, fun x y c h1 h2 => ?_, fun x hx => ?_, fun x c h _ => ?_, I.ok.hd, I.ok.frames, .inl rfl, fun b hb => ⟨?_, fun x c e => ?_⟩, I.bs, Nat.le_trans I.ok.bsz I.sz, fun b o e hb => ?_, fun b hb hfs => ?_, I.stack, I.stkFree⟩,
    rfl, I.bare, Un.kept hkp, ⟨m, hns, fun i x v e1 e2 e3 => ?_⟩, fun x c e => ?_, I.hok.fresh (Nat.le_refl _), fun x c e => I.freeC x c (closeL_lookup e), fun p hp => absurd (show p ∈ ([] : List (Addr × Obj)) from hp) (by simp), I.hok.kept hkp, ?_⟩
  · exact I.ok.inj x y c (closeL_lookup h1) (closeL_lookup h2)
  · have hx' : (relabel scope X.env).names.lookup x = some .cell ∨ (relabel scope X.env).names.lookup x = some .free := hx
    have hf : scope.names.lookup x = some .free := by
      rcases hx' with z | z
      · rcases relabel_back (.inl rfl) z with q | q
        · exact q
        · exact absurd rfl (S.nocell _ (mem_of_lookupK q))
      · rcases relabel_back (.inr rfl) z with q | q
        · exact q
        · exact absurd rfl (S.nocell _ (mem_of_lookupK q))
    have hm := mem_of_lookupK hf
    obtain ⟨c, hc⟩ := hfr _ hm rfl
    exact ⟨c, closeL_some hc hm⟩
  · exact absurd (show false = true from h) (by decide)
  · exact Nat.ne_of_lt (hex b hb).2
  · exact (hex b hb).1.2.2.2.2.1 x c (closeL_lookup e)
  · have hb' : b ∈ ex := hb
    have e' : X.base.get? b = some o := e
    rcases (hex b hb').1.2.2.2.1 with z | z
    · exact I.ok.noex b o e' z
    · exact absurd (Nat.lt_of_lt_of_le (Heap.lt_size e') (Nat.le_trans I.ok.bsz z)) (Nat.lt_irrefl _)
  · rcases List.mem_cons.mp (I.stkSub b hfs) with z | z
    · exact (hex b hb).1.2.1 z
    · exact (hex b hb).1.2.2.1 z
  · have e1' : (own ++ M.map (·.1))[i]? = some x := e1
    have hi : own.length ≤ i := by
      refine Nat.le_of_not_lt fun hlt => ?_
      rw [List.getElem?_append_left (by simpa using hlt), List.getElem?_replicate] at e2
      split at e2 <;> cases e2
    rw [List.getElem?_append_right hi, List.getElem?_map] at e1'
    rw [List.getElem?_append_right (by simpa using hi), List.length_replicate, impS, List.getElem?_map] at e2
    cases hp : M[i - own.length]? with
    | none => rw [hp] at e1'; cases e1'
    | some p =>
      rw [hp] at e1' e2
      have e1'' : p.1 = x := Option.some.inj e1'
      have e2' : (σ[p.2]?).join = some v := Option.some.inj e2
      obtain ⟨hN, hF⟩ := S.imp p (List.mem_of_getElem? hp)
      subst e1''
      have e2'' : σ[p.2]? = some (some v) := by
        cases q : σ[p.2]? with
        | none => rw [q] at e2'; cases e2'
        | some o => rw [q] at e2'; exact congrArg some e2'
      have hm := mem_of_lookupK hF
      have hcf := S.free _ hm rfl
      obtain ⟨m0, hn0, hl0⟩ := I.loc
      obtain ⟨u, ru, lk⟩ := hl0 p.2 p.1 v hN e2'' (.inr hcf)
      refine ⟨u, ru, .inr ⟨relabel_free hF, ?_⟩⟩
      rcases lk with ⟨kl, _⟩ | ⟨_, c, ec, z⟩
      · have kl' : X.env.scope.names.lookup p.1 = some .local := kl
        rcases hcf with q | q <;> (rw [q] at kl'; cases kl')
      · obtain ⟨oc, ho, hd⟩ := z
        exact ⟨c, closeL_some ec hm, oc, hkp c oc ho, hd⟩
  · obtain ⟨v, oc, ho, hd⟩ := I.cell x c (closeL_lookup e)
    exact ⟨v, oc, hkp c oc ho, hd⟩
  · show (List.replicate own.length none ++ impS M σ).length = (own ++ M.map (·.1)).length
    rw [List.length_append, List.length_append, List.length_replicate, impS, List.length_map, List.length_map]
end
/-- an untracked object that was not there at the start may change -/
theorem Un.sameBut {fs ex : List Addr} {H H' : Hp} {h h' h'' : Heap} {C : Addr} (u : Un fs ex H H' h h') (hs : Heap.SameBut C h' h'') (hC : h.get? C = none) : Un fs ex H H' h h'' where
  keep := fun b o e n f x => (hs.2 b (by rintro rfl; rw [hC] at e; cases e)).trans (u.keep b o e n f x)
  slot := fun b o e n f x => by
    obtain ⟨sl, q⟩ := u.slot b o e n f x
    exact ⟨sl, (hs.2 b (by rintro rfl; rw [hC] at e; cases e)).trans q⟩
  free := u.free
  there := fun b o e x => by
    obtain ⟨o', q⟩ := u.there b o e x
    exact ⟨o', (hs.2 b (by rintro rfl; rw [hC] at e; cases e)).trans q⟩
  tups := u.tups
  frzs := u.frzs
  tbls := u.tbls
theorem HOk.sameBut {P : Program} {w : World} {H : Hp} {h h' : Heap} {C : Addr} (ok : HOk P w H h) (hs : Heap.SameBut C h h') (hC : H C = none) : HOk P w H h' := fun b ob e => by
  refine (ok b ob e).stay (fun c w' hc q => (hs.2 c ?_).trans q) (fun _ q => q) fun _ _ q => q
  rintro rfl
  rcases hc with rfl | hc
  · rw [hC] at e; cases e
  · rw [hC] at hc; cases hc
/-! ### the tests -/
def PF (X : Cx) (ifs : List Expr) (t : TT) : Prop :=
  ∀ (pins : List (Addr × Obj)) (s : Shared) (σ : St) (H : Hp) (Q : Bool → Hp → Prop), Inv X pins σ H s → t σ H Q → wpAny (model X.prog X.w) X.A (tests ifs X.env) (TP X pins σ Q) X.xe s
def tYes : TT := fun _ H Q => Q true H
theorem pf_nil {X : Cx} : PF X [] tYes := fun pins s σ H Q I h => wpAny_tests_nil ⟨H, I, h⟩
/-! ### the rule -/
/-- the block's loop, by an invariant: D the list that grows -/
def CBG (J : It) (σ0 : St) (g : TG) (tt : TT) (te : TE) (Q : VK) (H1 : Hp) (D : Addr) : Prop :=
  ∃ W : Nat → Nat → Hp → Prop, (∃ m, W 0 m (upd H1 D (.lst []))) ∧ ∀ i m H2, W i m H2 →
    (J.stop i H2 ∧ Q (.ref D) H2) ∨ (J.go i H2 ∧ ∀ x H3, J.yld i H2 x H3 → g x σ0 H3 fun σ4 H4 =>
      (∀ (i : Nat) v, σ0[i]? = some (some v) → σ4[i]? = some (some v)) ∧
      tt σ4 H4 fun c H5 => if c = true then te σ4 H5 fun v H6 => ∃ ys, H6 D = some (.lst ys) ∧ ys.length < sizeLine ∧ ∃ m', m' < m ∧ W (i + 1) m' (upd H6 D (.lst (ys ++ [v]))) else ∃ m', m' < m ∧ W (i + 1) m' H5)
def tComp (own : Nat) (M : List (Str × Nat)) (wi : TI) (g : TG) (tt : TT) (te : TE) : TE := fun σ H Q => wi σ H fun J H1 => ∀ D, H1 D = none → CBG J (List.replicate own none ++ impS M σ) g tt te Q H1 D
section
variable {X : Cx} {tg iter elt : Expr} {ifs : List Expr} {scope osc : Scope} {pos : Pos} {own : List Str} {M : List (Str × Nat)} {wi : TI} {g : TG} {tt : TT} {te : TE}
/-- the block, behind the iterator's making -/
theorem comp_block {pins : List (Addr × Obj)} {s2 : Shared} {σ : St} {H2 : Hp} {J : It} {fp : List Addr} {it : Addr} {tn : Nat → Heap → Prop} {Q : Nat → Hp → Prop} {RR : Value → Addr → Result → Shared → Prop} {E : Value → Shared → Prop}
    (I2 : Inv X pins σ H2 s2) (hc : X.calm = true) (S : CompSc scope X.env.scope M X.N) (T : Turn X.prog X.w X.K tg J fp it tn) (st2 : tn 0 s2.heap) (f2 : ∀ b ∈ fp, FpOk X pins H2 b)
    (hg : ∀ s H, PG (X.comp scope (own ++ M.map (·.1)) s H fp) tg g) (hf : ∀ s H, PF (X.comp scope (own ++ M.map (·.1)) s H fp) ifs tt) (he : ∀ s H, PE (X.comp scope (own ++ M.map (·.1)) s H fp) elt te)
    (hw : ∀ D, H2 D = none → ∃ W : Nat → Nat → Hp → Prop, (∃ m, W 0 m (upd H2 D (.lst []))) ∧ ∀ i m H2, W i m H2 →
      (J.stop i H2 ∧ Q D H2) ∨ (J.go i H2 ∧ ∀ x H3, J.yld i H2 x H3 → g x (List.replicate own.length none ++ impS M σ) H3 fun σ4 H4 =>
        (∀ (i : Nat) v, (List.replicate own.length none ++ impS M σ)[i]? = some (some v) → σ4[i]? = some (some v)) ∧
        tt σ4 H4 fun c H5 => if c = true then te σ4 H5 fun v H6 => ∃ ys, H6 D = some (.lst ys) ∧ ys.length < sizeLine ∧ ∃ m', m' < m ∧ W (i + 1) m' (upd H6 D (.lst (ys ++ [v]))) else ∃ m', m' < m ∧ W (i + 1) m' H5))
    (hR : ∀ D C s' H', (∃ m, s'.heap.Ns C m) → FpOk X pins H' C → Q D H' → (∀ h'', Heap.SameBut C s'.heap h'' → Inv X pins σ H' { s' with heap := h'' }) → RR (.ref D) C (.ok .next) s') :
    wpAny (model X.prog X.w) X.A (newList []) (fun acc s₃ => wpAny (model X.prog X.w) X.A (newFunctionEnv scope X.env.globals (closeL X.env scope.names []) [] X.env.qual none .none (some X.env)) (fun cenv s₄ =>
      codeAny (model X.prog X.w) X.A (.compStart (.ListComp elt [⟨tg, iter, ifs, 0⟩] scope pos) 0 (.ref it) acc { cenv with scope := relabel scope X.env }) (RR acc cenv.locals) s₄) E s₃) E s2 := by
  refine wpAny_newObj_type (wpAny_newFunctionEnv S.nocell (by intro y hy; simp at hy) (fun h₁ hns₁ hsb₁ => ?_) S.kind)
  dsimp only at hns₁ hsb₁ ⊢
  obtain ⟨D, hD⟩ : ∃ D, D = s2.heap.objs.size := ⟨_, rfl⟩
  have fD : H2 D = none := I2.hok.fresh (Nat.le_of_eq hD.symm)
  have I3 : Inv X pins σ (upd H2 D (.lst [])) { s2 with heap := s2.heap.push { cls := .type "list", dict := none, data := .seq ([] : List Value).toArray } } :=
    I2.laid (t' := s2.toks) (fun b u e => Heap.get?_push_of_some _ e) (Nat.le_of_eq hD.symm) ⟨Nat.zero_le _, [], 0, .nil, by rw [hD]; exact Heap.get?_push_size _ rfl⟩
  obtain ⟨s3, hs3⟩ : ∃ s3 : Shared, s3 = { s2 with heap := s2.heap.push { cls := .type "list", dict := none, data := .seq ([] : List Value).toArray } } := ⟨_, rfl⟩
  have hsz3 : s3.heap.objs.size = D + 1 := by rw [hs3, hD]; exact Heap.size_push _ _
  rw [← hs3] at I3
  have hns₁' : h₁.Ns s3.heap.objs.size (fun _ => none) := by rw [hs3]; exact hns₁
  have hsb₁' : Heap.SameBut s3.heap.objs.size (s3.heap.push { cls := .type "dict", data := .dict #[] }) h₁ := by rw [hs3]; exact hsb₁
  have hk3 : ∀ b o, s3.heap.get? b = some o → h₁.get? b = some o := fun b o e => (hsb₁'.2 b (Nat.ne_of_lt (Heap.lt_size e))).trans (Heap.get?_push_of_some _ e)
  have tn3 : tn 0 s3.heap := T.keep _ _ _ st2 fun b hb o e => by rw [hs3]; exact Heap.get?_push_of_some _ e
  have hlt3 : ∀ b ∈ fp, b < s3.heap.objs.size := fun b hb => by
    obtain ⟨o, e, _⟩ := T.obj _ _ tn3 b hb
    exact Heap.lt_size e
  have neD : ∀ b ∈ fp, b ≠ D := fun b hb z => by
    obtain ⟨o, e, _⟩ := T.obj _ _ st2 b hb
    rw [z, hD] at e
    exact absurd (Heap.lt_size e) (Nat.lt_irrefl _)
  have f3 : ∀ b ∈ fp, FpOk X pins (upd H2 D (.lst [])) b := fun b hb => ⟨by rw [upd_ne (neD b hb)]; exact (f2 b hb).1, (f2 b hb).2⟩
  obtain ⟨Y, hY⟩ : ∃ Y : Cx, Y = X.comp scope (own ++ M.map (·.1)) s3 (upd H2 D (.lst [])) fp := ⟨_, rfl⟩
  have Yp : Y.prog = X.prog := by rw [hY]; rfl
  have IY : Inv Y [] (List.replicate own.length none ++ impS M σ) (upd H2 D (.lst [])) { s3 with heap := h₁, toks := s2.toks + 0 } := by
    rw [hY]
    exact inv_comp I3 S (fun b hb => ⟨f3 b hb, hlt3 b hb⟩) hns₁' hk3
  have fpY : ∀ {H' : Hp}, (∀ b ∈ fp, H' b = none) → ∀ b ∈ fp, FpOk Y [] H' b := fun {H'} hn b hb => by
    refine ⟨hn b hb, ?_, ?_, .inl ?_, fun x c e => ?_, fun p hp => ?_⟩
    · rw [hY]; exact Nat.ne_of_lt (hlt3 b hb)
    · rw [hY]
      intro hfs
      rcases List.mem_cons.mp (I3.stkSub b hfs) with z | z
      · exact (f2 b hb).2.1 z
      · exact (f2 b hb).2.2.1 z
    · rw [hY]; exact hb
    · rw [hY] at e
      exact (f2 b hb).2.2.2.2.1 x c (closeL_lookup e)
    · rw [hY] at hp
      exact absurd (show p ∈ ([] : List (Addr × Obj)) from hp) (by simp)
  obtain ⟨W, ⟨m0, w0⟩, turn⟩ := hw D fD
  have neC : s3.heap.objs.size ≠ X.env.locals := Nat.ne_of_gt I3.lt
  -- behind the block
  have back : ∀ {σ' : St} {H' : Hp} {s' : Shared} {h'' : Heap}, Inv Y [] σ' H' s' → Heap.SameBut s3.heap.objs.size s'.heap h'' → Inv X pins σ H' { s' with heap := h'' } := fun {σ' H' s' h''} K hs => by
    have u : Un (frs X.stack) fp (upd H2 D (.lst [])) H' s3.heap s'.heap := by
      have := K.base
      rw [hY] at this
      exact this
    have ho : s'.os = s3.os := by
      have := K.os
      rw [hY] at this
      exact this
    have fC : H' s3.heap.objs.size = none := by
      have := K.free
      rw [hY] at this
      exact this
    have hok : HOk X.prog X.w H' s'.heap := by
      have := K.hok
      rw [hY] at this
      exact this
    refine I3.call' (s' := { s' with heap := h'' }) (ch := fp) ho (u.sameBut hs (Heap.get?_none_of_le (Nat.le_refl _))) (hok.sameBut hs fC) K.bare fun b hb => ?_
    obtain ⟨_, b1, _, b3, b4, b5⟩ := f2 b hb
    exact ⟨b3, b1, b4, b5⟩
  have envY : Y.env = compEnvC scope (closeL X.env scope.names []) s3.heap.objs.size X.env := by rw [hY]; rfl
  have key : codeAny (model X.prog X.w) X.A (.compLoop (.ListComp elt [⟨tg, iter, ifs, 0⟩] scope pos) 0 (.ref it) (.ref D) Y.env) (RR (.ref D) s3.heap.objs.size) { s3 with heap := h₁, toks := s2.toks + 0 } := by
    refine comp_loop (fun n s' => ∃ i H', Inv Y [] (List.replicate own.length none ++ impS M σ) H' s' ∧ tn i s'.heap ∧ (∀ b ∈ fp, H' b = none) ∧ W i n H') ?_ m0
      ⟨0, _, IY, T.keep _ _ _ tn3 fun b hb o e => hk3 b o e, fun b hb => (f3 b hb).1, w0⟩
    rintro n s4 ⟨i, H4, I4, st4, fr4, w4⟩
    have hcY : Y.calm = true := by rw [hY]; exact hc
    have eP : Y.prog = X.prog := Yp
    have eW : Y.w = X.w := by rw [hY]; rfl
    have eK : Y.K = X.K := by rw [hY]; rfl
    have eA : Y.A = X.A := by rw [hY]; rfl
    have eE : Y.xe = fun _ _ => False := by rw [hY]; rfl
    rcases turn i n H4 w4 with ⟨stop, qn⟩ | ⟨go, step⟩
    · have q := T.done Y eP eW eK hcY i [] s4 _ H4 (fun _ _ => False) I4 (fpY fr4) st4 stop
      rw [eA] at q
      refine thn q fun r s5 ⟨hr, I5⟩ => ?_
      subst hr
      refine hR D _ s5 H4 ?_ (I3.fpOk (Nat.le_refl _) ?_) qn fun h'' hs => back I5 hs
      · obtain ⟨m, hn, _⟩ := I5.loc
        rw [envY] at hn
        exact ⟨m, hn⟩
      · have := I5.free
        rw [envY] at this
        exact this
    · have q := T.item Y eP eW eK hcY i [] s4 _ H4 (fun _ _ => False) I4 (fpY fr4) st4 go
      rw [eA] at q
      refine thn q fun r s5 ⟨u, hr, h5⟩ => ?_
      subst hr
      refine thn h5 fun _ s6 ⟨x, H6, I6, r6, y6, st6, fr6⟩ => ?_
      have I6' := I6.pinned (fpY fr6) (T.obj _ _ st6)
      have again : ∀ {σ7 : St} {H7 : Hp} {s7 : Shared}, (∀ (i : Nat) v, (List.replicate own.length none ++ impS M σ)[i]? = some (some v) → σ7[i]? = some (some v)) → Inv Y ([] ++ pinsAt fp s6.heap) σ7 H7 s7 →
          (∃ m', m' < n ∧ W (i + 1) m' H7) → ∃ m, m < n ∧ ∃ i H', Inv Y [] (List.replicate own.length none ++ impS M σ) H' s7 ∧ tn i s7.heap ∧ (∀ b ∈ fp, H' b = none) ∧ W i m H' := fun {σ7 H7 s7} kp I7 w7 => by
        obtain ⟨m', hm, w7⟩ := w7
        refine ⟨m', hm, i + 1, H7, I7.unpinned.weak (by rw [I6.len, I7.len]) kp, T.keep _ _ _ st6 fun b hb o e => (I7.pin (b, o) (List.mem_append_right _ (List.mem_append_right _ (mem_pinsAt hb e)))).1, fun b hb => ?_, w7⟩
        obtain ⟨o, e, d⟩ := T.obj _ _ st6 b hb
        exact (I7.pin (b, o) (List.mem_append_right _ (List.mem_append_right _ (mem_pinsAt hb e)))).2.1
      have qg := hg s3 (upd H2 D (.lst [])) _ s6 _ H6 x u _ (by rw [← hY]; exact I6') r6 (step x H6 y6)
      rw [← hY] at qg
      rw [eP, eW, eA, eE] at qg
      refine thn qg fun _ s7 ⟨σ7, H7, I7, k7, q7⟩ => ?_
      have qf := hf s3 (upd H2 D (.lst [])) _ s7 σ7 H7 _ (by rw [← hY]; exact I7) q7
      rw [← hY] at qf
      rw [eP, eW, eA, eE] at qf
      refine thn qf fun ok s8 ⟨H8, I8, q8⟩ => ?_
      cases ok with
      | false =>
        rw [if_neg Bool.false_ne_true] at q8 ⊢
        exact again k7 I8 q8
      | true =>
        rw [if_pos rfl] at q8 ⊢
        have qe := he s3 (upd H2 D (.lst [])) _ s8 σ7 H8 _ (by rw [← hY]; exact I8) q8
        rw [← hY] at qe
        rw [eP, eW, eA, eE] at qe
        refine thn qe fun v s9 ⟨xv, H9, I9, r9, ys, hys, hz, q9⟩ => ?_
        have qa := mt_append (X := Y) _ s9 σ7 H9 (.ref D) [xv] (.ref D) [v] (fun _ H10 => ∃ m', m' < n ∧ W (i + 1) m' H10) I9 rfl (.cons r9 .nil) ⟨D, ys, xv, rfl, rfl, hys, hz, q9⟩
        rw [eP, eW, eA, eE] at qa
        exact thn qa fun _ s10 ⟨_, H10, I10, _, q10⟩ => again k7 I10 q10
  have hst : codeAny (model X.prog X.w) X.A (.compStart (.ListComp elt [⟨tg, iter, ifs, 0⟩] scope pos) 0 (.ref it) (.ref D) Y.env) (RR (.ref D) s3.heap.objs.size) { s3 with heap := h₁, toks := s2.toks + 0 } :=
    codeAny_compStart_list key (T.self _ 0 _ _ _ (T.keep _ _ _ tn3 fun b hb o e => hk3 b o e) key)
  rw [envY] at hst
  subst hs3
  subst hD
  exact hst
theorem comp_closure {pins : List (Addr × Obj)} {s : Shared} {σ : St} {H : Hp} (I : Inv X pins σ H s) (S : CompSc scope X.env.scope M X.N) : closureFor scope X.env = pure (closeL X.env scope.names []) :=
  closure_eq fun p hp hf => I.ok.has p.1 (S.free p hp hf)
/-- [elt for tg in iter if ..] -/
theorem pe_comp {N : List Str} (own : List Str) (M : List (Str × Nat)) (hc : X.calm = true) (hi : PI X tg iter wi) (S : CompSc scope osc M N)
    (hg : ∀ s H ex, PG (X.comp scope (own ++ M.map (·.1)) s H ex) tg g) (hf : ∀ s H ex, PF (X.comp scope (own ++ M.map (·.1)) s H ex) ifs tt) (he : ∀ s H ex, PE (X.comp scope (own ++ M.map (·.1)) s H ex) elt te)
    (hsc : X.env.scope = osc := by rfl) (hN : X.N = N := by rfl) (hs : ∀ x, foldedSetIterable iter X.env x = pure x := by intro _; rfl) : PE X (.ListComp elt [⟨tg, iter, ifs, 0⟩] scope pos) (tComp own.length M wi g tt te) := by
  subst hsc
  subst hN
  intro pins s σ H Q I h
  rw [eval_ListComp]
  refine wpAny_comprehension_free (use := none) rfl hs (comp_closure I S) S.kind S.loc (thn (hi pins s σ H _ I h) fun v s1 h1 => thn h1 fun itv s2 h2 => ?_)
  obtain ⟨it, fp, tn, J, H2, e, I2, T, st2, f2, hw⟩ := h2
  subst e
  refine comp_block (own := own) (Q := fun D H' => Q (.ref D) H') (RR := fun acc C => compPost (model X.prog X.w) X.A X.xe none (EP X pins σ Q) acc C) I2 hc S T st2 f2 (fun s H => hg s H fp) (fun s H => hf s H fp) (fun s H => he s H fp) hw ?_
  intro D C s' H' hn _ q back
  obtain ⟨m, hn⟩ := hn
  exact ⟨m, hn, fun h'' hs'' => ⟨.ref D, H', back h'' hs'', rfl, q⟩⟩
end
/-! ### the forms one uses -/
theorem keep1 {l : St} {a : Option V} (i : Nat) (v : V) (h : (none :: l)[i]? = some (some v)) : (a :: l)[i]? = some (some v) := by
  cases i with
  | zero => cases h
  | succ i => simpa using h
end L2
/-! MORE RULES over the hand layer: data compared at any depth, sorted, count, remove, all, isinstance, enumerate, reversed. -/
namespace L2
open PySem PySem.Spec PyProof.Rows
/-! ### data, read off the abstract heap -/
mutual
inductive Dt (K : PySem.W.Frag) (H : Hp) : V → PyData → Prop where
  | non : Dt K H .non .none
  | bl (b : Bool) : Dt K H (.bl b) (.bool b)
  | int (i : Int) : Dt K H (.int i) (.int i)
  | str (x : Str) : Dt K H (.str x) (.str x)
  | lst {a : Addr} {xs : List V} {ds : List PyData} : SqL K H a xs → DtAll K H xs ds → Dt K H (.ref a) (.list ds)
  | tup {a : Addr} {xs : List V} {ds : List PyData} : SqT K H a xs → DtAll K H xs ds → Dt K H (.ref a) (.tuple ds)
inductive DtAll (K : PySem.W.Frag) (H : Hp) : List V → List PyData → Prop where
  | nil : DtAll K H [] []
  | cons {x : V} {xs : List V} {d : PyData} {ds : List PyData} : Dt K H x d → DtAll K H xs ds → DtAll K H (x :: xs) (d :: ds)
end
section
variable {X : Cx} {pins : List (Addr × Obj)} {σ : St} {H : Hp} {s : Shared}
mutual
theorem Inv.reads (I : Inv X pins σ H s) {v : V} {d : PyData} {u : Value} : Dt X.K H v d → RelV v u → ∃ as, Reads s.heap u d as
  | .non, r => by cases (show u = Value.none from r); exact ⟨_, .none⟩
  | .bl b, r => by cases (show u = Value.bool b from r); exact ⟨_, .bool b⟩
  | .int i, r => by obtain ⟨t, rfl⟩ := (show ∃ t, u = Value.int i t from r); exact ⟨_, .int i t⟩
  | .str x, r => by obtain ⟨t, rfl⟩ := (show ∃ t, u = Value.str x t from r); exact ⟨_, .str x t⟩
  | .lst (a := a) h hs, r => by
    cases (show u = Value.ref a from r)
    obtain ⟨its, rv, ⟨o, n, e, c, dd, dt⟩, z⟩ := I.list h
    obtain ⟨as, q⟩ := I.readsAll hs rv
    exact ⟨_, .list e c dt (by simpa using q)⟩
  | .tup (a := a) h hs, r => by
    cases (show u = Value.ref a from r)
    obtain ⟨its, rv, ⟨o, e, c, n, dt⟩, z⟩ := I.tuple h
    obtain ⟨as, q⟩ := I.readsAll hs rv
    exact ⟨_, .tuple e c dt (by simpa using q)⟩
theorem Inv.readsAll (I : Inv X pins σ H s) {vs : List V} {ds : List PyData} {us : List Value} : DtAll X.K H vs ds → Vals vs us → ∃ as, ReadsAll s.heap us ds as
  | .nil, r => by cases r; exact ⟨_, .nil⟩
  | .cons h hs, r => by
    cases r with
    | cons r1 r2 =>
      obtain ⟨as, q⟩ := I.reads h r1
      obtain ⟨bs, q2⟩ := I.readsAll hs r2
      exact ⟨_, .cons q q2⟩
end
end
theorem dt_ints {K : PySem.W.Frag} {H : Hp} : ∀ ns : List Int, DtAll K H (ns.map V.int) (ns.map PyData.int)
  | [] => .nil
  | n :: r => .cons (.int n) (dt_ints r)
def rNeD (K : PySem.W.Frag) : R2 := fun x y H Q => ∃ dx dy, Dt K H x dx ∧ Dt K H y dy ∧ SeqAt.shaped dx = true ∧ SeqAt.shaped dy = true ∧ Q (.bl (!PyData.eqv dx dy)) H
section
variable {X : Cx}
theorem op_neD (hu : X.A.units + 64 < cLine) : OpR X (compareOp .NotEq) (rNeD X.K) := by
  intro pins s σ H x y v u Q I rx ry h
  obtain ⟨dx, dy, h1, h2, s1, s2, q⟩ := h
  obtain ⟨as, ra⟩ := I.reads h1 rx
  obtain ⟨bs, rb⟩ := I.reads h2 ry
  exact SeqAt.compareNe_shaped ra rb s1 s2 hu ⟨.bl _, H, I, rfl, q⟩
end
/-! ### what == says of lists of ints -/
theorem eqvAll_ints : ∀ ns ms : List Int, PyData.eqvAll (ns.map PyData.int) (ms.map PyData.int) = decide (ns = ms)
  | [], [] => by simp [PyData.eqvAll]
  | [], _ :: _ => by simp [PyData.eqvAll]
  | _ :: _, [] => by simp [PyData.eqvAll]
  | n :: ns, m :: ms => by
    rw [List.map_cons, List.map_cons, PyData.eqvAll, eqvAll_ints ns ms]
    rw [Bool.eq_iff_iff]
    simp [PyData.eqv]
theorem eqv_ints (ns ms : List Int) : PyData.eqv (.list (ns.map PyData.int)) (.list (ms.map PyData.int)) = decide (ns = ms) := by
  rw [PyData.eqv]; exact eqvAll_ints ns ms
theorem canAll_ints : ∀ ns : List Int, PyData.canLayAll0 (ns.map PyData.int) = true
  | [] => rfl
  | n :: r => by rw [List.map_cons, PyData.canLayAll0, canAll_ints r]; rfl
theorem depth_ints : ∀ ns : List Int, PyData.depthAll (ns.map PyData.int) ≤ 1
  | [] => by simp [PyData.depthAll]
  | n :: r => by
    have := depth_ints r
    rw [List.map_cons, PyData.depthAll]
    simp only [PyData.depth]
    omega
theorem shaped_ints (ns : List Int) : SeqAt.shaped (.list (ns.map PyData.int)) = true := by
  have h1 := canAll_ints ns
  have h2 := depth_ints ns
  unfold SeqAt.shaped
  rw [Bool.and_eq_true]
  refine ⟨by rw [PyData.canLay0]; exact h1, decide_eq_true ?_⟩
  rw [PyData.depth]
  omega
/-! ### sorted -/
theorem ints_vals : ∀ {ns : List Int} {vs : List Value}, Vals (ns.map V.int) vs → IntsAre vs ns
  | [], _, .nil => .nil
  | n :: ns, _, .cons ⟨t, e⟩ r => by subst e; exact .cons n t (ints_vals r)
section
variable {X : Cx}
theorem ints_at {vs : List Value} {ns : List Int} (h : IntsAre vs ns) : ∀ (i : Nat) (v : Value), vs[i]? = some v → ∃ n t, ns[i]? = some n ∧ v = .int n t := by
  induction h with
  | nil => intro i v hv; simp at hv
  | cons n t _ ih =>
    intro i v hv
    cases i with
    | zero => simp at hv; exact ⟨n, t, rfl, hv.symm⟩
    | succ i => exact ih i v (by simpa using hv)
theorem erase_map {α β : Type} (f : α → β) : ∀ (l : List α) (j : Nat), (l.map f).eraseIdx j = (l.eraseIdx j).map f
  | [], _ => rfl
  | _ :: _, 0 => rfl
  | a :: l, j + 1 => by rw [List.map_cons, List.eraseIdx_cons_succ, erase_map f l j, List.eraseIdx_cons_succ, List.map_cons]
/-! ### all of a list of bools -/
def rAll (K : PySem.W.Frag) : List V → Hp → VK → Prop := fun xs H Q => ∃ (p : Addr) (bs : List Bool), xs = [.ref p] ∧ SqL K H p (bs.map V.bl) ∧ Q (.bl (bs.all id)) H
theorem range_all {α : Type} (f : α → Bool) (d : α) : ∀ bs : List α, ((List.range bs.length).all fun i => f (bs.getD i d)) = bs.all f
  | [] => rfl
  | b :: r => by
    rw [List.length_cons, List.range_succ_eq_map, List.all_cons, List.all_cons, List.all_map, ← range_all f d r]
    rfl
theorem call_all (hc : X.calm = true) : CallR X (.builtin "all") (rAll X.K) := by
  intro pins s σ H xs us Q I r h
  obtain ⟨p, bs, rfl, hp, q⟩ := h
  obtain ⟨u, rfl, ru⟩ := r.one
  cases (show u = Value.ref p from ru)
  obtain ⟨its, rv, pl, hz⟩ := I.list hp
  have hlen : its.length = bs.length := by rw [← rv.length, List.length_map]
  refine call_all_walk (wpAny_pyIter_list pl.isList ?_)
  have hne : p ≠ s.heap.objs.size := by
    obtain ⟨o, n, e, _⟩ := pl
    exact Nat.ne_of_lt (Heap.lt_size e)
  refine ⟨_, _, _, _, _, _, fun i => bs.getD i true, rfl, Walks.list (show X.A.in1.handled = none from I.ok.hd hc) s.heap.objs.size p hne its.toArray, ⟨⟨_, Heap.get?_push_size _ rfl, rfl, rfl⟩, ?_⟩, ?_, ?_⟩
  · obtain ⟨o, n, e, c, d, dt⟩ := pl
    exact ⟨o, Heap.get?_push_of_some _ e, c, n, dt⟩
  · intro i v s' Q' E' hv hq
    have hv' : its[i]? = some v := by simpa using hv
    have hi : i < bs.length := by rw [← hlen]; exact (List.getElem?_eq_some_iff.mp hv').1
    have hb : (bs.map V.bl)[i]? = some (V.bl (bs.getD i true)) := by
      rw [List.getElem?_map, List.getElem?_eq_getElem hi]
      simp [List.getD_eq_getElem?_getD, hi]
    obtain ⟨u, hu, ru⟩ := rv.get hb
    rw [hv'] at hu
    cases hu
    cases (show v = Value.bool _ from ru)
    exact wpAny_truthy_bool hq
  · intro h' tk hk
    refine ⟨.bl (bs.all id), H, I.kept (t' := tk) fun b o e => ?_, ?_, q⟩
    · exact hk b o (by simp; exact Nat.ne_of_lt (Heap.lt_size e)) (Heap.get?_push_of_some _ e)
    · show Value.bool _ = Value.bool _
      rw [List.size_toArray, hlen]
      exact congrArg Value.bool (range_all id true bs)
/-! ### isinstance -/
def rIsT (K : PySem.W.Frag) : List V → Hp → VK → Prop := fun xs H Q => ∃ x n t b, xs = [x, .ty n] ∧ TyOf K H x t ∧ PySem.W.kitOne K t (.type n) = some b ∧ Q (.bl b) H
theorem call_isT : CallR X (.builtin "isinstance") (rIsT X.K) := by
  intro pins s σ H xs us Q I r h
  obtain ⟨x, n, t, b, rfl, ty, e, q⟩ := h
  obtain ⟨u, c, rfl, ru, rc⟩ := r.two
  cases (show c = Value.type n from rc)
  exact isinst_ok I ru ty e fun tk => ⟨.bl b, H, I.tok _, rfl, q⟩
end
section
variable {X : Cx} {tg : Expr}
end
section
variable {X : Cx} {elts : List Expr} {k : Nat} {tp : Pos}
end
end L2
namespace Rg
/-! ### two lists in order, being merged: o what is laid down, u and v what is left -/
section
variable {α : Type} (kz : α → Int)
structure MG (w o u v : List α) : Prop where
  so : o.Pairwise fun a b => kz a ≤ kz b
  su : u.Pairwise fun a b => kz a ≤ kz b
  sv : v.Pairwise fun a b => kz a ≤ kz b
  ou : ∀ x ∈ o, ∀ y ∈ u, kz x ≤ kz y
  ov : ∀ x ∈ o, ∀ y ∈ v, kz x ≤ kz y
  pm : (o ++ u ++ v).Perm w
variable {kz} {w o u v : List α}
theorem MG.swap (h : MG kz w o u v) : MG kz w o v u := by
  refine ⟨h.so, h.sv, h.su, h.ov, h.ou, List.Perm.trans ?_ h.pm⟩
  rw [List.append_assoc, List.append_assoc]
  exact List.Perm.append_left _ List.perm_append_comm
/-- a piece of u is laid down -/
theorem MG.chunk (h : MG kz w o u v) (k : Nat) (hk : ∀ x ∈ u.take k, ∀ y ∈ v, kz x ≤ kz y) : MG kz w (o ++ u.take k) (u.drop k) v := by
  have e : u.take k ++ u.drop k = u := List.take_append_drop k u
  have su := h.su
  rw [← e, List.pairwise_append] at su
  refine ⟨?_, su.2.1, h.sv, ?_, ?_, ?_⟩
  · rw [List.pairwise_append]
    exact ⟨h.so, su.1, fun x hx y hy => h.ou x hx y (List.mem_of_mem_take hy)⟩
  · intro x hx y hy
    rcases List.mem_append.mp hx with z | z
    · exact h.ou x z y (List.mem_of_mem_drop hy)
    · exact su.2.2 x z y hy
  · intro x hx y hy
    rcases List.mem_append.mp hx with z | z
    · exact h.ov x z y hy
    · exact hk x z y hy
  · have := h.pm
    rw [List.append_assoc o, e]
    exact this
theorem MG.one {x : α} {u : List α} (h : MG kz w o (x :: u) v) (hk : ∀ y ∈ v, kz x ≤ kz y) : MG kz w (o ++ [x]) u v := by
  have := h.chunk 1 (by intro z hz; simp at hz; subst hz; exact hk)
  simpa using this
/-- laid down in order -/
def Done (kz : α → Int) (w r : List α) : Prop := r.Pairwise (fun a b => kz a ≤ kz b) ∧ r.Perm w
theorem MG.behind (h : MG kz w o u v) (hk : ∀ y ∈ v, ∀ x ∈ u, kz y ≤ kz x) : Done kz w (o ++ v ++ u) := by
  refine ⟨?_, ?_⟩
  · rw [List.pairwise_append, List.pairwise_append]
    refine ⟨⟨h.so, h.sv, h.ov⟩, h.su, fun x hx y hy => ?_⟩
    rcases List.mem_append.mp hx with z | z
    · exact h.ou x z y hy
    · exact hk x z y hy
  · exact h.swap.pm
theorem MG.ends (h : MG kz w o u v) (hk : u = [] ∨ v = []) : Done kz w (o ++ u ++ v) := by
  refine h.swap.behind fun y hy x hx => ?_
  rcases hk with z | z
  · rw [z] at hy; cases hy
  · rw [z] at hx; cases hx
theorem MG.len (h : MG kz w o u v) : o.length + u.length + v.length = w.length := by
  have := h.pm.length_eq
  rw [List.length_append, List.length_append] at this
  exact this
/-- all from the i-th on are no less -/
theorem sorted_from {l : List α} (h : l.Pairwise fun a b => kz a ≤ kz b) {i j : Nat} {x y : α} (hi : l[i]? = some x) (hj : l[j]? = some y) (hij : i ≤ j) : kz x ≤ kz y := by
  by_cases e : i = j
  · subst e
    rw [hi] at hj
    cases hj
    exact Int.le_refl _
  · obtain ⟨h1, e1⟩ := List.getElem?_eq_some_iff.mp hi
    obtain ⟨h2, e2⟩ := List.getElem?_eq_some_iff.mp hj
    have := List.pairwise_iff_getElem.mp h i j h1 h2 (by omega)
    rw [e1, e2] at this
    exact this
end
theorem pairwise_rev {α : Type} {kz : α → Int} {l : List α} (h : l.Pairwise fun a b => kz a ≤ kz b) : l.reverse.Pairwise fun a b => -kz a ≤ -kz b := by
  rw [List.pairwise_reverse]
  exact h.imp fun {a b} q => by omega
theorem done_rev {α : Type} {kz : α → Int} {w r : List α} (h : Done (fun a => -kz a) w r) : Done kz w r.reverse := by
  refine ⟨?_, (List.reverse_perm r).trans h.2⟩
  rw [List.pairwise_reverse]
  exact h.1.imp fun {a b} q => by have q' : -kz a ≤ -kz b := q; omega
end Rg
/-! THE SORT OF THE MACHINE, for lists of any length: runs, galloping, merging. -/
namespace RgG
open PySem PyProof.Rows Rg
/-- the order that the keys stand in, told by ints -/
class KOrd where
  kz : Keyed → Int
  IntK : Keyed → Prop
abbrev kz [KOrd] (p : Keyed) : Int := KOrd.kz p
abbrev IntK [KOrd] (p : Keyed) : Prop := KOrd.IntK p
class KLt (prog : Program) (w : World) (A : Around) (s : Shared) [KOrd] : Prop where
  lt : ∀ {E : Value → Shared → Prop} {x y : Keyed} {st : SortSt} {Q : Option Bool → SortSt → Prop}, kindOf st = oneType' → IntK x → IntK y → Q (some (decide (kz x < kz y))) st → wpS (model prog w) A E s (lt' x y) Q st
variable [KOrd]
/-- the i-th key -/
def KG (xs : Array Keyed) (i : Nat) : Int := match xs[i]? with
  | some p => kz p
  | none => 0
def SortedG (xs : Array Keyed) (k : Nat) : Prop := ∀ i j, i ≤ j → j < k → KG xs i ≤ KG xs j
theorem KG_congr {xs ys : Array Keyed} {i j : Nat} (h : xs[i]? = ys[j]?) : KG xs i = KG ys j := by
  unfold KG
  rw [h]
theorem KG_bubble {xs : Array Keyed} {src d : Nat} (hs : src < xs.size) (hd : d ≤ src) (k : Nat) : KG (bubble xs src d) k = if k = src - d then KG xs src else if src - d < k ∧ k ≤ src then KG xs (k - 1) else KG xs k := by
  have e := getElem?_bubble hs d hd k
  split
  · rename_i h1
    rw [if_pos h1] at e
    exact KG_congr e
  · rename_i h1
    rw [if_neg h1] at e
    split
    · rename_i h2
      rw [if_pos h2] at e
      exact KG_congr e
    · rename_i h2
      rw [if_neg h2] at e
      exact KG_congr e
theorem KG_mirror {xs : Array Keyed} {i j : Nat} (hj : j ≤ xs.size) (k : Nat) : KG (mirror xs i j ((j - i) / 2)) k = if i ≤ k ∧ k < j then KG xs (i + j - 1 - k) else KG xs k := by
  have e := getElem?_mirror_all (i := i) hj k
  split
  · rename_i h1
    rw [if_pos h1] at e
    exact KG_congr e
  · rename_i h1
    rw [if_neg h1] at e
    exact KG_congr e
theorem KG_mirror_equal {xs : Array Keyed} {i j : Nat} (hj : j ≤ xs.size) (heq : ∀ k, i ≤ k → k < j → KG xs k = KG xs (j - 1)) (k : Nat) : KG (mirror xs i j ((j - i) / 2)) k = KG xs k := by
  rw [KG_mirror hj]
  split
  · rename_i h1
    rw [heq _ (by omega) (by omega), heq k (by omega) (by omega)]
  · rfl
def gallop' : Bool → Keyed → Array Keyed → Nat → Nat → Nat → StateT SortSt Sem (Option Nat) := sortPriv% PySem.Builtin.gallop
def mergeLo' : Array Keyed → Array Keyed → StateT SortSt Sem (Array Keyed) := sortPriv% PySem.Builtin.mergeLo
def mergeHi' : Array Keyed → Array Keyed → StateT SortSt Sem (Array Keyed) := sortPriv% PySem.Builtin.mergeHi
section
variable {prog : Program} {w : World} {A : Around} {E : Value → Shared → Prop} {s : Shared} [KLt prog w A s]
theorem wpS_lt {x y : Keyed} {st : SortSt} {Q : Option Bool → SortSt → Prop} (hk : kindOf st = oneType') (hx : IntK x) (hy : IntK y) (h : Q (some (decide (kz x < kz y))) st) : wpS (model prog w) A E s (lt' x y) Q st := KLt.lt hk hx hy h
theorem wpS_elem {arr : Array Keyed} {i : Nat} {p : Keyed} {st : SortSt} {Q : Keyed → SortSt → Prop} (hi : arr[i]? = some p) (h : Q p st) : wpS (model prog w) A E s (elem' arr i) Q st := by
  rw [elem'_eq, hi]
  exact wpS_pure h
def bey (left : Bool) (key x : Keyed) : Bool := if left = true then decide (kz x < kz key) else !decide (kz key < kz x)
theorem wpS_bey {left : Bool} {key p : Keyed} {arr : Array Keyed} {j : Nat} {st : SortSt} {Q : Option Bool → SortSt → Prop} (hk : kindOf st = oneType') (hp : arr[j]? = some p) (ip : IntK p) (ik : IntK key) (h : Q (some (bey left key p)) st) :
    wpS (model prog w) A E s (elem' arr j >>= fun x => if left = true then lt' x key else lt' key x >>= fun r => pure (r.map fun b => !b)) Q st := by
  refine wpS_bind (wpS_elem hp ?_)
  unfold bey at h
  cases left with
  | true => exact wpS_lt hk ip ik h
  | false => exact wpS_bind (wpS_lt hk ik ip (wpS_pure h))
/-- how far beyond the key the i-th of a list in order stands -/
def beyL (left : Bool) (key : Keyed) (L : List Keyed) (i : Nat) : Bool := match L[i]? with
  | some p => bey left key p
  | none => false
theorem beyL_mono {left : Bool} {key : Keyed} {L : List Keyed} (hs : L.Pairwise fun a b => kz a ≤ kz b) {i j : Nat} (hij : i ≤ j) (hj : j < L.length) (h : beyL left key L j = true) : beyL left key L i = true := by
  have e1 : L[i]? = some (L[i]'(by omega)) := List.getElem?_eq_getElem (by omega)
  have e2 : L[j]? = some L[j] := List.getElem?_eq_getElem hj
  have hle := sorted_from hs e1 e2 hij
  unfold beyL at h ⊢
  rw [e2] at h
  rw [e1]
  dsimp only at h ⊢
  unfold bey at h ⊢
  cases left with
  | true => simp at h ⊢; omega
  | false => simp at h ⊢; omega
theorem wpS_gallop {left : Bool} {key : Keyed} {arr : Array Keyed} {base n hint : Nat} {L : List Keyed} {st : SortSt} {Q : Option Nat → SortSt → Prop} (hk : kindOf st = oneType') (ik : IntK key) (hlen : L.length = n)
    (hL : ∀ i, i < n → arr[base + i]? = L[i]?) (hs : L.Pairwise fun a b => kz a ≤ kz b) (hI : ∀ p ∈ L, IntK p) (hh : hint < n)
    (h : ∀ k, k ≤ n → (∀ i, i < k → beyL left key L i = true) → (∀ i, k ≤ i → i < n → beyL left key L i = false) → Q (some k) st) :
    wpS (model prog w) A E s (gallop' left key arr base n hint) Q st := by
  have ask : ∀ i (Q' : Option Bool → SortSt → Prop), i < n → Q' (some (beyL left key L i)) st →
      wpS (model prog w) A E s (elem' arr (base + i) >>= fun x => if left = true then lt' x key else lt' key x >>= fun r => pure (r.map fun b => !b)) Q' st := fun i Q' hi q => by
    have e : L[i]? = some (L[i]'(by omega)) := List.getElem?_eq_getElem (by omega)
    refine wpS_bey hk ((hL i hi).trans e) (hI _ (List.getElem_mem _)) ik ?_
    unfold beyL at q
    rw [e] at q
    exact q
  have mono : ∀ {i j}, i ≤ j → j < n → beyL left key L j = true → beyL left key L i = true := fun hij hj => beyL_mono hs hij (by omega)
  have anti : ∀ {i j}, i ≤ j → j < n → beyL left key L i = false → beyL left key L j = false := fun {i j} hij hj q => by
    cases e : beyL left key L j with
    | false => rfl
    | true => rw [mono hij hj e] at q; cases q
  generalize hB : beyL left key L = B at *
  refine wpS_bind (ask hint _ hh ?_)
  dsimp only
  cases hb : B hint with
  | true =>
    rw [if_pos rfl]
    refine wpS_bind (wpS_mono (wpS_forRange (I := fun x c st' => st' = st ∧ ∃ la ofs, c = (none, la, ofs) ∧ la < ofs ∧ x + 1 ≤ ofs ∧ hint + la < n ∧ B (hint + la) = true)
      (Q := fun c st' => st' = st ∧ ∃ la ofs, c = (none, la, ofs) ∧ la < ofs ∧ hint + la < n ∧ B (hint + la) = true ∧ (n ≤ hint + ofs ∨ (hint + ofs < n ∧ B (hint + ofs) = false))) ?step ?fin ?init) ?post)
    case init => exact ⟨rfl, 0, 1, rfl, by omega, by omega, by omega, hb⟩
    case fin =>
      rintro c st' ⟨rfl, la, ofs, rfl, h1, h2, h3, h4⟩
      exact ⟨rfl, la, ofs, rfl, h1, h3, h4, .inl (by omega)⟩
    case step =>
      rintro x c st' _ hx ⟨rfl, la, ofs, rfl, h1, h2, h3, h4⟩
      dsimp only
      by_cases hge : ofs ≥ n - hint
      · rw [if_pos hge]
        exact wpS_pure ⟨rfl, la, ofs, rfl, h1, h3, h4, .inl (by omega)⟩
      · rw [if_neg hge]
        refine wpS_bind (ask (hint + ofs) _ (by omega) ?_)
        cases hm : B (hint + ofs) with
        | false => exact wpS_pure ⟨rfl, la, ofs, rfl, h1, h3, h4, .inr ⟨by omega, hm⟩⟩
        | true => exact wpS_pure ⟨rfl, ofs, 2 * ofs + 1, rfl, by omega, by omega, by omega, hm⟩
    case post =>
      rintro c st' ⟨rfl, la, ofs, rfl, h1, h3, h4, h5⟩
      dsimp only
      have f1 : hint + la + 1 ≤ hint + min ofs (n - hint) := by omega
      have f2 : hint + min ofs (n - hint) ≤ n := by omega
      have f3 : ∀ i, i < hint + la + 1 → B i = true := fun i hi => mono (by omega) h3 h4
      have f4 : ∀ i, hint + min ofs (n - hint) ≤ i → i < n → B i = false := fun i hi hn => by
        rcases h5 with z | ⟨z1, z2⟩
        · omega
        · exact anti (by omega) hn z2
      generalize hint + la + 1 = lo at f1 f3 ⊢
      generalize hint + min ofs (n - hint) = hi at f1 f2 f4 ⊢
      refine wpS_bind (wpS_mono (wpS_forRange (I := fun x c st'' => st'' = st' ∧ ∃ lo hi, c = (none, lo, hi) ∧ lo ≤ hi ∧ hi ≤ n ∧ hi - lo ≤ n - x ∧ (∀ i, i < lo → B i = true) ∧ (∀ i, hi ≤ i → i < n → B i = false))
        (Q := fun c st'' => st'' = st' ∧ ∃ lo hi, c = (none, lo, hi) ∧ hi ≤ n ∧ (∀ i, i < hi → B i = true) ∧ (∀ i, hi ≤ i → i < n → B i = false)) ?s2 ?f2 ⟨rfl, lo, hi, rfl, f1, f2, by omega, f3, f4⟩) ?p2)
      case f2 =>
        rintro c st'' ⟨rfl, lo, hi, rfl, g1, g2, g3, g4, g5⟩
        have : lo = hi := by omega
        subst this
        exact ⟨rfl, lo, lo, rfl, g2, g4, g5⟩
      case s2 =>
        rintro x c st'' _ hx ⟨rfl, lo, hi, rfl, g1, g2, g3, g4, g5⟩
        dsimp only
        by_cases hge : lo ≥ hi
        · rw [if_pos hge]
          have : lo = hi := by omega
          subst this
          exact wpS_pure ⟨rfl, lo, lo, rfl, g2, g4, g5⟩
        · rw [if_neg hge]
          refine wpS_bind (ask (lo + (hi - lo) / 2) _ (by omega) ?_)
          cases hm : B (lo + (hi - lo) / 2) with
          | true => exact wpS_pure ⟨rfl, lo + (hi - lo) / 2 + 1, hi, rfl, by omega, g2, by omega, fun i hi' => mono (by omega) (by omega) hm, g5⟩
          | false => exact wpS_pure ⟨rfl, lo, lo + (hi - lo) / 2, rfl, by omega, by omega, by omega, g4, fun i h1 h2 => anti h1 h2 hm⟩
      case p2 =>
        rintro c st'' ⟨rfl, lo, hi, rfl, g2, g4, g5⟩
        exact wpS_pure (h hi g2 g4 g5)
  | false =>
    rw [if_neg Bool.false_ne_true]
    refine wpS_bind (wpS_mono (wpS_forRange (I := fun x c st' => st' = st ∧ ∃ la ofs, c = (none, la, ofs) ∧ la < ofs ∧ x + 1 ≤ ofs ∧ la ≤ hint ∧ B (hint - la) = false)
      (Q := fun c st' => st' = st ∧ ∃ la ofs, c = (none, la, ofs) ∧ la < ofs ∧ la ≤ hint ∧ B (hint - la) = false ∧ (hint + 1 ≤ ofs ∨ (ofs ≤ hint ∧ B (hint - ofs) = true))) ?step ?fin ?init) ?post)
    case init => exact ⟨rfl, 0, 1, rfl, by omega, by omega, by omega, hb⟩
    case fin =>
      rintro c st' ⟨rfl, la, ofs, rfl, h1, h2, h3, h4⟩
      exact ⟨rfl, la, ofs, rfl, h1, h3, h4, .inl (by omega)⟩
    case step =>
      rintro x c st' _ hx ⟨rfl, la, ofs, rfl, h1, h2, h3, h4⟩
      dsimp only
      by_cases hge : ofs ≥ hint + 1
      · rw [if_pos hge]
        exact wpS_pure ⟨rfl, la, ofs, rfl, h1, h3, h4, .inl (by omega)⟩
      · rw [if_neg hge]
        refine wpS_bind (ask (hint - ofs) _ (by omega) ?_)
        cases hm : B (hint - ofs) with
        | true => exact wpS_pure ⟨rfl, la, ofs, rfl, h1, h3, h4, .inr ⟨by omega, hm⟩⟩
        | false => exact wpS_pure ⟨rfl, ofs, 2 * ofs + 1, rfl, by omega, by omega, by omega, hm⟩
    case post =>
      rintro c st' ⟨rfl, la, ofs, rfl, h1, h3, h4, h5⟩
      dsimp only
      have f1 : hint + 1 - min ofs (hint + 1) ≤ hint - la := by omega
      have f2 : hint - la ≤ n := by omega
      have f3 : ∀ i, i < hint + 1 - min ofs (hint + 1) → B i = true := fun i hi => by
        rcases h5 with z | ⟨z1, z2⟩
        · omega
        · exact mono (by omega) (by omega) z2
      have f4 : ∀ i, hint - la ≤ i → i < n → B i = false := fun i hi hn => anti hi hn h4
      generalize hint + 1 - min ofs (hint + 1) = lo at f1 f3 ⊢
      generalize hint - la = hi at f1 f2 f4 ⊢
      refine wpS_bind (wpS_mono (wpS_forRange (I := fun x c st'' => st'' = st' ∧ ∃ lo hi, c = (none, lo, hi) ∧ lo ≤ hi ∧ hi ≤ n ∧ hi - lo ≤ n - x ∧ (∀ i, i < lo → B i = true) ∧ (∀ i, hi ≤ i → i < n → B i = false))
        (Q := fun c st'' => st'' = st' ∧ ∃ lo hi, c = (none, lo, hi) ∧ hi ≤ n ∧ (∀ i, i < hi → B i = true) ∧ (∀ i, hi ≤ i → i < n → B i = false)) ?s2 ?f2 ⟨rfl, lo, hi, rfl, f1, f2, by omega, f3, f4⟩) ?p2)
      case f2 =>
        rintro c st'' ⟨rfl, lo, hi, rfl, g1, g2, g3, g4, g5⟩
        have : lo = hi := by omega
        subst this
        exact ⟨rfl, lo, lo, rfl, g2, g4, g5⟩
      case s2 =>
        rintro x c st'' _ hx ⟨rfl, lo, hi, rfl, g1, g2, g3, g4, g5⟩
        dsimp only
        by_cases hge : lo ≥ hi
        · rw [if_pos hge]
          have : lo = hi := by omega
          subst this
          exact wpS_pure ⟨rfl, lo, lo, rfl, g2, g4, g5⟩
        · rw [if_neg hge]
          refine wpS_bind (ask (lo + (hi - lo) / 2) _ (by omega) ?_)
          cases hm : B (lo + (hi - lo) / 2) with
          | true => exact wpS_pure ⟨rfl, lo + (hi - lo) / 2 + 1, hi, rfl, by omega, g2, by omega, fun i hi' => mono (by omega) (by omega) hm, g5⟩
          | false => exact wpS_pure ⟨rfl, lo, lo + (hi - lo) / 2, rfl, by omega, by omega, by omega, g4, fun i h1 h2 => anti h1 h2 hm⟩
      case p2 =>
        rintro c st'' ⟨rfl, lo, hi, rfl, g2, g4, g5⟩
        exact wpS_pure (h hi g2 g4 g5)
end
end RgG
namespace RgG
open PySem PyProof.Rows Rg
variable [KOrd]
abbrev setG (st : SortSt) (g : Nat) : SortSt := SortSt.mk' (kindOf st) (arrOf st) (pendingOf st) g (failedOf st)
theorem ex_from (a : Array Keyed) (i : Nat) : (a.extract i a.size).toList = a.toList.drop i := by
  rw [Array.toList_extract, List.extract_eq_take_drop]
  exact List.take_of_length_le (by simp)
theorem ex_run (a : Array Keyed) (i k : Nat) : (a.extract i (i + k)).toList = (a.toList.drop i).take k := by
  rw [Array.toList_extract, List.extract_eq_take_drop]
  congr 1
  omega
theorem ex_to (a : Array Keyed) (k : Nat) : (a.extract 0 k).toList = a.toList.take k := by
  rw [Array.toList_extract, List.extract_eq_take_drop]
  simp
theorem drop_at {l : List Keyed} {i : Nat} (h : i < l.length) : l.drop i = l[i] :: l.drop (i + 1) := List.drop_eq_getElem_cons h
theorem at_some (a : Array Keyed) {i : Nat} (h : i < a.size) : a[i]? = some (a.toList[i]'(by simpa using h)) := by simp [h]
theorem drop_le {l : List Keyed} (hs : l.Pairwise fun a b => kz a ≤ kz b) {i : Nat} (h : i < l.length) : ∀ x ∈ l.drop i, kz l[i] ≤ kz x := fun x hx => by
  obtain ⟨j, hj⟩ := List.mem_iff_getElem?.mp hx
  rw [List.getElem?_drop] at hj
  exact sorted_from hs (List.getElem?_eq_getElem h) hj (by omega)
/-- in a list in order, what stands ahead of k is not beyond the key's place -/
theorem bey_take {key : Keyed} {L : List Keyed} {left : Bool} {k : Nat} (h : ∀ i, i < k → beyL left key L i = true) : ∀ x ∈ L.take k, kz x ≤ kz key := fun x hx => by
  obtain ⟨j, hj⟩ := List.mem_iff_getElem?.mp hx
  have hlt : j < k := by
    have := (List.getElem?_eq_some_iff.mp hj).1
    rw [List.length_take] at this
    omega
  rw [List.getElem?_take_of_lt hlt] at hj
  have q := h j hlt
  unfold beyL at q
  rw [hj] at q
  dsimp only at q
  unfold bey at q
  cases left with
  | true => simp at q; omega
  | false => simp at q; omega
theorem bey_drop {key : Keyed} {L : List Keyed} {left : Bool} {k n : Nat} (hn : L.length = n) (h : ∀ i, k ≤ i → i < n → beyL left key L i = false) : ∀ x ∈ L.drop k, kz key ≤ kz x := fun x hx => by
  obtain ⟨j, hj⟩ := List.mem_iff_getElem?.mp hx
  rw [List.getElem?_drop] at hj
  have q := h (k + j) (by omega) (by rw [← hn]; exact (List.getElem?_eq_some_iff.mp hj).1)
  unfold beyL at q
  rw [hj] at q
  dsimp only at q
  unfold bey at q
  cases left with
  | true => simp at q; omega
  | false => simp at q; omega
section
variable {prog : Program} {w : World} {A : Around} {E : Value → Shared → Prop} {s : Shared} [KLt prog w A s]
theorem wpS_mergeLo {a b : Array Keyed} {st : SortSt} {Q : Array Keyed → SortSt → Prop} (hk : kindOf st = oneType') (sa : a.toList.Pairwise fun x y => kz x ≤ kz y) (sb : b.toList.Pairwise fun x y => kz x ≤ kz y)
    (Ia : ∀ p ∈ a.toList, IntK p) (Ib : ∀ p ∈ b.toList, IntK p) (na : 0 < a.size) (nb : 0 < b.size)
    (h0 : ∀ y x, b[0]? = some y → x ∈ a.toList → kz y ≤ kz x) (hl : ∀ y x, y ∈ b.toList → a[a.size - 1]? = some x → kz y ≤ kz x)
    (h : ∀ r g, Done kz (a.toList ++ b.toList) r.toList → Q r (setG st g)) : wpS (model prog w) A E s (mergeLo' a b) Q st := by
  have la : a.toList.length = a.size := by simp
  have lb : b.toList.length = b.size := by simp
  have lastA : ∀ {o : Array Keyed} {ia ib : Nat}, MG kz (a.toList ++ b.toList) o.toList (a.toList.drop ia) (b.toList.drop ib) → ia + 1 = a.size →
      Done kz (a.toList ++ b.toList) (o ++ b.extract ib b.size ++ a.extract ia a.size).toList := fun {o ia ib} m e => by
    rw [Array.toList_append, Array.toList_append, ex_from, ex_from]
    refine m.behind fun y hy x hx => ?_
    rw [drop_at (show ia < a.toList.length by omega), List.drop_eq_nil_of_le (by omega)] at hx
    simp at hx
    subst hx
    exact hl y _ (List.mem_of_mem_drop hy) (by rw [at_some a (show a.size - 1 < a.size by omega)]; congr 2; omega)
  have ends : ∀ {o : Array Keyed} {ia ib : Nat}, MG kz (a.toList ++ b.toList) o.toList (a.toList.drop ia) (b.toList.drop ib) → (a.size ≤ ia ∨ b.size ≤ ib) →
      Done kz (a.toList ++ b.toList) (o ++ a.extract ia a.size ++ b.extract ib b.size).toList := fun {o ia ib} m e => by
    rw [Array.toList_append, Array.toList_append, ex_from, ex_from]
    refine m.ends ?_
    rcases e with z | z
    · exact .inl (List.drop_eq_nil_of_le (by omega))
    · exact .inr (List.drop_eq_nil_of_le (by omega))
  refine wpS_bind (wpS_lift (wpAny_rule ⟨rfl, ?_⟩))
  dsimp only
  refine wpS_bind (wpS_elem (at_some b nb) ?_)
  have m0 : MG kz (a.toList ++ b.toList) (#[b.toList[0]'(by omega)] : Array Keyed).toList (a.toList.drop 0) (b.toList.drop 1) := by
    refine ⟨List.pairwise_singleton _ _, by simpa using sa, ?_, fun x hx y hy => ?_, fun x hx y hy => ?_, ?_⟩
    · exact sb.sublist (List.drop_sublist _ _)
    · simp at hx hy; subst hx; exact h0 _ y (at_some b nb) (by simpa using hy)
    · simp at hx; subst hx; exact drop_le sb (by omega) y (by simpa using List.mem_of_mem_drop hy)
    · have e : b.toList = b.toList[0]'(by omega) :: b.toList.drop 1 := by have q := drop_at (l := b.toList) (i := 0) (by omega); rw [List.drop_zero] at q; exact q
      generalize b.toList[0]'(by omega) = y at *
      rw [e]
      simp only [List.drop_zero, List.cons_append, List.nil_append, List.drop_succ_cons]
      exact List.perm_middle.symm
  generalize b.toList[0]'(by omega) = y0 at m0 ⊢
  by_cases e1 : (1 == b.size) = true
  · rw [if_pos e1]
    exact wpS_pure (h _ _ (ends m0 (.inr (by simp at e1; omega))))
  rw [if_neg e1]
  by_cases e2 : (0 + 1 == a.size) = true
  · rw [if_pos e2]
    exact wpS_pure (h _ _ (lastA m0 (by simp at e2; omega)))
  rw [if_neg e2]
  have b2 : 1 < b.size := by simp at e1; omega
  have a2 : 0 + 1 < a.size := by simp at e2; omega
  refine wpS_bind (wpS_get ?_)
  refine wpS_bind (wpS_mono (wpS_forRange (I := fun x c st' => (∃ g, st' = setG st g) ∧ ∃ o ia ib mg, c = (none, o, ia, ib, mg) ∧ MG kz (a.toList ++ b.toList) o.toList (a.toList.drop ia) (b.toList.drop ib) ∧ ia + 1 < a.size ∧ ib < b.size ∧ x ≤ ia + ib)
    (Q := fun c st' => (∃ g, st' = setG st g) ∧ ∃ r rest, c = (some r, rest) ∧ Done kz (a.toList ++ b.toList) r.toList) ?step ?fin ?init) ?post)
  case init => exact ⟨⟨_, rfl⟩, _, _, _, _, rfl, m0, a2, b2, Nat.zero_le _⟩
  case fin =>
    rintro c st' ⟨_, o, ia, ib, mg, _, _, g1, g2, g3⟩
    omega
  case post =>
    rintro c st' ⟨⟨g, rfl⟩, r, rest, rfl, hd⟩
    exact wpS_pure (h r g hd)
  case step =>
    rintro x c st' _ hx ⟨⟨g, rfl⟩, o, ia, ib, mg, rfl, m, g1, g2, g3⟩
    dsimp only
    refine wpS_bind (wpS_mono (wpS_forRange (I := fun x' c st' => (∃ g, st' = setG st g) ∧ ∃ o ja jb ac bc, c = (none, o, ja, jb, ac, bc) ∧ MG kz (a.toList ++ b.toList) o.toList (a.toList.drop ja) (b.toList.drop jb) ∧ ja + 1 < a.size ∧ jb < b.size ∧ ia + ib + x' ≤ ja + jb)
      (Q := fun c st' => (∃ g, st' = setG st g) ∧ ((∃ r rest, c = (some r, rest) ∧ Done kz (a.toList ++ b.toList) r.toList) ∨
        ∃ o ja jb ac bc, c = (none, o, ja, jb, ac, bc) ∧ MG kz (a.toList ++ b.toList) o.toList (a.toList.drop ja) (b.toList.drop jb) ∧ ja + 1 < a.size ∧ jb < b.size ∧ ia + ib < ja + jb)) ?istep ?ifin ?iinit) ?ipost)
    case iinit => exact ⟨⟨g, rfl⟩, o, ia, ib, 0, 0, rfl, m, g1, g2, by omega⟩
    case ifin =>
      rintro c st' ⟨_, o, ja, jb, ac, bc, _, _, f1, f2, f3⟩
      omega
    case istep =>
      rintro x' c st' _ hx' ⟨⟨g, rfl⟩, o, ja, jb, ac, bc, rfl, m, f1, f2, f3⟩
      dsimp only
      refine wpS_bind (wpS_elem (at_some b f2) ?_)
      refine wpS_bind (wpS_elem (at_some a (show ja < a.size by omega)) ?_)
      refine wpS_bind (wpS_lt hk (Ib _ (List.getElem_mem _)) (Ia _ (List.getElem_mem _)) ?_)
      dsimp only
      have ua := drop_at (l := a.toList) (i := ja) (by omega)
      have vb := drop_at (l := b.toList) (i := jb) (by omega)
      by_cases hw : kz (b.toList[jb]'(by omega)) < kz (a.toList[ja]'(by omega))
      · rw [if_pos (decide_eq_true hw)]
        refine wpS_bind (wpS_elem (at_some b f2) ?_)
        have m' : MG kz (a.toList ++ b.toList) (o.push (b.toList[jb]'(by omega))).toList (a.toList.drop ja) (b.toList.drop (jb + 1)) := by
          rw [Array.toList_push]
          rw [vb] at m
          refine (m.swap.one fun z hz => ?_).swap
          have := drop_le sa (show ja < a.toList.length by omega) z hz
          omega
        by_cases e3 : (jb + 1 == b.size) = true
        · rw [if_pos e3]
          exact wpS_pure ⟨⟨g, rfl⟩, .inl ⟨_, _, rfl, ends m' (.inr (by simp at e3; omega))⟩⟩
        · rw [if_neg e3]
          have e3' : jb + 1 < b.size := by simp at e3; omega
          by_cases e4 : bc + 1 ≥ mg
          · rw [if_pos e4]
            exact wpS_pure ⟨⟨g, rfl⟩, .inr ⟨_, _, _, _, _, rfl, m', f1, e3', by omega⟩⟩
          · rw [if_neg e4]
            exact wpS_pure ⟨⟨g, rfl⟩, _, _, _, _, _, rfl, m', f1, e3', by omega⟩
      · rw [if_neg (by simpa using hw)]
        refine wpS_bind (wpS_elem (at_some a (show ja < a.size by omega)) ?_)
        have m' : MG kz (a.toList ++ b.toList) (o.push (a.toList[ja]'(by omega))).toList (a.toList.drop (ja + 1)) (b.toList.drop jb) := by
          rw [Array.toList_push]
          rw [ua] at m
          refine m.one fun z hz => ?_
          have := drop_le sb (show jb < b.toList.length by omega) z hz
          omega
        by_cases e3 : (ja + 1 + 1 == a.size) = true
        · rw [if_pos e3]
          exact wpS_pure ⟨⟨g, rfl⟩, .inl ⟨_, _, rfl, lastA m' (by simp at e3; omega)⟩⟩
        · rw [if_neg e3]
          have e3' : ja + 1 + 1 < a.size := by simp at e3; omega
          by_cases e4 : ac + 1 ≥ mg
          · rw [if_pos e4]
            exact wpS_pure ⟨⟨g, rfl⟩, .inr ⟨_, _, _, _, _, rfl, m', e3', f2, by omega⟩⟩
          · rw [if_neg e4]
            exact wpS_pure ⟨⟨g, rfl⟩, _, _, _, _, _, rfl, m', e3', f2, by omega⟩
    case ipost =>
      rintro c st' ⟨⟨g, rfl⟩, ⟨r, rest, rfl, hd⟩ | ⟨o, ja, jb, ac, bc, rfl, m, f1, f2, f3⟩⟩
      · exact wpS_pure ⟨⟨g, rfl⟩, r, _, rfl, hd⟩
      dsimp only
      refine wpS_bind (wpS_lift (wpAny_rule ⟨rfl, ?_⟩))
      refine wpS_bind (wpS_mono (wpS_forRange (I := fun x' c st' => (∃ g, st' = setG st g) ∧ ∃ o ia' ib' mg ac bc, c = (none, o, ia', ib', mg, ac, bc) ∧ MG kz (a.toList ++ b.toList) o.toList (a.toList.drop ia') (b.toList.drop ib') ∧ ia' + 1 < a.size ∧ ib' < b.size ∧ ja + jb + x' ≤ ia' + ib')
        (Q := fun c st' => (∃ g, st' = setG st g) ∧ ((∃ r rest, c = (some r, rest) ∧ Done kz (a.toList ++ b.toList) r.toList) ∨
          ∃ o ia' ib' mg ac bc, c = (none, o, ia', ib', mg, ac, bc) ∧ MG kz (a.toList ++ b.toList) o.toList (a.toList.drop ia') (b.toList.drop ib') ∧ ia' + 1 < a.size ∧ ib' < b.size ∧ ja + jb ≤ ia' + ib')) ?gstep ?gfin ?ginit) ?gpost)
      case ginit => exact ⟨⟨g, rfl⟩, o, ja, jb, _, _, _, rfl, m, f1, f2, by omega⟩
      case gfin =>
        rintro c st' ⟨_, o, ja, jb, mg, ac, bc, _, _, f1, f2, f3⟩
        omega
      case gpost =>
        rintro c st' ⟨⟨g, rfl⟩, ⟨r, rest, rfl, hd⟩ | ⟨o, ia', ib', mg', ac', bc', rfl, m', f1', f2', f3'⟩⟩
        · exact wpS_pure ⟨⟨g, rfl⟩, r, _, rfl, hd⟩
        dsimp only
        refine wpS_bind (wpS_modify ?_)
        exact wpS_pure ⟨⟨_, rfl⟩, _, _, _, _, rfl, m', f1', f2', by omega⟩
      case gstep =>
        clear m f1 f2 f3
        rintro x' c st' _ hx' ⟨⟨g, rfl⟩, o, ia', ib', mg', ac', bc', rfl, m, f1, f2, f3⟩
        dsimp only
        by_cases hmg : mg' > 1
        case' pos => rw [if_pos hmg]
        case' neg => rw [if_neg hmg]
        all_goals
          refine wpS_bind (wpS_modify ?_)
          refine wpS_bind (wpS_elem (at_some b f2) ?_)
          have Ida : ∀ p ∈ a.toList.drop ia', IntK p := fun p hp => Ia p (List.mem_of_mem_drop hp)
          have sda : (a.toList.drop ia').Pairwise fun x y => kz x ≤ kz y := sa.sublist (List.drop_sublist _ _)
          refine wpS_bind (wpS_gallop (L := a.toList.drop ia') hk (Ib _ (List.getElem_mem _)) (by rw [List.length_drop, la]) (fun i hi => by rw [List.getElem?_drop, Array.getElem?_toList]) sda Ida (by omega) fun k k1 k2 k3 => ?_)
          dsimp only
          have vb := drop_at (l := b.toList) (i := ib') (by omega)
          have tk := bey_take k2
          have dk := bey_drop (by rw [List.length_drop, la]) k3
          rw [List.drop_drop] at dk
          have hc : MG kz (a.toList ++ b.toList) (o ++ a.extract ia' (ia' + k)).toList (a.toList.drop (ia' + k)) (b.toList.drop ib') := by
            have := m.chunk k fun z hz y hy => ?_
            · rw [Array.toList_append, ex_run]
              have e8 := this
              rw [List.drop_drop] at e8
              exact e8
            · have h1 := tk z hz
              have h2 := drop_le sb (show ib' < b.toList.length by omega) y hy
              omega
          by_cases k0 : k > 0
          case' pos =>
            rw [if_pos k0]
            by_cases e1 : (ia' + k + 1 == a.size) = true
            · rw [if_pos e1]
              exact wpS_pure ⟨⟨_, rfl⟩, .inl ⟨_, _, rfl, lastA hc (by simp at e1; omega)⟩⟩
            rw [if_neg e1]
            by_cases e2 : (ia' + k == a.size) = true
            · rw [if_pos e2]
              exact wpS_pure ⟨⟨_, rfl⟩, .inl ⟨_, _, rfl, ends hc (.inl (by simp at e2; omega))⟩⟩
            rw [if_neg e2]
            have e3 : ia' + k + 1 < a.size := by simp at e1 e2; omega
            have e4 : ia' ≤ ia' + k := by omega
          case' neg =>
            rw [if_neg k0]
            have kk : k = 0 := by omega
            subst kk
            have e3 : ia' + 0 + 1 < a.size := by omega
            have e4 : ia' ≤ ia' + 0 := by omega
            have eo : o ++ a.extract ia' (ia' + 0) = o := by apply Array.toList_inj.mp; rw [Array.toList_append, ex_run]; simp
            rw [eo] at hc
            rw [show ia' + 0 = ia' from rfl] at hc dk e3 e4
          case' pos => generalize o ++ a.extract ia' (ia' + k) = O at hc ⊢; generalize ia' + k = J at hc dk e3 e4 ⊢
          case' neg => generalize o = O at hc ⊢; revert hc dk e3 e4; generalize hJ : ia' = J; intro dk e3 e4 hc; rw [hJ] at f3
          all_goals
            refine wpS_bind (wpS_elem (at_some b f2) ?_)
            have m2 : MG kz (a.toList ++ b.toList) (O.push (b.toList[ib']'(by omega))).toList (a.toList.drop J) (b.toList.drop (ib' + 1)) := by
              rw [Array.toList_push]
              rw [vb] at hc
              exact (hc.swap.one fun z hz => dk z hz).swap
            by_cases e5 : (ib' + 1 == b.size) = true
            · rw [if_pos e5]
              exact wpS_pure ⟨⟨_, rfl⟩, .inl ⟨_, _, rfl, ends m2 (.inr (by simp at e5; omega))⟩⟩
            rw [if_neg e5]
            have e5' : ib' + 1 < b.size := by simp at e5; omega
            refine wpS_bind (wpS_elem (at_some a (show J < a.size by omega)) ?_)
            have Idb : ∀ p ∈ b.toList.drop (ib' + 1), IntK p := fun p hp => Ib p (List.mem_of_mem_drop hp)
            have sdb : (b.toList.drop (ib' + 1)).Pairwise fun x y => kz x ≤ kz y := sb.sublist (List.drop_sublist _ _)
            refine wpS_bind (wpS_gallop (L := b.toList.drop (ib' + 1)) hk (Ia _ (List.getElem_mem _)) (by rw [List.length_drop, lb]) (fun i hi => by rw [List.getElem?_drop, Array.getElem?_toList]) sdb Idb (by omega) fun k' k1' k2' k3' => ?_)
            dsimp only
            have ua := drop_at (l := a.toList) (i := J) (by omega)
            have tk' := bey_take k2'
            have dk' := bey_drop (by rw [List.length_drop, lb]) k3'
            rw [List.drop_drop] at dk'
            have hc' : MG kz (a.toList ++ b.toList) (O.push (b.toList[ib']'(by omega)) ++ b.extract (ib' + 1) (ib' + 1 + k')).toList (a.toList.drop J) (b.toList.drop (ib' + 1 + k')) := by
              have := m2.swap.chunk k' fun z hz y hy => ?_
              · rw [Array.toList_append, ex_run]
                have e8 := this.swap
                rw [List.drop_drop] at e8
                exact e8
              · have h1 := tk' z hz
                have h2 := drop_le sa (show J < a.toList.length by omega) y hy
                omega
            by_cases k0' : k' > 0
            case' pos =>
              rw [if_pos k0']
              by_cases e6 : (ib' + 1 + k' == b.size) = true
              · rw [if_pos e6]
                exact wpS_pure ⟨⟨_, rfl⟩, .inl ⟨_, _, rfl, ends hc' (.inr (by simp at e6; omega))⟩⟩
              rw [if_neg e6]
              have e6' : ib' + 1 + k' < b.size := by simp at e6; omega
            case' neg =>
              rw [if_neg k0']
              have kk' : k' = 0 := by omega
              subst kk'
              have e6' : ib' + 1 + 0 < b.size := e5'
              have eo' : O.push (b.toList[ib']'(by omega)) ++ b.extract (ib' + 1) (ib' + 1 + 0) = O.push (b.toList[ib']'(by omega)) := by apply Array.toList_inj.mp; rw [Array.toList_append, ex_run]; simp
              rw [eo'] at hc'
            all_goals
              refine wpS_bind (wpS_elem (at_some a (show J < a.size by omega)) ?_)
              rw [ua] at hc'
              have m3 := hc'.one fun z hz => dk' z hz
              rw [← Array.toList_push] at m3
              by_cases e7 : (J + 1 + 1 == a.size) = true
              · rw [if_pos e7]
                exact wpS_pure ⟨⟨_, rfl⟩, .inl ⟨_, _, rfl, lastA m3 (by simp at e7; omega)⟩⟩
              rw [if_neg e7]
              have e7' : J + 1 + 1 < a.size := by simp at e7; omega
              split
              · exact wpS_pure ⟨⟨_, rfl⟩, .inr ⟨_, _, _, _, _, _, rfl, m3, e7', by omega, by omega⟩⟩
              · exact wpS_pure ⟨⟨_, rfl⟩, _, _, _, _, _, _, rfl, m3, e7', by omega, by omega⟩
end
end RgG
namespace RgG
open PySem PyProof.Rows Rg
variable [KOrd]
def nk (p : Keyed) : Int := -kz p
theorem rev_last {l : List Keyed} {n : Nat} (h1 : 0 < n) (h2 : n ≤ l.length) : (l.take n).reverse = (l[n - 1]'(by omega)) :: (l.take (n - 1)).reverse := by
  have e : l.take n = l.take (n - 1) ++ [l[n - 1]'(by omega)] := by
    have := List.take_succ (l := l) (i := n - 1)
    rw [show n - 1 + 1 = n by omega, List.getElem?_eq_getElem (by omega)] at this
    exact this
  rw [e, List.reverse_append]
  rfl
theorem rev_take {l : List Keyed} {n t : Nat} (h1 : t ≤ n) (h2 : n ≤ l.length) : (l.take n).reverse.take (n - t) = ((l.take n).drop t).reverse := by
  rw [List.take_reverse, List.length_take]
  congr 2
  omega
theorem rev_drop {l : List Keyed} {n t : Nat} (h1 : t ≤ n) (h2 : n ≤ l.length) : (l.take n).reverse.drop (n - t) = (l.take t).reverse := by
  rw [List.drop_reverse, List.length_take, List.take_take]
  congr 2
  omega
theorem ex_mid (a : Array Keyed) {t n : Nat} : (a.extract t n).toList = (a.toList.take n).drop t := by
  rw [Array.toList_extract, List.extract_eq_take_drop, List.drop_take]
theorem le_last {l : List Keyed} (hs : l.Pairwise fun a b => kz a ≤ kz b) {n : Nat} (h1 : 0 < n) (h2 : n ≤ l.length) : ∀ x ∈ l.take n, kz x ≤ kz (l[n - 1]'(by omega)) := fun x hx => by
  obtain ⟨j, hj⟩ := List.mem_iff_getElem?.mp hx
  have hlt : j < n := by
    have := (List.getElem?_eq_some_iff.mp hj).1
    rw [List.length_take] at this
    omega
  rw [List.getElem?_take_of_lt hlt] at hj
  exact sorted_from hs hj (List.getElem?_eq_getElem (by omega)) (by omega)
section
variable {prog : Program} {w : World} {A : Around} {E : Value → Shared → Prop} {s : Shared} [KLt prog w A s]
theorem wpS_mergeHi {a b : Array Keyed} {st : SortSt} {Q : Array Keyed → SortSt → Prop} (hk : kindOf st = oneType') (sa : a.toList.Pairwise fun x y => kz x ≤ kz y) (sb : b.toList.Pairwise fun x y => kz x ≤ kz y)
    (Ia : ∀ p ∈ a.toList, IntK p) (Ib : ∀ p ∈ b.toList, IntK p) (na : 0 < a.size) (nb : 0 < b.size)
    (h0 : ∀ y x, b[0]? = some y → x ∈ a.toList → kz y ≤ kz x) (hl : ∀ y x, y ∈ b.toList → a[a.size - 1]? = some x → kz y ≤ kz x)
    (h : ∀ r g, Done kz (a.toList ++ b.toList) r.toList → Q r (setG st g)) : wpS (model prog w) A E s (mergeHi' a b) Q st := by
  have la : a.toList.length = a.size := by simp
  have lb : b.toList.length = b.size := by simp
  have firstB : ∀ {o : Array Keyed} {ia ib : Nat}, MG nk (a.toList ++ b.toList) o.toList (a.toList.take ia).reverse (b.toList.take ib).reverse → ib = 1 →
      Done kz (a.toList ++ b.toList) (b.extract 0 ib ++ a.extract 0 ia ++ o.reverse).toList := fun {o ia ib} m e => by
    have q := done_rev (kz := kz) (m.swap.behind fun y hy x hx => ?_)
    · rw [List.reverse_append, List.reverse_append, List.reverse_reverse, List.reverse_reverse, ← List.append_assoc] at q
      rw [Array.toList_append, Array.toList_append, ex_to, ex_to, Array.toList_reverse]
      exact q
    · have hy' : y ∈ a.toList := List.mem_of_mem_take (List.mem_reverse.mp hy)
      rw [e, rev_last (by omega) (by omega)] at hx
      simp at hx
      subst hx
      have := h0 _ y (at_some b nb) hy'
      show -kz _ ≤ -kz _
      simp at this ⊢
      omega
  have ends : ∀ {o : Array Keyed} {ia ib : Nat}, MG nk (a.toList ++ b.toList) o.toList (a.toList.take ia).reverse (b.toList.take ib).reverse → (ia = 0 ∨ ib = 0) →
      Done kz (a.toList ++ b.toList) (a.extract 0 ia ++ b.extract 0 ib ++ o.reverse).toList := fun {o ia ib} m e => by
    have q := done_rev (kz := kz) (m.swap.ends ?_)
    · rw [List.reverse_append, List.reverse_append, List.reverse_reverse, List.reverse_reverse, ← List.append_assoc] at q
      rw [Array.toList_append, Array.toList_append, ex_to, ex_to, Array.toList_reverse]
      exact q
    · rcases e with z | z
      · right; rw [z]; rfl
      · left; rw [z]; rfl
  refine wpS_bind (wpS_lift (wpAny_rule ⟨rfl, ?_⟩))
  dsimp only
  refine wpS_bind (wpS_elem (at_some a (show a.size - 1 < a.size by omega)) ?_)
  have m0 : MG nk (a.toList ++ b.toList) (#[a.toList[a.size - 1]'(by omega)] : Array Keyed).toList (a.toList.take (a.size - 1)).reverse (b.toList.take b.size).reverse := by
    have eb : b.toList.take b.size = b.toList := List.take_of_length_le (by omega)
    refine ⟨List.pairwise_singleton _ _, pairwise_rev (sa.sublist (List.take_sublist _ _)), by rw [eb]; exact pairwise_rev sb, fun x hx y hy => ?_, fun x hx y hy => ?_, ?_⟩
    · simp at hx
      subst hx
      have hy' := List.mem_of_mem_take (List.mem_reverse.mp hy)
      have := le_last sa (n := a.size) na (by omega) y (by rw [List.take_of_length_le (by omega)]; exact hy')
      show -kz _ ≤ -kz _
      simp at this ⊢
      omega
    · simp at hx
      subst hx
      rw [eb] at hy
      have := hl y _ (List.mem_reverse.mp hy) (at_some a (show a.size - 1 < a.size by omega))
      show -kz _ ≤ -kz _
      simp at this ⊢
      omega
    · have e := rev_last (l := a.toList) (n := a.size) na (by omega)
      rw [List.take_of_length_le (by omega)] at e
      rw [eb]
      have e2 : ([a.toList[a.size - 1]'(by omega)] ++ (a.toList.take (a.size - 1)).reverse) = a.toList.reverse := e.symm
      show ([a.toList[a.size - 1]'(by omega)] ++ (a.toList.take (a.size - 1)).reverse ++ b.toList.reverse).Perm _
      rw [e2]
      exact (List.reverse_perm _).append (List.reverse_perm _)
  generalize a.toList[a.size - 1]'(by omega) = y0 at m0 ⊢
  by_cases e1 : (a.size - 1 == 0) = true
  · rw [if_pos e1]
    exact wpS_pure (h _ _ (ends m0 (.inl (by simp at e1; omega))))
  rw [if_neg e1]
  by_cases e2 : (b.size == 1) = true
  · rw [if_pos e2]
    exact wpS_pure (h _ _ (firstB m0 (by simp at e2; omega)))
  rw [if_neg e2]
  have b2 : 1 < b.size := by simp at e2; omega
  have a2 : 0 < a.size - 1 := by simp at e1; omega
  refine wpS_bind (wpS_get ?_)
  refine wpS_bind (wpS_mono (wpS_forRange (I := fun x c st' => (∃ g, st' = setG st g) ∧ ∃ ia ib o mg, c = (none, ia, ib, o, mg) ∧ MG nk (a.toList ++ b.toList) o.toList (a.toList.take ia).reverse (b.toList.take ib).reverse ∧ 0 < ia ∧ 1 < ib ∧ ia ≤ a.size ∧ ib ≤ b.size ∧ ia + ib + x ≤ a.size + b.size)
    (Q := fun c st' => (∃ g, st' = setG st g) ∧ ∃ r rest, c = (some r, rest) ∧ Done kz (a.toList ++ b.toList) r.toList) ?step ?fin ?init) ?post)
  case init => exact ⟨⟨_, rfl⟩, _, _, _, _, rfl, m0, a2, b2, by omega, by omega, by omega⟩
  case fin =>
    rintro c st' ⟨_, ia, ib, o, mg, _, _, g1, g2, g3, g4, g5⟩
    omega
  case post =>
    rintro c st' ⟨⟨g, rfl⟩, r, rest, rfl, hd⟩
    exact wpS_pure (h r g hd)
  case step =>
    rintro x c st' _ hx ⟨⟨g, rfl⟩, ia, ib, o, mg, rfl, m, g1, g2, g3, g4, g5⟩
    dsimp only
    refine wpS_bind (wpS_mono (wpS_forRange (I := fun x' c st' => (∃ g, st' = setG st g) ∧ ∃ ja jb o ac bc, c = (none, ja, jb, o, ac, bc) ∧ MG nk (a.toList ++ b.toList) o.toList (a.toList.take ja).reverse (b.toList.take jb).reverse ∧ 0 < ja ∧ 1 < jb ∧ ja ≤ a.size ∧ jb ≤ b.size ∧ ja + jb + x' ≤ ia + ib)
      (Q := fun c st' => (∃ g, st' = setG st g) ∧ ((∃ r rest, c = (some r, rest) ∧ Done kz (a.toList ++ b.toList) r.toList) ∨
        ∃ ja jb o ac bc, c = (none, ja, jb, o, ac, bc) ∧ MG nk (a.toList ++ b.toList) o.toList (a.toList.take ja).reverse (b.toList.take jb).reverse ∧ 0 < ja ∧ 1 < jb ∧ ja ≤ a.size ∧ jb ≤ b.size ∧ ja + jb < ia + ib)) ?istep ?ifin ?iinit) ?ipost)
    case iinit => exact ⟨⟨g, rfl⟩, ia, ib, o, 0, 0, rfl, m, g1, g2, g3, g4, by omega⟩
    case ifin =>
      rintro c st' ⟨_, ja, jb, o, ac, bc, _, _, f1, f2, f3, f4, f5⟩
      omega
    case istep =>
      clear m g1 g2
      rintro x' c st' _ hx' ⟨⟨g, rfl⟩, ja, jb, o, ac, bc, rfl, m, f1, f2, f3, f4, f5⟩
      dsimp only
      refine wpS_bind (wpS_elem (at_some b (show jb - 1 < b.size by omega)) ?_)
      refine wpS_bind (wpS_elem (at_some a (show ja - 1 < a.size by omega)) ?_)
      refine wpS_bind (wpS_lt hk (Ib _ (List.getElem_mem _)) (Ia _ (List.getElem_mem _)) ?_)
      dsimp only
      have ua := rev_last (l := a.toList) (n := ja) f1 (by omega)
      have vb := rev_last (l := b.toList) (n := jb) (by omega) (by omega)
      by_cases hw : kz (b.toList[jb - 1]'(by omega)) < kz (a.toList[ja - 1]'(by omega))
      · rw [if_pos (decide_eq_true hw)]
        refine wpS_bind (wpS_elem (at_some a (show ja - 1 < a.size by omega)) ?_)
        have m' : MG nk (a.toList ++ b.toList) (o.push (a.toList[ja - 1]'(by omega))).toList (a.toList.take (ja - 1)).reverse (b.toList.take jb).reverse := by
          rw [Array.toList_push]
          rw [ua] at m
          refine m.one fun z hz => ?_
          have := le_last sb (n := jb) (by omega) (by omega) z (List.mem_reverse.mp hz)
          show -kz _ ≤ -kz _
          omega
        by_cases e3 : (ja - 1 == 0) = true
        · rw [if_pos e3]
          exact wpS_pure ⟨⟨g, rfl⟩, .inl ⟨_, _, rfl, ends m' (.inl (by simp at e3; omega))⟩⟩
        · rw [if_neg e3]
          have e3' : 0 < ja - 1 := by simp at e3; omega
          by_cases e4 : ac + 1 ≥ mg
          · rw [if_pos e4]
            exact wpS_pure ⟨⟨g, rfl⟩, .inr ⟨_, _, _, _, _, rfl, m', e3', f2, by omega, f4, by omega⟩⟩
          · rw [if_neg e4]
            exact wpS_pure ⟨⟨g, rfl⟩, _, _, _, _, _, rfl, m', e3', f2, by omega, f4, by omega⟩
      · rw [if_neg (by simpa using hw)]
        refine wpS_bind (wpS_elem (at_some b (show jb - 1 < b.size by omega)) ?_)
        have m' : MG nk (a.toList ++ b.toList) (o.push (b.toList[jb - 1]'(by omega))).toList (a.toList.take ja).reverse (b.toList.take (jb - 1)).reverse := by
          rw [Array.toList_push]
          rw [vb] at m
          refine (m.swap.one fun z hz => ?_).swap
          have := le_last sa (n := ja) (by omega) (by omega) z (List.mem_reverse.mp hz)
          show -kz _ ≤ -kz _
          omega
        by_cases e3 : (jb - 1 == 1) = true
        · rw [if_pos e3]
          exact wpS_pure ⟨⟨g, rfl⟩, .inl ⟨_, _, rfl, firstB m' (by simp at e3; omega)⟩⟩
        · rw [if_neg e3]
          have e3' : 1 < jb - 1 := by simp at e3; omega
          by_cases e4 : bc + 1 ≥ mg
          · rw [if_pos e4]
            exact wpS_pure ⟨⟨g, rfl⟩, .inr ⟨_, _, _, _, _, rfl, m', f1, e3', f3, by omega, by omega⟩⟩
          · rw [if_neg e4]
            exact wpS_pure ⟨⟨g, rfl⟩, _, _, _, _, _, rfl, m', f1, e3', f3, by omega, by omega⟩
    case ipost =>
      clear m
      rintro c st' ⟨⟨g, rfl⟩, ⟨r, rest, rfl, hd⟩ | ⟨ja, jb, o, ac, bc, rfl, m, f1, f2, f3, f4, f5⟩⟩
      · exact wpS_pure ⟨⟨g, rfl⟩, r, _, rfl, hd⟩
      dsimp only
      refine wpS_bind (wpS_lift (wpAny_rule ⟨rfl, ?_⟩))
      refine wpS_bind (wpS_mono (wpS_forRange (I := fun x' c st' => (∃ g, st' = setG st g) ∧ ∃ ia' ib' o mg ac bc, c = (none, ia', ib', o, mg, ac, bc) ∧ MG nk (a.toList ++ b.toList) o.toList (a.toList.take ia').reverse (b.toList.take ib').reverse ∧ 0 < ia' ∧ 1 < ib' ∧ ia' ≤ a.size ∧ ib' ≤ b.size ∧ ia' + ib' + x' ≤ ja + jb)
        (Q := fun c st' => (∃ g, st' = setG st g) ∧ ((∃ r rest, c = (some r, rest) ∧ Done kz (a.toList ++ b.toList) r.toList) ∨
          ∃ ia' ib' o mg ac bc, c = (none, ia', ib', o, mg, ac, bc) ∧ MG nk (a.toList ++ b.toList) o.toList (a.toList.take ia').reverse (b.toList.take ib').reverse ∧ 0 < ia' ∧ 1 < ib' ∧ ia' ≤ a.size ∧ ib' ≤ b.size ∧ ia' + ib' ≤ ja + jb)) ?gstep ?gfin ?ginit) ?gpost)
      case ginit => exact ⟨⟨g, rfl⟩, ja, jb, o, _, _, _, rfl, m, f1, f2, f3, f4, by omega⟩
      case gfin =>
        rintro c st' ⟨_, ia', ib', o, mg, ac, bc, _, _, f1, f2, f3, f4, f5⟩
        omega
      case gpost =>
        clear m
        rintro c st' ⟨⟨g, rfl⟩, ⟨r, rest, rfl, hd⟩ | ⟨ia', ib', o, mg', ac', bc', rfl, m', f1', f2', f3', f4', f5'⟩⟩
        · exact wpS_pure ⟨⟨g, rfl⟩, r, _, rfl, hd⟩
        dsimp only
        refine wpS_bind (wpS_modify ?_)
        exact wpS_pure ⟨⟨_, rfl⟩, _, _, _, _, rfl, m', f1', f2', f3', f4', by omega⟩
      case gstep =>
        clear m f1 f2 f3 f4
        rintro x' c st' _ hx' ⟨⟨g, rfl⟩, ia', ib', o, mg', ac', bc', rfl, m, f1, f2, f3, f4, f6⟩
        dsimp only
        by_cases hmg : mg' > 1
        case' pos => rw [if_pos hmg]
        case' neg => rw [if_neg hmg]
        all_goals
          refine wpS_bind (wpS_modify ?_)
          refine wpS_bind (wpS_elem (at_some b (show ib' - 1 < b.size by omega)) ?_)
          have Ida : ∀ p ∈ a.toList.take ia', IntK p := fun p hp => Ia p (List.mem_of_mem_take hp)
          have sda : (a.toList.take ia').Pairwise fun x y => kz x ≤ kz y := sa.sublist (List.take_sublist _ _)
          refine wpS_bind (wpS_gallop (L := a.toList.take ia') hk (Ib _ (List.getElem_mem _)) (by rw [List.length_take, la]; omega) (fun i hi => by rw [List.getElem?_take_of_lt hi, Array.getElem?_toList, Nat.zero_add]) sda Ida (by omega) fun t k1 k2 k3 => ?_)
          dsimp only
          have vb := rev_last (l := b.toList) (n := ib') (by omega) (by omega)
          have tk := bey_take k2
          have dk := bey_drop (by rw [List.length_take, la]; omega) k3
          rw [List.take_take, Nat.min_eq_left k1] at tk
          have hc : MG nk (a.toList ++ b.toList) (o ++ (a.extract t ia').reverse).toList (a.toList.take t).reverse (b.toList.take ib').reverse := by
            have := m.chunk (ia' - t) fun z hz y hy => ?_
            · rw [Array.toList_append, Array.toList_reverse, ex_mid]
              rw [rev_take k1 (by omega), rev_drop k1 (by omega)] at this
              exact this
            · rw [rev_take k1 (by omega)] at hz
              have h1 := dk z (List.mem_reverse.mp hz)
              have h2 := le_last sb (n := ib') (by omega) (by omega) y (List.mem_reverse.mp hy)
              show -kz _ ≤ -kz _
              omega
          by_cases k0 : ia' - t > 0
          case' pos =>
            rw [if_pos k0]
            by_cases e1 : (t == 0) = true
            · rw [if_pos e1]
              exact wpS_pure ⟨⟨_, rfl⟩, .inl ⟨_, _, rfl, ends hc (.inl (by simp at e1; omega))⟩⟩
            rw [if_neg e1]
            have e3 : 0 < t := by simp at e1; omega
            have e4 : t ≤ ia' := by omega
          case' neg =>
            rw [if_neg k0]
            have kk : ia' = t := by omega
            subst kk
            have e3 : 0 < ia' := f1
            have e4 : ia' ≤ ia' := Nat.le_refl _
            have eo : o ++ (a.extract ia' ia').reverse = o := by apply Array.toList_inj.mp; rw [Array.toList_append, Array.toList_reverse, ex_mid]; simp
            rw [eo] at hc
          case' pos => generalize o ++ (a.extract t ia').reverse = O at hc ⊢; generalize t = J at hc tk e3 e4 ⊢
          case' neg => generalize o = O at hc ⊢; revert hc tk e3 e4; generalize hJ : ia' = J; intro tk e3 e4 hc; rw [hJ] at f6 f3
          all_goals
            refine wpS_bind (wpS_elem (at_some b (show ib' - 1 < b.size by omega)) ?_)
            have m2 : MG nk (a.toList ++ b.toList) (O.push (b.toList[ib' - 1]'(by omega))).toList (a.toList.take J).reverse (b.toList.take (ib' - 1)).reverse := by
              rw [Array.toList_push]
              rw [vb] at hc
              refine (hc.swap.one fun z hz => ?_).swap
              have := tk z (List.mem_reverse.mp hz)
              show -kz _ ≤ -kz _
              omega
            by_cases e5 : (ib' - 1 == 1) = true
            · rw [if_pos e5]
              exact wpS_pure ⟨⟨_, rfl⟩, .inl ⟨_, _, rfl, firstB m2 (by simp at e5; omega)⟩⟩
            rw [if_neg e5]
            have e5' : 1 < ib' - 1 := by simp at e5; omega
            refine wpS_bind (wpS_elem (at_some a (show J - 1 < a.size by omega)) ?_)
            have Idb : ∀ p ∈ b.toList.take (ib' - 1), IntK p := fun p hp => Ib p (List.mem_of_mem_take hp)
            have sdb : (b.toList.take (ib' - 1)).Pairwise fun x y => kz x ≤ kz y := sb.sublist (List.take_sublist _ _)
            refine wpS_bind (wpS_gallop (L := b.toList.take (ib' - 1)) hk (Ia _ (List.getElem_mem _)) (by rw [List.length_take, lb]; omega) (fun i hi => by rw [List.getElem?_take_of_lt hi, Array.getElem?_toList, Nat.zero_add]) sdb Idb (by omega) fun t' k1' k2' k3' => ?_)
            dsimp only
            have ua := rev_last (l := a.toList) (n := J) (by omega) (by omega)
            have tk' := bey_take k2'
            have dk' := bey_drop (by rw [List.length_take, lb]; omega) k3'
            rw [List.take_take, Nat.min_eq_left k1'] at tk'
            have hc' : MG nk (a.toList ++ b.toList) (O.push (b.toList[ib' - 1]'(by omega)) ++ (b.extract t' (ib' - 1)).reverse).toList (a.toList.take J).reverse (b.toList.take t').reverse := by
              have := m2.swap.chunk (ib' - 1 - t') fun z hz y hy => ?_
              · rw [Array.toList_append, Array.toList_reverse, ex_mid]
                rw [rev_take k1' (by omega), rev_drop k1' (by omega)] at this
                exact this.swap
              · rw [rev_take k1' (by omega)] at hz
                have h1 := dk' z (List.mem_reverse.mp hz)
                have h2 := le_last sa (n := J) (by omega) (by omega) y (List.mem_reverse.mp hy)
                show -kz _ ≤ -kz _
                omega
            by_cases k0' : ib' - 1 - t' > 0
            case' pos =>
              rw [if_pos k0']
              by_cases e6 : (t' == 1) = true
              · rw [if_pos e6]
                exact wpS_pure ⟨⟨_, rfl⟩, .inl ⟨_, _, rfl, firstB hc' (by simp at e6; omega)⟩⟩
              rw [if_neg e6]
              by_cases e8 : (t' == 0) = true
              · rw [if_pos e8]
                exact wpS_pure ⟨⟨_, rfl⟩, .inl ⟨_, _, rfl, ends hc' (.inr (by simp at e8; omega))⟩⟩
              rw [if_neg e8]
              have e6' : 1 < t' := by simp at e6 e8; omega
            case' neg =>
              rw [if_neg k0']
              have kk' : ib' - 1 = t' := by omega
              rw [← kk'] at hc' tk' ⊢
              have e6' : 1 < ib' - 1 := e5'
              have eo' : O.push (b.toList[ib' - 1]'(by omega)) ++ (b.extract (ib' - 1) (ib' - 1)).reverse = O.push (b.toList[ib' - 1]'(by omega)) := by apply Array.toList_inj.mp; rw [Array.toList_append, Array.toList_reverse, ex_mid]; simp
              rw [eo'] at hc'
            all_goals
              refine wpS_bind (wpS_elem (at_some a (show J - 1 < a.size by omega)) ?_)
              rw [ua] at hc'
              have m3 := hc'.one fun z hz => by
                have := tk' z (List.mem_reverse.mp hz)
                show -kz _ ≤ -kz _
                omega
              rw [← Array.toList_push] at m3
              by_cases e7 : (J - 1 == 0) = true
              · rw [if_pos e7]
                exact wpS_pure ⟨⟨_, rfl⟩, .inl ⟨_, _, rfl, ends m3 (.inl (by simp at e7; omega))⟩⟩
              rw [if_neg e7]
              have e7' : 0 < J - 1 := by simp at e7; omega
              split
              · exact wpS_pure ⟨⟨_, rfl⟩, .inr ⟨_, _, _, _, _, _, rfl, m3, e7', e6', by omega, by omega, by omega⟩⟩
              · exact wpS_pure ⟨⟨_, rfl⟩, _, _, _, _, _, _, rfl, m3, e7', e6', by omega, by omega, by omega⟩
end
end RgG
namespace RgG
open PySem PyProof.Rows Rg
variable [KOrd]
def AllI (xs : Array Keyed) : Prop := ∀ p ∈ xs.toList, IntK p
theorem AllI.perm {xs ys : Array Keyed} (h : AllI xs) (p : ys.Perm xs) : AllI ys := fun q hq => h q ((Array.perm_iff_toList_perm.mp p).mem_iff.mp hq)
/-- rearranged within the n places from lo on -/
def Out (b : Array Keyed) (lo n : Nat) (xs : Array Keyed) : Prop := xs.Perm b ∧ ∀ k, (k < lo ∨ lo + n ≤ k) → xs[k]? = b[k]?
theorem Out.refl (b : Array Keyed) (lo n : Nat) : Out b lo n b := ⟨Array.Perm.refl _, fun _ _ => rfl⟩
theorem Out.size {b xs : Array Keyed} {lo n : Nat} (h : Out b lo n xs) : xs.size = b.size := h.1.size_eq
/-- in order from lo on -/
def SIn (xs : Array Keyed) (lo m : Nat) : Prop := ∀ i j, i ≤ j → j < m → KG xs (lo + i) ≤ KG xs (lo + j)
def NIn (xs : Array Keyed) (lo m : Nat) : Prop := ∀ i j, i ≤ j → j < m → KG xs (lo + j) ≤ KG xs (lo + i)
theorem Out.mirror {b xs : Array Keyed} {lo n i j : Nat} (h : Out b lo n xs) (hi : lo ≤ i) (hj : j ≤ lo + n) (hs : lo + n ≤ b.size) : Out b lo n (mirror xs i j ((j - i) / 2)) := by
  refine ⟨(mirror_perm _ _ _ _).trans h.1, fun k hk => ?_⟩
  rw [getElem?_mirror_all (by rw [h.size]; omega), if_neg (by omega)]
  exact h.2 k hk
theorem Out.bubble {b xs : Array Keyed} {lo n src d : Nat} (h : Out b lo n xs) (h1 : lo + d ≤ src) (h2 : src < lo + n) (hs : lo + n ≤ b.size) : Out b lo n (bubble xs src d) := by
  refine ⟨(bubble_perm _ _ _).trans h.1, fun k hk => ?_⟩
  rw [getElem?_bubble (by rw [h.size]; omega) d (by omega), if_neg (by omega), if_neg (by omega)]
  exact h.2 k hk
section
variable {prog : Program} {w : World} {A : Around} {E : Value → Shared → Prop} {s : Shared} [KLt prog w A s]
theorem wpS_st {α : Type} {m : StateT SortSt Sem α} {Q : α → SortSt → Prop} {st st' : SortSt} (e : st = st') (h : wpS (model prog w) A E s m Q st') : wpS (model prog w) A E s m Q st := by rw [e]; exact h
theorem wpS_ltA {st : SortSt} {i j : Nat} {Q : Option Bool → SortSt → Prop} (hk : kindOf st = oneType') (hI : AllI (arrOf st)) (hi : i < (arrOf st).size) (hj : j < (arrOf st).size)
    (h : Q (some (decide (KG (arrOf st) i < KG (arrOf st) j))) st) : wpS (model prog w) A E s (ltAt' i j) Q st := by
  rw [ltAt'_eq]
  refine wpS_bind (wpS_get ?_)
  refine wpS_bind (wpS_elem (at_some _ hi) (wpS_bind (wpS_elem (at_some _ hj) (wpS_lt hk (hI _ (List.getElem_mem _)) (hI _ (List.getElem_mem _)) ?_))))
  have e : ∀ {i : Nat} (hi : i < (arrOf st).size), KG (arrOf st) i = kz ((arrOf st).toList[i]'(by simpa using hi)) := fun {i} hi => by unfold KG; rw [at_some _ hi]
  rw [e hi, e hj] at h
  exact h
theorem wpS_rev {st : SortSt} {i j : Nat} {Q : Unit → SortSt → Prop} (h : Q () (setArr st (mirror (arrOf st) i j ((j - i) / 2)))) : wpS (model prog w) A E s (reverseSlice' i j) Q st := by
  rw [reverseSlice'_eq]; exact wpS_modify h
theorem wpS_run {st : SortSt} {lo nrem : Nat} {Q : Option Nat → SortSt → Prop} (hk : kindOf st = oneType') (hI : AllI (arrOf st)) (hn : lo + nrem ≤ (arrOf st).size) (h1 : 1 ≤ nrem)
    (h : ∀ m xs, Out (arrOf st) lo nrem xs → 1 ≤ m → m ≤ nrem → SIn xs lo m → Q (some m) (setArr st xs)) : wpS (model prog w) A E s (countRun' lo nrem) Q st := by
  have grow : ∀ {xs : Array Keyed} {x : Nat}, SIn xs lo x → ¬ KG xs (lo + x) < KG xs (lo + x - 1) → SIn xs lo (x + 1) := fun {xs x} hs hl i j hij hj => by
    by_cases e : j = x
    · subst e
      by_cases e2 : i = j
      · subst e2; exact Int.le_refl _
      · have a1 := hs i (j - 1) (by omega) (by omega)
        rw [show lo + (j - 1) = lo + j - 1 by omega] at a1
        omega
    · exact hs i j hij (by omega)
  refine wpS_bind (wpS_mono (wpS_forRange (I := fun x c st' => st' = st ∧ c = (none, x) ∧ SIn (arrOf st) lo x)
    (Q := fun c st' => st' = st ∧ ∃ n, c = (none, n) ∧ 1 ≤ n ∧ n ≤ nrem ∧ SIn (arrOf st) lo n ∧ (n = nrem ∨ KG (arrOf st) (lo + n) < KG (arrOf st) (lo + n - 1))) ?step ?fin ?init) ?post)
  case init => exact ⟨rfl, rfl, fun i j hij hj => by rw [show i = j by omega]; exact Int.le_refl _⟩
  case fin =>
    rintro c st' ⟨rfl, rfl, hs⟩
    rw [show max 1 nrem = nrem by omega] at hs ⊢
    exact ⟨rfl, nrem, rfl, h1, Nat.le_refl _, hs, .inl rfl⟩
  case step =>
    rintro x c st' hx1 hx2 ⟨rfl, rfl, hs⟩
    dsimp only
    refine wpS_bind (wpS_ltA hk hI (by omega) (by omega) ?_)
    by_cases hl : KG (arrOf st') (lo + x) < KG (arrOf st') (lo + x - 1)
    · simp only [hl, decide_true, if_true]
      exact wpS_pure ⟨rfl, x, rfl, hx1, by omega, hs, .inr hl⟩
    · simp only [hl, decide_false, Bool.false_eq_true, if_false]
      exact wpS_pure ⟨rfl, rfl, grow hs hl⟩
  case post =>
    rintro c st' ⟨rfl, n, rfl, n1, n2, hs, hor⟩
    dsimp only
    by_cases e1 : (n == nrem) = true
    · rw [if_pos e1]
      exact wpS_pure (h n _ (Out.refl _ _ _) n1 n2 hs)
    rw [if_neg e1]
    have e1' : n < nrem := by simp at e1; omega
    have hlt := hor.resolve_left (by omega)
    by_cases n3 : n > 1
    case' pos =>
      rw [if_pos n3]
      refine wpS_bind (wpS_ltA hk hI (by omega) (by omega) ?_)
      dsimp only
      by_cases hr : KG (arrOf st') lo < KG (arrOf st') (lo + n - 1)
      · rw [if_pos (decide_eq_true hr)]
        exact wpS_pure (h n _ (Out.refl _ _ _) n1 n2 hs)
      rw [if_neg (by simpa using hr)]
      refine wpS_bind (wpS_rev ?_)
      have hall : ∀ k, lo ≤ k → k < lo + n → KG (arrOf st') k = KG (arrOf st') (lo + n - 1) := fun k k1 k2 => by
        have a1 := hs 0 (k - lo) (by omega) (by omega)
        have a2 := hs (k - lo) (n - 1) (by omega) (by omega)
        rw [show lo + (k - lo) = k by omega] at a1 a2
        rw [show lo + (n - 1) = lo + n - 1 by omega] at a2
        rw [Nat.add_zero] at a1
        omega
      obtain ⟨ys, hys⟩ : ∃ ys, ys = mirror (arrOf st') lo (lo + n) ((lo + n - lo) / 2) := ⟨_, rfl⟩
      have oY : Out (arrOf st') lo nrem ys := by rw [hys]; exact (Out.refl _ _ _).mirror (Nat.le_refl _) (by omega) hn
      have nY : NIn ys lo (n + 1) := by
        intro i j hij hj
        rw [hys, KG_mirror_equal (by omega) hall, KG_mirror_equal (by omega) hall]
        by_cases ej : j = n
        · by_cases ei : i = n
          · rw [ei, ej]; exact Int.le_refl _
          · rw [ej, hall (lo + i) (by omega) (by omega)]
            omega
        · rw [hall (lo + i) (by omega) (by omega), hall (lo + j) (by omega) (by omega)]
          exact Int.le_refl _
      refine wpS_st (st' := setArr st' ys) (by rw [hys]) ?_
    case' neg =>
      rw [if_neg n3]
      have en : n = 1 := by omega
      obtain ⟨ys, hys⟩ : ∃ ys, ys = arrOf st' := ⟨_, rfl⟩
      have oY : Out (arrOf st') lo nrem ys := by rw [hys]; exact Out.refl _ _ _
      have nY : NIn ys lo (n + 1) := by
        intro i j hij hj
        rw [hys]
        by_cases eij : i = j
        · rw [eij]; exact Int.le_refl _
        · have ei : i = 0 := by omega
          have ej : j = n := by omega
          rw [ei, ej, show lo + 0 = lo + n - 1 by omega]
          omega
      refine wpS_st (st' := setArr st' ys) (by rw [hys]) ?_
    all_goals
      clear hys
      refine wpS_bind (wpS_lift (wpAny_rule ⟨rfl, ?_⟩))
      refine wpS_bind (wpS_mono (wpS_forRange (I := fun x c st'' => ∃ zs neq, st'' = setArr st' zs ∧ c = (none, x, neq) ∧ Out (arrOf st') lo nrem zs ∧ NIn zs lo x ∧ neq + 1 ≤ x ∧ (∀ k, lo + x - (neq + 1) ≤ k → k < lo + x → KG zs k = KG zs (lo + x - 1)))
        (Q := fun c st'' => ∃ zs m neq, st'' = setArr st' zs ∧ c = (none, m, neq) ∧ n + 1 ≤ m ∧ m ≤ nrem ∧ Out (arrOf st') lo nrem zs ∧ NIn zs lo m ∧ neq + 1 ≤ m ∧ (∀ k, lo + m - (neq + 1) ≤ k → k < lo + m → KG zs k = KG zs (lo + m - 1))) ?dstep ?dfin ?dinit) ?dpost)
      case dinit => exact ⟨ys, 0, rfl, rfl, oY, nY, by omega, fun k k1 k2 => by rw [show k = lo + (n + 1) - 1 by omega]⟩
      case dfin =>
        rintro c st'' ⟨zs, neq, rfl, rfl, o, ni, q1, q2⟩
        rw [show max (n + 1) nrem = nrem by omega] at ni q1 q2 ⊢
        exact ⟨zs, nrem, neq, rfl, rfl, by omega, Nat.le_refl _, o, ni, q1, q2⟩
      case dstep =>
        rintro x c st'' hx1 hx2 ⟨zs, neq, rfl, rfl, o, ni, q1, q2⟩
        dsimp only
        have hIz : AllI zs := hI.perm o.1
        have hsz : lo + nrem ≤ zs.size := by rw [o.size]; exact hn
        refine wpS_bind (wpS_ltA hk hIz (show lo + x < zs.size by omega) (show lo + x - 1 < zs.size by omega) ?_)
        dsimp only
        by_cases hl : KG zs (lo + x) < KG zs (lo + x - 1)
        · rw [if_pos (decide_eq_true hl)]
          have step1 : ∀ us : Array Keyed, (∀ k, KG us k = KG zs k) → NIn us lo (x + 1) := fun us hu i j hij hj => by
            rw [hu, hu]
            by_cases ej : j = x
            · by_cases ei : i = x
              · rw [ei, ej]; exact Int.le_refl _
              · have a1 := ni i (x - 1) (by omega) (by omega)
                rw [show lo + (x - 1) = lo + x - 1 by omega] at a1
                rw [ej]
                omega
            · exact ni i j hij (by omega)
          by_cases hq : neq > 0
          · rw [if_pos hq]
            refine wpS_bind (wpS_rev (wpS_pure ⟨_, 0, rfl, rfl, o.mirror (by omega) (by omega) hn, step1 _ (KG_mirror_equal (show lo + x ≤ zs.size by omega) q2), by omega, fun k k1 k2 => by rw [show k = lo + (x + 1) - 1 by omega]⟩))
          · rw [if_neg hq]
            exact wpS_pure ⟨zs, 0, rfl, rfl, o, step1 _ fun _ => rfl, by omega, fun k k1 k2 => by rw [show k = lo + (x + 1) - 1 by omega]⟩
        · rw [if_neg (by simpa using hl)]
          refine wpS_bind (wpS_ltA hk hIz (show lo + x - 1 < zs.size by omega) (show lo + x < zs.size by omega) ?_)
          dsimp only
          by_cases hg : KG zs (lo + x - 1) < KG zs (lo + x)
          · rw [if_pos (decide_eq_true hg)]
            exact wpS_pure ⟨zs, x, neq, rfl, rfl, by omega, by omega, o, ni, q1, q2⟩
          · rw [if_neg (by simpa using hg)]
            have heq : KG zs (lo + x) = KG zs (lo + x - 1) := by omega
            refine wpS_pure ⟨zs, neq + 1, rfl, rfl, o, fun i j hij hj => ?_, by omega, fun k k1 k2 => ?_⟩
            · by_cases ej : j = x
              · by_cases ei : i = x
                · rw [ei, ej]; exact Int.le_refl _
                · have a1 := ni i (x - 1) (by omega) (by omega)
                  rw [show lo + (x - 1) = lo + x - 1 by omega] at a1
                  rw [ej]
                  omega
              · exact ni i j hij (by omega)
            · rw [show lo + (x + 1) - 1 = lo + x by omega]
              by_cases ek : k = lo + x
              · rw [ek]
              · rw [heq]; exact q2 k (by omega) (by omega)
      case dpost =>
        rintro c st'' ⟨zs, m, neq, rfl, rfl, m1, m2, o, ni, q1, q2⟩
        dsimp only
        have hsz : lo + nrem ≤ zs.size := by rw [o.size]; exact hn
        by_cases hq : neq > 0
        case' pos =>
          rw [if_pos hq]
          refine wpS_bind (wpS_rev ?_)
          obtain ⟨us, hus⟩ : ∃ us, us = mirror zs (lo + m - (neq + 1)) (lo + m) ((lo + m - (lo + m - (neq + 1))) / 2) := ⟨_, rfl⟩
          have oU : Out (arrOf st') lo nrem us := by rw [hus]; exact o.mirror (by omega) (by omega) hn
          have nU : NIn us lo m := fun i j hij hj => by rw [hus, KG_mirror_equal (by omega) q2, KG_mirror_equal (by omega) q2]; exact ni i j hij hj
          refine wpS_st (st' := setArr st' us) (by rw [hus]) ?_
        case' neg =>
          rw [if_neg hq]
          obtain ⟨us, hus⟩ : ∃ us, us = zs := ⟨_, rfl⟩
          have oU : Out (arrOf st') lo nrem us := by rw [hus]; exact o
          have nU : NIn us lo m := by rw [hus]; exact ni
          refine wpS_st (st' := setArr st' us) (by rw [hus]) ?_
        all_goals
          clear hus
          refine wpS_bind (wpS_rev ?_)
          have hsu : lo + nrem ≤ us.size := by rw [oU.size]; exact hn
          obtain ⟨vs, hvs⟩ : ∃ vs, vs = mirror us lo (lo + m) ((lo + m - lo) / 2) := ⟨_, rfl⟩
          have oV : Out (arrOf st') lo nrem vs := by rw [hvs]; exact oU.mirror (Nat.le_refl _) (by omega) hn
          have sV : SIn vs lo m := fun i j hij hj => by
            rw [hvs, KG_mirror (by omega), KG_mirror (by omega), if_pos (by omega), if_pos (by omega)]
            have a1 := nU (m - 1 - j) (m - 1 - i) (by omega) (by omega)
            rw [show lo + (m - 1 - j) = lo + (lo + m) - 1 - (lo + j) by omega, show lo + (m - 1 - i) = lo + (lo + m) - 1 - (lo + i) by omega] at a1
            exact a1
          refine wpS_st (st' := setArr st' vs) (by rw [hvs]) ?_
          clear hvs
          have hIv : AllI vs := hI.perm oV.1
          have hsv : lo + nrem ≤ vs.size := by rw [oV.size]; exact hn
          refine wpS_bind (wpS_mono (wpS_forRange (I := fun x c st'' => st'' = setArr st' vs ∧ c = (none, x) ∧ SIn vs lo x)
            (Q := fun c st'' => st'' = setArr st' vs ∧ ∃ n', c = (none, n') ∧ 1 ≤ n' ∧ n' ≤ nrem ∧ SIn vs lo n') ?astep ?afin ⟨rfl, rfl, sV⟩) ?apost)
          case afin =>
            rintro c st'' ⟨rfl, rfl, hs'⟩
            rw [show max m nrem = nrem by omega] at hs' ⊢
            exact ⟨rfl, nrem, rfl, h1, Nat.le_refl _, hs'⟩
          case astep =>
            rintro x c st'' hx1 hx2 ⟨rfl, rfl, hs'⟩
            dsimp only
            refine wpS_bind (wpS_ltA hk hIv (show lo + x < vs.size by omega) (show lo + x - 1 < vs.size by omega) ?_)
            dsimp only
            by_cases hl : KG vs (lo + x) < KG vs (lo + x - 1)
            · rw [if_pos (decide_eq_true hl)]
              exact wpS_pure ⟨rfl, x, rfl, by omega, by omega, hs'⟩
            · rw [if_neg (by simpa using hl)]
              exact wpS_pure ⟨rfl, rfl, grow hs' hl⟩
          case apost =>
            rintro c st'' ⟨rfl, n', rfl, a1, a2, hs'⟩
            exact wpS_pure (h n' vs oV a1 a2 hs')
theorem wpS_bins {st : SortSt} {lo n ok : Nat} {Q : Bool → SortSt → Prop} (hk : kindOf st = oneType') (hI : AllI (arrOf st)) (hn : lo + n ≤ (arrOf st).size) (hok : ok ≤ n) (hs : SIn (arrOf st) lo ok)
    (h : ∀ xs, Out (arrOf st) lo n xs → SIn xs lo n → Q true (setArr st xs)) : wpS (model prog w) A E s (binarySort' lo n ok) Q st := by
  refine wpS_bind (wpS_mono (wpS_forRange (I := fun k c st' => ∃ xs, st' = setArr st xs ∧ c = (none, ()) ∧ Out (arrOf st) lo n xs ∧ SIn xs lo (min k n))
    (Q := fun c st' => ∃ xs, st' = setArr st xs ∧ c = (none, ()) ∧ Out (arrOf st) lo n xs ∧ SIn xs lo n) ?step ?fin ?init) ?post)
  case post =>
    rintro c st' ⟨xs, rfl, rfl, o, hs'⟩
    exact wpS_pure (h xs o hs')
  case init =>
    refine ⟨arrOf st, rfl, rfl, Out.refl _ _ _, fun i j hij hj => ?_⟩
    by_cases e : ok = 0
    · rw [show i = j by omega]; exact Int.le_refl _
    · exact hs i j hij (by omega)
  case fin =>
    rintro c st' ⟨xs, rfl, rfl, o, hs'⟩
    rw [show min (max (max ok 1) n) n = n by omega] at hs'
    exact ⟨xs, rfl, rfl, o, hs'⟩
  case step =>
    rintro k c st' hk1 hk2 ⟨xs, rfl, rfl, o, hs'⟩
    rw [show min k n = k by omega] at hs'
    have hIx : AllI xs := hI.perm o.1
    have hsz : lo + n ≤ xs.size := by rw [o.size]; exact hn
    refine wpS_bind (wpS_mono (wpS_forRange (I := fun x c st'' => st'' = setArr st xs ∧ ∃ l r, c = (none, l, r) ∧ l ≤ r ∧ r ≤ k ∧ r - l ≤ k - x ∧ (∀ i, i < l → KG xs (lo + i) ≤ KG xs (lo + k)) ∧ (∀ i, r ≤ i → i < k → KG xs (lo + k) < KG xs (lo + i)))
      (Q := fun c st'' => st'' = setArr st xs ∧ ∃ l r, c = (none, l, r) ∧ l ≤ k ∧ (∀ i, i < l → KG xs (lo + i) ≤ KG xs (lo + k)) ∧ (∀ i, l ≤ i → i < k → KG xs (lo + k) < KG xs (lo + i))) ?istep ?ifin ?iinit) ?ipost)
    case iinit => exact ⟨rfl, 0, k, rfl, by omega, by omega, by omega, fun i hi => by omega, fun i h1 h2 => by omega⟩
    case ifin =>
      rintro c st'' ⟨rfl, l, r, rfl, hlr, hrk, hm, hlo, hhi⟩
      have e : l = r := by omega
      subst e
      exact ⟨rfl, l, l, rfl, hrk, hlo, hhi⟩
    case istep =>
      rintro x c st'' _ hxk ⟨rfl, l, r, rfl, hlr, hrk, hm, hlo, hhi⟩
      dsimp only
      by_cases hge : l ≥ r
      · rw [if_pos hge]
        have e : l = r := by omega
        subst e
        exact wpS_pure ⟨rfl, l, l, rfl, hrk, hlo, hhi⟩
      · rw [if_neg hge]
        refine wpS_bind (wpS_ltA hk hIx (show lo + k < xs.size by omega) (show lo + (l + r) / 2 < xs.size by omega) ?_)
        dsimp only
        by_cases hless : KG xs (lo + k) < KG xs (lo + (l + r) / 2)
        · rw [if_pos (decide_eq_true hless)]
          refine wpS_pure ⟨rfl, l, (l + r) / 2, rfl, by omega, by omega, by omega, hlo, fun i h1 h2 => ?_⟩
          exact Int.lt_of_lt_of_le hless (hs' _ _ h1 h2)
        · rw [if_neg (by simpa using hless)]
          refine wpS_pure ⟨rfl, (l + r) / 2 + 1, r, rfl, by omega, by omega, by omega, fun i h1 => ?_, hhi⟩
          exact Int.le_trans (hs' i ((l + r) / 2) (by omega) (by omega)) (Int.not_lt.mp hless)
    case ipost =>
      rintro c st'' ⟨rfl, l, r, rfl, hlk, hlo, hhi⟩
      refine wpS_bind (wpS_modify (wpS_pure ⟨bubble xs (lo + k) (lo + k - (lo + l)), rfl, rfl, o.bubble (by omega) (by omega) hn, ?_⟩))
      rw [show min (k + 1) n = k + 1 by omega]
      intro i j hij hj
      rw [KG_bubble (by omega) (by omega), KG_bubble (by omega) (by omega), show lo + k - (lo + k - (lo + l)) = lo + l by omega]
      by_cases c1 : lo + i = lo + l
      · rw [if_pos c1]
        by_cases c2 : lo + j = lo + l
        · rw [if_pos c2]; exact Int.le_refl _
        · rw [if_neg c2, if_pos (by omega), show lo + j - 1 = lo + (j - 1) by omega]
          exact Int.le_of_lt (hhi _ (by omega) (by omega))
      · rw [if_neg c1]
        by_cases c3 : lo + l < lo + i ∧ lo + i ≤ lo + k
        · rw [if_pos c3, if_neg (by omega), if_pos (by omega), show lo + i - 1 = lo + (i - 1) by omega, show lo + j - 1 = lo + (j - 1) by omega]
          exact hs' _ _ (by omega) (by omega)
        · rw [if_neg c3]
          by_cases c4 : lo + j = lo + l
          · rw [if_pos c4]; exact hlo _ (by omega)
          · rw [if_neg c4]
            by_cases c5 : lo + l < lo + j ∧ lo + j ≤ lo + k
            · rw [if_pos c5, show lo + j - 1 = lo + (j - 1) by omega]
              exact hs' _ _ (by omega) (by omega)
            · rw [if_neg c5]; exact hs' _ _ (by omega) (by omega)
end
end RgG
namespace RgG
open PySem PyProof.Rows Rg
variable [KOrd]
def Srt (xs : Array Keyed) (lo n : Nat) : Prop := ((xs.toList.drop lo).take n).Pairwise fun a b => kz a ≤ kz b
theorem split_drop (L : List Keyed) (p q : Nat) : (L.drop p).take q ++ L.drop (p + q) = L.drop p := by
  rw [← List.drop_drop]
  exact List.take_append_drop _ _
theorem out_of {b xs : Array Keyed} {P M M' R : List Keyed} {lo n : Nat} (hx : xs.toList = P ++ M' ++ R) (hb : b.toList = P ++ M ++ R) (hp : M'.Perm M) (hl : P.length = lo) (hn : M.length = n) : Out b lo n xs := by
  refine ⟨Array.perm_iff_toList_perm.mpr ?_, fun k hk => ?_⟩
  · rw [hx, hb]
    exact (hp.append_left P).append_right R
  · rw [← Array.getElem?_toList, ← Array.getElem?_toList, hx, hb]
    have hl' := hp.length_eq
    rcases hk with z | z
    · rw [List.append_assoc, List.append_assoc, List.getElem?_append_left (by omega), List.getElem?_append_left (by omega)]
    · rw [List.getElem?_append_right (by rw [List.length_append]; omega), List.getElem?_append_right (by rw [List.length_append]; omega), List.length_append, List.length_append, hl']
theorem srt_of {xs : Array Keyed} {P M R : List Keyed} {lo n : Nat} (hx : xs.toList = P ++ M ++ R) (hl : P.length = lo) (hn : M.length = n) (h : M.Pairwise fun a b => kz a ≤ kz b) : Srt xs lo n := by
  unfold Srt
  rw [hx, List.append_assoc, List.drop_append_of_le_length (by omega), List.drop_eq_nil_of_le (by omega), List.nil_append, List.take_append_of_le_length (by omega), List.take_of_length_le (by omega)]
  exact h
theorem Srt.same {xs ys : Array Keyed} {lo n : Nat} (h : Srt xs lo n) (e : ∀ k, lo ≤ k → k < lo + n → ys[k]? = xs[k]?) : Srt ys lo n := by
  unfold Srt at h ⊢
  have : (ys.toList.drop lo).take n = (xs.toList.drop lo).take n := by
    apply List.ext_getElem?
    intro i
    by_cases hi : i < n
    · rw [List.getElem?_take_of_lt hi, List.getElem?_take_of_lt hi, List.getElem?_drop, List.getElem?_drop, Array.getElem?_toList, Array.getElem?_toList]
      exact e _ (by omega) (by omega)
    · rw [List.getElem?_eq_none (by rw [List.length_take]; omega), List.getElem?_eq_none (by rw [List.length_take]; omega)]
  rw [this]
  exact h
theorem srt_in {xs : Array Keyed} {lo n : Nat} (h : SIn xs lo n) (hs : lo + n ≤ xs.size) : Srt xs lo n := by
  unfold Srt
  rw [List.pairwise_iff_getElem]
  intro i j hi hj hij
  rw [List.length_take, List.length_drop] at hi hj
  have q := h i j (by omega) (by omega)
  have e : ∀ {i : Nat} (hi : lo + i < xs.size), KG xs (lo + i) = kz (xs.toList[lo + i]'(by simpa using hi)) := fun {i} hi => by unfold KG; rw [at_some _ hi]
  have l1 : lo + i < xs.size := by omega
  have l2 : lo + j < xs.size := by omega
  rw [e l1, e l2] at q
  rw [List.getElem_take, List.getElem_drop, List.getElem_take, List.getElem_drop]
  exact q
theorem in_srt {xs : Array Keyed} {n : Nat} (h : Srt xs 0 n) (hs : n ≤ xs.size) : SortedG xs n := fun i j hij hj => by
  unfold Srt at h
  have e : ∀ {i : Nat} (hi : i < xs.size), KG xs i = kz (xs.toList[i]'(by simpa using hi)) := fun {i} hi => by unfold KG; rw [at_some _ hi]
  rw [e (show i < xs.size by omega), e (show j < xs.size by omega)]
  have g : ∀ {i : Nat} (hi : i < n), ((xs.toList.drop 0).take n)[i]? = some (xs.toList[i]'(by simp; omega)) := fun {i} hi => by
    rw [List.getElem?_take_of_lt hi, List.drop_zero, List.getElem?_eq_getElem]
  exact sorted_from h (g (show i < n by omega)) (g hj) hij
theorem write_go : ∀ (r : List Keyed) (j : Nat) (a : Array Keyed) (base : Nat), base + j + r.length ≤ a.size →
    ((r.zipIdx j).foldl (fun (a : Array Keyed) (x : Keyed × Nat) => a.setIfInBounds (base + x.2) x.1) a).toList = a.toList.take (base + j) ++ r ++ a.toList.drop (base + j + r.length)
  | [], j, a, base, h => by simp
  | p :: r, j, a, base, h => by
    rw [List.length_cons] at h
    have ih := write_go r (j + 1) (a.setIfInBounds (base + j) p) base (by rw [Array.size_setIfInBounds]; omega)
    rw [List.zipIdx_cons, List.foldl_cons, ih]
    have e : (a.setIfInBounds (base + j) p).toList = a.toList.set (base + j) p := by simp
    have hlt : base + j < a.toList.length := by simp; omega
    rw [e, List.length_cons]
    have e1 : (a.toList.set (base + j) p).take (base + (j + 1)) = a.toList.take (base + j) ++ [p] := by
      rw [show base + (j + 1) = base + j + 1 by omega, List.take_succ, List.take_set_of_le (by omega), List.getElem?_set_self hlt]
      rfl
    have e2 : (a.toList.set (base + j) p).drop (base + (j + 1) + r.length) = a.toList.drop (base + j + (r.length + 1)) := by
      rw [List.drop_set_of_lt (by omega)]
      congr 1
      omega
    rw [e1, e2]
    simp
section
variable {prog : Program} {w : World} {A : Around} {E : Value → Shared → Prop} {s : Shared} [KLt prog w A s]
abbrev merged (st : SortSt) (i sa n pw : Nat) (xs : Array Keyed) (g : Nat) : SortSt := SortSt.mk' (kindOf st) xs (((pendingOf st).setIfInBounds i (sa, n, pw)).eraseIdxIfInBounds (i + 1)) g (failedOf st)
theorem wpS_mergeAt {st : SortSt} {i sa na pw nb pw2 : Nat} {Q : Bool → SortSt → Prop} (hk : kindOf st = oneType') (hf : failedOf st = none) (hI : AllI (arrOf st))
    (p1 : (pendingOf st)[i]? = some (sa, na, pw)) (p2 : (pendingOf st)[i + 1]? = some (sa + na, nb, pw2)) (hna : 1 ≤ na) (hnb : 1 ≤ nb) (hsz : sa + na + nb ≤ (arrOf st).size)
    (s1 : Srt (arrOf st) sa na) (s2 : Srt (arrOf st) (sa + na) nb)
    (h : ∀ xs g, Out (arrOf st) sa (na + nb) xs → Srt xs sa (na + nb) → Q true (merged st i sa (na + nb) pw xs g)) : wpS (model prog w) A E s (mergeAt' i) Q st := by
  obtain ⟨L, hL⟩ : ∃ L, L = (arrOf st).toList := ⟨_, rfl⟩
  have lenL : L.length = (arrOf st).size := by rw [hL]; simp
  obtain ⟨P, hP⟩ : ∃ P, P = L.take sa := ⟨_, rfl⟩
  obtain ⟨U, hU⟩ : ∃ U, U = (L.drop sa).take na := ⟨_, rfl⟩
  obtain ⟨W, hW⟩ : ∃ W, W = (L.drop (sa + na)).take nb := ⟨_, rfl⟩
  obtain ⟨R, hR⟩ : ∃ R, R = L.drop (sa + na + nb) := ⟨_, rfl⟩
  have lP : P.length = sa := by rw [hP, List.length_take]; omega
  have lU : U.length = na := by rw [hU, List.length_take, List.length_drop]; omega
  have lW : W.length = nb := by rw [hW, List.length_take, List.length_drop]; omega
  have whole : L = P ++ (U ++ W) ++ R := by
    have e1 : W ++ R = L.drop (sa + na) := by rw [hW, hR]; exact split_drop _ _ _
    have e2 : U ++ L.drop (sa + na) = L.drop sa := by rw [hU]; exact split_drop _ _ _
    rw [List.append_assoc, List.append_assoc, e1, e2, hP]
    exact (List.take_append_drop _ _).symm
  have sU : U.Pairwise fun a b => kz a ≤ kz b := by rw [hU, hL]; exact s1
  have sW : W.Pairwise fun a b => kz a ≤ kz b := by rw [hW, hL]; exact s2
  have IU : ∀ p ∈ U, IntK p := fun p hp => hI p (by rw [← hL, whole]; simp [hp])
  have IW : ∀ p ∈ W, IntK p := fun p hp => hI p (by rw [← hL, whole]; simp [hp])
  have atU : ∀ j, j < na → (arrOf st)[sa + j]? = U[j]? := fun j hj => by rw [hU, List.getElem?_take_of_lt hj, List.getElem?_drop, hL, Array.getElem?_toList]
  have atW : ∀ j, j < nb → (arrOf st)[sa + na + j]? = W[j]? := fun j hj => by rw [hW, List.getElem?_take_of_lt hj, List.getElem?_drop, hL, Array.getElem?_toList]
  have kW : (arrOf st)[sa + na]? = some (W[0]'(by omega)) := by have q := atW 0 (by omega); rw [Nat.add_zero] at q; rw [q]; exact List.getElem?_eq_getElem (by omega)
  have kU : (arrOf st)[sa + na - 1]? = some (U[na - 1]'(by omega)) := by have q := atU (na - 1) (by omega); rw [show sa + (na - 1) = sa + na - 1 by omega] at q; rw [q]; exact List.getElem?_eq_getElem (by omega)
  have W0 : ∀ y ∈ W, kz (W[0]'(by omega)) ≤ kz y := fun y hy => drop_le sW (i := 0) (by omega) y (by simpa using hy)
  have Ul : ∀ x ∈ U, kz x ≤ kz (U[na - 1]'(by omega)) := fun x hx => le_last sU (n := na) (by omega) (by omega) x (by rw [List.take_of_length_le (by omega)]; exact hx)
  refine wpS_bind (wpS_get ?_)
  dsimp only
  rw [p1, p2]
  dsimp only
  refine wpS_bind (wpS_modify ?_)
  refine wpS_bind (wpS_elem kW ?_)
  refine wpS_bind (wpS_gallop (L := U) hk (IW _ (List.getElem_mem _)) lU atU sU IU (by omega) fun k k1 k2 k3 => ?_)
  dsimp only
  have tk := bey_take k2
  have dk := bey_drop lU k3
  by_cases e1 : (na - k == 0) = true
  · rw [if_pos e1]
    have ek : k = na := by simp at e1; omega
    refine wpS_pure (h (arrOf st) _ (Out.refl _ _ _) (srt_of (hL ▸ whole) lP (by rw [List.length_append]; omega) ?_))
    rw [List.pairwise_append]
    refine ⟨sU, sW, fun x hx y hy => ?_⟩
    have a1 := tk x (by rw [ek, List.take_of_length_le (by omega)]; exact hx)
    have a2 := W0 y hy
    omega
  rw [if_neg e1]
  have ek : k < na := by simp at e1; omega
  refine wpS_bind (wpS_elem (show (arrOf st)[sa + k + (na - k) - 1]? = _ by rw [show sa + k + (na - k) - 1 = sa + na - 1 by omega]; exact kU) ?_)
  refine wpS_bind (wpS_gallop (L := W) hk (IU _ (List.getElem_mem _)) lW atW sW IW (by omega) fun t t1 t2 t3 => ?_)
  dsimp only
  have tt := bey_take t2
  have dt := bey_drop lW t3
  by_cases e2 : (t == 0) = true
  · rw [if_pos e2]
    have et : t = 0 := by simpa using e2
    refine wpS_pure (h (arrOf st) _ (Out.refl _ _ _) (srt_of (hL ▸ whole) lP (by rw [List.length_append]; omega) ?_))
    rw [List.pairwise_append]
    refine ⟨sU, sW, fun x hx y hy => ?_⟩
    have a1 := Ul x hx
    have a2 := dt y (by rw [et]; simpa using hy)
    omega
  rw [if_neg e2]
  have et : 0 < t := by simp at e2; omega
  have xl : ((arrOf st).extract (sa + k) (sa + na)).toList = U.drop k := by
    rw [ex_mid, ← hL, hU, List.drop_take, List.drop_take, List.drop_drop]
    congr 1
    omega
  have yl : ((arrOf st).extract (sa + na) (sa + na + t)).toList = W.take t := by
    rw [ex_run, ← hL, hW, List.take_take, Nat.min_eq_left t1]
  have xs0 : 0 < ((arrOf st).extract (sa + k) (sa + na)).size := by rw [← Array.length_toList, xl, List.length_drop]; omega
  have ys0 : 0 < ((arrOf st).extract (sa + na) (sa + na + t)).size := by rw [← Array.length_toList, yl, List.length_take]; omega
  have c0 : ∀ y x, ((arrOf st).extract (sa + na) (sa + na + t))[0]? = some y → x ∈ ((arrOf st).extract (sa + k) (sa + na)).toList → kz y ≤ kz x := fun y x hy hx => by
    rw [xl] at hx
    rw [← Array.getElem?_toList, yl, List.getElem?_take_of_lt et, List.getElem?_eq_getElem (by omega)] at hy
    cases hy
    exact dk x hx
  have cl : ∀ y x, y ∈ ((arrOf st).extract (sa + na) (sa + na + t)).toList → ((arrOf st).extract (sa + k) (sa + na))[((arrOf st).extract (sa + k) (sa + na)).size - 1]? = some x → kz y ≤ kz x := fun y x hy hx => by
    rw [yl] at hy
    rw [← Array.getElem?_toList, ← Array.length_toList, xl, List.length_drop, List.getElem?_drop, lU, show k + (na - k - 1) = na - 1 by omega, List.getElem?_eq_getElem (by omega)] at hx
    cases hx
    exact tt y hy
  have fin : ∀ (r : Array Keyed) (g : Nat), Done kz (((arrOf st).extract (sa + k) (sa + na)).toList ++ ((arrOf st).extract (sa + na) (sa + na + t)).toList) r.toList →
      Q true (merged st i sa (na + nb) pw (r.toList.zipIdx.foldl (fun (a : Array Keyed) (x : Keyed × Nat) => a.setIfInBounds (sa + k + x.2) x.1) (arrOf st)) g) := fun r g hd => by
    obtain ⟨hd1, hd2⟩ := hd
    rw [xl, yl] at hd2
    have lr : r.toList.length = na - k + t := by rw [hd2.length_eq, List.length_append, List.length_drop, List.length_take]; omega
    have wr := write_go r.toList 0 (arrOf st) (sa + k) (by rw [lr]; omega)
    rw [← hL] at wr
    have eT : L.take (sa + k + 0) = P ++ U.take k := by
      rw [Nat.add_zero, hP, hU, List.take_take, Nat.min_eq_left (by omega), List.take_add]
    have eD : L.drop (sa + k + 0 + r.toList.length) = W.drop t ++ R := by
      have q := split_drop L (sa + na + t) (nb - t)
      rw [show sa + na + t + (nb - t) = sa + na + nb by omega] at q
      rw [lr, show sa + k + 0 + (na - k + t) = sa + na + t by omega, hW, hR, List.drop_take, List.drop_drop]
      exact q.symm
    have wr' : (r.toList.zipIdx.foldl (fun (a : Array Keyed) (x : Keyed × Nat) => a.setIfInBounds (sa + k + x.2) x.1) (arrOf st)).toList = P ++ (U.take k ++ r.toList ++ W.drop t) ++ R := by
      rw [wr, eT, eD]
      simp only [List.append_assoc]
    have pm : (U.take k ++ r.toList ++ W.drop t).Perm (U ++ W) := by
      have e3 : U ++ W = U.take k ++ (U.drop k ++ W.take t) ++ W.drop t := by
        rw [← List.append_assoc, List.take_append_drop, List.append_assoc, List.take_append_drop]
      rw [e3]
      exact (hd2.append_left _).append_right _
    refine h _ g (out_of wr' (hL ▸ whole) pm lP (by rw [List.length_append]; omega)) (srt_of wr' lP (by rw [pm.length_eq, List.length_append]; omega) ?_)
    have inM : ∀ z ∈ r.toList, z ∈ U.drop k ∨ z ∈ W.take t := fun z hz => List.mem_append.mp (hd2.mem_iff.mp hz)
    have eU : U.take k ++ U.drop k = U := List.take_append_drop _ _
    have eW : W.take t ++ W.drop t = W := List.take_append_drop _ _
    have pU := sU
    rw [← eU, List.pairwise_append] at pU
    have pW := sW
    rw [← eW, List.pairwise_append] at pW
    have lowhigh : ∀ x ∈ U.take k, ∀ y ∈ W, kz x ≤ kz y := fun x hx y hy => by
      have a1 := tk x hx
      have a2 := W0 y hy
      omega
    rw [List.pairwise_append, List.pairwise_append]
    refine ⟨⟨pU.1, hd1, fun x hx y hy => ?_⟩, pW.2.1, fun x hx y hy => ?_⟩
    · rcases inM y hy with z | z
      · exact pU.2.2 x hx y z
      · exact lowhigh x hx y (List.mem_of_mem_take z)
    · rcases List.mem_append.mp hx with z | z
      · exact lowhigh x z y (List.mem_of_mem_drop hy)
      · rcases inM x z with q | q
        · have a1 := Ul x (List.mem_of_mem_drop q)
          have a2 := dt y hy
          omega
        · exact pW.2.2 x q y hy
  have sx : ((arrOf st).extract (sa + k) (sa + na)).toList.Pairwise fun x y => kz x ≤ kz y := by rw [xl]; exact sU.sublist (List.drop_sublist _ _)
  have sy : ((arrOf st).extract (sa + na) (sa + na + t)).toList.Pairwise fun x y => kz x ≤ kz y := by rw [yl]; exact sW.sublist (List.take_sublist _ _)
  have Ix : ∀ p ∈ ((arrOf st).extract (sa + k) (sa + na)).toList, IntK p := by rw [xl]; exact fun p hp => IU p (List.mem_of_mem_drop hp)
  have Iy : ∀ p ∈ ((arrOf st).extract (sa + na) (sa + na + t)).toList, IntK p := by rw [yl]; exact fun p hp => IW p (List.mem_of_mem_take hp)
  by_cases e3 : na - k ≤ t
  · rw [if_pos e3]
    refine wpS_bind (wpS_mergeLo hk sx sy Ix Iy xs0 ys0 c0 cl fun r g hd => ?_)
    refine wpS_bind (wpS_modify ?_)
    refine wpS_bind (wpS_get (wpS_pure ?_))
    have q := fin r g hd
    rw [show (failedOf st).isNone = true by rw [hf]; rfl]
    exact q
  · rw [if_neg e3]
    refine wpS_bind (wpS_mergeHi hk sx sy Ix Iy xs0 ys0 c0 cl fun r g hd => ?_)
    refine wpS_bind (wpS_modify ?_)
    refine wpS_bind (wpS_get (wpS_pure ?_))
    have q := fin r g hd
    rw [show (failedOf st).isNone = true by rw [hf]; rfl]
    exact q
end
end RgG
namespace RgG
open PySem PyProof.Rows Rg
variable [KOrd]
/-! ### the runs that are pending: one behind another -/
def Cov : List (Nat × Nat × Nat) → Nat → Nat → Prop
  | [], a, b => a = b
  | (s, n, _) :: r, a, b => s = a ∧ 1 ≤ n ∧ Cov r (a + n) b
theorem cov_split : ∀ {p q : List (Nat × Nat × Nat)} {a b : Nat}, Cov (p ++ q) a b ↔ ∃ c, Cov p a c ∧ Cov q c b
  | [], q, a, b => ⟨fun h => ⟨a, rfl, h⟩, fun ⟨c, h1, h2⟩ => by cases (show a = c from h1); exact h2⟩
  | (s, n, w) :: p, q, a, b => by
    constructor
    · rintro ⟨h1, h2, h3⟩
      obtain ⟨c, h4, h5⟩ := cov_split.mp h3
      exact ⟨c, ⟨h1, h2, h4⟩, h5⟩
    · rintro ⟨c, ⟨h1, h2, h3⟩, h4⟩
      exact ⟨h1, h2, cov_split.mpr ⟨c, h3, h4⟩⟩
theorem cov_len : ∀ {p : List (Nat × Nat × Nat)} {a b : Nat}, Cov p a b → a + p.length ≤ b
  | [], a, b, h => by cases (show a = b from h); exact Nat.le_refl _
  | (s, n, w) :: p, a, b, ⟨_, h2, h3⟩ => by
    have := cov_len h3
    rw [List.length_cons]
    omega
theorem cov_mem : ∀ {p : List (Nat × Nat × Nat)} {a b : Nat} {q : Nat × Nat × Nat}, Cov p a b → q ∈ p → a ≤ q.1 ∧ q.1 + q.2.1 ≤ b ∧ 1 ≤ q.2.1
  | [], _, _, _, _, h => nomatch h
  | (s, n, w) :: p, a, b, q, ⟨h1, h2, h3⟩, h => by
    have hl := cov_len h3
    rcases List.mem_cons.mp h with z | z
    · subst z
      exact ⟨by show a ≤ s; omega, by show s + n ≤ b; omega, h2⟩
    · have := cov_mem h3 z
      exact ⟨by omega, this.2.1, this.2.2⟩
theorem two_at {α : Type} {p : List α} {i : Nat} {x y : α} (h1 : p[i]? = some x) (h2 : p[i + 1]? = some y) : ∃ p1 p2, p = p1 ++ x :: y :: p2 ∧ p1.length = i := by
  obtain ⟨l1, e1⟩ := List.getElem?_eq_some_iff.mp h1
  obtain ⟨l2, e2⟩ := List.getElem?_eq_some_iff.mp h2
  refine ⟨p.take i, p.drop (i + 2), ?_, by rw [List.length_take]; omega⟩
  have a1 := List.drop_eq_getElem_cons l1
  have a2 := List.drop_eq_getElem_cons l2
  rw [e1, a2, e2] at a1
  rw [← a1]
  exact (List.take_append_drop _ _).symm
theorem set_erase {α : Type} {p1 p2 : List α} {x y v : α} {i : Nat} (h : p1.length = i) : ((p1 ++ x :: y :: p2).set i v).eraseIdx (i + 1) = p1 ++ v :: p2 := by
  subst h
  induction p1 with
  | nil => rfl
  | cons a p1 ih => simpa using ih
structure SI (a₀ : Array Keyed) (st : SortSt) (stop : Nat) : Prop where
  perm : (arrOf st).Perm a₀
  kind : kindOf st = oneType'
  failed : failedOf st = none
  cov : Cov (pendingOf st).toList 0 stop
  runs : ∀ q ∈ (pendingOf st).toList, Srt (arrOf st) q.1 q.2.1
  le : stop ≤ a₀.size
section
variable {prog : Program} {w : World} {A : Around} {E : Value → Shared → Prop} {s : Shared} [KLt prog w A s] {a₀ : Array Keyed}
theorem SI.size {st : SortSt} {stop : Nat} (h : SI a₀ st stop) : (arrOf st).size = a₀.size := h.perm.size_eq
theorem wpS_merge {st : SortSt} {i stop : Nat} {Q : Bool → SortSt → Prop} (h : SI a₀ st stop) (hI : AllI a₀) (hi : i + 1 < (pendingOf st).size)
    (k : ∀ st', SI a₀ st' stop → (pendingOf st').size + 1 = (pendingOf st).size → (∀ k, stop ≤ k → (arrOf st')[k]? = (arrOf st)[k]?) → Q true st') : wpS (model prog w) A E s (mergeAt' i) Q st := by
  obtain ⟨⟨sa, na, pw⟩, hx⟩ : ∃ x, (pendingOf st).toList[i]? = some x := ⟨_, List.getElem?_eq_getElem (by simp; omega)⟩
  obtain ⟨⟨sb, nb, pw2⟩, hy⟩ : ∃ x, (pendingOf st).toList[i + 1]? = some x := ⟨_, List.getElem?_eq_getElem (by simp; omega)⟩
  obtain ⟨p1, p2, hp, hl⟩ := two_at hx hy
  have hc := h.cov
  rw [hp] at hc
  obtain ⟨c, c1, c2, c3, c4, c5, c6⟩ := cov_split.mp hc
  have e1 : sa = c := c2
  have e2 : sb = c + na := c4
  subst e1 e2
  have le1 := cov_len c6
  have hr := h.runs
  rw [hp] at hr
  have sz := h.size
  have hle := h.le
  have hset : (((pendingOf st).setIfInBounds i (sa, na + nb, pw)).eraseIdxIfInBounds (i + 1)).toList = p1 ++ (sa, na + nb, pw) :: p2 := by
    rw [Array.toList_eraseIdxIfInBounds, Array.toList_setIfInBounds, hp]
    exact set_erase hl
  refine wpS_mergeAt h.kind h.failed (hI.perm h.perm) (by rw [← Array.getElem?_toList]; exact hx) (by rw [← Array.getElem?_toList]; exact hy) c3 c5 (by omega) (hr (sa, na, pw) (by simp)) (hr (sa + na, nb, pw2) (by simp)) fun xs g o hs => ?_
  refine k _ ⟨o.1.trans h.perm, h.kind, h.failed, ?_, fun q hq => ?_, h.le⟩ ?_ fun k' hk' => o.2 k' (.inr (by omega))
  · show Cov (((pendingOf st).setIfInBounds i (sa, na + nb, pw)).eraseIdxIfInBounds (i + 1)).toList 0 stop
    rw [hset]
    exact cov_split.mpr ⟨sa, c1, rfl, by omega, by rw [← Nat.add_assoc]; exact c6⟩
  · have hq' : q ∈ (((pendingOf st).setIfInBounds i (sa, na + nb, pw)).eraseIdxIfInBounds (i + 1)).toList := hq
    rw [hset] at hq'
    rcases List.mem_append.mp hq' with z | z
    · have m := cov_mem c1 z
      exact (hr q (by simp [z])).same fun k' k1 k2 => o.2 k' (.inl (by omega))
    · rcases List.mem_cons.mp z with z | z
      · subst z; exact hs
      · have m := cov_mem c6 z
        exact (hr q (by simp [z])).same fun k' k1 k2 => o.2 k' (.inr (by omega))
  · have e3 : (((pendingOf st).setIfInBounds i (sa, na + nb, pw)).eraseIdxIfInBounds (i + 1)).size = (p1 ++ (sa, na + nb, pw) :: p2).length := by rw [← hset, Array.length_toList]
    have e4 : (pendingOf st).size = (p1 ++ (sa, na, pw) :: (sa + na, nb, pw2) :: p2).length := by rw [← hp, Array.length_toList]
    show (((pendingOf st).setIfInBounds i (sa, na + nb, pw)).eraseIdxIfInBounds (i + 1)).size + 1 = _
    rw [e3, e4]
    simp only [List.length_append, List.length_cons]
    omega
theorem cov_modify {p : List (Nat × Nat × Nat)} {f : Nat × Nat × Nat → Nat × Nat × Nat} (hf : ∀ x, (f x).1 = x.1 ∧ (f x).2.1 = x.2.1) : ∀ {i a b : Nat}, Cov p a b → Cov (p.modify i f) a b := by
  induction p with
  | nil => intro i a b h; cases i <;> exact h
  | cons x p ih =>
    intro i a b h
    obtain ⟨s, n, w⟩ := x
    cases i with
    | zero =>
      have q := hf (s, n, w)
      show Cov (f (s, n, w) :: p) a b
      generalize f (s, n, w) = y at q
      obtain ⟨s', n', w'⟩ := y
      have q1 : s' = s := q.1
      have q2 : n' = n := q.2
      subst q1 q2
      exact h
    | succ i => exact ⟨h.1, h.2.1, ih h.2.2⟩
theorem mem_modify {p : List (Nat × Nat × Nat)} {f : Nat × Nat × Nat → Nat × Nat × Nat} (hf : ∀ x, (f x).1 = x.1 ∧ (f x).2.1 = x.2.1) : ∀ {i : Nat} {q : Nat × Nat × Nat}, q ∈ p.modify i f → ∃ x ∈ p, x.1 = q.1 ∧ x.2.1 = q.2.1 := by
  induction p with
  | nil => intro i q h; cases i <;> cases h
  | cons x p ih =>
    intro i q h
    cases i with
    | zero =>
      rcases List.mem_cons.mp (show q ∈ f x :: p from h) with z | z
      · exact ⟨x, List.mem_cons_self, by rw [z]; exact (hf x).1.symm, by rw [z]; exact (hf x).2.symm⟩
      · exact ⟨q, List.mem_cons_of_mem _ z, rfl, rfl⟩
    | succ i =>
      rcases List.mem_cons.mp (show q ∈ x :: p.modify i f from h) with z | z
      · exact ⟨x, List.mem_cons_self, by rw [z], by rw [z]⟩
      · obtain ⟨y, h1, h2⟩ := ih z
        exact ⟨y, List.mem_cons_of_mem _ h1, h2⟩
/-- a run is put behind the others -/
theorem SI.push {st : SortSt} {stop n : Nat} (h : SI a₀ st stop) (hn : 1 ≤ n) (hl : stop + n ≤ a₀.size) (hs : Srt (arrOf st) stop n) : SI a₀ (setPending st ((pendingOf st).push (stop, n, 0))) (stop + n) := by
  refine ⟨h.perm, h.kind, h.failed, ?_, fun q hq => ?_, hl⟩
  · show Cov ((pendingOf st).push (stop, n, 0)).toList 0 (stop + n)
    rw [Array.toList_push]
    exact cov_split.mpr ⟨stop, h.cov, rfl, hn, rfl⟩
  · have hq' : q ∈ ((pendingOf st).push (stop, n, 0)).toList := hq
    rw [Array.toList_push] at hq'
    rcases List.mem_append.mp hq' with z | z
    · exact h.runs q z
    · have z' : q = (stop, n, 0) := by simpa using z
      subst z'
      exact hs
theorem SI.marks {st : SortSt} {stop i pw : Nat} (h : SI a₀ st stop) : SI a₀ (setPending st ((pendingOf st).modify i fun x => (x.1, x.2.1, pw))) stop := by
  have e : ((pendingOf st).modify i fun x => (x.1, x.2.1, pw)).toList = (pendingOf st).toList.modify i fun x => (x.1, x.2.1, pw) := by simp
  refine ⟨h.perm, h.kind, h.failed, ?_, fun q hq => ?_, h.le⟩
  · show Cov ((pendingOf st).modify i fun x => (x.1, x.2.1, pw)).toList 0 stop
    rw [e]
    exact cov_modify (f := fun x => (x.1, x.2.1, pw)) (fun _ => ⟨rfl, rfl⟩) h.cov
  · have hq' : q ∈ ((pendingOf st).modify i fun x => (x.1, x.2.1, pw)).toList := hq
    rw [e] at hq'
    obtain ⟨x, h1, h2, h3⟩ := mem_modify (f := fun x => (x.1, x.2.1, pw)) (fun _ => ⟨rfl, rfl⟩) hq'
    have := h.runs x h1
    rw [h2, h3] at this
    exact this
/-- what is rearranged behind the runs does not touch them -/
theorem SI.out {st : SortSt} {stop m : Nat} {xs : Array Keyed} (h : SI a₀ st stop) (o : Out (arrOf st) stop m xs) : SI a₀ (setArr st xs) stop :=
  ⟨o.1.trans h.perm, h.kind, h.failed, h.cov, fun q hq => (h.runs q hq).same fun k k1 k2 => o.2 k (.inl (by have := cov_mem h.cov hq; omega)), h.le⟩
theorem wpS_sortAll {st : SortSt} {Q : Unit → SortSt → Prop} (h0 : AllI a₀) (hB : SBase a₀ st) (h2 : 2 ≤ a₀.size)
    (h : ∀ st', (arrOf st').Perm a₀ → failedOf st' = none → SortedG (arrOf st') a₀.size → Q () st') : wpS (model prog w) A E s sortRuns' Q st := by
  have hI : AllI a₀ := h0
  have start : SI a₀ st 0 := ⟨hB.perm, hB.kind, hB.failed, by rw [hB.pend]; rfl, (by rw [hB.pend]; intro q hq; cases hq), Nat.zero_le _⟩
  have hsz := hB.size
  refine wpS_bind (wpS_get ?_)
  dsimp only
  simp only [hsz]
  generalize sortPriv% PySem.Builtin.minRun = mr
  refine wpS_bind (wpS_mono (wpS_forRange (I := fun x c st' => ∃ lo, c = (none, lo) ∧ min x a₀.size ≤ lo ∧ SI a₀ st' lo) (Q := fun c st' => c = (none, a₀.size) ∧ SI a₀ st' a₀.size) ?step ?fin ⟨0, rfl, by omega, start⟩) ?post)
  case fin =>
    rintro c st' ⟨lo, rfl, h1, hS⟩
    have e : lo = a₀.size := by have := hS.le; omega
    subst e
    exact ⟨rfl, hS⟩
  case step =>
    rintro x c st' _ hx ⟨lo, rfl, h1, hS⟩
    dsimp only
    have hle := hS.le
    by_cases hge : lo ≥ a₀.size
    · rw [if_pos hge]
      have e : lo = a₀.size := by omega
      subst e
      exact wpS_pure ⟨rfl, hS⟩
    rw [if_neg hge]
    have hsz' := hS.size
    refine wpS_bind (wpS_run hS.kind (hI.perm hS.perm) (by omega) (by omega) fun m xs o m1 m2 sm => ?_)
    dsimp only
    have hS2 := hS.out o
    have sz2 : xs.size = a₀.size := by have := hS2.size; exact this
    generalize mr a₀.size a₀.size 0 = mn
    by_cases hm : m < mn
    case' pos =>
      rw [if_pos hm]
      refine wpS_bind (wpS_lift (wpAny_rule ⟨rfl, ?_⟩))
      refine wpS_bind (wpS_bins (st := setArr st' xs) hS2.kind (hI.perm hS2.perm) (show lo + min (a₀.size - lo) mn ≤ xs.size by omega) (by omega) sm fun ys o2 sy => ?_)
      have hS3 : SI a₀ (setArr (setArr st' xs) ys) lo := hS2.out o2
      have hY : Srt ys lo (min (a₀.size - lo) mn) := srt_in sy (by rw [o2.size]; show lo + min (a₀.size - lo) mn ≤ xs.size; omega)
      obtain ⟨n, hn⟩ : ∃ n, n = min (a₀.size - lo) mn := ⟨_, rfl⟩
      have n1 : 1 ≤ n := by omega
      have n2 : lo + n ≤ a₀.size := by omega
      rw [← hn] at hY ⊢
      obtain ⟨st3, hst3⟩ : ∃ st3, st3 = setArr (setArr st' xs) ys := ⟨_, rfl⟩
      rw [← hst3] at hS3 ⊢
      have hY3 : Srt (arrOf st3) lo n := by rw [hst3]; exact hY
      simp only [Bool.not_true, Bool.false_eq_true, if_false]
    case' neg =>
      rw [if_neg hm]
      have hS3 : SI a₀ (setArr st' xs) lo := hS2
      obtain ⟨n, hn⟩ : ∃ n, n = m := ⟨_, rfl⟩
      have n1 : 1 ≤ n := by omega
      have n2 : lo + n ≤ a₀.size := by omega
      have hY : Srt xs lo n := by rw [hn]; exact srt_in sm (by omega)
      rw [← hn]
      obtain ⟨st3, hst3⟩ : ∃ st3, st3 = setArr st' xs := ⟨_, rfl⟩
      rw [← hst3] at hS3 ⊢
      have hY3 : Srt (arrOf st3) lo n := by rw [hst3]; exact hY
    all_goals
      refine wpS_bind (wpS_get ?_)
      cases hb : (pendingOf st3).back? with
      | none =>
        dsimp only
        exact wpS_bind (wpS_modify (wpS_pure ⟨lo + n, rfl, by omega, hS3.push n1 n2 hY3⟩))
      | some last =>
        obtain ⟨s1, n1', pw1⟩ := last
        dsimp only
        generalize (sortPriv% PySem.Builtin.power) a₀.size (2 * s1 + n1') (2 * s1 + n1' + n1' + n) a₀.size = pw
        refine wpS_bind (wpS_mono (wpS_forRange (I := fun _ c st'' => c = (none, ()) ∧ SI a₀ st'' lo ∧ Srt (arrOf st'') lo n) (Q := fun c st'' => c = (none, ()) ∧ SI a₀ st'' lo ∧ Srt (arrOf st'') lo n) ?mstep (fun _ _ q => q) ⟨rfl, hS3, hY3⟩) ?mpost)
        case mstep =>
          rintro y c st'' _ hy ⟨rfl, hS4, hY4⟩
          refine wpS_bind (wpS_get ?_)
          by_cases hp : (pendingOf st'').size > 1
          · rw [if_pos hp]
            obtain ⟨⟨a, b, older⟩, hz⟩ : ∃ z, (pendingOf st'')[(pendingOf st'').size - 2]? = some z := ⟨_, Array.getElem?_eq_getElem (by omega)⟩
            rw [hz]
            dsimp only
            by_cases ho : older ≤ pw
            · rw [if_pos ho]; exact wpS_pure ⟨rfl, hS4, hY4⟩
            · rw [if_neg ho]
              refine wpS_bind (wpS_merge (i := (pendingOf st'').size - 2) hS4 hI (by omega) fun st5 hS5 _ hk5 => ?_)
              simp only [Bool.not_true, Bool.false_eq_true, if_false]
              exact wpS_pure ⟨rfl, hS5, hY4.same fun k k1 _ => hk5 k k1⟩
          · rw [if_neg hp]
            exact wpS_pure ⟨rfl, hS4, hY4⟩
        case mpost =>
          rintro c st'' ⟨rfl, hS4, hY4⟩
          dsimp only
          refine wpS_bind (wpS_modify ?_)
          refine wpS_bind (wpS_modify (wpS_pure ⟨lo + n, rfl, by omega, ?_⟩))
          exact (SI.marks (i := (pendingOf st'').size - 1) (pw := pw) hS4).push n1 n2 hY4
  case post =>
    rintro c st' ⟨rfl, hS⟩
    dsimp only
    have len0 := cov_len hS.cov
    rw [Array.length_toList] at len0
    refine wpS_bind (wpS_mono (wpS_forRange (I := fun x c st'' => c = (none, ()) ∧ SI a₀ st'' a₀.size ∧ (pendingOf st'').size ≤ max 1 (a₀.size - x)) (Q := fun c st'' => c = (none, ()) ∧ SI a₀ st'' a₀.size ∧ (pendingOf st'').size ≤ 1) ?fstep ?ffin ⟨rfl, hS, by omega⟩) ?fpost)
    case ffin =>
      rintro c st'' ⟨rfl, hS', hp⟩
      exact ⟨rfl, hS', by omega⟩
    case fstep =>
      rintro x c st'' _ hx ⟨rfl, hS', hp⟩
      refine wpS_bind (wpS_get ?_)
      by_cases h3 : (pendingOf st'').size ≤ 1
      · rw [if_pos h3]; exact wpS_pure ⟨rfl, hS', h3⟩
      rw [if_neg h3]
      refine wpS_bind (wpS_merge hS' hI ?_ fun st5 hS5 hn5 _ => ?_)
      · have q : ∀ (c : Prop) [Decidable c] (n : Nat), (if c then n - 1 else n) ≤ n := fun c _ n => by split <;> omega
        exact Nat.lt_of_le_of_lt (Nat.add_le_add_right (q _ ((pendingOf st'').size - 2)) 1) (by omega)
      · simp only [Bool.not_true, Bool.false_eq_true, if_false]
        exact wpS_pure ⟨rfl, hS5, by omega⟩
    case fpost =>
      rintro c st'' ⟨rfl, hS', hp⟩
      refine wpS_pure (h _ hS'.perm hS'.failed ?_)
      have hc := hS'.cov
      have hr := hS'.runs
      have hsz3 := hS'.size
      have hlen : (pendingOf st'').toList.length ≤ 1 := by simpa using hp
      match hq : (pendingOf st'').toList, hc, hr, hlen with
      | [], hc, _, _ => exact absurd (show 0 = a₀.size from hc) (by omega)
      | [(s1, n1, w1)], hc, hr, _ =>
        obtain ⟨c1, c2, c3⟩ := hc
        have e1 : s1 = 0 := c1
        have e2 : 0 + n1 = a₀.size := c3
        have q := hr (s1, n1, w1) (by simp)
        have q' : Srt (arrOf st'') s1 n1 := q
        rw [e1, show n1 = a₀.size by omega] at q'
        exact in_srt q' (by omega)
      | _ :: _ :: _, _, _, hl => simp at hl
end
end RgG
namespace Rg
open PySem PyProof.Rows
/-- ints, in their order -/
def ordI : RgG.KOrd where
  kz p := numOf p.1
  IntK p := ∃ n t, p.1 = .int n t
section
variable {prog : Program} {w : World} {A : Around} {E : Value → Shared → Prop} {s : Shared}
theorem ltI : @RgG.KLt prog w A s ordI := by
  letI := ordI
  refine ⟨fun {E x y st Q} hk hx hy h => ?_⟩
  obtain ⟨a, t, ea⟩ := hx
  obtain ⟨b, u, eb⟩ := hy
  rw [lt'_eq]
  refine wpS_bind (wpS_get ?_)
  rw [hk, keyLt'_oneType, ea, eb]
  refine wpS_bind (wpS_lift (wpAny_attempt (oneLt_int ⟨rfl, ?_⟩)))
  refine wpS_pure ?_
  have e1 : (RgG.kz x : Int) = a := by show numOf x.1 = a; rw [ea]; rfl
  have e2 : (RgG.kz y : Int) = b := by show numOf y.1 = b; rw [eb]; rfl
  rw [e1, e2] at h
  exact h
theorem sort_in_place {a : Addr} {vs : List Value} {ns : List Int} {n : Nat} {P : Fin → Shared → Prop} (ho : s.heap.get? a = some (seqObj "list" vs.toArray n)) (hI : IntsAre vs ns) (hz : vs.length ≤ sizeLine)
    (h : ∀ (out : Array Value) (ns' : List Int), IntsAre out.toList ns' → ns'.Perm ns → ns'.Pairwise (· ≤ ·) → P (.done (.ret .none)) { s with heap := sortedHeap s.heap a vs out }) :
    wpAny (model prog w) A (Builtin.«list.sort» ⟨[.ref a], []⟩) P E s := by
  by_cases small : vs.length < 64
  · exact list_sort_tree ho hI small h
  rw [list_sort_plain]
  have hlt : a < s.heap.objs.size := Heap.lt_size ho
  have size_vs : vs.toArray.size = vs.length := by simp
  refine wpAny_bind (listItems_at ho rfl (wpAny_bind (listUpdate_at ho rfl ?_ (by rw [size_vs]; exact hz) (Nat.zero_le _))))
  obtain ⟨e1, o1⟩ : ∃ e1, (s.heap.update a (Obj.mapSeq fun _ => #[])).get? a = some (seqObj "list" #[] e1) := ⟨_, get?_update_seq ho (fun _ => #[])⟩
  refine wpAny_bind (seqEpoch_at o1 rfl (wpAny_bind (wpAny_newTuple (wpAny_bind (wpAny_newList (wpAny_holding ?_))) (by simpa using hz))))
  have o6 : (((s.heap.update a (Obj.mapSeq fun _ => #[])).push (seqObj "tuple" vs.toArray 0)).push (seqObj "list" #[] 0)).get? a = some (seqObj "list" #[] e1) := by
    rw [Heap.get?_push_ne _ _ _ (by rw [size_push', Heap.size_update]; exact Nat.ne_of_lt (Nat.lt_succ_of_lt hlt)), Heap.get?_push_ne _ _ _ (by rw [Heap.size_update]; exact Nat.ne_of_lt hlt)]
    exact o1
  show wpAny (model prog w) A _ P E { s with heap := ((s.heap.update a (Obj.mapSeq fun _ => #[])).push (seqObj "tuple" vs.toArray 0)).push (seqObj "list" #[] 0) }
  dsimp only
  have two : ¬ vs.toArray.size < 2 := by rw [size_vs]; omega
  rw [if_neg two, if_neg two]
  obtain ⟨v₁, v₂, rest, rfl⟩ : ∃ v₁ v₂ rest, vs = v₁ :: v₂ :: rest := by
    match vs, small with
    | [], q => simp at q
    | [_], q => simp at q
    | v₁ :: v₂ :: rest, _ => exact ⟨v₁, v₂, rest, rfl⟩
  rw [keyKind_ints hI]
  letI : RgG.KOrd := ordI
  haveI : RgG.KLt prog w A { s with heap := ((s.heap.update a (Obj.mapSeq fun _ => #[])).push (seqObj "tuple" (v₁ :: v₂ :: rest).toArray 0)).push (seqObj "list" #[] 0) } := ltI
  refine wpAny_bind (wpAny_pure (wpAny_bind (wpAny_mono (RgG.wpS_sortAll (a₀ := pairsOf (v₁ :: v₂ :: rest)) (st := SortSt.mk' oneType' ((v₁ :: v₂ :: rest).toArray.zip (v₁ :: v₂ :: rest).toArray) #[] 7 none)
    (Q := fun _ st' => (arrOf st').Perm (pairsOf (v₁ :: v₂ :: rest)) ∧ failedOf st' = none ∧ RgG.SortedG (arrOf st') (pairsOf (v₁ :: v₂ :: rest)).size)
    (fun p hp => hI.intKeys p hp) ⟨Array.Perm.refl _, rfl, rfl, rfl⟩ (by rw [pairsOf_size]; simp) fun st' q1 q2 q3 => ⟨q1, q2, q3⟩) ?_ fun _ _ e => e)))
  rintro ⟨⟨⟩, st'⟩ s' ⟨rfl, hp, hf, hs⟩
  dsimp only
  have sz : ((arrOf st').map (·.2)).size = (v₁ :: v₂ :: rest).length := (Array.size_map ..).trans (hp.size_eq.trans (pairsOf_size _))
  refine wpAny_bind (seqEpoch_at o6 rfl (wpAny_bind (listUpdate_at o6 rfl ?_ (hsz2 := by refine Nat.le_trans (Nat.le_of_eq sz) ?_; omega))))
  rw [hf]
  simp only [bne_self_eq_false, Bool.false_eq_true, if_false]
  obtain ⟨ns', r1, r2, r3⟩ := sorted_out hI hp (fun i j hij hj => hs i j hij hj)
  exact wpAny_pure (h _ ns' r1 r2 r3)
theorem sorted_any {l : Addr} {vs : List Value} {ns : List Int} {Q : Value → Shared → Prop} (hl : s.heap.IsList l vs.toArray) (hI : IntsAre vs ns) (hz : vs.length ≤ sizeLine)
    (h : ∀ (out : Array Value) (ns' : List Int), IntsAre out.toList ns' → ns'.Perm ns → ns'.Pairwise (· ≤ ·) → Q (.ref (s.heap.objs.size + 1)) { s with heap := sortedAll s.heap vs out }) :
    wpAny (model prog w) A (call (.builtin "sorted") [.ref l]) Q E s := by
  refine Calls.call_function_entry kind_sorted plain_sorted entry_sorted (args_sorted1 _) ?_
  unfold Builtin.«sorted»
  refine wpAny_bind (m := checkCount "sorted" 1 1 _) (wpAny_pure (wpAny_bind (collect_list hl (wpAny_bind (wpAny_newList ?_ hz)) hz)))
  have e1 : ((s.heap.push (seqObj "list" #[] 0)).update s.heap.objs.size (Obj.mapSeq (· ++ vs.toArray))).objs.size = s.heap.objs.size + 1 := by rw [Heap.size_update, size_push']
  have e2 : (((s.heap.push (seqObj "list" #[] 0)).update s.heap.objs.size (Obj.mapSeq (· ++ vs.toArray))).push (seqObj "list" vs.toArray 0)).get? (s.heap.objs.size + 1) = some (seqObj "list" vs.toArray 0) := by
    rw [← e1]; exact Heap.get?_push_size _ rfl
  show wpAny _ _ _ _ _ { s with heap := ((s.heap.push (seqObj "list" #[] 0)).update s.heap.objs.size (Obj.mapSeq (· ++ vs.toArray))).push (seqObj "list" vs.toArray 0) }
  rw [e1]
  refine wpAny_bind (wpAny_holding (wpAny_call_entry slot_list_sort ⟨_, e2, rfl⟩ entry_list_sort (sort_in_place e2 hI hz fun out ns' a1 a2 a3 => ⟨_, rfl, ?_⟩) (args_list_sort _)))
  exact wpAny_pure ⟨_, rfl, h out ns' a1 a2 a3⟩
end
end Rg
namespace Rg
/-! ### lists in order -/
def srt (l : List Int) : List Int := l.mergeSort fun a b => decide (a ≤ b)
theorem srt_perm (l : List Int) : (srt l).Perm l := List.mergeSort_perm l _
theorem srt_sorted (l : List Int) : (srt l).Pairwise (· ≤ ·) := by
  have h := List.pairwise_mergeSort (le := fun a b : Int => decide (a ≤ b)) (fun a b c h1 h2 => by simp at *; omega) (fun a b => by simp; omega) l
  exact h.imp (by simp)
theorem sorted_unique : ∀ {l m : List Int}, l.Perm m → l.Pairwise (· ≤ ·) → m.Pairwise (· ≤ ·) → l = m
  | [], m, p, _, _ => by simpa using p.symm
  | a :: l, [], p, _, _ => by simpa using p
  | a :: l, b :: m, p, hl, hm => by
    rw [List.pairwise_cons] at hl hm
    have h1 : a ∈ b :: m := p.mem_iff.mp List.mem_cons_self
    have h2 : b ∈ a :: l := p.mem_iff.mpr List.mem_cons_self
    have e : a = b := by
      rcases List.mem_cons.mp h1 with z | z
      · exact z
      · rcases List.mem_cons.mp h2 with y | y
        · exact y.symm
        · have := hl.1 b y
          have := hm.1 a z
          omega
    subst e
    rw [sorted_unique (List.Perm.cons_inv p) hl.2 hm.2]
theorem srt_unique {l m : List Int} (p : l.Perm m) (h : l.Pairwise (· ≤ ·)) : l = srt m := sorted_unique (p.trans (srt_perm m).symm) h (srt_sorted m)
theorem srt_length (l : List Int) : (srt l).length = l.length := (srt_perm l).length_eq
theorem srt_mem {l : List Int} {x : Int} : x ∈ srt l ↔ x ∈ l := (srt_perm l).mem_iff
/-! ### the distances between places -/
def fnd : List Int → List Int
  | [] => []
  | p :: r => r.map (· - p) ++ fnd r
def btw (ps : List Int) : List Int := ps.flatMap fun a => (ps.filter fun b => decide (a < b)).map (· - a)
theorem filter_gt {pre r : List Int} {a : Int} (h : (pre ++ a :: r).Pairwise (· < ·)) : (pre ++ a :: r).filter (fun b => decide (a < b)) = r := by
  rw [List.pairwise_append, List.pairwise_cons] at h
  obtain ⟨_, ⟨h2, _⟩, h3⟩ := h
  rw [List.filter_append, List.filter_cons]
  have e1 : pre.filter (fun b => decide (a < b)) = [] := by
    rw [List.filter_eq_nil_iff]
    intro b hb
    have := h3 b hb a List.mem_cons_self
    simp; omega
  have e2 : r.filter (fun b => decide (a < b)) = r := by
    rw [List.filter_eq_self]
    intro b hb
    have := h2 b hb
    simpa using this
  rw [e1, e2]
  simp
theorem btw_go : ∀ (r pre : List Int), (pre ++ r).Pairwise (· < ·) → (r.flatMap fun a => ((pre ++ r).filter fun b => decide (a < b)).map (· - a)) = fnd r
  | [], _, _ => rfl
  | a :: r, pre, h => by
    have e : pre ++ a :: r = (pre ++ [a]) ++ r := by simp
    rw [List.flatMap_cons, filter_gt h]
    have ih := btw_go r (pre ++ [a]) (by rw [← e]; exact h)
    rw [← e] at ih
    rw [ih]
    rfl
theorem btw_fnd {ps : List Int} (h : ps.Pairwise (· < ·)) : btw ps = fnd ps := btw_go ps [] h
theorem fnd_pos : ∀ {ps : List Int}, ps.Pairwise (· < ·) → ∀ d ∈ fnd ps, 1 ≤ d
  | [], _, d, hd => nomatch hd
  | p :: r, h, d, hd => by
    rw [List.pairwise_cons] at h
    rcases List.mem_append.mp hd with z | z
    · obtain ⟨q, hq, rfl⟩ := List.mem_map.mp z
      have := h.1 q hq
      omega
    · exact fnd_pos h.2 d z
theorem fnd_le : ∀ {ps : List Int} {m : Int}, (∀ p ∈ ps, 0 ≤ p ∧ p ≤ m) → ∀ d ∈ fnd ps, d ≤ m
  | [], _, _, d, hd => nomatch hd
  | p :: r, m, h, d, hd => by
    rcases List.mem_append.mp hd with z | z
    · obtain ⟨q, hq, rfl⟩ := List.mem_map.mp z
      have h1 := h p List.mem_cons_self
      have h2 := h q (List.mem_cons_of_mem _ hq)
      omega
    · exact fnd_le (fun q hq => h q (List.mem_cons_of_mem _ hq)) d z
theorem fnd_length : ∀ ps : List Int, 2 * (fnd ps).length = ps.length * (ps.length - 1)
  | [] => rfl
  | p :: r => by
    have ih := fnd_length r
    show 2 * (r.map (· - p) ++ fnd r).length = (r.length + 1) * (r.length + 1 - 1)
    rw [List.length_append, List.length_map, Nat.mul_add, ih, Nat.add_sub_cancel]
    cases e : r.length with
    | zero => rfl
    | succ n =>
      rw [Nat.add_sub_cancel]
      simp only [Nat.add_mul, Nat.mul_add]
      omega
theorem fnd_len21 {ps : List Int} (h : ps.length ≤ 7) : (fnd ps).length ≤ 21 := by
  have := fnd_length ps
  have e : ps.length * (ps.length - 1) ≤ 7 * 6 := Nat.mul_le_mul h (by omega)
  omega
theorem take_succ {α : Type} {l : List α} {i : Nat} {x : α} (h : l[i]? = some x) : l.take (i + 1) = l.take i ++ [x] := by
  rw [List.take_succ, h]; rfl
/-- all pairs (a, b) with b not ahead of a -/
def pairs (ps : List Int) : List Int := ps.flatMap fun a => (ps.filter fun b => decide (a ≤ b)).map (· - a)
end Rg
/-! THE FORMS ONE USES: heaps, comprehensions of plain elements, sorted of any length. -/
namespace L2
open PySem PySem.Spec PyProof.Rows
/-! ### heaps -/
theorem same_new {H : Hp} {p : Addr} (h : H p = none) (o : HO) : Same H (upd H p o) := fun b u q => by rw [upd_ne (ne_of_none q h)]; exact q
theorem same_upd {H H1 : Hp} {p : Addr} {o : HO} (h : Same H H1) (hp : H p = none) : Same H (upd H1 p o) := fun b u q => by rw [upd_ne (ne_of_none q hp)]; exact h b u q
theorem Same.tup {K : PySem.W.Frag} {H H' : Hp} {a : Addr} {xs : List V} (e : Same H H') (h : SqT K H a xs) : SqT K H' a xs := by
  rcases h with (h | ⟨o, h⟩) | h
  · exact .inl (.inl (e _ _ h))
  · exact .inl (.inr ⟨o, e _ _ h⟩)
  · exact .inr h
/-- a list that is read is not one that was not there -/
theorem sq_ne {K : PySem.W.Frag} {H : Hp} {a p : Addr} {xs : List V} {o : HO} (h : SqL K H a xs) (hp : H p = none) : SqL K (upd H p o) a xs := (same_new hp o).seq h
/-! ### comprehensions of plain elements -/
/-- a comprehension's block of one name without a test -/
abbrev CB (J : It) (imp : St) (te : TE) (Q : VK) (H1 : Hp) (D : Addr) : Prop := CBG J (List.replicate 1 none ++ imp) (gName 0) tYes te Q H1 D
/-- over any source of n items x 0, x 1, ..: the list of the f's -/
theorem comp_n {J : It} {imp : St} {te : TE} {Q : VK} {H1 : Hp} {D : Addr} (n : Nat) (x f : Nat → V) (hn : n ≤ sizeLine)
    (hstop : ∀ ys, J.stop n (upd H1 D (.lst ys))) (hgo : ∀ i ys, i < n → J.go i (upd H1 D (.lst ys)) ∧ ∀ v H3, J.yld i (upd H1 D (.lst ys)) v H3 → v = x i ∧ H3 = upd H1 D (.lst ys))
    (hel : ∀ i ys (Q' : VK), i < n → Q' (f i) (upd H1 D (.lst ys)) → te (some (x i) :: imp) (upd H1 D (.lst ys)) Q')
    (hq : Q (.ref D) (upd H1 D (.lst ((List.range n).map f)))) : CB J imp te Q H1 D := by
  refine ⟨fun i m H2 => m = n - i ∧ i ≤ n ∧ H2 = upd H1 D (.lst ((List.range i).map f)), ⟨n, rfl, Nat.zero_le _, rfl⟩, ?_⟩
  rintro i m H2 ⟨rfl, hi, rfl⟩
  by_cases hlt : i < n
  · refine .inr ⟨(hgo i _ hlt).1, fun v H3 hy => ?_⟩
    obtain ⟨e1, e2⟩ := (hgo i _ hlt).2 v H3 hy
    subst e1 e2
    refine ⟨keep1, ?_⟩
    show te (some (x i) :: imp) (upd H1 D (.lst ((List.range i).map f))) _
    refine hel i _ _ hlt ⟨_, upd_same, ?_, n - (i + 1), by omega, rfl, hlt, ?_⟩
    · rw [List.length_map, List.length_range]; omega
    · rw [upd_upd, List.range_succ, List.map_append]; rfl
  · have e : i = n := by omega
    subst e
    exact .inl ⟨hstop _, hq⟩
/-- over a list -/
theorem comp_map {K : PySem.W.Frag} {a : Addr} {xs : List V} {imp : St} {te : TE} {Q : VK} {H1 : Hp} {D : Addr} (f : V → V) (hD : H1 D = none) (hx : SqL K H1 a xs) (hz : xs.length ≤ sizeLine)
    (hel : ∀ (i : Nat) x ys (Q' : VK), xs[i]? = some x → Q' (f x) (upd H1 D (.lst ys)) → te (some x :: imp) (upd H1 D (.lst ys)) Q')
    (hq : Q (.ref D) (upd H1 D (.lst (xs.map f)))) : CB (Itl K a) imp te Q H1 D := by
  have hx' : ∀ ys, SqL K (upd H1 D (.lst ys)) a xs := fun ys => sq_ne hx hD
  have get : ∀ i, i < xs.length → xs[i]? = some (xs.getD i .non) := fun i hi => by simp [List.getD_eq_getElem?_getD, hi]
  refine comp_n xs.length (fun i => xs.getD i .non) (fun i => f (xs.getD i .non)) hz (fun ys => ⟨xs, hx' ys, Nat.le_refl _⟩) (fun i ys hi => ⟨⟨xs, _, hx' ys, get i hi⟩, fun v H3 hy => ?_⟩) (fun i ys Q' hi q => hel i _ ys Q' (get i hi) q) ?_
  · obtain ⟨e, y⟩ := hy
    have := y xs (hx' ys)
    rw [get i hi] at this
    exact ⟨(Option.some.inj this).symm, e⟩
  · have e : (List.range xs.length).map (fun i => f (xs.getD i .non)) = xs.map f := by
      apply List.ext_getElem?
      intro i
      rw [List.getElem?_map, List.getElem?_map]
      by_cases hi : i < xs.length
      · rw [List.getElem?_range hi]; simp [List.getD_eq_getElem?_getD, hi]
      · rw [List.getElem?_eq_none (by simpa using hi), List.getElem?_eq_none (by omega)]; rfl
    rw [e]
    exact hq
/-- over lo, lo + 1, .. -/
theorem comp_range {lo : Int} {n : Nat} {imp : St} {te : TE} {Q : VK} {H1 : Hp} {D : Addr} (f : Nat → V) (hn : n ≤ sizeLine)
    (hel : ∀ i ys (Q' : VK), i < n → Q' (f i) (upd H1 D (.lst ys)) → te (some (.int (lo + i)) :: imp) (upd H1 D (.lst ys)) Q')
    (hq : Q (.ref D) (upd H1 D (.lst ((List.range n).map f)))) : CB (Itr lo n) imp te Q H1 D :=
  comp_n n (fun i => .int (lo + i)) f hn (fun _ => Nat.le_refl _) (fun i ys hi => ⟨hi, fun v H3 hy => ⟨hy.2, hy.1⟩⟩) hel hq
/-! ### sorted -/
section
variable {X : Cx}
def rSrt (K : PySem.W.Frag) : List V → Hp → VK → Prop := fun xs H Q => ∃ (p : Addr) (ns : List Int), xs = [.ref p] ∧ SqL K H p (ns.map V.int) ∧ ∀ l, H l = none → Q (.ref l) (upd H l (.lst ((Rg.srt ns).map V.int)))
theorem call_srt : CallR X (.builtin "sorted") (rSrt X.K) := by
  intro pins s σ H xs us Q I r h
  obtain ⟨p, ns, rfl, hp, q⟩ := h
  obtain ⟨u, rfl, ru⟩ := r.one
  cases (show u = Value.ref p from ru)
  obtain ⟨its, rv, pl, hz⟩ := I.list hp
  have hi := ints_vals rv
  refine Rg.sorted_any pl.isList hi (by rw [← rv.length]; exact hz) fun out ns' a1 a2 a3 => ?_
  have fr : H (s.heap.objs.size + 1) = none := I.hok.fresh (Nat.le_succ _)
  obtain ⟨e, he⟩ := sortedAll_at s.heap its out
  have e2 : out = out.toList.toArray := by simp
  have e3 : ns' = Rg.srt ns := Rg.srt_unique a2 a3
  refine ⟨.ref (s.heap.objs.size + 1), _, I.laid (t' := s.toks) (o := .lst (ns'.map V.int)) (fun b o e => sortedAll_old e) (Nat.le_succ _) ⟨?_, out.toList, e, vals_ints a1, ?_⟩, rfl, ?_⟩
  · rw [List.length_map, a2.length_eq]
    rw [List.length_map] at hz
    exact hz
  · rw [← e2]; exact he
  · rw [e3]; exact q _ fr
end
/-! ### ints in lists of values -/
theorem at_int {ps : List Int} {i : Nat} {p : Int} (h : ps[i]? = some p) : (ps.map V.int)[i]? = some (.int p) := by rw [List.getElem?_map, h]; rfl
theorem atI_int {ps : List Int} {i : Nat} {p : Int} (h : ps[i]? = some p) : atI (ps.map V.int) (i : Int) = some (.int p) := atI_nat (at_int h)
theorem len_int (ps : List Int) : (ps.map V.int).length = ps.length := List.length_map _
theorem cut_from {xs : List V} {k : Int} (h : 0 ≤ k) : cutV xs (some k) none = xs.drop k.toNat := by
  unfold cutV
  have e1 : HT.sIx xs.length 0 (some k) = min k.toNat xs.length := by
    simp only [HT.sIx]
    split <;> omega
  have e2 : HT.sIx xs.length xs.length none = xs.length := rfl
  rw [e1, e2]
  by_cases hk : k.toNat ≤ xs.length
  · rw [Nat.min_eq_left hk]
    exact List.take_of_length_le (by rw [List.length_drop]; omega)
  · rw [Nat.min_eq_right (by omega), List.drop_eq_nil_of_le (by omega), List.drop_eq_nil_of_le (by omega), List.take_nil]
theorem atI_back {α : Type} {xs : List α} {x : α} (h : xs.getLast? = some x) : atI xs (-1) = some x := by
  have e := List.getLast?_eq_some_iff.mp h
  obtain ⟨ys, rfl⟩ := e
  exact atI_last ys x
end L2
namespace L2
open PySem PySem.Spec PyProof.Rows
/-! ### rules that name the written part (for a block's context) -/
section
variable {X : Cx}
theorem ix_listK (K : PySem.W.Frag) (h : X.K = K := by rfl) : IxR X (rIxL K) := h ▸ ix_list
end
end L2
namespace L2
open PySem PySem.Spec PyProof.Rows
/-! ### a def of the text, with all that a call of it wants -/
structure Def (P : Program) (w : World) (K : PySem.W.Frag) (mg : Str → Option Value) (base : Heap) (CX : CXT) (x : Str) (ps : List Str) (k : Nat) (sp : Sp) : Prop where
  ex : ∃ (f : Addr) (fd : FuncData), FnOk P w K mg base CX k f fd ps sp ∧ Binds K fd ps [] ∧ PySem.W.keepIn K (.ref f) = true ∧ mg x = some (.ref f)
theorem Def.mono {P : Program} {w : World} {K : PySem.W.Frag} {mg : Str → Option Value} {base : Heap} {CX : CXT} {x : Str} {ps : List Str} {j k : Nat} {sp : Sp} (D : Def P w K mg base CX x ps j sp) (h : j ≤ k) : Def P w K mg base CX x ps k sp := by
  obtain ⟨f, fd, F, r⟩ := D.ex
  exact ⟨f, fd, F.mono h, r⟩
section
variable {X : Cx} {CX : CXT} {k : Nat} {ps : List Str} {sp : Sp} {E : XK} {x : Str} {p pos : Pos} {e : Expr} {es : List Expr} {t : TA}
/-- f(e, ..) of a def of the text; what of an exception -/
theorem pe_fnX (D : Def X.prog X.w X.K X.mg X.base CX x ps k sp) (hr : Room k X.A) (hx : Passes CX X E) (hg : Gl X x) (ha : PA X (e :: es) t) (hdb : (x == ("__debug__" : Str)) = false := by decide)
    (he : starEach (e :: es) X.env = (false, eval e X.env) :: starEach es X.env := by rfl) (hpl : (backTo pos (starEach es X.env)).any (·.1) = false := by rfl) : PE X (.Call (.Name x p) (e :: es) [] pos) (tCall sp [] E t) := by
  obtain ⟨f, fd, F, hb, hk, hm⟩ := D.ex
  exact pe_call F hr hg hm hk hb .nil hx ha hdb he hpl
/-- .. that lets none out -/
theorem pe_fn (D : Def X.prog X.w X.K X.mg X.base CX0 x ps k sp) (hr : Room k X.A) (hg : Gl X x) (ha : PA X (e :: es) t) (hdb : (x == ("__debug__" : Str)) = false := by decide)
    (he : starEach (e :: es) X.env = (false, eval e X.env) :: starEach es X.env := by rfl) (hpl : (backTo pos (starEach es X.env)).any (·.1) = false := by rfl) : PE X (.Call (.Name x p) (e :: es) [] pos) (tCall sp [] E0 t) :=
  pe_fnX D hr pass0 hg ha hdb he hpl
end
end L2
namespace L2
open PySem PySem.Spec PyProof.Rows
theorem upd_none {H : Hp} {p D : Addr} {o : HO} (h : upd H p o D = none) : H D = none := by
  unfold upd at h
  split at h
  · cases h
  · exact h
theorem small5 {n : Nat} (h : n ≤ 5000) : n ≤ sizeLine := Nat.le_trans h (by decide)
end L2
namespace L2
open PySem PySem.Spec PyProof.Rows
/-! ### a block with a word in its middle -/
def tMid (M : St → Hp → Prop) (t u : TS) : TS := fun D σ H => t { D with nx := M } σ H ∧ ∀ σ' H', M σ' H' → u D σ' H'
theorem pss_mid {X : Cx} {st : Stmt} {rest : List Stmt} {t u : TS} (M : St → Hp → Prop) (h1 : PS X st t) (h2 : PSs X rest u) : PSs X (st :: rest) (tMid M t u) := by
  intro pins s σ H D I h
  refine wpAny_execs_cons (thn (h1 pins s σ H { D with nx := M } I h.1) fun f s1 q => ?_)
  cases f with
  | next =>
    obtain ⟨σ', H', I', q⟩ := q
    exact h2 pins s1 σ' H' D I' (h.2 σ' H' q)
  | brk => exact q
  | cont => exact q
  | ret v => exact q
theorem ixN_nat {n : Nat} {k : Int} (h0 : 0 ≤ k) (h1 : k < n) : ixN n k = some k.toNat := by
  unfold ixN
  rw [if_pos h0, if_pos h1]
end L2
/-! max(xs, default=d) of a list of ints: one of them, or d. -/
namespace L2
open PySem PySem.Spec PyProof.Rows
section
variable {prog : Program} {w : World} {A : Around} {R : Result → Shared → Prop} {I : Addr} {fp wr : List Addr} {n : Nat} {P : Nat → Value → Prop} {St : Nat → Heap → Prop}
theorem max_dflt_loop {d : Value} (W : Walks prog w A.in1 I fp wr n P St) (hint : ∀ i v, P i v → ∃ z t, v = .int z t) (S : Addr) (hSf : S ∉ fp) :
    ∀ (k j : Nat) (s : Shared) (old : List Value) (c : Nat), n - j = k → j ≤ n → St j s.heap → ((old = [] ∧ j = 0) ∨ ∃ v i, old = [v, v] ∧ P i v) →
    s.heap.get? S = some { cls := .type "list", dict := none, data := .seq old.toArray c, slots := #[] } →
    (∀ v h' tk, ((v = d ∧ n = 0) ∨ ∃ i, P i v) → (∀ b o, b ∉ wr → b ≠ S → s.heap.get? b = some o → h'.get? b = some o) → R (.ok (.ret v)) { s with heap := h', toks := tk }) →
    codeAny (model prog w) A (.builtin "max.loop" ⟨[.ref I, .none, .ref S], [("default", d)]⟩) R s := by
  have hSw : S ∉ wr := fun h => hSf (W.sub _ h)
  have hname : (toString "max" ++ toString ".loop" : String) = "max.loop" := by decide
  intro k
  induction k with
  | zero =>
    intro j s old c hk hj hst ho hS hR
    have hin : j = n := by omega
    refine codeAny_builtin F.entry_max_loop ?_
    rw [Around.under_plainId F.plain_max_loop _]
    show wpAny _ A.in1 (seqItems? (.ref S) >>= _) _ _ s
    refine wpAny_bind (wpAny_seqItems hS rfl ?_)
    show wpAny _ A.in1 (tryCatch (pyNext (.ref I)) _ >>= _) _ _ s
    refine wpAny_bind (wpAny_tryCatch (W.done s _ _ (hin ▸ hst) fun h' tk hk' => ?_))
    have hS' := hk' S _ hSw hS
    rcases ho with ⟨e1, e2⟩ | ⟨v, i, e1, hv⟩
    · subst e1
      refine wpAny_bind (wpAny_rule (wpAny_pure ?_))
      exact hR d h' tk (.inl ⟨rfl, by omega⟩) fun b o hb _ e => hk' b o hb e
    · subst e1
      show wpAny _ A.in1 (updateSeq S (fun _ => #[]) >>= _) _ _ _
      refine wpAny_bind (wpAny_updateSeq hS' rfl (wpAny_bind (wpAny_letGo (wpAny_pure ?_))))
      exact hR v _ tk (.inr ⟨i, hv⟩) fun b o hbw hbS e => (Heap.get?_update_other _ _ (Ne.symm hbS)).trans (hk' b o hbw e)
  | succ k ih =>
    intro j s old c hk hj hst ho hS hR
    refine codeAny_builtin F.entry_max_loop ?_
    rw [Around.under_plainId F.plain_max_loop _]
    show wpAny _ A.in1 (seqItems? (.ref S) >>= _) _ _ s
    refine wpAny_bind (wpAny_seqItems hS rfl ?_)
    show wpAny _ A.in1 (tryCatch (pyNext (.ref I)) _ >>= _) _ _ s
    refine wpAny_bind (wpAny_tryCatch (W.item j s _ _ (by omega) hst fun v h' tk hP hst' hk' => ?_))
    have hS' := hk' S _ hSw hS
    have other : ∀ (xs : Array Value) b o, b ≠ S → h'.get? b = some o → (h'.update S (Obj.mapSeq fun _ => xs)).get? b = some o := fun xs b o hb e => (Heap.get?_update_other _ _ (Ne.symm hb)).trans e
    rcases ho with ⟨e1, e2⟩ | ⟨vb, i, e1, hv⟩
    · subst e1
      show wpAny _ A.in1 (updateSeq S (fun _ => #[v, v]) >>= _) _ _ _
      refine wpAny_bind (wpAny_updateSeq hS' rfl ?_)
      rw [hname]
      refine wpAny_pure ⟨plainId_quiet F.plain_max_loop _, ih (j + 1) _ [v, v] _ (by omega) (by omega) (W.frame _ _ _ hst' fun b hbf o e => other _ b o (fun z => hSf (z ▸ hbf)) e) (.inr ⟨v, j, rfl, hP⟩) (Heap.get?_update_self _ hS' rfl) fun v' h'' tk'' hP' hk'' => ?_⟩
      exact hR v' h'' tk'' hP' fun b o hbw hbS e => hk'' b o hbw hbS (other _ b o hbS (hk' b o hbw e))
    · subst e1
      obtain ⟨z, t, rfl⟩ := hint j v hP
      obtain ⟨zb, tb, rfl⟩ := hint i vb hv
      show wpAny _ A.in1 (tryCatch (holding [Value.int z t, Value.int z t] (richCompare .Gt (Value.int z t) (Value.int zb tb) >>= _)) _ >>= _) _ _ _
      refine wpAny_bind (wpAny_tryCatch (wpAny_holding (wpAny_bind (gt_int ?_))))
      refine wpAny_bind (wpAny_holding (wpAny_truthy_bool ?_))
      refine wpAny_bind (wpAny_letGo (wpAny_pure ?_))
      cases hb : decide (zb < z) with
      | true =>
        refine wpAny_bind (wpAny_updateSeq hS' rfl (wpAny_bind (wpAny_letGo ?_)))
        rw [hname]
        refine wpAny_pure ⟨plainId_quiet F.plain_max_loop _, ih (j + 1) _ [.int z t, .int z t] _ (by omega) (by omega) (W.frame _ _ _ hst' fun b hbf o e => other _ b o (fun z => hSf (z ▸ hbf)) e) (.inr ⟨_, j, rfl, hP⟩) (Heap.get?_update_self _ hS' rfl) fun v' h'' tk'' hP' hk'' => ?_⟩
        exact hR v' h'' tk'' hP' fun b o hbw hbS e => hk'' b o hbw hbS (other _ b o hbS (hk' b o hbw e))
      | false =>
        refine wpAny_bind (wpAny_letGo ?_)
        rw [hname]
        refine wpAny_pure ⟨plainId_quiet F.plain_max_loop _, ih (j + 1) _ [.int zb tb, .int zb tb] c (by omega) (by omega) hst' (.inr ⟨_, i, rfl, hv⟩) hS' fun v' h'' tk'' hP' hk'' => ?_⟩
        exact hR v' h'' tk'' hP' fun b o hbw hbS e => hk'' b o hbw hbS (hk' b o hbw e)
end
theorem args_max_d (a d : Value) : argsOk "max" ⟨[a], [("default", d)]⟩ := by unfold argsOk; kernel_rfl
section
variable {X : Cx} {p pos kpos : Pos} {e d : Expr} {ta tk : TA}
def tMaxD (K : PySem.W.Frag) (ta tk : TA) : TE := fun σ H Q => ta σ H fun vs H1 => tk σ H1 fun zs H2 => ∃ (l : Addr) (ns : List Int) (z : Int), vs = [.ref l] ∧ zs = [.int z] ∧ SqL K H2 l (ns.map V.int) ∧ ∀ m : Int, (m = z ∧ ns = []) ∨ m ∈ ns → Q (.int m) H2
theorem max_run {pins : List (Addr × Obj)} {σ : St} {H : Hp} {s : Shared} {l : Addr} {ns : List Int} {z : Int} {t : Tok} {Q : VK} (hc : X.calm = true) (I : Inv X pins σ H s) (hl : SqL X.K H l (ns.map V.int)) (q : ∀ m : Int, (m = z ∧ ns = []) ∨ m ∈ ns → Q (.int m) H) :
    wpAny (model X.prog X.w) X.A (call (.builtin "max") [.ref l] [("default", .int z t)]) (EP X pins σ Q) X.xe s := by
  have hname : (toString "max" ++ toString ".loop" : String) = "max.loop" := by decide
  obtain ⟨its, rv, pl, hz⟩ := I.list hl
  have hi := ints_vals rv
  refine wpAny_call (codeAny_call_builtin F.plain_max F.entry_max ?_)
  simp only [checkBuiltinCall, F.kind_max]
  have body : wpAny (model X.prog X.w) X.A.in1 (Builtin.«max» ⟨[.ref l], [("default", .int z t)]⟩) (fun fin s' => match fin with
      | .done f => (match (Except.ok f : Result) with | .ok (.ret v) => EP X pins σ Q v s' | .ok _ => False | .error e => X.xe e s')
      | .again c' => c'.quiet = true ∧ codeAny (model X.prog X.w) X.A c' (fun r s' => match r with | .ok (.ret v) => EP X pins σ Q v s' | .ok _ => False | .error e => X.xe e s') s') X.xe s := by
    show wpAny _ X.A.in1 (Builtin.Builtins.bindParams "max" ["key", "default"] 0 ⟨[], [("default", .int z t)]⟩ >>= _) _ _ s
    refine wpAny_bind (wpAny_of_eq (show Builtin.Builtins.bindParams "max" ["key", "default"] 0 ⟨[], [("default", .int z t)]⟩ = pure [none, some (.int z t)] from rfl) ?_)
    refine wpAny_bind (wpAny_pure (wpAny_bind (wpAny_pyIter_list pl.isList ?_)))
    have hne : l ≠ s.heap.objs.size := by
      obtain ⟨o, n, e, _⟩ := pl
      exact Nat.ne_of_lt (Heap.lt_size e)
    refine wpAny_bind (wpAny_newObj_type ?_)
    rw [hname]
    have W := Walks.list (prog := X.prog) (w := X.w) (A := X.A.in1) (show X.A.in1.handled = none from I.ok.hd hc) s.heap.objs.size l hne its.toArray
    refine wpAny_pure ⟨plainId_quiet F.plain_max_loop _, max_dflt_loop (d := .int z t) W (fun i v hv => ?_) _ ?_ _ 0 _ [] 0 rfl (Nat.zero_le _) ⟨⟨_, Heap.get?_push_of_some _ (Heap.get?_push_size _ rfl), rfl, rfl⟩, ?_⟩ (.inl ⟨rfl, rfl⟩) (Heap.get?_push_size _ rfl) fun v h' tk hv hk => ?_⟩
    · obtain ⟨n, t', _, e⟩ := ints_at hi i v (by simpa using hv)
      exact ⟨n, t', e⟩
    · intro hm
      have hsz := Heap.size_push s.heap { cls := .type "list_iterator", data := .fields #[.ref l, .int 0 0] }
      have hm' : s.heap.objs.size + 1 ∈ [s.heap.objs.size, l] := by rw [← hsz]; exact hm
      rcases List.mem_cons.mp hm' with z' | z'
      · exact absurd z' (Nat.succ_ne_self _)
      · have z'' : s.heap.objs.size + 1 = l := by simpa using z'
        obtain ⟨o, n, e, _⟩ := pl
        have := Heap.lt_size e
        rw [← z''] at this
        exact absurd this (Nat.not_lt.mpr (Nat.le_succ _))
    · obtain ⟨o, n, e, c, dd, dt⟩ := pl
      exact ⟨o, Heap.get?_push_of_some _ (Heap.get?_push_of_some _ e), c, n, dt⟩
    · have I2 : Inv X pins σ H { s with heap := h', toks := tk } := I.kept (t' := tk) fun b o e => hk b o (by simp; exact Nat.ne_of_lt (Heap.lt_size e)) (Nat.ne_of_lt (Nat.lt_of_lt_of_le (Heap.lt_size e) (by rw [Heap.size_push]; exact Nat.le_succ _))) (Heap.get?_push_of_some _ (Heap.get?_push_of_some _ e))
      rcases hv with ⟨e1, e2⟩ | ⟨i, hv⟩
      · subst e1
        refine ⟨.int z, H, I2, ⟨t, rfl⟩, q z (.inl ⟨rfl, ?_⟩)⟩
        have e3 : its.length = 0 := by simpa using e2
        have := hi.length
        exact List.length_eq_zero_iff.mp (by omega)
      · obtain ⟨m, t', h1, e⟩ := ints_at hi i v (by simpa using hv)
        subst e
        exact ⟨.int m, H, I2, ⟨t', rfl⟩, q m (.inr (List.mem_of_getElem? h1))⟩
  cases hsig : Manifest.signature? "max" with
  | none => exact wpAny_pure body
  | some sig =>
    have ha' : Bind.checkArgs "max" sig ⟨[.ref l], [("default", .int z t)]⟩ = pure () := by simpa only [argsOk, hsig] using args_max_d (.ref l) (.int z t)
    simp only [ha']
    exact wpAny_pure body
/-- max(e, default=d) -/
theorem pe_maxD (hc : X.calm = true) (hg : Gl X "max") (hm : X.mg "max" = none) (ha : PA X [e] ta) (hk : PK X [⟨some "default", d, kpos⟩] tk)
    (h1 : backTo pos (starEach [e] X.env) = (false, eval e X.env) :: backTo pos (starEach [] X.env) := by rfl) (h2 : (backTo pos (starEach [e] X.env)).any (·.1) = false := by rfl) : PE X (.Call (.Name "max" p) [e] [⟨some "default", d, kpos⟩] pos) (tMaxD X.K ta tk) := by
  intro pins s σ H Q I h
  refine wpAny_Call_Name_kw (ld_blt I hg hm boot_max ?_)
  refine callWith_kw (thn (ha pos pins s σ H _ I h) fun us s1 ⟨vs, H1, I1, r1, q1⟩ => thn (hk pos pins s1 σ H1 _ I1 q1) fun ws s2 ⟨zs, H2, I2, rz, l, ns, z, e1, e2, hl, q⟩ => ?_) h1 h2
  subst e1 e2
  obtain ⟨u, rfl, ru⟩ := r1.one
  obtain ⟨v, rfl, rv⟩ := rz.one
  cases (show u = Value.ref l from ru)
  obtain ⟨t, rfl⟩ := (show ∃ t, v = Value.int z t from rv)
  exact max_run hc I2 hl q
end
end L2
/-! EXCEPTIONS OF OWN CLASSES over the hand layer: raised, passing through calls, caught. -/
namespace L2
open PySem PySem.Spec PyProof.Rows
/-! ### heaps behind an exception -/
theorem hide_ok {P : Program} {w : World} {H : Hp} {h : Heap} {as : List Addr} (ok : HOk P w H h) (hn : ∀ b ∈ as, H b = none) : HOk P w H (PySem.W.hideAll h as) := fun a o e =>
  (ok a o e).stay (fun b u hb q => PySem.W.hideAll_get _ q fun hm => by
    have n := hn b hm
    rcases hb with z | z
    · rw [z, e] at n; cases n
    · rw [z] at n; cases n) (fun _ q => q) fun _ _ q => q
theorem Un.fly {fs : List Addr} {H H' : Hp} {h h' h2 B : Heap} (u : Un fs [] H H' h h') (kb : ∀ b o, B.get? b = some o → h2.get? b = some o) (hb : ∀ b o, h.get? b = some o → H b = none → b ∉ fs → B.get? b = some o)
    (ht : ∀ b o, h.get? b = some o → b ∉ fs → ∃ o', B.get? b = some o') (hs : ∀ b o, b ∈ fs → h'.get? b = some o → ∃ sl, h2.get? b = some { o with slots := sl }) : Un fs [] H H' h h2 where
  keep := fun b o q n f _ => kb b o (hb b o q n f)
  slot := fun b o q n f x => by
    obtain ⟨sl, e⟩ := u.slot b o q n f x
    obtain ⟨sl', e'⟩ := hs b _ f e
    exact ⟨sl', e'⟩
  free := u.free
  there := fun b o q x => by
    by_cases f : b ∈ fs
    · obtain ⟨o', e⟩ := u.there b o q x
      obtain ⟨sl, e'⟩ := hs b o' f e
      exact ⟨_, e'⟩
    · obtain ⟨o', e⟩ := ht b o q f
      exact ⟨o', kb _ _ e⟩
  tups := u.tups
  frzs := u.frzs
  tbls := u.tbls
theorem Un.pass {fs fs' : List Addr} {H0 H H' : Hp} {h0 h h' : Heap} (u : Un fs [] H0 H h0 h) (v : Un fs' [] H H' h h') (hsub : ∀ b ∈ fs, b ∈ fs') (hnew : ∀ b o, h0.get? b = some o → b ∈ fs' → b ∈ fs) : Un fs [] H0 H' h0 h' where
  keep := fun b o q n f x => v.keep b o (u.keep b o q n f x) (u.free b o q n x) (fun z => f (hnew b o q z)) x
  slot := fun b o q n f x => by
    obtain ⟨sl, e⟩ := u.slot b o q n f x
    obtain ⟨sl', e'⟩ := v.slot b _ e (u.free b o q n x) (hsub b f) x
    exact ⟨sl', e'⟩
  free := fun b o q n x => by
    obtain ⟨sl, e⟩ := u.any q n x
    exact v.free b _ e (u.free b o q n x) x
  there := fun b o q x => by
    obtain ⟨o', e⟩ := u.there b o q x
    exact v.there b o' e x
  tups := fun b xs e => v.tups b xs (u.tups b xs e)
  frzs := fun b o w e => v.frzs b o w (u.frzs b o w e)
  tbls := fun b ps e => by
    obtain ⟨m1, e1⟩ := u.tbls b ps e
    obtain ⟨m2, e2⟩ := v.tbls b _ e1
    exact ⟨m1 ++ m2, by rw [← Array.append_assoc]; exact e2⟩
/-- an exception of the class at C in flight at x, behind a call: the frames above outer are left -/
structure FlyX (P : Program) (w : World) (outer : List Env) (H : Hp) (s : Shared) (x C : Addr) (H' : Hp) (s' : Shared) : Prop where
  os : s'.os = s.os
  bare : AllBare s'.gens
  un : Un (frs outer) [] H H' s.heap s'.heap
  fly : ∃ (B : Heap) (t : Addr), Heap.FlyingW B outer x (.ref C) (.ref t) s'.heap ∧ (∀ b o, s.heap.get? b = some o → H b = none → b ∉ frs outer → B.get? b = some o) ∧ (∀ b o, s.heap.get? b = some o → b ∉ frs outer → ∃ o', B.get? b = some o') ∧ HOk P w H' B
def CXE (P : Program) (w : World) : CXT := fun outer H s E e s' => ∃ (x C : Addr) (H' : Hp), e = .ref x ∧ FlyX P w outer H s x C H' s' ∧ E (.ref C) none H'
/-- a def's context: the frame on top is its own -/
structure Own (X : Cx) : Prop where
  stk : X.stack = X.env :: X.outer
  fr : X.env.frame = some X.env.locals
  ex : X.ex = []
section
variable {X : Cx} {pins : List (Addr × Obj)} {σ : St} {H H' : Hp} {s s' : Shared} {x C : Addr} {Q : Unit → Shared → Prop} {E : Value → Shared → Prop}
theorem Own.frs (O : Own X) : frs X.stack = X.env.locals :: frs X.outer := by
  rw [O.stk]
  show (X.env :: X.outer).filterMap (·.frame) = _
  rw [List.filterMap_cons, O.fr]
  rfl
theorem Own.out (O : Own X) (I : Inv X pins σ H s) : ∀ b o, X.s₀.heap.get? b = some o → b ∈ L2.frs X.stack → b ∈ L2.frs X.outer := fun b o e hb => by
  rw [O.frs] at hb
  rcases List.mem_cons.mp hb with z | z
  · exact absurd (Nat.lt_of_lt_of_le (Heap.lt_size e) (by rw [z]; exact I.ok.above)) (Nat.lt_irrefl _)
  · exact z
theorem leave_made {h' : Heap} {vs : List Value} (O : Own X) (I : Inv X pins σ H s) (m : Heap.MadeExcOf s.heap h' x (.ref C) vs)
    (q : ∀ h'', FlyX X.prog X.w X.outer X.H₀ X.s₀ x C H { s with heap := h'' } → Q () { s with heap := h'' }) : wpAny (model X.prog X.w) X.A (leaving X.env (.ref x)) Q E { s with heap := h' } := by
  have st := I.stack
  have st' : s.heap.FunFrames X.base (X.env :: X.outer) := by rw [← O.stk]; exact st
  have un0 : Un (frs X.outer) [] X.H₀ H X.s₀.heap s.heap := by have := I.base; rw [O.ex] at this; exact this
  have hin : ∀ env ∈ X.env :: X.outer, ∀ a, env.frame = some a → a ∈ frs X.stack := fun env he a ha => by rw [O.stk]; exact List.mem_filterMap.mpr ⟨env, he, ha⟩
  refine wpAny_leaves_madeW (base := PySem.W.hideAll s.heap (frs X.stack)) (h := s.heap) (by rw [I.ok.frames, O.stk]) O.fr (fun b o e => PySem.W.of_hideAll _ e) (PySem.W.funFrames_hide st' hin) m fun h'' t x1 x2 x3 x4 => q h'' ?_
  have hb : ∀ b o, X.s₀.heap.get? b = some o → X.H₀ b = none → b ∉ frs X.outer → (PySem.W.hideAll s.heap (frs X.stack)).get? b = some o := fun b o e n f => PySem.W.hideAll_get _ (un0.keep b o e n f (by simp)) fun z => f (O.out I b o e z)
  have ht : ∀ b o, X.s₀.heap.get? b = some o → b ∉ frs X.outer → ∃ o', (PySem.W.hideAll s.heap (frs X.stack)).get? b = some o' := fun b o e f => by
    obtain ⟨o', e'⟩ := un0.there b o e (by simp)
    exact ⟨o', PySem.W.hideAll_get _ e' fun z => f (O.out I b o e z)⟩
  refine ⟨I.os, I.bare, un0.fly (B := PySem.W.hideAll s.heap (frs X.stack)) (fun b o e => x1.1 b o e) hb ht (fun b o hm e => ?_), _, t, x1, hb, ht, hide_ok I.hok I.stkFree⟩
  obtain ⟨_, o', e', nf⟩ := st.mem (b := b) (by rw [O.stk]; show b ∈ L2.frs _; rw [← O.stk, O.frs]; exact List.mem_cons_of_mem _ hm)
  rw [e] at e'
  cases e'
  exact x4 b o (m.keeps b o e) nf
theorem leave_on (O : Own X) (I : Inv X pins σ H s) (F : FlyX X.prog X.w X.stack H s x C H' s')
    (q : ∀ h'', FlyX X.prog X.w X.outer X.H₀ X.s₀ x C H' { s' with heap := h'' } → Q () { s' with heap := h'' }) : wpAny (model X.prog X.w) X.A (leaving X.env (.ref x)) Q E s' := by
  have un0 : Un (frs X.outer) [] X.H₀ H X.s₀.heap s.heap := by have := I.base; rw [O.ex] at this; exact this
  obtain ⟨B, t, fl, hb, ht, hok⟩ := F.fly
  have fl' : Heap.FlyingW B (X.env :: X.outer) x (.ref C) (.ref t) s'.heap := by rw [← O.stk]; exact fl
  refine wpAny_leaves_onW (by rw [I.ok.frames, O.stk]) O.fr fl' fun h'' x1 x2 => q h'' ?_
  have un1 : Un (frs X.outer) [] X.H₀ H' X.s₀.heap s'.heap := un0.pass F.un (fun b hm => by rw [O.frs]; exact List.mem_cons_of_mem _ hm) (O.out I)
  have hb' : ∀ b o, X.s₀.heap.get? b = some o → X.H₀ b = none → b ∉ frs X.outer → B.get? b = some o := fun b o e n f => hb b o (un0.keep b o e n f (by simp)) (un0.free b o e n (by simp)) fun z => f (O.out I b o e z)
  have ht' : ∀ b o, X.s₀.heap.get? b = some o → b ∉ frs X.outer → ∃ o', B.get? b = some o' := fun b o e f => by
    obtain ⟨o', e'⟩ := un0.there b o e (by simp)
    exact ht b o' e' fun z => f (O.out I b o e z)
  refine ⟨F.os.trans I.os, F.bare, un1.fly (B := B) (fun b o e => x1.1 b o e) hb' ht' (fun b o hm e => ?_), B, t, x1, hb', ht', hok⟩
  obtain ⟨_, o', e', nf⟩ := fl.2.2.1.mem (b := b) (by show b ∈ L2.frs _; rw [O.frs]; exact List.mem_cons_of_mem _ hm)
  rw [e] at e'
  cases e'
  exact x2 b o e nf
end
/-- a def's context, as cxOf makes it -/
theorem own_cx {CX : CXT} {P : Program} {w : World} {K : PySem.W.Frag} {mg : Str → Option Value} {base : Heap} {N : List Str} {qual : Str} {scope : Scope} {f : Addr} {cd : Value} {A : Around} {outer : List Env} {s : Shared} {H : Hp} {E : XK} :
    Own (cxOf CX P w K mg base N qual scope f cd A outer s H E) := ⟨rfl, rfl, rfl⟩
/-- a callee's exception passes on -/
theorem passE {P : Program} {w : World} {K : PySem.W.Frag} {mg : Str → Option Value} {base : Heap} {N : List Str} {qual : Str} {scope : Scope} {f : Addr} {cd : Value} {A : Around} {outer : List Env} {s : Shared} {H : Hp} {E : XK} :
    Passes (CXE P w) (cxOf (CXE P w) P w K mg base N qual scope f cd A outer s H E) E := fun pins σ H1 s1 e s' I h => by
  obtain ⟨x, C, H', rfl, F, q⟩ := h
  exact leave_on own_cx I F fun h'' F' => ⟨x, C, H', rfl, F', q⟩
end L2
namespace L2
open PySem PySem.Spec PyProof.Rows
/-! ### texts with fields -/
abbrev TJ := St → Hp → Str → (Str → Hp → Prop) → Prop
def PJ (X : Cx) (es : List Expr) (t : TJ) : Prop :=
  ∀ (pins : List (Addr × Obj)) (s : Shared) (σ : St) (H : Hp) (acc : Str) (Q : Str → Hp → Prop), Inv X pins σ H s → t σ H acc Q → wpAny (model X.prog X.w) X.A (joinParts acc (evalEach es X.env)) (fun v s' => ∃ y tk H', v = .str y tk ∧ Inv X pins σ H' s' ∧ Q y H') X.xe s
def tJnil : TJ := fun _ H acc Q => acc.length ≤ sizeLine ∧ Q acc H
def tJcons (te : TE) (t : TJ) : TJ := fun σ H acc Q => te σ H fun v H1 => ∃ y, v = .str y ∧ (acc ++ y).length ≤ sizeLine ∧ t σ H1 (acc ++ y) Q
def tFmt (te : TE) : TE := fun σ H Q => te σ H fun v H1 => (∃ i, v = .int i ∧ i.natAbs.log2 < 1920 ∧ Q (.str (toString i)) H1) ∨ (∃ x, v = .str x ∧ x.length ≤ sizeLine ∧ Q (.str x) H1)
section
variable {X : Cx} {e : Expr} {es : List Expr} {te : TE} {t : TJ} {pos : Pos}
theorem pj_nil : PJ X [] tJnil := fun pins s σ H acc Q I h => joinParts_nil ⟨acc, _, H, rfl, I.tok _, h.2⟩ h.1
theorem pj_cons (he : PE X e te) (hr : PJ X es t) (hs : evalEach (e :: es) X.env = eval e X.env :: evalEach es X.env := by rfl) : PJ X (e :: es) (tJcons te t) := by
  intro pins s σ H acc Q I h
  rw [hs]
  refine joinParts_cons (thn (he pins s σ H _ I h) fun u s1 ⟨v, H1, I1, r, y, ev, hz, q⟩ => ?_)
  subst ev
  obtain ⟨tk, rfl⟩ := (show ∃ tk, u = Value.str y tk from r)
  exact ⟨hz, hr pins s1 σ H1 _ Q I1 q⟩
theorem pe_fmt (he : PE X e te) : PE X (.FormattedValue e (-1) none pos) (tFmt te) := by
  intro pins s σ H Q I h
  refine FormattedValue_plain (thn (he pins s σ H _ I h) fun u s1 ⟨v, H1, I1, r, q⟩ => ?_)
  rcases q with ⟨i, ev, hl, q⟩ | ⟨x, ev, hz, q⟩
  · subst ev
    obtain ⟨tk, rfl⟩ := (show ∃ tk, u = Value.int i tk from r)
    exact PySem.wpAny_formatField_int hl ⟨.str _, H1, I1.tok _, ⟨_, rfl⟩, q⟩
  · subst ev
    obtain ⟨tk, rfl⟩ := (show ∃ tk, u = Value.str x tk from r)
    exact formatField_str (fun t' tk' => ⟨.str x, H1, I1.tok _, ⟨_, rfl⟩, q⟩) hz
def tJoin (t : TJ) : TE := fun σ H Q => t σ H Str.empty fun y H' => Q (.str y) H'
theorem pe_join {e1 e2 : Expr} {rest : List Expr} (h : PJ X (e1 :: e2 :: rest) t) : PE X (.JoinedStr (e1 :: e2 :: rest) pos) (tJoin t) := by
  intro pins s σ H Q I q
  rw [PySem.arm_eval_JoinedStr]
  show wpAny _ _ (joinParts Str.empty (evalEach (e1 :: e2 :: rest) X.env)) _ _ s
  exact thn (h pins s σ H _ _ I q) fun v s' ⟨y, tk, H', ev, I', q'⟩ => ⟨.str y, H', I', ⟨tk, ev⟩, q'⟩
end
/-! ### the classes -/
theorem top_of {K : PySem.W.Frag} {mg : Str → Option Value} {base : Heap} (p : Program) (M : Mod K mg base) : ∃ loose mb, PySem.W.TopRead p loose mg mb base := by
  obtain ⟨mb, hb, hbb⟩ := M.blt
  obtain ⟨o, es, ep, ho, hd, hk, hm⟩ := id M.glob
  refine ⟨es.toList.filterMap fun e => match e.key with | .str n _ => some n | _ => none, mb, M.glob, hb, M.nolimit, hbb, fun x _ hx _ _ _ => ?_⟩
  rw [← hm x]
  unfold nsFind findBy
  cases q : es.find? (fun e => e.key.isStr x) with
  | none => rfl
  | some en =>
    exfalso
    have h1 := Array.find?_some q
    have h2 := Array.mem_of_find?_eq_some q
    obtain ⟨n, t, hkey⟩ := hk en h2
    have e : n = x := by
      rw [hkey] at h1
      simpa [Value.isStr] using h1
    apply hx
    rw [List.mem_filterMap]
    exact ⟨en, by simpa using h2, by rw [hkey, e]⟩
def bmV : List Value := [.type "ValueError", .type "Exception", .type "BaseException", .type "object"]
/-- an own error class under ValueError -/
structure XCls (K : PySem.W.Frag) (x : Str) (C : Addr) : Prop where
  at_ : PySem.W.nsIn K mainGlobals x = some (some (.ref C))
  exc : PySem.W.excIn K C bmV "ValueError.__new__" = true
theorem XCls.own {K : PySem.W.Frag} {x : Str} {C : Addr} {mg : Str → Option Value} {base : Heap} (Z : XCls K x C) (M : Mod K mg base) : OwnCls x C bmV "ValueError.__new__" mg base := by
  obtain ⟨loose, mb, T⟩ := top_of default M
  exact PySem.W.own_of_in M.kin T Z.at_ Z.exc
/-! ### raise -/
def RaiseOk (X : Cx) (E : XK) : Prop := ∀ (pins : List (Addr × Obj)) (σ : St) (H : Hp) (s : Shared) (x C : Addr) (h' : Heap) (vs : List Value), Inv X pins σ H s → Heap.MadeExcOf s.heap h' x (.ref C) vs → E (.ref C) none H → X.xe (.ref x) { s with heap := h' }
theorem raiseE {P : Program} {w : World} {K : PySem.W.Frag} {mg : Str → Option Value} {base : Heap} {N : List Str} {qual : Str} {scope : Scope} {f : Addr} {cd : Value} {A : Around} {outer : List Env} {s : Shared} {H : Hp} {E : XK} :
    RaiseOk (cxOf (CXE P w) P w K mg base N qual scope f cd A outer s H E) E := fun pins σ H1 s1 x C h' vs I m q =>
  leave_made own_cx I m fun h'' F => ⟨x, C, H1, rfl, F, q⟩
def tRaise (C : Addr) (E : XK) (t : TA) : TS := fun _ σ H => t σ H fun vs H1 => vs.length ≤ sizeLine ∧ E (.ref C) none H1
theorem ps_raise {X : Cx} {E : XK} {C : Addr} {x : Str} {e : Expr} {es : List Expr} {t : TA} {np cpos pos : Pos} (R : RaiseOk X E) (hc : X.calm = true) (Z : XCls X.K x C) (hm : X.mg x = some (.ref C)) (hg : Gl X x) (ha : PA X (e :: es) t)
    (hdb : (x == ("__debug__" : Str)) = false := by decide) (he : starEach (e :: es) X.env = (false, eval e X.env) :: starEach es X.env := by rfl) (hpl : (backTo cpos (starEach es X.env)).any (·.1) = false := by rfl) :
    PS X (.Raise (some (.Call (.Name x np) (e :: es) [] cpos)) none pos) (tRaise C E t) := by
  intro pins s σ H D I h
  obtain ⟨tl, N, nm, qn, bs, hdct, sn, sub, ab, col, dd, k0, k1, k2, k3, k5, mN, hC, hN, hni, T⟩ := (Z.own I.mod).obj
  have pl : (backTo cpos (starEach (e :: es) X.env)).any (·.1) = false := by
    rw [he]
    show (false || (backTo cpos (starEach es X.env)).any (·.1)) = false
    rw [hpl]
    rfl
  have hb : tl.contains (.type "BaseException") = true := T.hasType F.excBase_ValueError.hasBase
  refine wpAny_Raise_call_subT (newId := "ValueError.__new__") (N := N) (nm := nm) (q := qn) (bs := bs) (hdct := hdct) (sn := sn) (sub := sub) (ab := ab) (col := col) (dd := dd) (k0 := k0) (k1 := k1) (k2 := k2) (k3 := k3) (k5 := k5) F.excBase_ValueError hb (I.ok.hd hc) pl hni (ld_glob I hg hm ⟨rfl, ?_⟩ hdb)
  have h1 := ha cpos pins s σ H _ I h
  rw [he] at h1 ⊢
  refine Calls.evalArgs_plain (thn h1 fun us s1 ⟨vs, H1, I1, rv, hz, q⟩ => ?_)
  exact ⟨rfl, by rw [← rv.length]; exact hz, I1.bk _ _ hC, hN.keeps I1.bk, T.keeps I1.bk, fun h' x' m => R pins σ H1 s1 x' C h' us I1 m q⟩
end L2
namespace L2
open PySem PySem.Spec PyProof.Rows
end L2
namespace L2
open PySem PySem.Spec PyProof.Rows
section
variable {X : Cx} {pins : List (Addr × Obj)} {σ : St} {H : Hp} {s : Shared}
/-- a suite's context: an exception is being handled -/
def Cx.held (X : Cx) (x : Addr) : Cx := { X with A := X.A.mark (some (.ref x)), calm := false, xe := fun _ _ => False }
theorem Inv.held (I : Inv X pins σ H s) (x : Addr) : Inv (X.held x) pins σ H s :=
  ⟨⟨I.ok.mod, I.ok.kind, I.ok.glob, I.ok.blt, I.ok.above, I.ok.inj, I.ok.has, I.ok.cab, fun z => absurd (show false = true from z) (by decide), I.ok.frames, I.ok.stk, I.ok.exf, I.ok.bs, I.ok.bsz, I.ok.noex, I.ok.exfs, I.ok.funs, I.ok.frf⟩, I.os, I.bare, I.base, I.loc, I.cell, I.free, I.freeC, I.pin, I.hok, I.len⟩
end
end L2
namespace L2
open PySem PySem.Spec PyProof.Rows
theorem ObjOk.there {P : Program} {w : World} {H : Hp} {h : Heap} {a : Addr} {o : HO} (x : ObjOk P w H h a o) : ∃ u, h.get? a = some u := by
  cases o with
  | lst xs => obtain ⟨_, _, _, _, e⟩ := x; exact ⟨_, e⟩
  | tup xs => obtain ⟨_, _, _, u, e, _⟩ := x; exact ⟨u, e⟩
  | dK kvs => obtain ⟨_, _, _, _, u, _, _, e, _⟩ := x; exact ⟨u, e⟩
  | dT kvs => obtain ⟨_, _, _, _, u, _, _, e, _⟩ := x; exact ⟨u, e⟩
  | set S n => obtain ⟨u, _, _, _, e, _⟩ := x; exact ⟨u, e⟩
  | ins C dx fs => obtain ⟨_, _, _, e, _⟩ := x; exact ⟨_, e⟩
  | own y => exact x
  | xd fs => obtain ⟨_, ⟨u, _, _, e, _⟩, _⟩ := x; exact ⟨u, e⟩
  | rng lo hi => obtain ⟨_, _, _, e⟩ := x; exact ⟨_, e⟩
  | frz ob u => obtain ⟨e, _⟩ := x; exact ⟨_, e⟩
  | tbl ps => exact ⟨_, x⟩
  | met f y => exact ⟨_, x⟩
  | ext φ => obtain ⟨_, z, _⟩ := x; exact z
section
variable {X : Cx} {pins : List (Addr × Obj)} {σ : St} {H H' : Hp} {s s' : Shared} {x C : Addr}
end
end L2
namespace L2
open PySem PySem.Spec PyProof.Rows PySem.W Builtin Builtin.ObjectAttr Builtin.Getset_descriptor
section
variable {prog : Program} {w : World} {A : Around} {K : PySem.W.Frag} {x C : Addr} {o : Obj}
end
section
variable {X : Cx}
end
end L2
namespace L2
open PySem PySem.Spec PyProof.Rows
/-! ### defs that may raise -/
section
variable {P : Program} {w : World} {K : PySem.W.Frag} {mg : Str → Option Value} {base : Heap}
theorem Fun.okE {x qual : Str} {st : Stmt} {f : Addr} {fd : FuncData} {N ps : List Str} {k : Nat} {sp : Sp} (F : Fun K x qual st f fd) (S : FnScope N ps (defScope st)) (len : ∀ vs H Q E, sp vs H Q E → vs.length = ps.length)
    (hbody : ∀ (cdv : Value) (A : Around) (outer : List Env) (s : Shared) (H : Hp) (vs : List V) (Q : VK) (E : XK), Room k (A.deeper (envOfC qual (defScope st) s.heap.objs.size f cdv)) → sp vs H Q E →
      ∃ t, PSs (cxOf (CXE P w) P w K mg base N qual (defScope st) f cdv A outer s H E) (defBody st) t ∧ t { nx := fun _ H' => Q .non H', rt := Q } (start N vs) H) : FnOk P w K mg base (CXE P w) (k + 1) f fd ps sp := by
  obtain ⟨oc, od, kV, doc, pm, an, cdv, ct, osl, rfl, lk, hcd⟩ := F.ex
  exact fn_of lk hcd S len fun A outer s H vs Q E hr hsp => hbody cdv A outer s H vs Q E hr hsp
/-- a weaker promise of a def -/
theorem Def.imp {CX : CXT} {x : Str} {ps : List Str} {k : Nat} {sp sp' : Sp} (D : Def P w K mg base CX x ps k sp) (h : ∀ vs H Q E, sp' vs H Q E → sp vs H Q E) : Def P w K mg base CX x ps k sp' := by
  obtain ⟨f, fd, F, r⟩ := D.ex
  exact ⟨f, fd, F.imp h, r⟩
end
theorem PS.nox {X : Cx} {st : Stmt} {t : TS} (h : PS X.nox st t) : PS X st t := fun pins s σ H D I hw =>
  wpAny_mono (h pins s σ H D (I.wish _) hw) (fun _ _ q => q.unwish) fun _ _ z => False.elim z
theorem PA.nox {X : Cx} {es : List Expr} {t : TA} (h : PA X.nox es t) : PA X es t := fun pos pins s σ H Q I hw =>
  wpAny_mono (h pos pins s σ H Q (I.wish _) hw) (fun _ _ ⟨v, H', I', r, q⟩ => ⟨v, H', I'.unwish, r, q⟩) fun _ _ z => False.elim z
/-! ### defs called within a suite -/
structure Room0 (k : Nat) (A : Around) : Prop where
  dp : A.depth + 3 * k + 5 < recursionLimit
  un : A.units + 16 * k + 200 < cLine
theorem Room.r0 {k : Nat} {A : Around} (r : Room k A) : Room0 k A := ⟨r.dp, r.un⟩
theorem Room.mark {k : Nat} {A : Around} {v : Option Value} (r : Room k A) : Room0 k (A.mark v) := ⟨r.dp, r.un⟩
theorem Room0.mono {j k : Nat} {A : Around} (r : Room0 k A) (h : j ≤ k) : Room0 j A := ⟨by have := r.dp; omega, by have := r.un; omega⟩
structure FnC (P : Program) (w : World) (K : PySem.W.Frag) (mg : Str → Option Value) (base : Heap) (k : Nat) (f : Addr) (fd : FuncData) (ps : List Str) (sp : Sp) : Prop where
  len : ∀ vs H Q E, sp vs H Q E → vs.length = ps.length
  run : ∀ (A : Around) (outer : List Env) (s : Shared) (H : Hp) (args : Args) (us : List Value) (vs : List V) (Q : VK), Room0 k A → Env0 P w K mg base A outer s H → BindsTo s fd args (ps.zip us) → Vals vs us → sp vs H Q E0 →
    codeAny (model P w) A (.call (.ref f) args) (CR CX0 outer P w H s Q E0) s
section
variable {P : Program} {w : World} {K : PySem.W.Frag} {mg : Str → Option Value} {base : Heap}
end
structure DefC (P : Program) (w : World) (K : PySem.W.Frag) (mg : Str → Option Value) (base : Heap) (x : Str) (ps : List Str) (k : Nat) (sp : Sp) : Prop where
  ex : ∃ (f : Addr) (fd : FuncData), FnC P w K mg base k f fd ps sp ∧ Binds K fd ps [] ∧ PySem.W.keepIn K (.ref f) = true ∧ mg x = some (.ref f)
theorem DefC.mono {P : Program} {w : World} {K : PySem.W.Frag} {mg : Str → Option Value} {base : Heap} {x : Str} {ps : List Str} {j k : Nat} {sp : Sp} (D : DefC P w K mg base x ps j sp) (h : j ≤ k) : DefC P w K mg base x ps k sp := by
  obtain ⟨f, fd, F, r⟩ := D.ex
  exact ⟨f, fd, ⟨F.len, fun A outer s H args us vs Q hr => F.run A outer s H args us vs Q (hr.mono h)⟩, r⟩
end L2
namespace Rg
open PySem
/-! THE TABLE OF A SET THAT ONLY GROWS: its places rise, nothing was taken out. -/
theorem below_go {xs : Array Nat} {j : Nat} (hs : xs.toList.Pairwise (· < ·)) : ∀ (fuel lo hi : Nat), lo ≤ hi → hi ≤ xs.size → hi - lo ≤ fuel → (∀ i, i < lo → xs.getD i 0 < j) → (∀ i, hi ≤ i → i < xs.size → j ≤ xs.getD i 0) →
    (∀ i, i < SetTable.below.go xs j fuel lo hi → xs.getD i 0 < j) ∧ (∀ i, SetTable.below.go xs j fuel lo hi ≤ i → i < xs.size → j ≤ xs.getD i 0) ∧ SetTable.below.go xs j fuel lo hi ≤ xs.size
  | 0, lo, hi, h1, h2, h3, h4, h5 => by
    have e : lo = hi := by omega
    subst e
    exact ⟨h4, h5, h2⟩
  | fuel + 1, lo, hi, h1, h2, h3, h4, h5 => by
    unfold SetTable.below.go
    by_cases hlt : lo < hi
    · rw [if_pos hlt]
      have hm : (lo + hi) / 2 < xs.size := by omega
      have eD : xs.getD ((lo + hi) / 2) j = xs.getD ((lo + hi) / 2) 0 := by simp [Array.getD, hm]
      have mono : ∀ a b, a ≤ b → b < xs.size → xs.getD a 0 ≤ xs.getD b 0 := fun a b hab hb => by
        rcases Nat.lt_or_eq_of_le hab with z | z
        · have := List.pairwise_iff_getElem.mp hs a b (by simp; omega) (by simpa using hb) z
          simp [Array.getD, hb, show a < xs.size by omega] at this ⊢
          omega
        · subst z; exact Nat.le_refl _
      dsimp only
      rw [eD]
      by_cases hc : xs.getD ((lo + hi) / 2) 0 < j
      · rw [if_pos hc]
        refine below_go hs fuel ((lo + hi) / 2 + 1) hi (by omega) h2 (by omega) (fun i hi' => ?_) h5
        exact Nat.lt_of_le_of_lt (mono i ((lo + hi) / 2) (by omega) hm) hc
      · rw [if_neg hc]
        refine below_go hs fuel lo ((lo + hi) / 2) (by omega) (by omega) (by omega) h4 (fun i hi' hs' => ?_)
        have := mono ((lo + hi) / 2) i hi' hs'
        omega
    · rw [if_neg hlt]
      have e : lo = hi := by omega
      subst e
      exact ⟨h4, h5, h2⟩
theorem below_spec {xs : Array Nat} (j : Nat) (hs : xs.toList.Pairwise (· < ·)) : (∀ i, i < SetTable.below xs j → xs.getD i 0 < j) ∧ (∀ i, SetTable.below xs j ≤ i → i < xs.size → j ≤ xs.getD i 0) ∧ SetTable.below xs j ≤ xs.size :=
  below_go hs xs.size 0 xs.size (Nat.zero_le _) (Nat.le_refl _) (by omega) (fun i hi => absurd hi (Nat.not_lt_zero _)) (fun i h1 h2 => absurd h1 (by omega))
/-- what is kept of the table -/
structure Tb (led : Bool) (t : SetTable) : Prop where
  dum : t.dummies = #[]
  up : t.place.toList.Pairwise (· < ·)
  led : t.led = led
theorem Tb.fresh (led : Bool) (f m : Nat) : Tb led (.fresh f m led) := ⟨rfl, List.Pairwise.nil, rfl⟩
theorem Tb.plain {led : Bool} {t : SetTable} (h : Tb led t) (b : Bool) : Tb led { t with plain := b } := ⟨h.dum, h.up, h.led⟩
theorem has_nil (j : Nat) : SetTable.has #[] j = false := by rfl
theorem slot_empty {t : SetTable} {j : Nat} (h : t.slot j = .empty) : t.place[SetTable.below t.place j]? ≠ some j := fun e => by
  unfold SetTable.slot at h
  dsimp only at h
  rw [if_pos (by rw [e]; exact beq_self_eq_true _)] at h
  cases h
theorem insert_up {xs : Array Nat} {j : Nat} (hs : xs.toList.Pairwise (· < ·)) (hn : xs[SetTable.below xs j]? ≠ some j) : (SetTable.insertAt xs (SetTable.below xs j) j).toList.Pairwise (· < ·) := by
  obtain ⟨b1, b2, b3⟩ := below_spec j hs
  generalize SetTable.below xs j = p at *
  have e : (SetTable.insertAt xs p j).toList = xs.toList.take p ++ j :: xs.toList.drop p := by
    unfold SetTable.insertAt
    simp [Array.toList_extract, List.extract]
    exact List.take_of_length_le (by simp)
  rw [e, List.pairwise_append, List.pairwise_cons]
  have g : ∀ i (hi : i < xs.size), xs.toList[i]'(by simpa using hi) = xs.getD i 0 := fun i hi => by simp [Array.getD, hi]
  refine ⟨hs.sublist (List.take_sublist _ _), ⟨fun x hx => ?_, hs.sublist (List.drop_sublist _ _)⟩, fun x hx y hy => ?_⟩
  · obtain ⟨i, hi, rfl⟩ := List.mem_iff_getElem.mp hx
    rw [List.getElem_drop, g (p + i) (by simp at hi; omega)]
    have hi' : p + i < xs.size := by simp at hi; omega
    have h1 := b2 (p + i) (by omega) hi'
    have h2 : j ≤ xs.getD p 0 := b2 p (Nat.le_refl _) (by omega)
    have h3 : xs.getD p 0 ≠ j := fun z => hn (by rw [← z]; simp [Array.getD, show p < xs.size by omega])
    rcases Nat.eq_zero_or_pos i with z | z
    · subst z; rw [Nat.add_zero] at h1 ⊢; omega
    · have := List.pairwise_iff_getElem.mp hs p (p + i) (by simp; omega) (by simpa using hi') (by omega)
      rw [g _ hi', g p (by omega)] at this
      omega
  · have hxj : x < j := by
      obtain ⟨i, hi, rfl⟩ := List.mem_iff_getElem.mp hx
      have hi' : i < p ∧ i < xs.size := by simp at hi; omega
      rw [List.getElem_take, g i hi'.2]
      exact b1 i hi'.1
    rcases List.mem_cons.mp hy with z | z
    · omega
    · obtain ⟨i, hi, rfl⟩ := List.mem_iff_getElem.mp z
      have hi' : p + i < xs.size := by simp at hi; omega
      rw [List.getElem_drop, g (p + i) hi']
      have := b2 (p + i) (by omega) hi'
      omega
theorem Tb.put {led : Bool} {t : SetTable} (h : Tb led t) {j : Nat} (he : t.slot j = .empty) : Tb led (t.put j).1 := by
  refine ⟨?_, insert_up h.up (slot_empty he), h.led⟩
  show (if SetTable.has t.dummies j = true then _ else t.dummies) = #[]
  rw [h.dum, has_nil]
  rfl
end Rg
namespace Rg
open PySem PyProof.Rows
/-- are the sets of this world walked by the text's order -/
def byText (w : World) : Bool := w.params.followText "set-order"
/-- a set of ints that only grew, with its table -/
structure SetT (w : World) (h : Heap) (a : Addr) (vals : List Int) (es : Array (Int × Value)) (ep : Nat) (t : SetTable) : Prop where
  get : h.get? a = some { cls := .type "set", dict := none, data := .set es ep t }
  els : ∀ e ∈ es.toList, ∃ k tk, e = (hashInt k, Value.int k tk)
  pm : (es.toList.map fun e => numOf e.2).Perm vals
  few : es.size < scanBound
  fits : t.fits es.size = true
  tb : Tb (!byText w) t
section
variable {prog : Program} {w : World} {A : Around} {E : Value → Shared → Prop} {s : Shared} {a : Addr} {vals : List Int} {es : Array (Int × Value)} {ep : Nat} {t : SetTable}
theorem SetT.at {h h' : Heap} (T : SetT w h a vals es ep t) (k : ∀ o, h.get? a = some o → h'.get? a = some o) : SetT w h' a vals es ep t := ⟨k _ T.get, T.els, T.pm, T.few, T.fits, T.tb⟩
theorem SetT.mem {h : Heap} (T : SetT w h a vals es ep t) (k : Int) : k ∈ vals ↔ ∃ e ∈ es.toList, (intKind prog w).is k e.2 = true := by
  rw [← T.pm.mem_iff, List.mem_map]
  constructor
  · rintro ⟨e, he, q⟩
    obtain ⟨k', tk, rfl⟩ := T.els e he
    have : k' = k := q
    subst this
    exact ⟨_, he, by simp [intKind, Value.isInt]⟩
  · rintro ⟨e, he, q⟩
    obtain ⟨k', tk, rfl⟩ := T.els e he
    refine ⟨_, he, ?_⟩
    have q' : (k' == k) = true := by simpa [intKind, Value.isInt] using q
    exact eq_of_beq q'
theorem SetT.size {h : Heap} (T : SetT w h a vals es ep t) : es.size = vals.length := by
  have := T.pm.length_eq
  simpa using this
/-- what a store makes -/
theorem SetT.store {h : Heap} (T : SetT w h a vals es ep t) {vals' : List Int} {es' : Array (Int × Value)} {t' : SetTable} (e1 : ∀ e ∈ es'.toList, ∃ k tk, e = (hashInt k, Value.int k tk)) (e2 : (es'.toList.map fun e => numOf e.2).Perm vals') (e3 : es'.size < scanBound) (e4 : t'.fits es'.size = true) (e5 : Tb (!byText w) t') :
    SetT w (h.update a (Obj.putSet es' t')) a vals' es' (ep + 1) t' := by
  refine ⟨?_, e1, e2, e3, e4, e5⟩
  have := Heap.get?_update_self (Obj.putSet es' t') T.get (by rfl)
  exact this
end
section
variable {prog : Program} {w : World} {A : Around} {R : Result → Shared → Prop} {I : Addr} {fp wr : List Addr} {n : Nat} {P : Nat → Value → Prop} {St : Nat → Heap → Prop}
end
end Rg
set_option maxHeartbeats 8000000
namespace Rg
open PySem PyProof.Rows
section
variable {prog : Program} {w : World} {A : Around} {E : Value → Shared → Prop} {s : Shared}
end
end Rg
set_option maxHeartbeats 8000000
namespace Rg
open PySem PyProof.Rows
section
variable {M : Model} {A : Around} {E : Value → Shared → Prop} {s : Shared}
end
end Rg
set_option maxHeartbeats 8000000
namespace Rg
open PySem PyProof.Rows
section
variable {prog : Program} {w : World} {A : Around} {E : Value → Shared → Prop} {s : Shared} {I S : Addr} {vals : List Int} {es : Array (Int × Value)} {ep : Nat} {t : SetTable}
end
end Rg
set_option maxHeartbeats 8000000
namespace Rg
open PySem PyProof.Rows
section
variable {prog : Program} {w : World} {A : Around} {E : Value → Shared → Prop} {s : Shared} {I S Tp : Addr} {vals : List Int} {es : Array (Int × Value)} {ep : Nat} {t : SetTable}
end
end Rg
set_option maxHeartbeats 8000000
namespace Rg
open PySem PyProof.Rows
section
variable {prog : Program} {w : World} {A : Around} {E : Value → Shared → Prop} {s : Shared} {S : Addr} {vals : List Int} {es : Array (Int × Value)} {ep : Nat} {t : SetTable}
end
end Rg
set_option maxHeartbeats 8000000
namespace Rg
open PySem PyProof.Rows
section
variable {prog : Program} {w : World} {A : Around} {E : Value → Shared → Prop} {s : Shared} {S : Addr} {vals : List Int} {es : Array (Int × Value)} {ep : Nat} {t : SetTable}
end
end Rg
namespace L2
open PySem PySem.Spec PyProof.Rows
section
variable {X : Cx}
end
end L2
namespace Rg
open PySem
section
variable {prog : Program} {w : World} {A : Around} {E : Value → Shared → Prop} {s : Shared} {I l S : Addr} {items : Array Value}
end
end Rg
namespace L2
open PySem PySem.Spec PyProof.Rows
section
variable {X : Cx}
end
end L2
namespace Rg
/-! ### rising lists -/
theorem rise_of_adj : ∀ {l : List Int}, (∀ i, i + 1 < l.length → l.getD i 0 < l.getD (i + 1) 0) → l.Pairwise (· < ·)
  | [], _ => .nil
  | [a], _ => List.pairwise_singleton _ _
  | a :: b :: r, h => by
    have ih : (b :: r).Pairwise (· < ·) := rise_of_adj fun i hi => by
      have := h (i + 1) (by simp at hi ⊢; omega)
      simpa using this
    have h0 : a < b := by
      have := h 0 (by simp)
      simpa using this
    refine List.pairwise_cons.mpr ⟨fun x hx => ?_, ih⟩
    rcases List.mem_cons.mp hx with z | z
    · omega
    · have := (List.pairwise_cons.mp ih).1 x z
      omega
theorem adj_of_rise {l : List Int} (h : l.Pairwise (· < ·)) (i : Nat) (hi : i + 1 < l.length) : l.getD i 0 < l.getD (i + 1) 0 := by
  have := List.pairwise_iff_getElem.mp h i (i + 1) (by omega) hi (by omega)
  simpa [List.getD_eq_getElem?_getD, show i < l.length by omega, hi] using this
/-- a rising list from nought: all between -/
theorem rise_between {l : List Int} (h : l.Pairwise (· < ·)) (h0 : l.getD 0 0 = 0) : ∀ p ∈ l, 0 ≤ p ∧ p ≤ l.getD (l.length - 1) 0 := fun p hp => by
  obtain ⟨i, hi, rfl⟩ := List.mem_iff_getElem.mp hp
  have g : ∀ j (hj : j < l.length), l.getD j 0 = l[j] := fun j hj => by simp [List.getD_eq_getElem?_getD, hj]
  constructor
  · rcases Nat.eq_zero_or_pos i with z | z
    · subst z; rw [← g 0 hi, h0]; exact Int.le_refl _
    · have := List.pairwise_iff_getElem.mp h 0 i (by omega) hi z
      rw [← g 0 (by omega), h0] at this
      omega
  · rw [g (l.length - 1) (by omega)]
    rcases Nat.lt_or_ge i (l.length - 1) with z | z
    · have := List.pairwise_iff_getElem.mp h i (l.length - 1) hi (by omega) z
      omega
    · have : i = l.length - 1 := by omega
      subst this
      exact Int.le_refl _
end Rg
namespace L2
open PySem PySem.Spec PyProof.Rows
section
variable {X : Cx}
end
end L2
namespace Rg
end Rg
/-! max(xs, default=d), min(xs, default=d) of a list of ints: the greatest, the least, or d. -/
namespace L2
open PySem PySem.Spec PyProof.Rows
section
variable {prog : Program} {w : World} {A : Around} {R : Result → Shared → Prop} {I : Addr} {fp wr : List Addr} {n : Nat} {P : Nat → Value → Prop} {St : Nat → Heap → Prop}
end
section
variable {X : Cx} {p pos kpos : Pos} {e d : Expr} {ta tk : TA}
end
section
variable {prog : Program} {w : World} {A : Around} {R : Result → Shared → Prop} {I : Addr} {fp wr : List Addr} {n : Nat} {P : Nat → Value → Prop} {St : Nat → Heap → Prop}
theorem minLoop {d : Value} (W : Walks prog w A.in1 I fp wr n P St) (hint : ∀ i v, P i v → ∃ z t, v = .int z t) (hfun : ∀ i v v', P i v → P i v' → v = v') (S : Addr) (hSf : S ∉ fp) :
    ∀ (k j : Nat) (s : Shared) (old : List Value) (c : Nat), n - j = k → j ≤ n → St j s.heap → ((old = [] ∧ j = 0) ∨ ∃ v i, old = [v, v] ∧ P i v ∧ ∀ i' z' t', i' < j → P i' (.int z' t') → ∀ z t, v = .int z t → z ≤ z') →
    s.heap.get? S = some { cls := .type "list", dict := none, data := .seq old.toArray c, slots := #[] } →
    (∀ v h' tk, ((v = d ∧ n = 0) ∨ ∃ i, P i v ∧ ∀ i' z' t', i' < n → P i' (.int z' t') → ∀ z t, v = .int z t → z ≤ z') → (∀ b o, b ∉ wr → b ≠ S → s.heap.get? b = some o → h'.get? b = some o) → R (.ok (.ret v)) { s with heap := h', toks := tk }) →
    codeAny (model prog w) A (.builtin "min.loop" ⟨[.ref I, .none, .ref S], [("default", d)]⟩) R s := by
  have hSw : S ∉ wr := fun h => hSf (W.sub _ h)
  have hname : (toString "min" ++ toString ".loop" : String) = "min.loop" := by decide
  intro k
  induction k with
  | zero =>
    intro j s old c hk hj hst ho hS hR
    have hin : j = n := by omega
    refine codeAny_builtin F.entry_min_loop ?_
    rw [Around.under_plainId F.plain_min_loop _]
    show wpAny _ A.in1 (seqItems? (.ref S) >>= _) _ _ s
    refine wpAny_bind (wpAny_seqItems hS rfl ?_)
    show wpAny _ A.in1 (tryCatch (pyNext (.ref I)) _ >>= _) _ _ s
    refine wpAny_bind (wpAny_tryCatch (W.done s _ _ (hin ▸ hst) fun h' tk hk' => ?_))
    have hS' := hk' S _ hSw hS
    rcases ho with ⟨e1, e2⟩ | ⟨v, i, e1, hv, hm⟩
    · subst e1
      refine wpAny_bind (wpAny_rule (wpAny_pure ?_))
      exact hR d h' tk (.inl ⟨rfl, by omega⟩) fun b o hb _ e => hk' b o hb e
    · subst e1
      show wpAny _ A.in1 (updateSeq S (fun _ => #[]) >>= _) _ _ _
      refine wpAny_bind (wpAny_updateSeq hS' rfl (wpAny_bind (wpAny_letGo (wpAny_pure ?_))))
      exact hR v _ tk (.inr ⟨i, hv, fun i' z' t' hi' => hm i' z' t' (by omega)⟩) fun b o hbw hbS e => (Heap.get?_update_other _ _ (Ne.symm hbS)).trans (hk' b o hbw e)
  | succ k ih =>
    intro j s old c hk hj hst ho hS hR
    refine codeAny_builtin F.entry_min_loop ?_
    rw [Around.under_plainId F.plain_min_loop _]
    show wpAny _ A.in1 (seqItems? (.ref S) >>= _) _ _ s
    refine wpAny_bind (wpAny_seqItems hS rfl ?_)
    show wpAny _ A.in1 (tryCatch (pyNext (.ref I)) _ >>= _) _ _ s
    refine wpAny_bind (wpAny_tryCatch (W.item j s _ _ (by omega) hst fun v h' tk hP hst' hk' => ?_))
    have hS' := hk' S _ hSw hS
    have other : ∀ (xs : Array Value) b o, b ≠ S → h'.get? b = some o → (h'.update S (Obj.mapSeq fun _ => xs)).get? b = some o := fun xs b o hb e => (Heap.get?_update_other _ _ (Ne.symm hb)).trans e
    rcases ho with ⟨e1, e2⟩ | ⟨vb, i, e1, hv, hm⟩
    · subst e1
      show wpAny _ A.in1 (updateSeq S (fun _ => #[v, v]) >>= _) _ _ _
      refine wpAny_bind (wpAny_updateSeq hS' rfl ?_)
      rw [hname]
      refine wpAny_pure ⟨plainId_quiet F.plain_min_loop _, ih (j + 1) _ [v, v] _ (by omega) (by omega) (W.frame _ _ _ hst' fun b hbf o e => other _ b o (fun z => hSf (z ▸ hbf)) e) (.inr ⟨v, j, rfl, hP, fun i' z' t' hi' hp' z t e => by
        have : i' = j := by omega
        subst this
        have := hfun i' _ _ hp' hP
        rw [e] at this
        cases this
        exact Int.le_refl _⟩) (Heap.get?_update_self _ hS' rfl) fun v' h'' tk'' hP' hk'' => ?_⟩
      exact hR v' h'' tk'' hP' fun b o hbw hbS e => hk'' b o hbw hbS (other _ b o hbS (hk' b o hbw e))
    · subst e1
      obtain ⟨z, t, rfl⟩ := hint j v hP
      obtain ⟨zb, tb, rfl⟩ := hint i vb hv
      show wpAny _ A.in1 (tryCatch (holding [Value.int z t, Value.int z t] (richCompare .Lt (Value.int z t) (Value.int zb tb) >>= _)) _ >>= _) _ _ _
      refine wpAny_bind (wpAny_tryCatch (wpAny_holding (wpAny_bind (lt_int ?_))))
      refine wpAny_bind (wpAny_holding (wpAny_truthy_bool ?_))
      refine wpAny_bind (wpAny_letGo (wpAny_pure ?_))
      cases hb : decide (z < zb) with
      | true =>
        refine wpAny_bind (wpAny_updateSeq hS' rfl (wpAny_bind (wpAny_letGo ?_)))
        rw [hname]
        refine wpAny_pure ⟨plainId_quiet F.plain_min_loop _, ih (j + 1) _ [.int z t, .int z t] _ (by omega) (by omega) (W.frame _ _ _ hst' fun b hbf o e => other _ b o (fun z => hSf (z ▸ hbf)) e) (.inr ⟨_, j, rfl, hP, fun i' z' t' hi' hp' z2 t2 e => by
          cases e
          have hb' := of_decide_eq_true hb
          by_cases c : i' = j
          · subst c
            have := hfun i' _ _ hp' hP
            cases this
            exact Int.le_refl _
          · have := hm i' z' t' (by omega) hp' zb tb rfl
            omega⟩) (Heap.get?_update_self _ hS' rfl) fun v' h'' tk'' hP' hk'' => ?_⟩
        exact hR v' h'' tk'' hP' fun b o hbw hbS e => hk'' b o hbw hbS (other _ b o hbS (hk' b o hbw e))
      | false =>
        refine wpAny_bind (wpAny_letGo ?_)
        rw [hname]
        refine wpAny_pure ⟨plainId_quiet F.plain_min_loop _, ih (j + 1) _ [.int zb tb, .int zb tb] c (by omega) (by omega) hst' (.inr ⟨_, i, rfl, hv, fun i' z' t' hi' hp' z2 t2 e => by
          cases e
          have hb' := of_decide_eq_false hb
          by_cases c : i' = j
          · subst c
            have := hfun i' _ _ hp' hP
            cases this
            omega
          · exact hm i' z' t' (by omega) hp' zb tb rfl⟩) hS' fun v' h'' tk'' hP' hk'' => ?_⟩
        exact hR v' h'' tk'' hP' fun b o hbw hbS e => hk'' b o hbw hbS (hk' b o hbw e)
end
theorem argsMinD (a d : Value) : argsOk "min" ⟨[a], [("default", d)]⟩ := by unfold argsOk; kernel_rfl
section
variable {X : Cx} {p pos kpos : Pos} {e d : Expr} {ta tk : TA}
theorem minRun {pins : List (Addr × Obj)} {σ : St} {H : Hp} {s : Shared} {l : Addr} {ns : List Int} {z : Int} {t : Tok} {Q : VK} (hc : X.calm = true) (I : Inv X pins σ H s) (hl : SqL X.K H l (ns.map V.int)) (q : ∀ m : Int, (m = z ∧ ns = []) ∨ (m ∈ ns ∧ ∀ x ∈ ns, m ≤ x) → Q (.int m) H) :
    wpAny (model X.prog X.w) X.A (call (.builtin "min") [.ref l] [("default", .int z t)]) (EP X pins σ Q) X.xe s := by
  have hname : (toString "min" ++ toString ".loop" : String) = "min.loop" := by decide
  obtain ⟨its, rv, pl, hz⟩ := I.list hl
  have hi := ints_vals rv
  refine wpAny_call (codeAny_call_builtin F.plain_min F.entry_min ?_)
  simp only [checkBuiltinCall, F.kind_min]
  have body : wpAny (model X.prog X.w) X.A.in1 (Builtin.«min» ⟨[.ref l], [("default", .int z t)]⟩) (fun fin s' => match fin with
      | .done f => (match (Except.ok f : Result) with | .ok (.ret v) => EP X pins σ Q v s' | .ok _ => False | .error e => X.xe e s')
      | .again c' => c'.quiet = true ∧ codeAny (model X.prog X.w) X.A c' (fun r s' => match r with | .ok (.ret v) => EP X pins σ Q v s' | .ok _ => False | .error e => X.xe e s') s') X.xe s := by
    show wpAny _ X.A.in1 (Builtin.Builtins.bindParams "min" ["key", "default"] 0 ⟨[], [("default", .int z t)]⟩ >>= _) _ _ s
    refine wpAny_bind (wpAny_of_eq (show Builtin.Builtins.bindParams "min" ["key", "default"] 0 ⟨[], [("default", .int z t)]⟩ = pure [none, some (.int z t)] from rfl) ?_)
    refine wpAny_bind (wpAny_pure (wpAny_bind (wpAny_pyIter_list pl.isList ?_)))
    have hne : l ≠ s.heap.objs.size := by
      obtain ⟨o, n, e, _⟩ := pl
      exact Nat.ne_of_lt (Heap.lt_size e)
    refine wpAny_bind (wpAny_newObj_type ?_)
    rw [hname]
    have W := Walks.list (prog := X.prog) (w := X.w) (A := X.A.in1) (show X.A.in1.handled = none from I.ok.hd hc) s.heap.objs.size l hne its.toArray
    refine wpAny_pure ⟨plainId_quiet F.plain_min_loop _, minLoop (d := .int z t) W (fun i v hv => ?_) (fun i v v' h1 h2 => Option.some.inj (h1.symm.trans h2)) _ ?_ _ 0 _ [] 0 rfl (Nat.zero_le _) ⟨⟨_, Heap.get?_push_of_some _ (Heap.get?_push_size _ rfl), rfl, rfl⟩, ?_⟩ (.inl ⟨rfl, rfl⟩) (Heap.get?_push_size _ rfl) fun v h' tk hv hk => ?_⟩
    · obtain ⟨n, t', _, e⟩ := ints_at hi i v (by simpa using hv)
      exact ⟨n, t', e⟩
    · intro hm
      have hsz := Heap.size_push s.heap { cls := .type "list_iterator", data := .fields #[.ref l, .int 0 0] }
      have hm' : s.heap.objs.size + 1 ∈ [s.heap.objs.size, l] := by rw [← hsz]; exact hm
      rcases List.mem_cons.mp hm' with z' | z'
      · exact absurd z' (Nat.succ_ne_self _)
      · have z'' : s.heap.objs.size + 1 = l := by simpa using z'
        obtain ⟨o, n, e, _⟩ := pl
        have := Heap.lt_size e
        rw [← z''] at this
        exact absurd this (Nat.not_lt.mpr (Nat.le_succ _))
    · obtain ⟨o, n, e, c, dd, dt⟩ := pl
      exact ⟨o, Heap.get?_push_of_some _ (Heap.get?_push_of_some _ e), c, n, dt⟩
    · have I2 : Inv X pins σ H { s with heap := h', toks := tk } := I.kept (t' := tk) fun b o e => hk b o (by simp; exact Nat.ne_of_lt (Heap.lt_size e)) (Nat.ne_of_lt (Nat.lt_of_lt_of_le (Heap.lt_size e) (by rw [Heap.size_push]; exact Nat.le_succ _))) (Heap.get?_push_of_some _ (Heap.get?_push_of_some _ e))
      rcases hv with ⟨e1, e2⟩ | ⟨i, hv, hmx⟩
      · subst e1
        refine ⟨.int z, H, I2, ⟨t, rfl⟩, q z (.inl ⟨rfl, ?_⟩)⟩
        have e3 : its.length = 0 := by simpa using e2
        have := hi.length
        exact List.length_eq_zero_iff.mp (by omega)
      · obtain ⟨m, t', h1, e⟩ := ints_at hi i v (by simpa using hv)
        subst e
        refine ⟨.int m, H, I2, ⟨t', rfl⟩, q m (.inr ⟨List.mem_of_getElem? h1, fun x hx => ?_⟩)⟩
        obtain ⟨i', hi', ex⟩ := List.getElem_of_mem hx
        have hl' := hi.length
        have hi2 : i' < its.length := by omega
        obtain ⟨x', t2, h2, e2⟩ := ints_at hi i' its[i'] (by simp)
        have : x' = x := by rw [List.getElem?_eq_getElem hi'] at h2; rw [← ex]; exact (Option.some.inj h2).symm
        subst this
        exact hmx i' x' t2 (by simpa using hi2) (by show its.toArray[i']? = _; rw [← e2]; simp) m t' rfl
  cases hsig : Manifest.signature? "min" with
  | none => exact wpAny_pure body
  | some sig =>
    have ha' : Bind.checkArgs "min" sig ⟨[.ref l], [("default", .int z t)]⟩ = pure () := by simpa only [argsOk, hsig] using argsMinD (.ref l) (.int z t)
    simp only [ha']
    exact wpAny_pure body
end
end L2
/-! TEXTS: join, split. -/
namespace L2
open PySem PySem.Spec PyProof.Rows
theorem strs_vals : ∀ {ts : List Str} {vs : List Value}, Vals (ts.map V.str) vs → ∃ l : List (Str × Tok), vs = strValues l ∧ l.map (·.1) = ts
  | [], _, .nil => ⟨[], rfl, rfl⟩
  | x :: ts, _, .cons ⟨t, e⟩ r => by
    obtain ⟨l, e1, e2⟩ := strs_vals r
    exact ⟨(x, t) :: l, by rw [e1, e]; rfl, by rw [List.map_cons, e2]⟩
theorem vals_strs : ∀ l : List (Str × Tok), Vals ((l.map (·.1)).map V.str) (strValues l)
  | [] => .nil
  | (x, t) :: l => .cons ⟨t, rfl⟩ (vals_strs l)
section
variable {X : Cx}
def rJoin (K : PySem.W.Frag) : V → List V → Hp → VK → Prop := fun x xs H Q => ∃ (sep : Str) (p : Addr) (ts : List Str), x = .str sep ∧ xs = [.ref p] ∧ SqL K H p (ts.map V.str) ∧ JoinOk sep ts = true ∧ Q (.str (Txt.join sep ts)) H
theorem mt_join : MtR X "str.join" (rJoin X.K) := by
  intro pins s σ H x xs v us Q I rx r h
  obtain ⟨sep, p, ts, rfl, rfl, hp, ok, q⟩ := h
  obtain ⟨tk, rfl⟩ := (show ∃ tk, v = Value.str sep tk from rx)
  obtain ⟨u, rfl, ru⟩ := r.one
  cases (show u = Value.ref p from ru)
  obtain ⟨its, rv, pl, hz⟩ := I.list hp
  obtain ⟨l, e1, e2⟩ := strs_vals rv
  subst e1
  exact SC.join (l := l) pl.isList e2 ok fun t' k => ⟨.str _, H, I.tok _, ⟨t', rfl⟩, q⟩
/-- split at a text that is not empty -/
def rSplit : V → List V → Hp → VK → Prop := fun x xs H Q => ∃ (t sep : Str), x = .str t ∧ xs = [.str sep] ∧ (sep.length == 0) = false ∧ t.length ≤ sizeLine ∧ (Txt.split t sep).length ≤ sizeLine ∧ ∀ l, H l = none → Q (.ref l) (upd H l (.lst ((Txt.split t sep).map V.str)))
theorem mt_split : MtR X "str.split" rSplit := by
  intro pins s σ H x xs v us Q I rx r h
  obtain ⟨t, sep, rfl, rfl, hy, hz, hp, q⟩ := h
  obtain ⟨tk, rfl⟩ := (show ∃ tk, v = Value.str t tk from rx)
  obtain ⟨u, rfl, ru⟩ := r.one
  obtain ⟨tu, rfl⟩ := (show ∃ tu, u = Value.str sep tu from ru)
  have fin : ∀ (l : List (Str × Tok)) (k : Nat), l.map (·.1) = Txt.split t sep → EP X pins σ Q (.ref s.heap.objs.size) { s with heap := s.heap.push { cls := .type "list", data := .seq (strValues l).toArray }, toks := k } := fun l k e => by
    have fr : H s.heap.objs.size = none := I.hok.fresh (Nat.le_refl _)
    refine ⟨.ref s.heap.objs.size, _, I.laid (t' := k) (o := .lst ((Txt.split t sep).map V.str)) (fun b o e => Heap.get?_push_of_some _ e) (Nat.le_refl _) ⟨by rw [List.length_map]; exact hp, strValues l, 0, ?_, Heap.get?_push_size _ rfl⟩, rfl, q _ fr⟩
    rw [← e]; exact vals_strs l
  cases h1 : (decide (t.length < sep.length) || decide (Builtin.Str.strKind t < Builtin.Str.strKind sep))
  · cases hf : (Builtin.Str.occurrences t sep 0 t.length (t.length + 1)).isEmpty
    · have es : Txt.split t sep = Builtin.Str.partsBetween t (Builtin.Str.occurrences t sep 0 t.length (t.length + 1)) sep.length := (if_neg (ne_true_of_eq_false h1)).trans (if_neg (ne_true_of_eq_false hf))
      refine call_meets F.slot_str_split (typeIs_str _ _ _) F.entry_str_split (F.args_str_split_2 _ _) (meets_str_split_sep t sep tk tu h1 hy hf hz (by rw [← es]; exact hp)) ?_
      show wants _ _ _ { s with toks := _, heap := s.heap.push { cls := .type "list", data := .seq (strsFrom s.toks (Builtin.Str.partsBetween t (Builtin.Str.occurrences t sep 0 t.length (t.length + 1)) sep.length)).toArray } }
      rw [strsFrom_eq]
      exact fin (numbered s.toks _) _ ((numbered_texts _ _).trans es.symm)
    · exact call_meets F.slot_str_split (typeIs_str _ _ _) F.entry_str_split (F.args_str_split_2 _ _) (meets_str_split_not_found t sep tk tu h1 hy hf) (fin [(t, tk)] _ ((if_neg (ne_true_of_eq_false h1)).trans (if_pos hf)).symm)
  · exact call_meets F.slot_str_split (typeIs_str _ _ _) F.entry_str_split (F.args_str_split_2 _ _) (meets_str_split_cannot_occur t sep tk tu h1) (fin [(t, tk)] _ (if_pos h1).symm)
/-- int of a text that writes a number -/
theorem call_intS : CallR X (.type "int") (fun xs H Q => ∃ (x : Str) (n : Int), xs = [.str x] ∧ PySem.intText? x = some n ∧ x.length ≤ 640 ∧ Q (.int n) H) := by
  intro pins s σ H xs us Q I r h
  obtain ⟨x, n, rfl, hn, hl, q⟩ := h
  obtain ⟨u, rfl, ru⟩ := r.one
  obtain ⟨tu, rfl⟩ := (show ∃ tu, u = Value.str x tu from ru)
  exact PySem.W.KIN.call_text hn hl ⟨.int n, H, I.tok _, ⟨_, rfl⟩, q⟩
/-- a try whose suite raises nothing -/
theorem ps_tryN {body : List Stmt} {h₀ : ExceptHandler} {hs : List ExceptHandler} {t : TS} {pos : Pos} (hx : ∀ e s, ¬ X.xe e s) (hb : PSs X body t) : PS X (.Try body (h₀ :: hs) [] [] pos) t := by
  intro pins s σ H D I h
  refine wpAny_Try_except (wpAny_mono (hb pins s σ H D I h) (fun f s1 h1 => ?_) (fun e s1 h1 => absurd h1 (hx e s1)))
  cases f <;> first | exact h1 | (exact wpAny_pure h1) | skip
end
/-! ### parts without the sign between them -/
def jn (c : Nat) : List (List Nat) → List Nat
  | [] => []
  | [x] => x
  | x :: y :: r => x ++ c :: jn c (y :: r)
theorem jn_cons (c : Nat) (x : List Nat) (r : List (List Nat)) (h : r ≠ []) : jn c (x :: r) = x ++ c :: jn c r := by
  cases r with
  | nil => exact absurd rfl h
  | cons y r => rfl
theorem cut_eq {c : Nat} : ∀ {x y s t : List Nat}, c ∉ x → c ∉ y → x ++ c :: s = y ++ c :: t → x = y ∧ s = t
  | [], [], s, t, _, _, h => ⟨rfl, by simpa using h⟩
  | [], b :: y, s, t, _, hy, h => by
    rw [List.nil_append, List.cons_append] at h
    injection h with h1 _
    exact absurd (by rw [h1]; exact List.mem_cons_self) hy
  | a :: x, [], s, t, hx, _, h => by
    rw [List.nil_append, List.cons_append] at h
    injection h with h1 _
    exact absurd (by rw [← h1]; exact List.mem_cons_self) hx
  | a :: x, b :: y, s, t, hx, hy, h => by
    rw [List.cons_append, List.cons_append] at h
    injection h with h1 h2
    obtain ⟨e1, e2⟩ := cut_eq (fun z => hx (List.mem_cons_of_mem _ z)) (fun z => hy (List.mem_cons_of_mem _ z)) h2
    exact ⟨by rw [h1, e1], e2⟩
theorem jn_inj (c : Nat) : ∀ {l m : List (List Nat)}, (∀ p ∈ l, c ∉ p) → (∀ p ∈ m, c ∉ p) → l ≠ [] → m ≠ [] → jn c l = jn c m → l = m
  | [], _, _, _, h, _, _ => absurd rfl h
  | _, [], _, _, _, h, _ => absurd rfl h
  | [x], [y], _, _, _, _, h => by rw [show x = y from h]
  | [x], y :: z :: r, hl, _, _, _, h => by
    rw [jn_cons c y (z :: r) (by simp)] at h
    have : c ∈ x := by rw [show x = y ++ c :: jn c (z :: r) from h]; simp
    exact absurd this (hl x (by simp))
  | x :: z :: r, [y], _, hm, _, _, h => by
    rw [jn_cons c x (z :: r) (by simp)] at h
    have : c ∈ y := by rw [show y = x ++ c :: jn c (z :: r) from h.symm]; simp
    exact absurd this (hm y (by simp))
  | x :: z :: r, y :: v :: u, hl, hm, _, _, h => by
    rw [jn_cons c x (z :: r) (by simp), jn_cons c y (v :: u) (by simp)] at h
    obtain ⟨e1, e2⟩ := cut_eq (hl x (by simp)) (hm y (by simp)) h
    have := jn_inj c (l := z :: r) (m := v :: u) (fun p hp => hl p (List.mem_cons_of_mem _ hp)) (fun p hp => hm p (List.mem_cons_of_mem _ hp)) (by simp) (by simp) e2
    rw [e1, this]
theorem join_jn (c : Nat) : ∀ l : List Str, (Str.join ⟨#[c]⟩ l).cps.toList = jn c (l.map fun x => x.cps.toList)
  | [] => rfl
  | [x] => rfl
  | x :: y :: r => by
    have ih := join_jn c (y :: r)
    show (x ++ (⟨#[c]⟩ : Str) ++ Str.join ⟨#[c]⟩ (y :: r)).cps.toList = _
    rw [List.map_cons, jn_cons c _ _ (by simp), ← ih]
    show ((x.cps ++ #[c]) ++ (Str.join ⟨#[c]⟩ (y :: r)).cps).toList = _
    simp
/-- what is joined of parts without the sign is split to them -/
theorem split_join (c : Nat) {l : List Str} (hl : ∀ x ∈ l, c ∉ x.cps.toList) (h0 : Str.join ⟨#[c]⟩ l ≠ Str.empty) : Txt.split (Str.join ⟨#[c]⟩ l) ⟨#[c]⟩ = l := by
  have e := StrLaws.join_split (Str.join ⟨#[c]⟩ l) ⟨#[c]⟩
  have f := StrLaws.split_free (Str.join ⟨#[c]⟩ l) c
  have n1 : l ≠ [] := fun z => h0 (by rw [z]; rfl)
  have n2 : Txt.split (Str.join ⟨#[c]⟩ l) ⟨#[c]⟩ ≠ [] := fun z => by
    rw [z] at e
    exact h0 e.symm
  have e2 : jn c ((Txt.split (Str.join ⟨#[c]⟩ l) ⟨#[c]⟩).map fun x => x.cps.toList) = jn c (l.map fun x => x.cps.toList) := by rw [← join_jn, ← join_jn, e]
  have e3 := jn_inj c (by
    intro p hp
    obtain ⟨x, hx, rfl⟩ := List.mem_map.mp hp
    exact f x hx) (by
    intro p hp
    obtain ⟨x, hx, rfl⟩ := List.mem_map.mp hp
    exact hl x hx) (by simpa using n2) (by simpa using n1) e2
  refine (List.map_inj_right ?_).mp e3
  intro x y h
  have := Array.toList_inj.mp h
  cases x; cases y
  simp at this
  rw [this]
end L2
namespace Rd
open PySem L2
def top (i : Nat) : Stmt := PySem.Challenge.pw_roadgaps_k10_written.main.body.getD i (.Pass ⟨0, 0, 0, 0⟩)
abbrev sIsRoad : Stmt := top 9
abbrev sCheckRoad : Stmt := top 10
abbrev sCheckGaps : Stmt := top 13
abbrev dShown : Stmt := top 17
abbrev dRoadShown : Stmt := top 18
abbrev dGapsShown : Stmt := top 19
abbrev dReadNumber : Stmt := top 20
abbrev dReadNumbers : Stmt := top 21
abbrev dReadRoad : Stmt := top 22
abbrev dReadGaps : Stmt := top 23
abbrev sCell : Stmt := top 25
abbrev sWhole : Stmt := top 26
abbrev sList : Stmt := top 27
abbrev sBetween : Stmt := top 28
abbrev sRoad : Stmt := top 29
abbrev sGaps : Stmt := top 33
abbrev sLaw : Stmt := top 34
end Rd
namespace Rd
open PySem L2 PyProof.Rows
/-! ### the names of the module that stand for themselves -/
structure Mg (mg : Str → Option Value) : Prop where
  len : mg "len" = none
  range : mg "range" = none
  all : mg "all" = none
  sorted : mg "sorted" = none
  long : ∃ t, mg "LONGEST" = some (.int 4000 t)
structure MgP (mg : Str → Option Value) : Prop extends Mg mg where
  most : ∃ t, mg "MOST_PLACES" = some (.int 50 t)
theorem small {n : Nat} (h : n ≤ 1000) : n ≤ sizeLine := Nat.le_of_lt (small1000 h)
/-- is it a road -/
def adjs (ps : List Int) : List Bool := (List.range (ps.length - 1)).map fun i => decide (ps.getD i 0 < ps.getD (i + 1) 0)
def roadB (ps : List Int) : Bool := decide (1 ≤ ps.length ∧ ps.length ≤ 50) && !(decide (ps.getD 0 0 ≠ 0) || decide (4000 < ps.getD (ps.length - 1) 0)) && (adjs ps).all id
section
variable {P : Program} {w : World} {K : PySem.W.Frag} {mg : Str → Option Value} {base : Heap} {f g : Addr} {fd gd : FuncData}
def spIsRoad (K : PySem.W.Frag) : Sp := fun vs H Q _ => ∃ (a : Addr) (ps : List Int), vs = [.ref a] ∧ SqL K H a (ps.map V.int) ∧ ps.length ≤ 1000 ∧ ∀ H', Same H H' → Q (.bl (roadB ps)) H'
theorem scIsRoad : FnScope ["places"] ["places"] (defScope sIsRoad) := ⟨rfl, rfl, rfl, by decide +kernel, rfl, by decide +kernel, by decide +kernel⟩
theorem ok_isRoad (F : Fun K "is_road" "is_road" sIsRoad f fd) (m : mg "is_road" = some (.ref f)) (G : MgP mg) : Def P w K mg base CX0 "is_road" ["places"] 1 (spIsRoad K) := by
  refine ⟨f, fd, ?_, F.binds fun _ _ _ _ _ _ us hl => match us, hl with | [_], _ => rfl, F.kp, m⟩
  refine F.ok (k := 0) scIsRoad (fun vs H Q E h => ?_) (fun cdv A outer s H vs Q E hr h => ?_)
  · obtain ⟨a, ps, rfl, _⟩ := h
    rfl
  obtain ⟨a, ps, rfl, hS, h1, q⟩ := h
  obtain ⟨tm, hm⟩ := G.most
  obtain ⟨tl, hl⟩ := G.long
  refine ⟨_, pss_cons (ps_if (pt_not (pt_chain op_le op_le pe_int (pe_callB call_len_seq rfl G.len PySem.boot_len (pa_cons (pv 0) pa_nil)) (pe_glob (by rfl) hm (v := .int 50) ⟨_, rfl⟩))) (pss_one (ps_ret pe_bl)) pss_nil)
    (pss_cons (ps_if (pw_or (pt_cmpR op_ne (pe_ix ix_list (pv 0) pe_int (fun _ _ => rfl)) pe_int (nomark _)) (pw_or1 (pt_cmpR op_gt (pe_ix ix_list (pv 0) (pe_un un_neg pe_int) (fun _ _ => rfl)) (pe_glob (by rfl) hl (v := .int 4000) ⟨_, rfl⟩) (nomark _)))).pt (pss_one (ps_ret pe_bl)) pss_nil)
    (pss_one (ps_ret (pe_callB (call_all rfl) rfl G.all PyProof.Rows.Boot.«all» (pa_cons (pe_comp ["k"] [("places", 0)] rfl
      (pi_range2 rfl G.range (pa_cons pe_int (pa_cons (pe_callB call_len_seq rfl G.len PySem.boot_len (pa_cons (pv 0) pa_nil)) pa_nil)))
      (N := ["places"]) (osc := defScope sIsRoad) ⟨rfl, by decide +kernel, by decide +kernel, by decide +kernel, by decide +kernel⟩
      (fun _ _ _ => pg_name (i := 0) (show (["k", "places"] : List Str).Nodup by decide +kernel) rfl (Or.inl rfl)) (fun _ _ _ => pf_nil)
      (fun _ _ _ => pe_cmpR op_lt (pe_ix (ix_listK K) (pv 1) (pe_op op_sub (pv 0) pe_int) (fun _ _ => rfl)) (pe_ix (ix_listK K) (pv 1) (pv 0) (fun _ _ => rfl)) (nomark _))) pa_nil))))), ?_⟩
  have hlen := len_int ps
  have fls : roadB ps = false → Q (.bl false) H := fun e => by have := q H (Same.refl H); rw [e] at this; exact this
  refine ⟨_, rfl, a, _, rfl, .inl hS, _, _, rfl, rfl, _, rfl, ?_⟩
  rw [hlen]
  refine ite2 (fun c1 => ?_) (fun c1 => ?_)
  rotate_left
  · have c1' : ¬ (1 : Int) ≤ (ps.length : Nat) := by simpa using c1
    refine ⟨_, rfl, iteT (fls ?_)⟩
    unfold roadB
    rw [decide_eq_false (by omega)]
    rfl
  have c1' : (1 : Int) ≤ (ps.length : Nat) := by simpa using c1
  refine ⟨_, _, rfl, rfl, _, rfl, ?_⟩
  refine ite2 (fun c2 => ?_) (fun c2 => ?_)
  · have c2' : ¬ ((ps.length : Nat) : Int) ≤ 50 := by simpa using c2
    refine fls ?_
    unfold roadB
    rw [decide_eq_false (by omega)]
    rfl
  have c2' : ((ps.length : Nat) : Int) ≤ 50 := by simpa using c2
  have l1 : 1 ≤ ps.length := by omega
  have l2 : ps.length ≤ 50 := by omega
  have e0 : ps[0]? = some (ps.getD 0 0) := by simp [List.getD_eq_getElem?_getD, show 0 < ps.length by omega]
  have eL : ps.getLast? = some (ps.getD (ps.length - 1) 0) := by rw [List.getLast?_eq_getElem?]; simp [List.getD_eq_getElem?_getD, show ps.length - 1 < ps.length by omega]
  refine ⟨_, rfl, a, _, _, _, rfl, rfl, hS, atI_int (i := 0) e0, rfl, _, rfl, ?_⟩
  refine ite2 (fun c3 => ?_) (fun c3 => ?_)
  · refine fls ?_
    unfold roadB
    have c3' : ps.getD 0 0 ≠ 0 := by simpa using c3
    rw [decide_eq_true c3']
    simp
  have c3' : ps.getD 0 0 = 0 := by simpa using c3
  have aL : atI (ps.map V.int) (-1) = some (.int (ps.getD (ps.length - 1) 0)) := atI_back (by rw [List.getLast?_map, eL]; rfl)
  refine ⟨_, rfl, _, rfl, a, _, _, _, rfl, rfl, hS, aL, _, _, rfl, rfl, _, rfl, ?_⟩
  refine ite2 (fun c4 => ?_) (fun c4 => ?_)
  · refine fls ?_
    unfold roadB
    have c4' : 4000 < ps.getD (ps.length - 1) 0 := of_decide_eq_true c4
    rw [decide_eq_true c4']
    simp
  have c4' : ¬ 4000 < ps.getD (ps.length - 1) 0 := of_decide_eq_false (Bool.eq_false_iff.mpr c4)
  have eR : roadB ps = (adjs ps).all id := by
    unfold roadB
    rw [decide_eq_true ⟨l1, l2⟩, decide_eq_false (show ¬ ps.getD 0 0 ≠ 0 from fun z => z c3'), decide_eq_false c4']
    simp
  have eN : (((ps.map V.int).length : Int) - 1).toNat = ps.length - 1 := by rw [hlen]; omega
  refine ⟨_, rfl, a, _, rfl, .inl hS, _, _, rfl, ⟨by omega, by omega, by rw [hlen]; omega, by rw [hlen]; omega⟩, fun D hD => ?_⟩
  rw [eN]
  refine comp_range (lo := 1) (n := ps.length - 1) (fun i => .bl (decide (ps.getD i 0 < ps.getD (i + 1) 0))) (small (by omega)) (fun i ys Q' hi q' => ?_) ?_
  · have g1 : ps[i]? = some (ps.getD i 0) := by simp [List.getD_eq_getElem?_getD, show i < ps.length by omega]
    have g2 : ps[i + 1]? = some (ps.getD (i + 1) 0) := by simp [List.getD_eq_getElem?_getD, show i + 1 < ps.length by omega]
    have a1 : atI (ps.map V.int) (1 + (i : Int) - 1) = some (.int (ps.getD i 0)) := by rw [show 1 + (i : Int) - 1 = ((i : Nat) : Int) by omega]; exact atI_int g1
    have a2 : atI (ps.map V.int) (1 + (i : Int)) = some (.int (ps.getD (i + 1) 0)) := by rw [show 1 + (i : Int) = ((i + 1 : Nat) : Int) by omega]; exact atI_int g2
    exact ⟨_, rfl, _, rfl, _, _, rfl, rfl, a, _, _, _, rfl, rfl, sq_ne hS hD, a1, _, rfl, _, rfl, a, _, _, _, rfl, rfl, sq_ne hS hD, a2, _, _, rfl, rfl, q'⟩
  · refine ⟨D, adjs ps, rfl, SqL.of ?_, ?_⟩
    · rw [upd_same]
      unfold adjs
      rw [List.map_map]
      rfl
    · rw [← eR]; exact q _ (same_new hD _)
theorem scCheckRoad : FnScope ["places"] ["places"] (defScope sCheckRoad) := ⟨rfl, rfl, rfl, by decide +kernel, rfl, by decide +kernel, by decide +kernel⟩
theorem int_at {l : List Int} {i : Nat} {x : V} (h : (l.map V.int)[i]? = some x) : ∃ z, l[i]? = some z ∧ x = .int z := by
  rw [List.getElem?_map] at h
  cases e : l[i]? with
  | none => rw [e] at h; cases h
  | some z => rw [e] at h; exact ⟨z, rfl, (Option.some.inj h).symm⟩
end
end Rd
namespace Rd
open PySem L2 PyProof.Rows
theorem roadB_facts {ps : List Int} (h : roadB ps = true) : 1 ≤ ps.length ∧ ps.length ≤ 50 ∧ ps.getD 0 0 = 0 ∧ ps.getD (ps.length - 1) 0 ≤ 4000 ∧ ps.Pairwise (· < ·) := by
  unfold roadB at h
  rw [Bool.and_eq_true, Bool.and_eq_true] at h
  obtain ⟨⟨h1, h2⟩, h3⟩ := h
  have h1' := of_decide_eq_true h1
  have h2' : ¬ ps.getD 0 0 ≠ 0 ∧ ¬ 4000 < ps.getD (ps.length - 1) 0 := by
    rw [Bool.not_eq_true', Bool.or_eq_false_iff] at h2
    exact ⟨of_decide_eq_false h2.1, of_decide_eq_false h2.2⟩
  refine ⟨h1'.1, h1'.2, Decidable.of_not_not h2'.1, by omega, Rg.rise_of_adj fun i hi => ?_⟩
  have := List.all_eq_true.mp h3 (decide (ps.getD i 0 < ps.getD (i + 1) 0)) (by unfold adjs; exact List.mem_map.mpr ⟨i, List.mem_range.mpr (by omega), rfl⟩)
  exact of_decide_eq_true this
section
variable {P : Program} {w : World} {K : PySem.W.Frag} {mg : Str → Option Value} {base : Heap} {f g CN : Addr} {fd gd : FuncData}
def spCheckE (K : PySem.W.Frag) (C : Addr) : Sp := fun vs H Q E => ∃ (a : Addr) (ps : List Int), vs = [.ref a] ∧ SqL K H a (ps.map V.int) ∧ ps.length ≤ 1000 ∧ (roadB ps = true → ∀ H', Same H H' → Q .non H') ∧ (roadB ps = false → ∀ H', Same H H' → E (.ref C) none H')
theorem ok_checkRoadE (F : Fun K "check_road" "check_road" sCheckRoad f fd) (m : mg "check_road" = some (.ref f)) (G : MgP mg) (ZNoRoad : XCls K "NoRoad" CN) (MNoRoad : mg "NoRoad" = some (.ref CN)) (Dis_road : Def P w K mg base CX0 "is_road" ["places"] 1 (spIsRoad K)) :
    Def P w K mg base (CXE P w) "check_road" ["places"] 2 (spCheckE K CN) := by
  refine ⟨f, fd, ?_, F.binds fun _ _ _ _ _ _ us hl => match us, hl with | [_], _ => rfl, F.kp, m⟩
  refine F.okE (k := 1) scCheckRoad (fun vs H Q E h => ?_) (fun cdv A outer s H vs Q E hr h => ?_)
  · obtain ⟨a, ps, rfl, _⟩ := h
    rfl
  obtain ⟨a, ps, rfl, hS, h1, q, qe⟩ := h
  obtain ⟨tm, hMOST_PLACES⟩ := G.most
  obtain ⟨tl, hLONGEST⟩ := G.long
  refine ⟨_, (pss_one (ps_if (pt_not (pt_val (pe_fn Dis_road hr (by rfl) (pa_cons (pv 0) pa_nil)))) (pss_one (ps_raise raiseE rfl ZNoRoad MNoRoad (by rfl) (pa_cons (pe_join (pj_cons pe_str (pj_cons (pe_fmt (pe_glob (by rfl) hMOST_PLACES (v := .int 50) ⟨_, rfl⟩)) (pj_cons pe_str (pj_cons (pe_fmt (pe_glob (by rfl) hLONGEST (v := .int 4000) ⟨_, rfl⟩)) pj_nil))))) pa_nil))) pss_nil)), ?_⟩
  refine ⟨_, rfl, a, ps, rfl, hS, h1, fun H' sm => ⟨_, rfl, ?_⟩⟩
  cases e : roadB ps with
  | true => exact q e H' sm
  | false => exact ⟨_, rfl, by decide +kernel, .inl ⟨_, rfl, by decide, _, rfl, by decide +kernel, _, rfl, by decide +kernel, .inl ⟨_, rfl, by decide, _, rfl, by decide +kernel, by decide +kernel, by decide, qe e H' sm⟩⟩⟩
end
end Rd
namespace Rd
open PySem L2 PyProof.Rows
structure MgG (mg : Str → Option Value) : Prop extends Mg mg where
  mostG : ∃ t, mg "MOST_GAPS" = some (.int 21 t)
  list : mg "list" = none
structure GapsOk (gs : List Int) : Prop where
  few : gs.length ≤ 21
  rise : gs.Pairwise (· ≤ ·)
  low : ∀ g ∈ gs, 1 ≤ g
  high : ∀ g ∈ gs, g ≤ 4000
section
variable {P : Program} {w : World} {K : PySem.W.Frag} {mg : Str → Option Value} {base : Heap} {f g : Addr} {fd gd : FuncData}
theorem scCheckGaps : FnScope ["gaps", "least", "gap"] ["gaps"] (defScope sCheckGaps) := ⟨rfl, rfl, rfl, by decide +kernel, rfl, by decide +kernel, by decide +kernel⟩
/-- the two lists that a road beside distances is -/
def Two (K : PySem.W.Frag) (H : Hp) (a b : Addr) (ps gs : List Int) : Prop := SqL K H a (ps.map V.int) ∧ ps.length ≤ 50 ∧ SqL K H b (gs.map V.int)
theorem Two.keep {H H' : Hp} {a b : Addr} {ps gs : List Int} (h : Two K H a b ps gs) (s : Same H H') : Two K H' a b ps gs := ⟨s.seq h.1, h.2.1, s.seq h.2.2⟩
/-- what a call beside a road and distances asks -/
def Both (K : PySem.W.Frag) (H : Hp) (a b : Addr) (ps gs : List Int) : Prop := Two K H a b ps gs ∧ roadB ps = true ∧ GapsOk gs
theorem Both.keep {H H' : Hp} {a b : Addr} {ps gs : List Int} (h : Both K H a b ps gs) (s : Same H H') : Both K H' a b ps gs := ⟨h.1.keep s, h.2⟩
end
end Rd
namespace Rd
open PySem L2 PyProof.Rows
/-! ### the defs of the distances, which may refuse -/
section
variable {P : Program} {w : World} {K : PySem.W.Frag} {mg : Str → Option Value} {base : Heap} {f g CN CT CG : Addr} {fd gd : FuncData}
/-- a list of distances is looked at, or refused -/
def spGapsE (K : PySem.W.Frag) (CT CG : Addr) (ok : Addr → List Int → Hp → VK → Prop) : Sp := fun vs H Q E => ∃ (b : Addr) (gs : List Int), vs = [.ref b] ∧ SqL K H b (gs.map V.int) ∧ gs.length ≤ 1000 ∧
  (GapsOk gs → ok b gs H Q) ∧ (21 < gs.length → ∀ H', Same H H' → E (.ref CT) none H') ∧ (gs.length ≤ 21 → ¬ GapsOk gs → ∀ H', Same H H' → E (.ref CG) none H')
def okNone : Addr → List Int → Hp → VK → Prop := fun _ _ H Q => ∀ H', Same H H' → Q .non H'
theorem ok_checkGapsE (F : Fun K "check_gaps" "check_gaps" sCheckGaps f fd) (m : mg "check_gaps" = some (.ref f)) (G : MgG mg) (ZTooMany : XCls K "TooMany" CT) (MTooMany : mg "TooMany" = some (.ref CT)) (ZNoGaps : XCls K "NoGaps" CG) (MNoGaps : mg "NoGaps" = some (.ref CG)) :
    Def P w K mg base (CXE P w) "check_gaps" ["gaps"] 1 (spGapsE K CT CG okNone) := by
  refine ⟨f, fd, ?_, F.binds fun _ _ _ _ _ _ us hl => match us, hl with | [_], _ => rfl, F.kp, m⟩
  refine F.okE (k := 0) scCheckGaps (fun vs H Q E h => ?_) (fun cdv A outer s H vs Q E hr h => ?_)
  · obtain ⟨a, ps, rfl, _⟩ := h
    rfl
  obtain ⟨b, gs, rfl, hS, h1, q, qt, qg⟩ := h
  obtain ⟨tm, hMOST_GAPS⟩ := G.mostG
  obtain ⟨tl, hLONGEST⟩ := G.long
  refine ⟨_, (pss_cons (ps_if (pt_cmpR op_gt (pe_callB call_len_seq (by rfl) G.len PySem.boot_len (pa_cons (pv 0) pa_nil)) (pe_glob (by rfl) hMOST_GAPS (v := .int 21) ⟨_, rfl⟩) (nomark _)) (pss_one (ps_raise raiseE rfl ZTooMany MTooMany (by rfl) (pa_cons (pe_join (pj_cons pe_str (pj_cons (pe_fmt (pe_glob (by rfl) hMOST_GAPS (v := .int 21) ⟨_, rfl⟩)) (pj_cons pe_str pj_nil)))) pa_nil))) pss_nil)
    (pss_cons (ps_set (i := 1) scCheckGaps.nd rfl (Or.inl rfl) pe_int)
    (pss_one (ps_for PassesOwn.leaving rfl (pi_list (pv 0)) (pg_name (i := 2) scCheckGaps.nd rfl (Or.inl rfl))
      (pss_cons (ps_if (pt_not (pt_chain op_le op_le (pv 1) (pv 2) (pe_glob (by rfl) hLONGEST (v := .int 4000) ⟨_, rfl⟩))) (pss_one (ps_raise raiseE rfl ZNoGaps MNoGaps (by rfl) (pa_cons (pe_join (pj_cons pe_str (pj_cons (pe_fmt (pe_glob (by rfl) hLONGEST (v := .int 4000) ⟨_, rfl⟩)) pj_nil))) pa_nil))) pss_nil)
    (pss_one (ps_set (i := 1) scCheckGaps.nd rfl (Or.inl rfl) (pv 2)))))))), ?_⟩
  have hlen := len_int gs
  refine ⟨_, rfl, b, _, rfl, .inl hS, _, _, rfl, rfl, _, rfl, ?_⟩
  rw [hlen]
  refine ite2 (fun c => ?_) (fun c => ?_)
  · have c' : 21 < gs.length := by have := of_decide_eq_true c; omega
    exact ⟨_, rfl, by decide +kernel, .inl ⟨_, rfl, by decide, _, rfl, by decide +kernel, _, rfl, by decide +kernel, by decide +kernel, by decide, qt c' H (Same.refl H)⟩⟩
  have c' : gs.length ≤ 21 := by have := of_decide_eq_false (Bool.eq_false_iff.mpr c); omega
  refine ⟨_, rfl, b, rfl, ⟨_, hS⟩, for_list (xs := gs.map V.int) (fun i σ H' => H' = H ∧ ∃ z o, σ = [some (.ref b), some (.int z), o] ∧ 1 ≤ z ∧ (z = 1 ∨ z ∈ gs.take i) ∧ (∀ x ∈ gs.take i, 1 ≤ x ∧ x ≤ z ∧ x ≤ 4000) ∧ (gs.take i).Pairwise (· ≤ ·)) ⟨rfl, 1, none, rfl, by decide, .inl rfl, by simp, by simp⟩ ?_ ?_ ?_⟩
  · rintro i σ H' _ ⟨rfl, _⟩
    exact hS
  · rintro i x σ H' hx ⟨rfl, z, o, rfl, z1, z2, z3, z4⟩
    obtain ⟨y, hy, rfl⟩ := int_at hx
    have hym := List.mem_of_getElem? hy
    have tk : gs.take (i + 1) = gs.take i ++ [y] := Rg.take_succ hy
    have bad : ¬ (z ≤ y ∧ y ≤ 4000) → ¬ GapsOk gs := fun h hG => by
      apply h
      refine ⟨?_, hG.high y hym⟩
      rcases z2 with e | e
      · rw [e]; exact hG.low y hym
      · have := hG.rise.sublist (List.take_sublist (i + 1) gs)
        rw [tk, List.pairwise_append] at this
        exact this.2.2 z e y (by simp)
    have boom : ¬ GapsOk gs → E (.ref CG) none H' := fun h => qg c' h H' (Same.refl _)
    refine ⟨_, rfl, _, rfl, _, _, rfl, rfl, _, rfl, ?_⟩
    refine ite2 (fun u => ?_) (fun u => ?_)
    rotate_left
    · have u' : ¬ z ≤ y := of_decide_eq_false (Bool.eq_false_iff.mpr u)
      exact ⟨_, rfl, iteT ⟨_, rfl, by decide +kernel, .inl ⟨_, rfl, by decide, _, rfl, by decide +kernel, by decide +kernel, by decide, boom (bad fun t => u' t.1)⟩⟩⟩
    have u' : z ≤ y := of_decide_eq_true u
    refine ⟨_, _, rfl, rfl, _, rfl, ?_⟩
    refine ite2 (fun v => ?_) (fun v => ?_)
    · have v' : ¬ y ≤ 4000 := by simpa using v
      exact ⟨_, rfl, by decide +kernel, .inl ⟨_, rfl, by decide, _, rfl, by decide +kernel, by decide +kernel, by decide, boom (bad fun t => v' t.2)⟩⟩
    have v' : y ≤ 4000 := by simpa using v
    refine ⟨_, rfl, rfl, y, _, rfl, by omega, .inr (by rw [tk]; simp), fun x hx' => ?_, ?_⟩
    · rw [tk, List.mem_append] at hx'
      rcases hx' with e | e
      · have := z3 x e; omega
      · have : x = y := by simpa using e
        omega
    · rw [tk, List.pairwise_append]
      refine ⟨z4, by simp, fun p hp t ht => ?_⟩
      have : t = y := by simpa using ht
      have := z3 p hp
      omega
  · rintro σ H' ⟨rfl, z, o, rfl, z1, z2, z3, z4⟩
    rw [len_int, List.take_length] at z3 z4
    exact q ⟨c', z4, fun x hx => (z3 x hx).1, fun x hx => (z3 x hx).2.2⟩ H' (Same.refl _)
theorem Both.of {H : Hp} {a b : Addr} {ps gs : List Int} (hA : SqL K H a (ps.map V.int)) (hB : SqL K H b (gs.map V.int)) (e : roadB ps = true) (hG : GapsOk gs) : Both K H a b ps gs := ⟨⟨hA, (roadB_facts e).2.1, hB⟩, e, hG⟩
end
end Rd
namespace Rd
open PySem L2 PyProof.Rows
structure MgL (mg : Str → Option Value) : Prop where
  len : mg "len" = none
  range : mg "range" = none
  sorted : mg "sorted" = none
  isinst : mg "isinstance" = none
  int : mg "int" = none
  bool : mg "bool" = none
  list : mg "list" = none
theorem kit_ii (K : PySem.W.Frag) : PySem.W.kitOne K (.type "int") (.type "int") = some true := by kernel_rfl
theorem kit_ib (K : PySem.W.Frag) : PySem.W.kitOne K (.type "int") (.type "bool") = some false := by kernel_rfl
theorem kit_ll (K : PySem.W.Frag) : PySem.W.kitOne K (.type "list") (.type "list") = some true := by kernel_rfl
section
variable {P : Program} {w : World} {K : PySem.W.Frag} {mg : Str → Option Value} {base : Heap} {f g : Addr} {fd gd : FuncData}
def spCell (K : PySem.W.Frag) : Sp := fun vs H Q _ => ∃ (a : Addr) (ns : List Int) (k : Int), vs = [.ref a, .int k] ∧ SqL K H a (ns.map V.int) ∧ 0 ≤ k ∧ ∀ i, Q (.int i) H
theorem scCell : FnScope ["script", "k"] ["script", "k"] (defScope sCell) := ⟨rfl, rfl, rfl, by decide +kernel, rfl, by decide +kernel, by decide +kernel⟩
theorem ok_cell (F : Fun K "_law_cell_at" "_law_cell_at" sCell f fd) (m : mg "_law_cell_at" = some (.ref f)) (G : MgL mg) : Def P w K mg base CX0 "_law_cell_at" ["script", "k"] 1 (spCell K) := by
  refine ⟨f, fd, ?_, F.binds fun _ _ _ _ _ _ us hl => match us, hl with | [_, _], _ => rfl, F.kp, m⟩
  refine F.ok (k := 0) scCell (fun vs H Q E h => ?_) (fun cdv A outer s H vs Q E hr h => ?_)
  · obtain ⟨a, ns, k, rfl, _⟩ := h
    rfl
  obtain ⟨a, ns, k, rfl, hS, hk, q⟩ := h
  refine ⟨_, pss_cons (ps_if (pt_cmpR op_lt (pv 1) (pe_callB call_len_seq rfl G.len PySem.boot_len (pa_cons (pv 0) pa_nil)) (nomark _)) (pss_one (ps_ret (pe_ix ix_list (pv 0) (pv 1) (fun _ _ => rfl)))) pss_nil) (pss_one (ps_ret pe_int)), ?_⟩
  refine ⟨_, rfl, _, rfl, a, _, rfl, .inl hS, _, _, rfl, rfl, _, rfl, ?_⟩
  refine ite2 (fun c => ?_) (fun c => q 0)
  have c' : k < (((ns.map V.int).length : Nat) : Int) := of_decide_eq_true c
  rw [len_int] at c'
  have g1 : ns[k.toNat]? = some (ns.getD k.toNat 0) := by simp [List.getD_eq_getElem?_getD, show k.toNat < ns.length by omega]
  have a1 : atI (ns.map V.int) k = some (.int (ns.getD k.toNat 0)) := by
    have := atI_int g1
    rw [show ((k.toNat : Nat) : Int) = k by omega] at this
    exact this
  exact ⟨_, rfl, _, rfl, a, _, _, _, rfl, rfl, hS, a1, q _⟩
def spWhole : Sp := fun vs H Q _ => ∃ i, vs = [.int i] ∧ Q (.bl true) H
theorem scWhole : FnScope ["found"] ["found"] (defScope sWhole) := ⟨rfl, rfl, rfl, by decide +kernel, rfl, by decide +kernel, by decide +kernel⟩
theorem ok_whole (F : Fun K "_law_whole" "_law_whole" sWhole f fd) (m : mg "_law_whole" = some (.ref f)) (G : MgL mg) : Def P w K mg base CX0 "_law_whole" ["found"] 1 spWhole := by
  refine ⟨f, fd, ?_, F.binds fun _ _ _ _ _ _ us hl => match us, hl with | [_], _ => rfl, F.kp, m⟩
  refine F.ok (k := 0) scWhole (fun vs H Q E h => ?_) (fun cdv A outer s H vs Q E hr h => ?_)
  · obtain ⟨i, rfl, _⟩ := h
    rfl
  obtain ⟨i, rfl, q⟩ := h
  refine ⟨_, pss_one (ps_ret (pe_and (pe_callB call_isT rfl G.isinst PyProof.Rows.Boot.«isinstance» (pa_cons (pv 0) (pa_cons (pe_bltn (by rfl) G.int PyProof.Rows.Boot.«int» (v := .ty "int") rfl) pa_nil)))
    (pe_one (pe_not (pe_callB call_isT rfl G.isinst PyProof.Rows.Boot.«isinstance» (pa_cons (pv 0) (pa_cons (pe_bltn (by rfl) G.bool PyProof.Rows.Boot.«bool» (v := .ty "bool") rfl) pa_nil))))))), ?_⟩
  exact ⟨_, rfl, _, "int", _, true, rfl, .int i, kit_ii K, true, rfl, _, rfl, _, "bool", _, false, rfl, .int i, kit_ib K, false, rfl, q⟩
/-- two lists of ints, one beside the other: is the first the second -/
def spList (K : PySem.W.Frag) : Sp := fun vs H Q _ => ∃ (a b : Addr) (xs ys : List Int), vs = [.ref a, .ref b] ∧ H a = some (.lst (xs.map V.int)) ∧ SqL K H b (ys.map V.int) ∧ xs.length ≤ 5000 ∧ ys.length ≤ 5000 ∧ Q (.bl (decide (xs = ys))) H
theorem scList : FnScope ["found", "due", "k"] ["found", "due"] (defScope sList) := ⟨rfl, rfl, rfl, by decide +kernel, rfl, by decide +kernel, by decide +kernel⟩
theorem ok_list (F : Fun K "_law_list" "_law_list" sList f fd) (m : mg "_law_list" = some (.ref f)) (G : MgL mg) (D1 : Def P w K mg base CX0 "_law_whole" ["found"] 1 spWhole) : Def P w K mg base CX0 "_law_list" ["found", "due"] 2 (spList K) := by
  refine ⟨f, fd, ?_, F.binds fun _ _ _ _ _ _ us hl => match us, hl with | [_, _], _ => rfl, F.kp, m⟩
  refine F.ok (k := 1) scList (fun vs H Q E h => ?_) (fun cdv A outer s H vs Q E hr h => ?_)
  · obtain ⟨a, b, xs, ys, rfl, _⟩ := h
    rfl
  obtain ⟨a, b, xs, ys, rfl, hA, hB, l1, l2, q⟩ := h
  refine ⟨_, pss_cons (ps_if (pw_or (pt_not (pt_val (pe_callB call_isT (by rfl) G.isinst PyProof.Rows.Boot.«isinstance» (pa_cons (pv 0) (pa_cons (pe_bltn (by rfl) G.list PyProof.Rows.Boot.«list» (v := .ty "list") rfl) pa_nil)))))
      (pw_or1 (pt_cmpR op_ne (pe_callB call_len_seq (by rfl) G.len PySem.boot_len (pa_cons (pv 0) pa_nil)) (pe_callB call_len_seq (by rfl) G.len PySem.boot_len (pa_cons (pv 1) pa_nil)) (nomark _)))).pt (pss_one (ps_ret pe_bl)) pss_nil)
    (pss_cons (ps_for PassesOwn.never rfl (pi_range1 rfl G.range (pa_cons (pe_callB call_len_seq rfl G.len PySem.boot_len (pa_cons (pv 1) pa_nil)) pa_nil)) (pg_name (i := 2) scList.nd rfl (Or.inl rfl))
      (pss_one (ps_if (pw_or (pt_not (pt_val (pe_fn D1 hr (by rfl) (pa_cons (pe_ix ix_list (pv 0) (pv 2) (fun _ _ => rfl)) pa_nil)))) (pw_or1 (pt_cmpR op_ne (pe_ix ix_list (pv 0) (pv 2) (fun _ _ => rfl)) (pe_ix ix_list (pv 1) (pv 2) (fun _ _ => rfl)) (nomark _)))).pt (pss_one (ps_ret pe_bl)) pss_nil)))
    (pss_one (ps_ret pe_bl))), ?_⟩
  refine ⟨_, rfl, _, "list", _, true, rfl, .lst hA, kit_ll K, true, rfl, ?_⟩
  refine ⟨_, rfl, a, _, rfl, .inl (SqL.of hA), _, rfl, b, _, rfl, .inl hB, rfl, _, rfl, ?_⟩
  rw [len_int, len_int]
  refine ite2 (fun c => ?_) (fun c => ?_)
  · have c0 : ((xs.length : Nat) : Int) ≠ (ys.length : Nat) := by simpa using c
    have c' : xs.length ≠ ys.length := by omega
    have e : decide (xs = ys) = false := decide_eq_false fun z => c' (by rw [z])
    rw [e] at q
    exact q
  have c0 : ((xs.length : Nat) : Int) = (ys.length : Nat) := by simpa using c
  have c' : xs.length = ys.length := by omega
  refine ⟨_, rfl, b, _, rfl, .inl hB, _, rfl, by rw [len_int]; omega, by rw [len_int]; omega, ?_⟩
  rw [len_int, Int.toNat_natCast]
  refine for_range (lo := 0) (n := ys.length) (fun i σ H' => H' = H ∧ (∃ o, σ = [some (.ref a), some (.ref b), o]) ∧ xs.take i = ys.take i) ⟨rfl, ⟨_, rfl⟩, rfl⟩ ?_ ?_
  · rintro i σ H' hi ⟨rfl, ⟨o, rfl⟩, ht⟩
    have gx : xs[i]? = some (xs.getD i 0) := by simp [List.getD_eq_getElem?_getD, show i < xs.length by omega]
    have gy : ys[i]? = some (ys.getD i 0) := by simp [List.getD_eq_getElem?_getD, hi]
    have ax : atI (xs.map V.int) (0 + (i : Int)) = some (.int (xs.getD i 0)) := by rw [show 0 + (i : Int) = ((i : Nat) : Int) by omega]; exact atI_int gx
    have ay : atI (ys.map V.int) (0 + (i : Int)) = some (.int (ys.getD i 0)) := by rw [show 0 + (i : Int) = ((i : Nat) : Int) by omega]; exact atI_int gy
    refine ⟨_, rfl, _, rfl, a, _, _, _, rfl, rfl, SqL.of hA, ax, _, rfl, true, rfl, ?_⟩
    refine ⟨_, rfl, _, rfl, a, _, _, _, rfl, rfl, SqL.of hA, ax, _, rfl, _, rfl, b, _, _, _, rfl, rfl, hB, ay, rfl, _, rfl, ?_⟩
    refine ite2 (fun c2 => ?_) (fun c2 => ?_)
    · have c2' : xs.getD i 0 ≠ ys.getD i 0 := by simpa using c2
      have e : decide (xs = ys) = false := decide_eq_false fun z => c2' (by rw [z])
      rw [e] at q
      exact q
    · have c2' : xs.getD i 0 = ys.getD i 0 := by simpa using c2
      refine ⟨rfl, ⟨_, rfl⟩, ?_⟩
      rw [Rg.take_succ gx, Rg.take_succ gy, ht, c2']
  · rintro σ H' ⟨rfl, _, ht⟩
    rw [List.take_length, List.take_of_length_le (by omega)] at ht
    rw [decide_eq_true ht] at q
    exact q
/-- all pairs of a rising list, told by two loops -/
theorem scBetween : FnScope ["places", "found", "a", "b"] ["places"] (defScope sBetween) := ⟨rfl, rfl, rfl, by decide +kernel, rfl, by decide +kernel, by decide +kernel⟩
def btwTo (ps : List Int) (i : Nat) : List Int := (ps.take i).flatMap fun a => (ps.filter fun b => decide (a < b)).map (· - a)
def btwIn (ps : List Int) (a : Int) (j : Nat) : List Int := ((ps.take j).filter fun b => decide (a < b)).map (· - a)
theorem btwTo_succ {ps : List Int} {i : Nat} {a : Int} (h : ps[i]? = some a) : btwTo ps (i + 1) = btwTo ps i ++ btwIn ps a ps.length := by
  unfold btwTo btwIn
  rw [Rg.take_succ h, List.flatMap_append, List.take_length]
  simp
theorem btwIn_succ {ps : List Int} {j : Nat} {a b : Int} (h : ps[j]? = some b) : btwIn ps a (j + 1) = btwIn ps a j ++ if a < b then [b - a] else [] := by
  unfold btwIn
  rw [Rg.take_succ h, List.filter_append, List.map_append]
  congr 1
  by_cases c : a < b
  · simp [c]
  · simp [c]
theorem btw_lens {ps : List Int} : ∀ i, (btwTo ps i).length ≤ i * ps.length
  | 0 => by simp [btwTo]
  | i + 1 => by
    cases e : ps[i]? with
    | none =>
      have : btwTo ps (i + 1) = btwTo ps i := by unfold btwTo; rw [List.take_succ, e]; simp
      rw [this]
      exact Nat.le_trans (btw_lens i) (Nat.mul_le_mul_right _ (Nat.le_succ _))
    | some a =>
      have h1 := btw_lens (ps := ps) i
      have h2 : (btwIn ps a ps.length).length ≤ ps.length := by
        unfold btwIn
        rw [List.length_map, List.take_length]
        exact List.length_filter_le _ _
      rw [btwTo_succ e, List.length_append, Nat.add_mul]
      omega
def spBtwL (K : PySem.W.Frag) : Sp := fun vs H Q _ => ∃ (a : Addr) (ps : List Int), vs = [.ref a] ∧ SqL K H a (ps.map V.int) ∧ ps.length ≤ 50 ∧ ps.Pairwise (· < ·) ∧ ∀ r H', Same H H' → H r = none → H' r = some (.lst ((Rg.srt (Rg.fnd ps)).map V.int)) → Q (.ref r) H'
theorem ok_between (F : Fun K "_law_between" "_law_between" sBetween f fd) (m : mg "_law_between" = some (.ref f)) (G : MgL mg) : Def P w K mg base CX0 "_law_between" ["places"] 1 (spBtwL K) := by
  refine ⟨f, fd, ?_, F.binds fun _ _ _ _ _ _ us hl => match us, hl with | [_], _ => rfl, F.kp, m⟩
  refine F.ok (k := 0) scBetween (fun vs H Q E h => ?_) (fun cdv A outer s H vs Q E hr h => ?_)
  · obtain ⟨a, ps, rfl, _⟩ := h
    rfl
  obtain ⟨a, ps, rfl, hS, h50, hP, q⟩ := h
  refine ⟨_, pss_cons (ps_set (i := 1) scBetween.nd rfl (Or.inl rfl) (pe_lst pa_nil))
    (pss_cons (ps_for PassesOwn.never rfl (pi_list (pv 0)) (pg_name (i := 2) scBetween.nd rfl (Or.inl rfl))
      (pss_one (ps_for PassesOwn.never rfl (pi_list (pv 0)) (pg_name (i := 3) scBetween.nd rfl (Or.inl rfl))
        (pss_one (ps_if (pt_cmpR op_lt (pv 2) (pv 3) (nomark _)) (pss_one (ps_expr (pe_bm PySem.F.plainAttrs_list PySem.F.slot_list_append PySem.F.type_list_append mt_append (pv 1) (pa_cons (pe_op op_sub (pv 3) (pv 2)) pa_nil)))) pss_nil)))))
    (pss_one (ps_ret (pe_callB call_srt rfl G.sorted boot_sorted (pa_cons (pv 1) pa_nil))))), ?_⟩
  refine ⟨(by show 0 ≤ sizeLine; decide), fun l hl => ?_⟩
  refine ⟨_, rfl, a, rfl, ⟨_, sq_ne hS hl⟩, for_list (xs := ps.map V.int) (fun i σ H' => (∃ o o', σ = [some (.ref a), some (.ref l), o, o']) ∧ Same H H' ∧ H' l = some (.lst ((btwTo ps i).map V.int))) ⟨⟨_, _, rfl⟩, same_new hl _, upd_same⟩ ?_ ?_ ?_⟩
  · rintro i σ H' _ ⟨_, h1, _⟩
    exact h1.seq hS
  · rintro i x σ H' hx ⟨⟨o, o', rfl⟩, h1, h2⟩
    obtain ⟨y, hy, rfl⟩ := int_at hx
    refine ⟨_, rfl, a, rfl, ⟨_, h1.seq hS⟩, for_list (xs := ps.map V.int) (fun j σ H' => (∃ o', σ = [some (.ref a), some (.ref l), some (.int y), o']) ∧ Same H H' ∧ H' l = some (.lst ((btwTo ps i ++ btwIn ps y j).map V.int))) ⟨⟨_, rfl⟩, h1, by rw [h2]; simp [btwIn]⟩ ?_ ?_ ?_⟩
    · rintro j σ H'' _ ⟨_, h3, _⟩
      exact h3.seq hS
    · rintro j x σ H'' hx' ⟨⟨o', rfl⟩, h3, h4⟩
      obtain ⟨z, hz, rfl⟩ := int_at hx'
      refine ⟨_, rfl, _, rfl, _, _, rfl, rfl, _, rfl, ?_⟩
      have hi := (List.getElem?_eq_some_iff.mp hy).1
      have hj := (List.getElem?_eq_some_iff.mp hz).1
      refine ite2 (fun c => ?_) (fun c => ?_)
      · have c' : y < z := of_decide_eq_true c
        refine ⟨_, rfl, .inl ⟨rfl, _, SqL.of h4⟩, _, rfl, _, rfl, _, _, rfl, rfl, l, _, _, rfl, rfl, h4, ?_, ⟨_, rfl⟩, same_upd h3 hl, ?_⟩
        · rw [len_int, List.length_append]
          have e1 := btw_lens (ps := ps) i
          have e2 : (btwIn ps y j).length ≤ ps.length := by
            unfold btwIn
            rw [List.length_map]
            exact Nat.le_trans (List.length_filter_le _ _) (by rw [List.length_take]; omega)
          have e3 : i * ps.length ≤ 50 * 50 := Nat.mul_le_mul (by omega) h50
          exact Nat.lt_of_le_of_lt (show (btwTo ps i).length + (btwIn ps y j).length ≤ 4000 by omega) (by decide)
        · rw [upd_same, btwIn_succ hz, if_pos c', ← List.append_assoc, List.map_append (l₁ := btwTo ps i ++ btwIn ps y j)]
          rfl
      · have c' : ¬ y < z := of_decide_eq_false (Bool.eq_false_iff.mpr c)
        exact ⟨⟨_, rfl⟩, h3, by rw [btwIn_succ hz, if_neg c', List.append_nil]; exact h4⟩
    · rintro σ H'' ⟨⟨o', rfl⟩, h3, h4⟩
      rw [len_int, ← btwTo_succ hy] at h4
      exact ⟨⟨_, _, rfl⟩, h3, h4⟩
  · rintro σ H' ⟨⟨o, o', rfl⟩, h1, h2⟩
    have e : btwTo ps ps.length = Rg.fnd ps := by
      rw [← Rg.btw_fnd hP]
      unfold btwTo Rg.btw
      rw [List.take_length]
    rw [len_int, e] at h2
    exact ⟨_, rfl, l, _, rfl, SqL.of h2, fun r hr' => q r _ (same_upd h1 (h1.free hr')) (h1.free hr') upd_same⟩
/-- a drawn road -/
structure Drawn (ps : List Int) (many : Nat) (top : Int) : Prop where
  len : ps.length = many
  zero : ps.getD 0 0 = 0
  rise : ps.Pairwise (· < ·)
  high : ∀ p ∈ ps, 0 ≤ p ∧ p ≤ top
def spRoad (K : PySem.W.Frag) : Sp := fun vs H Q _ => ∃ (a : Addr) (ns : List Int) (first many steps : Int), vs = [.ref a, .int first, .int many, .int steps] ∧ SqL K H a (ns.map V.int) ∧ 0 ≤ first ∧ 1 ≤ many ∧ many ≤ 60 ∧ 1 ≤ steps ∧
  ∀ r H' (ps : List Int), Same H H' → H r = none → H' r = some (.lst (ps.map V.int)) → Drawn ps many.toNat ((many - 1) * steps) → Q (.ref r) H'
theorem scRoad : FnScope ["script", "first", "many", "steps", "road", "k"] ["script", "first", "many", "steps"] (defScope sRoad) := ⟨rfl, rfl, rfl, by decide +kernel, rfl, by decide +kernel, by decide +kernel⟩
theorem ok_road (F : Fun K "_law_road" "_law_road" sRoad f fd) (m : mg "_law_road" = some (.ref f)) (G : MgL mg) (D1 : Def P w K mg base CX0 "_law_cell_at" ["script", "k"] 1 (spCell K)) : Def P w K mg base CX0 "_law_road" ["script", "first", "many", "steps"] 2 (spRoad K) := by
  refine ⟨f, fd, ?_, F.binds fun _ _ _ _ _ _ us hl => match us, hl with | [_, _, _, _], _ => rfl, F.kp, m⟩
  refine F.ok (k := 1) scRoad (fun vs H Q E h => ?_) (fun cdv A outer s H vs Q E hr h => ?_)
  · obtain ⟨a, ns, first, many, steps, rfl, _⟩ := h
    rfl
  obtain ⟨a, ns, first, many, steps, rfl, hS, h1, h2, h3, h4, q⟩ := h
  refine ⟨_, pss_cons (ps_set (i := 4) scRoad.nd rfl (Or.inl rfl) (pe_lst (pa_cons pe_int pa_nil)))
    (pss_cons (ps_for PassesOwn.never rfl (pi_range1 rfl G.range (pa_cons (pe_op op_sub (pv 2) pe_int) pa_nil)) (pg_name (i := 5) scRoad.nd rfl (Or.inl rfl))
      (pss_one (ps_expr (pe_bm PySem.F.plainAttrs_list PySem.F.slot_list_append PySem.F.type_list_append mt_append (pv 4) (pa_cons (pe_op op_add (pe_op op_add (pe_ix ix_list (pv 4) (pe_un un_neg pe_int) (fun _ _ => rfl)) pe_int)
        (pe_op op_mod (pe_fn D1 hr rfl (pa_cons (pv 0) (pa_cons (pe_op op_add (pv 1) (pv 5)) pa_nil))) (pv 3))) pa_nil)))))
    (pss_one (ps_ret (pv 4)))), ?_⟩
  refine ⟨(by show 1 ≤ sizeLine; decide), fun l hl => ?_⟩
  refine ⟨_, rfl, _, _, rfl, rfl, _, rfl, by omega, by omega, ?_⟩
  have mono : ∀ i : Nat, (i : Int) * steps ≤ ((i + 1 : Nat) : Int) * steps := fun i => by
    have : ((i + 1 : Nat) : Int) * steps = (i : Int) * steps + steps := by
      rw [Int.natCast_add, Int.add_mul]; simp
    omega
  refine for_range (lo := 0) (n := (many - 1).toNat) (fun i σ H' => (∃ o, σ = [some (.ref a), some (.int first), some (.int many), some (.int steps), some (.ref l), o]) ∧ Same H H' ∧ ∃ (ps : List Int) (z : Int), H' l = some (.lst ((ps ++ [z]).map V.int)) ∧ Drawn (ps ++ [z]) (i + 1) ((i : Int) * steps) ∧ z ≤ (i : Int) * steps ∧ ∀ p ∈ ps, p < z)
    ⟨⟨_, rfl⟩, same_new hl _, [], 0, upd_same, ⟨rfl, rfl, List.pairwise_singleton _ _, by simp⟩, by simp, by simp⟩ ?_ ?_
  · rintro i σ H' hi ⟨⟨o, rfl⟩, sm, ps, z, hL, hD, hz, hlt⟩
    have aL : atI ((ps ++ [z]).map V.int) (-1) = some (.int z) := atI_back (by rw [List.getLast?_map]; simp)
    refine ⟨_, rfl, .inl ⟨rfl, _, SqL.of hL⟩, _, rfl, _, rfl, l, _, _, _, rfl, rfl, SqL.of hL, aL, _, _, rfl, rfl, _, rfl, _, rfl, _, rfl, _, _, rfl, rfl, a, ns, _, rfl, sm.seq hS, by omega, fun c => ?_⟩
    have hs : (0 : Int) < steps := by omega
    have r0 := Int.emod_nonneg c (show steps ≠ 0 by omega)
    have r1 := Int.emod_lt_of_pos c hs
    have hlen := hD.len
    rw [List.length_append, List.length_singleton] at hlen
    refine ⟨_, rfl, _, _, rfl, rfl, hs, _, _, rfl, rfl, l, _, _, rfl, rfl, hL, ?_, ⟨_, rfl⟩, same_upd sm hl, ps ++ [z], z + 1 + c % steps, ?_, ⟨?_, ?_, ?_, ?_⟩, ?_, ?_⟩
    · rw [len_int, List.length_append, List.length_singleton]
      exact Nat.lt_of_le_of_lt (show ps.length + 1 ≤ 1000 by omega) (by decide)
    · rw [upd_same, List.map_append (l₁ := ps ++ [z])]; rfl
    · rw [List.length_append, List.length_append, List.length_singleton, List.length_singleton]; omega
    · have := hD.zero
      cases ps with
      | nil => simpa using this
      | cons p ps => simpa using this
    · rw [List.pairwise_append]
      refine ⟨hD.rise, List.pairwise_singleton _ _, fun x hx y hy => ?_⟩
      have hy' : y = z + 1 + c % steps := by simpa using hy
      rcases List.mem_append.mp hx with w' | w'
      · have := hlt x w'; omega
      · have : x = z := by simpa using w'
        omega
    · intro p hp
      have e : ((i + 1 : Nat) : Int) * steps = (i : Int) * steps + steps := by rw [Int.natCast_add, Int.add_mul]; simp
      rcases List.mem_append.mp hp with w' | w'
      · have := hD.high p w'
        omega
      · have hp' : p = z + 1 + c % steps := by simpa using w'
        have := hD.high z (by simp)
        omega
    · have e : ((i + 1 : Nat) : Int) * steps = (i : Int) * steps + steps := by rw [Int.natCast_add, Int.add_mul]; simp
      omega
    · intro p hp
      rcases List.mem_append.mp hp with w' | w'
      · have := hlt p w'; omega
      · have : p = z := by simpa using w'
        omega
  · rintro σ H' ⟨⟨o, rfl⟩, sm, ps, z, hL, hD, _⟩
    refine ⟨_, rfl, q l H' _ sm hl hL ?_⟩
    have e1 : (many - 1).toNat + 1 = many.toNat := by omega
    have e2 : (((many - 1).toNat : Nat) : Int) = many - 1 := by omega
    rw [e1, e2] at hD
    exact hD
end
end Rd
namespace Rd
open PySem L2 PyProof.Rows
section
variable {P : Program} {w : World} {K : PySem.W.Frag} {mg : Str → Option Value} {base : Heap} {f g : Addr} {fd gd : FuncData}
/-- a menu of four, of three -/
theorem menu4 (c : Int) : ∃ st : Int, atI [V.int 3, V.int 9, V.int 60, V.int 600] (c % 4) = some (.int st) ∧ 1 ≤ st ∧ st ≤ 600 := by
  have h : c % 4 = 0 ∨ c % 4 = 1 ∨ c % 4 = 2 ∨ c % 4 = 3 := by omega
  rcases h with h | h | h | h <;> rw [h]
  · exact ⟨3, rfl, by decide, by decide⟩
  · exact ⟨9, rfl, by decide, by decide⟩
  · exact ⟨60, rfl, by decide, by decide⟩
  · exact ⟨600, rfl, by decide, by decide⟩
/-- between the rows that change the distances -/
def MidG (H : Hp) (a : Addr) (first B : Int) (σ : L2.St) (H' : Hp) : Prop := ∃ (st : Int) (rd g : Addr) (mode cell : Int) (gs : List Int), σ = [some (.ref a), some (.int first), some (.int st), some (.ref rd), some (.ref g), some (.int mode), some (.int cell)] ∧
  Same H H' ∧ H g = none ∧ H' g = some (.lst (gs.map V.int)) ∧ gs.length ≤ 21 ∧ ∀ d ∈ gs, 1 ≤ d ∧ d ≤ B
theorem MidG.up {H : Hp} {a : Addr} {first B C : Int} {σ : L2.St} {H' : Hp} (h : MidG H a first B σ H') (hb : B ≤ C) : MidG H a first C σ H' := by
  obtain ⟨st, rd, g, mode, cell, gs, h1, h2, h3, h4, h5, h6⟩ := h
  exact ⟨st, rd, g, mode, cell, gs, h1, h2, h3, h4, h5, fun d hd => ⟨(h6 d hd).1, by have := (h6 d hd).2; omega⟩⟩
def spGaps (K : PySem.W.Frag) : Sp := fun vs H Q _ => ∃ (a : Addr) (ns : List Int) (first : Int), vs = [.ref a, .int first] ∧ SqL K H a (ns.map V.int) ∧ 0 ≤ first ∧
  ∀ r H' (gs : List Int), Same H H' → H r = none → H' r = some (.lst (gs.map V.int)) → GapsOk gs → Q (.ref r) H'
theorem scGaps : FnScope ["script", "first", "steps", "road", "gaps", "mode", "cell"] ["script", "first"] (defScope sGaps) := ⟨rfl, rfl, rfl, by decide +kernel, rfl, by decide +kernel, by decide +kernel⟩
theorem dt_nil {H : Hp} {l : Addr} (h : H l = some (.lst [])) : Dt K H (.ref l) (.list (([] : List Int).map PyData.int)) := .lst (SqL.of h) .nil
theorem dt_lst {H : Hp} {l : Addr} {gs : List Int} (h : H l = some (.lst (gs.map V.int))) : Dt K H (.ref l) (.list (gs.map PyData.int)) := .lst (SqL.of h) (dt_ints _)
theorem ok_gaps (F : Fun K "_law_gaps" "_law_gaps" sGaps f fd) (m : mg "_law_gaps" = some (.ref f)) (G : MgL mg) (hmax : mg "max" = none) (D1 : Def P w K mg base CX0 "_law_cell_at" ["script", "k"] 1 (spCell K)) (D2 : Def P w K mg base CX0 "_law_road" ["script", "first", "many", "steps"] 2 (spRoad K))
    (D3 : Def P w K mg base CX0 "_law_between" ["places"] 1 (spBtwL K)) : Def P w K mg base CX0 "_law_gaps" ["script", "first"] 3 (spGaps K) := by
  refine ⟨f, fd, ?_, F.binds fun _ _ _ _ _ _ us hl => match us, hl with | [_, _], _ => rfl, F.kp, m⟩
  refine F.ok (k := 2) scGaps (fun vs H Q E h => ?_) (fun cdv A outer s H vs Q E hr h => ?_)
  · obtain ⟨a, ns, first, rfl, _⟩ := h
    rfl
  obtain ⟨a, ns, first, rfl, hS, h0, q⟩ := h
  have D1' := D1.mono (show 1 ≤ 2 by decide)
  have D3' := D3.mono (show 1 ≤ 2 by decide)
  refine ⟨_, pss_cons (ps_set (i := 2) scGaps.nd rfl (Or.inl rfl) (pe_ix ix_list (pe_lst (pa_cons pe_int (pa_cons pe_int (pa_cons pe_int (pa_cons pe_int pa_nil))))) (pe_op op_mod (pe_op op_fdiv (pe_fn D1' hr rfl (pa_cons (pv 0) (pa_cons (pv 1) pa_nil))) pe_int) pe_int) (fun _ _ => rfl)))
    (pss_cons (ps_set (i := 3) scGaps.nd rfl (Or.inl rfl) (pe_fn D2 hr rfl (pa_cons (pv 0) (pa_cons (pe_op op_add (pv 1) pe_int) (pa_cons (pe_op op_add pe_int (pe_op op_mod (pe_fn D1' hr rfl (pa_cons (pv 0) (pa_cons (pv 1) pa_nil))) pe_int)) (pa_cons (pv 2) pa_nil))))))
    (pss_cons (ps_set (i := 4) scGaps.nd rfl (Or.inl rfl) (pe_fn D3' hr rfl (pa_cons (pv 3) pa_nil)))
    (pss_cons (ps_set (i := 5) scGaps.nd rfl (Or.inl rfl) (pe_op op_mod (pe_op op_fdiv (pe_fn D1' hr rfl (pa_cons (pv 0) (pa_cons (pv 1) pa_nil))) pe_int) pe_int))
    (pss_cons (ps_set (i := 6) scGaps.nd rfl (Or.inl rfl) (pe_fn D1' hr rfl (pa_cons (pv 0) (pa_cons (pe_op op_add (pv 1) pe_int) pa_nil))))
    (pss_mid (MidG H a first 3600) (ps_if (pw_and (pt_cmpR op_eq (pv 5) pe_int (nomark _)) (pw_and1 (pt_cmpR (op_neD hr.units) (pv 4) (pe_lst pa_nil) (nomark _)))).pt
      (pss_one (ps_expr (pe_bm PySem.F.plainAttrs_list PySem.F.slot_list_pop PySem.F.type_list_pop mt_popAt (pv 4) (pa_cons (pe_op op_mod (pv 6) (pe_callB call_len_seq (by rfl) G.len PySem.boot_len (pa_cons (pv 4) pa_nil))) pa_nil)))) pss_nil)
    (pss_mid (MidG H a first 3602) (ps_if (pw_and (pt_cmpR op_eq (pv 5) pe_int (nomark _)) (pw_and1 (pt_cmpR (op_neD hr.units) (pv 4) (pe_lst pa_nil) (nomark _)))).pt
      (pss_one (ps_asg (pe_op op_add pe_int (pe_op op_mod (pe_op op_fdiv (pv 6) pe_int) (pe_op op_add (pe_ix ix_list (pv 4) (pe_un un_neg pe_int) (fun _ _ => rfl)) pe_int))) (pg_sub (pv 4) (pe_op op_mod (pv 6) (pe_callB call_len_seq (by rfl) G.len PySem.boot_len (pa_cons (pv 4) pa_nil))) set_list))) pss_nil)
    (pss_mid (MidG H a first 3604) (ps_if (pw_and (pt_cmpR op_eq (pv 5) pe_int (nomark _)) (pw_and1 (pt_cmpR op_lt (pe_callB call_len_seq (by rfl) G.len PySem.boot_len (pa_cons (pv 4) pa_nil)) pe_int (nomark _)))).pt
      (pss_one (ps_expr (pe_bm PySem.F.plainAttrs_list PySem.F.slot_list_append PySem.F.type_list_append mt_append (pv 4) (pa_cons (pe_op op_add pe_int (pe_op op_mod (pe_op op_fdiv (pv 6) pe_int) (pe_op op_add (pe_maxD rfl (by rfl) hmax (pa_cons (pv 4) pa_nil) (pk_cons pe_int pk_nil)) pe_int))) pa_nil)))) pss_nil)
    (pss_one (ps_ret (pe_callB call_srt rfl G.sorted boot_sorted (pa_cons (pv 4) pa_nil))))))))))), ?_⟩
  refine ⟨(by show 4 ≤ sizeLine; decide), fun l hl => ?_⟩
  have s1 := same_new hl (.lst [V.int 3, V.int 9, V.int 60, V.int 600])
  refine ⟨_, rfl, _, rfl, a, ns, first, rfl, s1.seq hS, h0, fun c1 => ?_⟩
  obtain ⟨st, hst, st1, st2⟩ := menu4 (c1 / 7)
  refine ⟨_, _, rfl, rfl, ⟨by decide, by decide⟩, _, _, rfl, rfl, (by show (0 : Int) < 4; decide), l, _, _, _, rfl, rfl, SqL.of upd_same, hst, ?_⟩
  refine ⟨_, rfl, _, rfl, _, _, rfl, rfl, _, rfl, _, rfl, a, ns, first, rfl, s1.seq hS, h0, fun c2 => ?_⟩
  refine ⟨_, _, rfl, rfl, (by show (0 : Int) < 7; decide), _, _, rfl, rfl, _, rfl, a, ns, _, _, _, rfl, s1.seq hS, by omega, by omega, by omega, st1, fun rd H2 ps s2 rd0 rd1 hD => ?_⟩
  have s12 := s1.trans s2
  have hlen : ps.length ≤ 7 := by rw [hD.len]; omega
  refine ⟨_, rfl, rd, ps, rfl, SqL.of rd1, by omega, hD.rise, fun gl H3 s3 g0 g1 => ?_⟩
  have s13 := s12.trans s3
  refine ⟨_, rfl, _, rfl, a, ns, first, rfl, s13.seq hS, h0, fun c3 => ⟨_, _, rfl, rfl, ⟨by decide, by decide⟩, _, _, rfl, rfl, (by show (0 : Int) < 6; decide), ?_⟩⟩
  refine ⟨_, rfl, _, rfl, _, _, rfl, rfl, a, ns, _, rfl, s13.seq hS, by omega, fun c4 => ?_⟩
  have hB : ∀ p ∈ ps, 0 ≤ p ∧ p ≤ 3600 := fun p hp => by
    have h := hD.high p hp
    have e : (1 + c2 % 7 - 1) * st ≤ 6 * 600 := by
      have := Int.mul_le_mul (show 1 + c2 % 7 - 1 ≤ 6 by omega) st2 (by omega) (show (0 : Int) ≤ 6 by decide)
      exact this
    omega
  obtain ⟨gs, hgs⟩ : ∃ gs, gs = Rg.srt (Rg.fnd ps) := ⟨_, rfl⟩
  rw [← hgs] at g1
  have hl4 : gs.length ≤ 21 := by rw [hgs, Rg.srt_length]; exact Rg.fnd_len21 hlen
  have hb4 : ∀ d ∈ gs, 1 ≤ d ∧ d ≤ 3600 := fun d hd => by
    rw [hgs, Rg.srt_mem] at hd
    exact ⟨Rg.fnd_pos hD.rise d hd, Rg.fnd_le hB d hd⟩
  have g0' := s12.free g0
  -- one left out
  refine ⟨?_, fun σ' H4 hM => ?_⟩
  · have stay : ∀ H5, Same H H5 → H5 gl = some (.lst (gs.map V.int)) → MidG H a first 3600 [some (.ref a), some (.int first), some (.int st), some (.ref rd), some (.ref gl), some (.int (c3 / 28 % 6)), some (.int c4)] H5 := fun H5 h5 e5 => ⟨_, _, _, _, _, gs, rfl, h5, g0', e5, hl4, hb4⟩
    refine ⟨_, rfl, rfl, _, rfl, ?_⟩
    refine ite2 (fun c => ?_) (fun c => stay _ s13 g1)
    refine ⟨_, rfl, (by show 0 ≤ sizeLine; decide), fun n hn => ?_⟩
    have s5 := same_upd (o := .lst []) s13 (s13.free hn)
    have g5 : upd H3 n (.lst []) gl = some (.lst (gs.map V.int)) := by rw [upd_ne (ne_of_none g1 hn)]; exact g1
    refine ⟨_, _, dt_lst g5, dt_nil upd_same, shaped_ints _, shaped_ints _, _, rfl, ?_⟩
    rw [eqv_ints]
    refine ite2 (fun c' => ?_) (fun c' => stay _ s5 g5)
    have hne : gs ≠ [] := by simpa using c'
    have hpos : 0 < gs.length := List.length_pos_iff.mpr hne
    have p0 := Int.emod_nonneg c4 (show ((gs.length : Nat) : Int) ≠ 0 by omega)
    have p1 := Int.emod_lt_of_pos c4 (show (0 : Int) < (gs.length : Nat) by omega)
    refine ⟨_, rfl, .inl ⟨rfl, _, SqL.of g5⟩, _, rfl, _, rfl, gl, _, rfl, .inl (SqL.of g5), _, _, rfl, rfl, by rw [len_int]; omega, gl, _, _, (c4 % ((gs.length : Nat) : Int)).toNat, .int (gs.getD (c4 % ((gs.length : Nat) : Int)).toNat 0), rfl, rfl, g5, by rw [len_int]; omega, by rw [len_int]; omega, ?_, ?_, ?_⟩
    · rw [len_int]; exact seqIndex_of p0 p1
    · exact at_int (by simp [List.getD_eq_getElem?_getD, show (c4 % ((gs.length : Nat) : Int)).toNat < gs.length by omega])
    · refine ⟨_, _, _, _, _, gs.eraseIdx (c4 % ((gs.length : Nat) : Int)).toNat, rfl, same_upd s5 g0', g0', ?_, ?_, fun d hd => hb4 d (List.mem_of_mem_eraseIdx hd)⟩
      · rw [upd_same, erase_map]
      · rw [List.length_eraseIdx]; split <;> omega
  clear hl4 hb4 g0' g1 hgs gs
  -- one changed
  obtain ⟨st', rd', gl', mode, cell, gs, rfl, s4, g0', g1', hl4, hb4⟩ := hM
  refine ⟨?_, fun σ' H5 hM => ?_⟩
  · have hb4' : ∀ d ∈ gs, 1 ≤ d ∧ d ≤ 3602 := fun d hd => ⟨(hb4 d hd).1, by have := (hb4 d hd).2; omega⟩
    have stay : ∀ H5, Same H H5 → H5 gl' = some (.lst (gs.map V.int)) → MidG H a first 3602 [some (.ref a), some (.int first), some (.int st'), some (.ref rd'), some (.ref gl'), some (.int mode), some (.int cell)] H5 := fun H5 h5 e5 => ⟨_, _, _, _, _, gs, rfl, h5, g0', e5, hl4, hb4'⟩
    refine ⟨_, rfl, rfl, _, rfl, ?_⟩
    refine ite2 (fun c => ?_) (fun c => stay _ s4 g1')
    refine ⟨_, rfl, (by show 0 ≤ sizeLine; decide), fun n hn => ?_⟩
    have s5 := same_upd (o := .lst []) s4 (s4.free hn)
    have g5 : upd H4 n (.lst []) gl' = some (.lst (gs.map V.int)) := by rw [upd_ne (ne_of_none g1' hn)]; exact g1'
    refine ⟨_, _, dt_lst g5, dt_nil upd_same, shaped_ints _, shaped_ints _, _, rfl, ?_⟩
    rw [eqv_ints]
    refine ite2 (fun c' => ?_) (fun c' => stay _ s5 g5)
    have hne : gs ≠ [] := by simpa using c'
    have hpos : 0 < gs.length := List.length_pos_iff.mpr hne
    have p0 := Int.emod_nonneg cell (show ((gs.length : Nat) : Int) ≠ 0 by omega)
    have p1 := Int.emod_lt_of_pos cell (show (0 : Int) < (gs.length : Nat) by omega)
    have eL : gs.getLast? = some (gs.getD (gs.length - 1) 0) := by rw [List.getLast?_eq_getElem?]; simp [List.getD_eq_getElem?_getD, show gs.length - 1 < gs.length by omega]
    have aL : atI (gs.map V.int) (-1) = some (.int (gs.getD (gs.length - 1) 0)) := atI_back (by rw [List.getLast?_map, eL]; rfl)
    have bL := hb4 _ (List.mem_of_getLast? eL)
    obtain ⟨z, hz⟩ : ∃ z, z = gs.getD (gs.length - 1) 0 := ⟨_, rfl⟩
    rw [← hz] at aL bL
    have r0 := Int.emod_nonneg (cell / 21) (show z + 2 ≠ 0 by omega)
    have r1 := Int.emod_lt_of_pos (cell / 21) (show 0 < z + 2 by omega)
    refine ⟨_, rfl, _, _, rfl, rfl, ⟨by decide, by decide⟩, _, rfl, _, rfl, gl', _, _, _, rfl, rfl, SqL.of g5, aL, _, _, rfl, rfl, _, _, rfl, rfl, by omega, _, _, rfl, rfl, ?_⟩
    refine ⟨_, rfl, _, rfl, _, rfl, gl', _, rfl, .inl (SqL.of g5), _, _, rfl, rfl, by rw [len_int]; omega, gl', _, _, (cell % ((gs.length : Nat) : Int)).toNat, rfl, rfl, g5, ?_, ?_⟩
    · rw [len_int]; exact ixN_nat p0 p1
    · refine ⟨_, _, _, _, _, gs.set (cell % ((gs.length : Nat) : Int)).toNat (1 + cell / 21 % (z + 2)), rfl, same_upd s5 g0', g0', ?_, ?_, fun d hd => ?_⟩
      · rw [upd_same, List.map_set]
      · rw [List.length_set]; exact hl4
      · rcases List.mem_or_eq_of_mem_set hd with y | y
        · exact hb4' d y
        · omega
  clear hl4 hb4 g0' g1' gs
  -- one put in
  obtain ⟨st2', rd2, gl2, mode, cell, gs, rfl, s5, g0', g1', hl4, hb4⟩ := hM
  refine ⟨?_, fun σ' H6 hM => ?_⟩
  · have hb4' : ∀ d ∈ gs, 1 ≤ d ∧ d ≤ 3604 := fun d hd => ⟨(hb4 d hd).1, by have := (hb4 d hd).2; omega⟩
    have stay : MidG H a first 3604 [some (.ref a), some (.int first), some (.int st2'), some (.ref rd2), some (.ref gl2), some (.int mode), some (.int cell)] H5 := ⟨_, _, _, _, _, gs, rfl, s5, g0', g1', hl4, hb4'⟩
    refine ⟨_, rfl, rfl, _, rfl, ?_⟩
    refine ite2 (fun c => ?_) (fun c => stay)
    refine ⟨_, rfl, gl2, _, rfl, .inl (SqL.of g1'), _, _, rfl, rfl, _, rfl, ?_⟩
    rw [len_int]
    refine ite2 (fun c' => ?_) (fun c' => stay)
    have hlt : ((gs.length : Nat) : Int) < 21 := of_decide_eq_true c'
    refine ⟨_, rfl, .inl ⟨rfl, _, SqL.of g1'⟩, _, rfl, _, _, rfl, rfl, ⟨by decide, by decide⟩, _, rfl, gl2, gs, 0, rfl, rfl, SqL.of g1', fun z hz => ?_⟩
    have bz : 0 ≤ z ∧ z ≤ 3602 := by
      rcases hz with ⟨rfl, _⟩ | hz
      · omega
      · have := hb4 z hz; omega
    have r0 := Int.emod_nonneg (cell / 21) (show z + 2 ≠ 0 by omega)
    have r1 := Int.emod_lt_of_pos (cell / 21) (show 0 < z + 2 by omega)
    refine ⟨_, _, rfl, rfl, _, _, rfl, rfl, by omega, _, _, rfl, rfl, gl2, _, _, rfl, rfl, g1', ?_, ?_⟩
    · rw [len_int]; exact Nat.lt_of_le_of_lt (show gs.length ≤ 21 by omega) (by decide)
    · refine ⟨_, _, _, _, _, gs ++ [1 + cell / 21 % (z + 2)], rfl, same_upd s5 g0', g0', ?_, ?_, fun d hd => ?_⟩
      · rw [upd_same, List.map_append]; rfl
      · rw [List.length_append, List.length_singleton]; omega
      · rcases List.mem_append.mp hd with y | y
        · exact hb4' d y
        · have : d = 1 + cell / 21 % (z + 2) := by simpa using y
          omega
  obtain ⟨st3, rd3, gl3, mode3, cell3, gs3, rfl, s6, g6, e6, hl6, hb6⟩ := hM
  refine ⟨_, rfl, gl3, gs3, rfl, SqL.of e6, fun r hr' => q r _ (Rg.srt gs3) (same_upd s6 (s6.free hr')) (s6.free hr') upd_same ⟨?_, Rg.srt_sorted _, fun d hd => ?_, fun d hd => ?_⟩⟩
  · rw [Rg.srt_length]; exact hl6
  · exact (hb6 d (Rg.srt_mem.mp hd)).1
  · have := (hb6 d (Rg.srt_mem.mp hd)).2
    omega
end
end Rd
namespace Rd
open PySem L2 PyProof.Rows
structure MgA (mg : Str → Option Value) : Prop extends MgL mg where
  set : mg "set" = none
  max : mg "max" = none
  min : mg "min" = none
  reversed : mg "reversed" = none
  ValueError : mg "ValueError" = none
  tuple : mg "tuple" = none
  str : mg "str" = none
/-! ### the law's cell, told as it is -/
section
variable {P : Program} {w : World} {K : PySem.W.Frag} {mg : Str → Option Value} {base : Heap} {f : Addr} {fd : FuncData}
end
/-- no exception leaves a call that does not refuse -/
theorem passN {P : Program} {w : World} {X : Cx} : Passes (CXE P w) X E0 := fun _ _ _ _ _ _ _ h => by
  obtain ⟨_, _, _, _, _, z⟩ := h
  exact z.elim
theorem roadB_true {ps : List Int} (h1 : 1 ≤ ps.length) (h2 : ps.length ≤ 50) (h3 : ps.getD 0 0 = 0) (h4 : ps.getD (ps.length - 1) 0 ≤ 4000) (h5 : ps.Pairwise (· < ·)) : roadB ps = true := by
  unfold roadB
  rw [decide_eq_true ⟨h1, h2⟩, decide_eq_false (by simpa using h3), decide_eq_false (by omega)]
  simp only [Bool.or_false, Bool.not_false, Bool.true_and, Bool.and_true]
  refine List.all_eq_true.mpr fun b hb => ?_
  unfold adjs at hb
  obtain ⟨i, hi, rfl⟩ := List.mem_map.mp hb
  have := List.mem_range.mp hi
  exact decide_eq_true (Rg.adj_of_rise h5 i (by omega))
section
variable {P : Program} {w : World} {K : PySem.W.Frag} {mg : Str → Option Value} {base : Heap} {f g CN CG CT CM CB CR : Addr} {fd gd : FuncData}
end
end Rd
namespace Rd
open PySem L2 PyProof.Rows
theorem two_shaped (xs ys : List Int) : SeqAt.shaped (.list [.list (xs.map PyData.int), .list (ys.map PyData.int)]) = true := by
  have a1 := canAll_ints xs
  have a2 := canAll_ints ys
  have d1 := depth_ints xs
  have d2 := depth_ints ys
  unfold SeqAt.shaped
  rw [Bool.and_eq_true]
  refine ⟨?_, decide_eq_true ?_⟩
  · simp only [PyData.canLay0, PyData.canLayAll0, a1, a2, Bool.and_self]
  · simp only [PyData.depth, PyData.depthAll]
    omega
theorem two_eqv (xs ys : List Int) : PyData.eqv (.list [.list (xs.map PyData.int), .list (ys.map PyData.int)]) (.list [.list (xs.map PyData.int), .list (ys.map PyData.int)]) = true := by
  have e1 := eqvAll_ints xs xs
  have e2 := eqvAll_ints ys ys
  simp only [PyData.eqv, PyData.eqvAll, e1, e2]
  simp
theorem dt_two {K : PySem.W.Frag} {H : Hp} {h a b : Addr} {xs ys : List Int} (h0 : SqL K H h [.ref a, .ref b]) (h1 : SqL K H a (xs.map V.int)) (h2 : SqL K H b (ys.map V.int)) : Dt K H (.ref h) (.list [.list (xs.map PyData.int), .list (ys.map PyData.int)]) :=
  .lst h0 (.cons (.lst h1 (dt_ints _)) (.cons (.lst h2 (dt_ints _)) .nil))
end Rd
namespace Rd
open PySem L2 PyProof.Rows
/-! ### what is written -/
def wr (t : Str) (ps : List Int) : Str := ps.foldl (fun t p => t ++ (" " : Str) ++ (toString p : Str)) t
theorem wr_snoc (t : Str) (ps : List Int) (p : Int) : wr t (ps ++ [p]) = wr t ps ++ (" " : Str) ++ (toString p : Str) := by
  unfold wr
  rw [List.foldl_append]
  rfl
theorem str_len (x y : Str) : (x ++ y).length = x.length + y.length := by
  show (x.cps ++ y.cps).size = x.cps.size + y.cps.size
  simp
theorem strOk_add {x y : Str} (hx : PyData.strOk x = true) (hy : PyData.strOk y = true) : PyData.strOk (x ++ y) = true := by
  have h1 : x.cps.all (· < 0x110000) = true := hx
  have h2 : y.cps.all (· < 0x110000) = true := hy
  show (x.cps ++ y.cps).all (· < 0x110000) = true
  rw [Array.all_append, h1, h2]
  rfl
def numOk (n : Nat) : Bool := decide ((Str.ofString (toString (n : Int))).length ≤ 4) && PyData.strOk (Str.ofString (toString (n : Int)))
theorem nums_ok : (List.range 4001).all numOk = true := by decide +kernel
theorem num_ok {p : Int} (h0 : 0 ≤ p) (h1 : p ≤ 4000) : (toString p : Str).length ≤ 4 ∧ PyData.strOk (toString p : Str) = true := by
  have := List.all_eq_true.mp nums_ok p.toNat (List.mem_range.mpr (by omega))
  unfold numOk at this
  rw [Bool.and_eq_true, show ((p.toNat : Nat) : Int) = p by omega] at this
  exact ⟨of_decide_eq_true this.1, this.2⟩
theorem wr_all : ∀ (ps : List Int) {t : Str}, PyData.strOk t = true → (∀ p ∈ ps, 0 ≤ p ∧ p ≤ 4000) → (wr t ps).length ≤ t.length + 5 * ps.length ∧ PyData.strOk (wr t ps) = true
  | [], t, ht, _ => ⟨Nat.le_refl _, ht⟩
  | p :: r, t, ht, h => by
    have hp := h p (by simp)
    obtain ⟨n1, n2⟩ := num_ok hp.1 hp.2
    obtain ⟨i1, i2⟩ := wr_all r (t := t ++ (" " : Str) ++ (toString p : Str)) (strOk_add (strOk_add ht (by decide +kernel)) n2) fun q hq => h q (List.mem_cons_of_mem _ hq)
    refine ⟨?_, i2⟩
    rw [str_len, str_len] at i1
    have : (" " : Str).length = 1 := by decide +kernel
    rw [List.length_cons]
    show (wr (t ++ (" " : Str) ++ (toString p : Str)) r).length ≤ _
    omega
theorem wr_facts {t : Str} (h4 : t.length ≤ 4) (ht : PyData.strOk t = true) (ps : List Int) (h : ∀ p ∈ ps, 0 ≤ p ∧ p ≤ 4000) : (wr t ps).length ≤ 4 + 5 * ps.length ∧ PyData.strOk (wr t ps) = true := by
  obtain ⟨h1, h2⟩ := wr_all ps ht h
  exact ⟨by omega, h2⟩
theorem log_small {p : Int} (h0 : 0 ≤ p) (h1 : p ≤ 4000) : p.natAbs.log2 < 1920 := by
  have : p.natAbs < 2 ^ 12 := by omega
  have := (Nat.log2_lt (n := p.natAbs) (k := 12))
  by_cases z : p.natAbs = 0
  · rw [z]; decide
  · have := (this z).mpr (by omega)
    omega
section
variable {K : PySem.W.Frag}
def spShownR (K : PySem.W.Frag) (CN : Addr) : Sp := fun vs H Q E => ∃ (a : Addr) (ps : List Int), vs = [.ref a] ∧ SqL K H a (ps.map V.int) ∧ ps.length ≤ 1000 ∧ (roadB ps = true → ∀ H', Same H H' → Q (.str (wr "road" ps)) H') ∧ (roadB ps = false → ∀ H', Same H H' → E (.ref CN) none H')
def okShownG : Addr → List Int → Hp → VK → Prop := fun _ gs H Q => ∀ H', Same H H' → Q (.str (wr "gaps" gs)) H'
/-- a text that was written is read -/
def spReadW (word : Str) (ok : List Int → Prop) : Sp := fun vs H Q _ => ∃ ps, vs = [.str (wr word ps)] ∧ ok ps ∧ ∀ r H', Same H H' → H r = none → H' r = some (.lst (ps.map V.int)) → Q (.ref r) H'
end
end Rd
namespace Rd
open PySem L2 PyProof.Rows
/-! ### what the program writes -/
theorem wr_glued (t : Str) (ps : List Int) : Txt.join (" " : Str) (t :: ps.map fun p => (toString p : Str)) = wr t ps := by
  show (⟨(ps.map fun p => (toString p : Str)).foldl (fun acc p => acc ++ (" " : Str).cps ++ p.cps) t.cps⟩ : Str) = wr t ps
  induction ps generalizing t with
  | nil => rfl
  | cons p r ih =>
    rw [List.map_cons, List.foldl_cons]
    exact ih (t ++ (" " : Str) ++ (toString p : Str))
def strV : V → V
  | .int z => .str (toString z)
  | v => v
theorem strV_map (l : List Int) : (l.map V.int).map strV = (l.map fun p => (toString p : Str)).map V.str := by
  rw [List.map_map, List.map_map]; rfl
section
variable {P : Program} {w : World} {K : PySem.W.Frag} {mg : Str → Option Value} {base : Heap} {f g CN CT CG : Addr} {fd gd : FuncData}
def spShown (K : PySem.W.Frag) : Sp := fun vs H Q _ => ∃ (t : Str) (a : Addr) (ps : List Int), vs = [.str t, .ref a] ∧ SqL K H a (ps.map V.int) ∧ ps.length ≤ 1000 ∧ t.length ≤ 4 ∧ (∀ p ∈ ps, 0 ≤ p ∧ p ≤ 4000) ∧ ∀ H', Same H H' → Q (.str (wr t ps)) H'
theorem scShown : FnScope ["word", "numbers"] ["word", "numbers"] (defScope dShown) := ⟨rfl, rfl, rfl, by decide +kernel, rfl, by decide +kernel, by decide +kernel⟩
structure MgW (mg : Str → Option Value) : Prop where
  str : mg "str" = none
theorem ok_shown (F : Fun K "shown" "shown" dShown f fd) (m : mg "shown" = some (.ref f)) (G : MgW mg) : Def P w K mg base CX0 "shown" ["word", "numbers"] 1 (spShown K) := by
  refine ⟨f, fd, ?_, F.binds fun _ _ _ _ _ _ us hl => match us, hl with | [_, _], _ => rfl, F.kp, m⟩
  refine F.ok (k := 0) scShown (fun vs H Q E h => ?_) (fun cdv A outer s H vs Q E hr h => ?_)
  · obtain ⟨t, a, ps, rfl, _⟩ := h
    rfl
  obtain ⟨t, a, ps, rfl, hA, l1, t4, hp, q⟩ := h
  refine ⟨_, (pss_one (ps_ret (pe_bm PySem.F.plainAttrs_str PySem.F.slot_str_join PySem.F.type_str_join mt_join pe_str (pa_cons (pe_op op_cat (pe_lst (pa_cons (pv 0) pa_nil)) (pe_comp ["number"] [] rfl (pi_list (pv 1)) (N := ["word", "numbers"]) (osc := defScope dShown) ⟨rfl, by decide +kernel, by decide +kernel, by decide +kernel, by decide +kernel⟩
      (fun _ _ _ => pg_name (i := 0) (show (["number"] : List Str).Nodup by decide +kernel) rfl (Or.inl rfl)) (fun _ _ _ => pf_nil) (fun _ _ _ => (pe_callTy call_str_int (by rfl) G.str PyProof.Rows.Boot.«str» (pa_cons (pv 0) pa_nil))))) pa_nil)))), ?_⟩
  refine ⟨rfl, _, rfl, (by show 1 ≤ sizeLine; decide), fun l hl => ?_⟩
  have s1 := same_new (o := .lst [V.str t]) hl
  refine ⟨_, rfl, a, rfl, ⟨_, s1.seq hA⟩, fun D hD => ?_⟩
  refine comp_map strV hD (s1.seq hA) (by rw [len_int]; exact small l1) (fun j x ys Q' hx q' => ?_) ?_
  · obtain ⟨z, hz, rfl⟩ := int_at hx
    have hz' := hp z (List.mem_of_getElem? hz)
    exact ⟨_, rfl, z, rfl, log_small hz'.1 hz'.2, q'⟩
  rw [strV_map]
  have lD : upd (upd H l (.lst [V.str t])) D (.lst ((ps.map fun p => (toString p : Str)).map V.str)) l = some (.lst [V.str t]) := by rw [upd_ne (ne_of_none upd_same hD), upd_same]
  have s2 := same_upd (o := .lst ((ps.map fun p => (toString p : Str)).map V.str)) s1 (s1.free hD)
  refine ⟨l, D, _, _, rfl, rfl, lD, upd_same, ?_, fun c hc => ?_⟩
  · rw [List.length_map, List.length_map]
    show 1 + ps.length ≤ sizeLine
    exact small5 (by omega)
  have ec : [V.str t] ++ (ps.map fun p => (toString p : Str)).map V.str = (t :: ps.map fun p => (toString p : Str)).map V.str := rfl
  rw [ec]
  refine ⟨(" " : Str), c, _, rfl, rfl, SqL.of upd_same, ?_, ?_⟩
  · unfold JoinOk
    rw [Bool.not_eq_true']
    refine StrLaws.joinFits (B := 4) (fun y hy => ?_) ?_
    · rcases List.mem_cons.mp hy with e | e
      · rw [e]; exact t4
      · obtain ⟨p, hpm, rfl⟩ := List.mem_map.mp e
        exact (num_ok (hp p hpm).1 (hp p hpm).2).1
    · have : (" " : Str).length = 1 := by decide +kernel
      rw [this, List.length_cons, List.length_map]
      omega
  · rw [wr_glued]
    exact q _ (same_upd s2 (s2.free hc))
theorem scRoadShown : FnScope ["road"] ["road"] (defScope dRoadShown) := ⟨rfl, rfl, rfl, by decide +kernel, rfl, by decide +kernel, by decide +kernel⟩
theorem ok_roadShown (F : Fun K "road_shown" "road_shown" dRoadShown f fd) (m : mg "road_shown" = some (.ref f)) (hW : ∃ t, mg "ROAD_WORD" = some (.str "road" t)) (Dcheck_road : Def P w K mg base (CXE P w) "check_road" ["places"] 2 (spCheckE K CN)) (Dshown : Def P w K mg base CX0 "shown" ["word", "numbers"] 2 (spShown K)) :
    Def P w K mg base (CXE P w) "road_shown" ["road"] 3 (spShownR K CN) := by
  refine ⟨f, fd, ?_, F.binds fun _ _ _ _ _ _ us hl => match us, hl with | [_], _ => rfl, F.kp, m⟩
  refine F.okE (k := 2) scRoadShown (fun vs H Q E h => ?_) (fun cdv A outer s H vs Q E hr h => ?_)
  · obtain ⟨a, ps, rfl, _⟩ := h
    rfl
  obtain ⟨a, ps, rfl, hA, l1, q, qe⟩ := h
  obtain ⟨tw, hROAD_WORD⟩ := hW
  refine ⟨_, (pss_cons (ps_expr (pe_fnX Dcheck_road hr passE (by rfl) (pa_cons (pv 0) pa_nil)))
    (pss_one (ps_ret (pe_fn Dshown hr (by rfl) (pa_cons (pe_glob (by rfl) hROAD_WORD (v := .str "road") ⟨_, rfl⟩) (pa_cons (pv 0) pa_nil)))))), ?_⟩
  refine ⟨_, rfl, a, ps, rfl, hA, l1, fun e H1 s1 => ?_, qe⟩
  obtain ⟨f1, f2, f3, f4, f5⟩ := roadB_facts e
  have rb := Rg.rise_between f5 f3
  exact ⟨_, rfl, _, a, ps, rfl, s1.seq hA, l1, by decide +kernel, fun p hp => by have := rb p hp; omega, fun H2 s2 => q e H2 (s1.trans s2)⟩
theorem scGapsShown : FnScope ["gaps"] ["gaps"] (defScope dGapsShown) := ⟨rfl, rfl, rfl, by decide +kernel, rfl, by decide +kernel, by decide +kernel⟩
theorem ok_gapsShown (F : Fun K "gaps_shown" "gaps_shown" dGapsShown f fd) (m : mg "gaps_shown" = some (.ref f)) (hW : ∃ t, mg "GAPS_WORD" = some (.str "gaps" t)) (Dcheck_gaps : Def P w K mg base (CXE P w) "check_gaps" ["gaps"] 2 (spGapsE K CT CG okNone)) (Dshown : Def P w K mg base CX0 "shown" ["word", "numbers"] 2 (spShown K)) :
    Def P w K mg base (CXE P w) "gaps_shown" ["gaps"] 3 (spGapsE K CT CG okShownG) := by
  refine ⟨f, fd, ?_, F.binds fun _ _ _ _ _ _ us hl => match us, hl with | [_], _ => rfl, F.kp, m⟩
  refine F.okE (k := 2) scGapsShown (fun vs H Q E h => ?_) (fun cdv A outer s H vs Q E hr h => ?_)
  · obtain ⟨a, ps, rfl, _⟩ := h
    rfl
  obtain ⟨b, gs, rfl, hG, l1, q, qt, qg⟩ := h
  obtain ⟨tw, hGAPS_WORD⟩ := hW
  refine ⟨_, (pss_cons (ps_expr (pe_fnX Dcheck_gaps hr passE (by rfl) (pa_cons (pv 0) pa_nil)))
    (pss_one (ps_ret (pe_fn Dshown hr (by rfl) (pa_cons (pe_glob (by rfl) hGAPS_WORD (v := .str "gaps") ⟨_, rfl⟩) (pa_cons (pv 0) pa_nil)))))), ?_⟩
  refine ⟨_, rfl, b, gs, rfl, hG, l1, fun ok H1 s1 => ?_, qt, qg⟩
  exact ⟨_, rfl, _, b, gs, rfl, s1.seq hG, l1, by decide +kernel, fun p hp => ⟨by have := ok.low p hp; omega, ok.high p hp⟩, fun H2 s2 => q ok H2 (s1.trans s2)⟩
end
end Rd
namespace Rd
open PySem L2 PyProof.Rows
/-! ### what was written is read -/
theorem num_int {p : Int} (h0 : 0 ≤ p) (h1 : p ≤ 4000) : PySem.intText? (toString p : Str) = some p := PySem.W.KIN.num_reads h0 (by omega)
def numFree (n : Nat) : Bool := !(Str.ofString (toString (n : Int))).cps.toList.contains 32
theorem nums_free : (List.range 4001).all numFree = true := by decide +kernel
theorem num_free {p : Int} (h0 : 0 ≤ p) (h1 : p ≤ 4000) : (32 : Nat) ∉ (toString p : Str).cps.toList := by
  have := List.all_eq_true.mp nums_free p.toNat (List.mem_range.mpr (by omega))
  unfold numFree at this
  rw [show ((p.toNat : Nat) : Int) = p by omega] at this
  simpa using this
theorem blank_is : (" " : Str) = ⟨#[32]⟩ := by decide +kernel
theorem split_wr {t : Str} {ps : List Int} (ht : (32 : Nat) ∉ t.cps.toList) (h1 : t ≠ Str.empty) (hp : ∀ p ∈ ps, 0 ≤ p ∧ p ≤ 4000) : Txt.split (wr t ps) (" " : Str) = t :: ps.map fun p => (toString p : Str) := by
  have e : wr t ps = Str.join ⟨#[32]⟩ (t :: ps.map fun p => (toString p : Str)) := by
    rw [← wr_glued, blank_is]
    exact StrLaws.glued_eq_join _ _
  rw [e, blank_is]
  refine split_join 32 (fun x hx => ?_) ?_
  · rcases List.mem_cons.mp hx with z | z
    · rw [z]; exact ht
    · obtain ⟨p, hpm, rfl⟩ := List.mem_map.mp z
      exact num_free (hp p hpm).1 (hp p hpm).2
  · intro z
    cases ps with
    | nil => exact h1 z
    | cons p r =>
      have : (Str.join ⟨#[32]⟩ (t :: (p :: r).map fun p => (toString p : Str))).cps.toList = [] := by rw [z]; rfl
      rw [join_jn, List.map_cons, jn_cons _ _ _ (by simp)] at this
      simp at this
def numV : V → V
  | .str x => .int ((PySem.intText? x).getD 0)
  | v => v
theorem numV_map {ps : List Int} (hp : ∀ p ∈ ps, 0 ≤ p ∧ p ≤ 4000) : ((ps.map fun p => (toString p : Str)).map V.str).map numV = ps.map V.int := by
  rw [List.map_map, List.map_map]
  refine List.map_congr_left fun p hpm => ?_
  show V.int ((PySem.intText? (toString p : Str)).getD 0) = V.int p
  rw [num_int (hp p hpm).1 (hp p hpm).2]
  rfl
section
variable {P : Program} {w : World} {K : PySem.W.Frag} {mg : Str → Option Value} {base : Heap} {f g CN CT CG : Addr} {fd gd : FuncData}
def spNum : Sp := fun vs H Q _ => ∃ n : Int, vs = [.str (toString n : Str)] ∧ 0 ≤ n ∧ n ≤ 4000 ∧ Q (.int n) H
theorem scNumber : FnScope ["part", "number"] ["part"] (defScope dReadNumber) := ⟨rfl, rfl, rfl, by decide +kernel, rfl, by decide +kernel, by decide +kernel⟩
theorem ok_number (F : Fun K "read_number" "read_number" dReadNumber f fd) (m : mg "read_number" = some (.ref f)) (G : MgA mg) : Def P w K mg base CX0 "read_number" ["part"] 1 spNum := by
  refine ⟨f, fd, ?_, F.binds fun _ _ _ _ _ _ us hl => match us, hl with | [_], _ => rfl, F.kp, m⟩
  refine F.ok (k := 0) scNumber (fun vs H Q E h => ?_) (fun cdv A outer s H vs Q E hr h => ?_)
  · obtain ⟨n, rfl, _⟩ := h
    rfl
  obtain ⟨n, rfl, h0, h1, q⟩ := h
  refine ⟨_, (pss_cons (ps_tryN (fun _ _ h => h) (pss_one (ps_set (i := 1) scNumber.nd rfl (Or.inl rfl) (pe_callTy call_intS (by rfl) G.int PyProof.Rows.Boot.«int» (pa_cons (pv 0) pa_nil)))))
    (pss_cons (ps_if (pt_cmpR op_ne (pe_callTy call_str_int (by rfl) G.str PyProof.Rows.Boot.«str» (pa_cons (pv 1) pa_nil)) (pv 0) (nomark _)) pss_never pss_nil)
    (pss_one (ps_ret (pv 1))))), ?_⟩
  have hl := (num_ok h0 h1).1
  refine ⟨_, rfl, _, n, rfl, num_int h0 h1, by omega, ?_⟩
  refine ⟨_, rfl, n, rfl, log_small h0 h1, _, rfl, rfl, false, by simp, ?_⟩
  exact ⟨_, rfl, q⟩
def spNums (K : PySem.W.Frag) : Sp := fun vs H Q _ => ∃ (t : Str) (ps : List Int), vs = [.str t, .str (wr t ps)] ∧ t.length ≤ 4 ∧ PyData.strOk t = true ∧ (32 : Nat) ∉ t.cps.toList ∧ t ≠ Str.empty ∧ ps.length ≤ 50 ∧ (∀ p ∈ ps, 0 ≤ p ∧ p ≤ 4000) ∧ ∀ r H', Same H H' → H r = none → H' r = some (.lst (ps.map V.int)) → Q (.ref r) H'
theorem scNumbers : FnScope ["word", "text", "parts"] ["word", "text"] (defScope dReadNumbers) := ⟨rfl, rfl, rfl, by decide +kernel, rfl, by decide +kernel, by decide +kernel⟩
theorem ok_numbers (F : Fun K "read_numbers" "read_numbers" dReadNumbers f fd) (m : mg "read_numbers" = some (.ref f)) (Dread_number : Def P w K mg base CX0 "read_number" ["part"] 1 spNum) : Def P w K mg base CX0 "read_numbers" ["word", "text"] 2 (spNums K) := by
  refine ⟨f, fd, ?_, F.binds fun _ _ _ _ _ _ us hl => match us, hl with | [_, _], _ => rfl, F.kp, m⟩
  refine F.ok (k := 1) scNumbers (fun vs H Q E h => ?_) (fun cdv A outer s H vs Q E hr h => ?_)
  · obtain ⟨t, ps, rfl, _⟩ := h
    rfl
  obtain ⟨t, ps, rfl, t4, tok, tb, t0, h50, hp, q⟩ := h
  refine ⟨_, (pss_cons (ps_set (i := 2) scNumbers.nd rfl (Or.inl rfl) (pe_bm PySem.F.plainAttrs_str PySem.F.slot_str_split PySem.F.type_str_split mt_split (pv 1) (pa_cons pe_str pa_nil)))
    (pss_cons (ps_if (pt_cmpR op_ne (pe_ix ix_list (pv 2) pe_int (fun _ _ => rfl)) (pv 0) (nomark _)) pss_never pss_nil)
    (pss_one (ps_ret (pe_comp ["part"] [] rfl (pi_list (pe_slice sl_list (pv 2) (po_some pe_int) po_none)) (N := ["word", "text", "parts"]) (osc := defScope dReadNumbers) ⟨rfl, by decide +kernel, by decide +kernel, by decide +kernel, by decide +kernel⟩
      (fun _ _ _ => pg_name (i := 0) (show (["part"] : List Str).Nodup by decide +kernel) rfl (Or.inl rfl)) (fun _ _ _ => pf_nil) (fun _ _ _ => (pe_fn Dread_number hr (by rfl) (pa_cons (pv 0) pa_nil)))))))), ?_⟩
  have es := split_wr tb t0 hp
  have wl := (wr_facts t4 tok ps hp).1
  refine ⟨_, rfl, rfl, _, _, rfl, rfl, by decide +kernel, small (by omega), by rw [es, List.length_cons, List.length_map]; exact small (by omega), fun l hl => ?_⟩
  rw [es]
  have s1 := same_new (o := .lst ((t :: ps.map fun p => (toString p : Str)).map V.str)) hl
  have a0 : atI ((t :: ps.map fun p => (toString p : Str)).map V.str) ((0 : Nat) : Int) = some (.str t) := atI_nat rfl
  refine ⟨_, rfl, l, _, _, _, rfl, rfl, SqL.of upd_same, a0, _, rfl, rfl, false, by simp, ?_⟩
  refine ⟨_, rfl, _, rfl, l, _, rfl, SqL.of upd_same, fun c hc => ?_⟩
  rw [cut_from (by decide)]
  have s2 := same_upd (o := .lst ((ps.map fun p => (toString p : Str)).map V.str)) s1 (s1.free hc)
  refine ⟨c, rfl, ⟨_, SqL.of upd_same⟩, fun D hD => ?_⟩
  refine comp_map (xs := (ps.map fun p => (toString p : Str)).map V.str) numV hD (SqL.of upd_same) (by rw [List.length_map, List.length_map]; exact small (by omega)) (fun j x ys Q' hx q' => ?_) ?_
  · obtain ⟨y, hy, rfl⟩ := List.mem_map.mp (List.mem_of_getElem? hx)
    obtain ⟨p, hpm, rfl⟩ := List.mem_map.mp hy
    have e : numV (V.str (toString p : Str)) = .int p := by
      show V.int ((PySem.intText? (toString p : Str)).getD 0) = V.int p
      rw [num_int (hp p hpm).1 (hp p hpm).2]
      rfl
    rw [e] at q'
    exact ⟨_, rfl, p, rfl, (hp p hpm).1, (hp p hpm).2, q'⟩
  rw [numV_map hp]
  exact q D _ (same_upd s2 (s2.free hD)) (s2.free hD) upd_same
theorem scReadRoad : FnScope ["text", "places"] ["text"] (defScope dReadRoad) := ⟨rfl, rfl, rfl, by decide +kernel, rfl, by decide +kernel, by decide +kernel⟩
theorem ok_readRoad (F : Fun K "read_road" "read_road" dReadRoad f fd) (m : mg "read_road" = some (.ref f)) (hW : ∃ t, mg "ROAD_WORD" = some (.str "road" t)) (Dcheck_road : Def P w K mg base (CXE P w) "check_road" ["places"] 2 (spCheckE K CN)) (Dread_numbers : Def P w K mg base CX0 "read_numbers" ["word", "text"] 2 (spNums K)) : Def P w K mg base CX0 "read_road" ["text"] 3 (spReadW "road" (fun ps => roadB ps = true)) := by
  refine ⟨f, fd, ?_, F.binds fun _ _ _ _ _ _ us hl => match us, hl with | [_], _ => rfl, F.kp, m⟩
  refine F.ok (k := 2) scReadRoad (fun vs H Q E h => ?_) (fun cdv A outer s H vs Q E hr h => ?_)
  · obtain ⟨ps, rfl, _⟩ := h
    rfl
  obtain ⟨ps, rfl, hR, q⟩ := h
  obtain ⟨tw, hROAD_WORD⟩ := hW
  refine ⟨_, (pss_cons (ps_set (i := 1) scReadRoad.nd rfl (Or.inl rfl) (pe_fn Dread_numbers hr (by rfl) (pa_cons (pe_glob (by rfl) hROAD_WORD (v := .str "road") ⟨_, rfl⟩) (pa_cons (pv 0) pa_nil))))
    (pss_cons (ps_tryN (fun _ _ h => h) (pss_one (ps_expr (pe_fnX Dcheck_road hr passN (by rfl) (pa_cons (pv 1) pa_nil)))))
    (pss_one (ps_ret (pv 1))))), ?_⟩
  obtain ⟨f1, f2, f3, f4, f5⟩ := roadB_facts hR
  have rb := Rg.rise_between f5 f3
  refine ⟨_, rfl, _, ps, rfl, by decide +kernel, by decide +kernel, by decide +kernel, by decide +kernel, f2, fun p hp => by have := rb p hp; omega, fun r H1 s1 r0 r1 => ?_⟩
  refine ⟨_, rfl, r, ps, rfl, SqL.of r1, by omega, fun _ H2 s2 => ?_, fun z => absurd hR (by rw [z]; decide)⟩
  exact ⟨_, rfl, q r H2 (s1.trans s2) r0 (s2 _ _ r1)⟩
theorem scReadGaps : FnScope ["text", "gaps"] ["text"] (defScope dReadGaps) := ⟨rfl, rfl, rfl, by decide +kernel, rfl, by decide +kernel, by decide +kernel⟩
theorem ok_readGaps (F : Fun K "read_gaps" "read_gaps" dReadGaps f fd) (m : mg "read_gaps" = some (.ref f)) (hW : ∃ t, mg "GAPS_WORD" = some (.str "gaps" t)) (Dcheck_gaps : Def P w K mg base (CXE P w) "check_gaps" ["gaps"] 2 (spGapsE K CT CG okNone)) (Dread_numbers : Def P w K mg base CX0 "read_numbers" ["word", "text"] 2 (spNums K)) : Def P w K mg base CX0 "read_gaps" ["text"] 3 (spReadW "gaps" GapsOk) := by
  refine ⟨f, fd, ?_, F.binds fun _ _ _ _ _ _ us hl => match us, hl with | [_], _ => rfl, F.kp, m⟩
  refine F.ok (k := 2) scReadGaps (fun vs H Q E h => ?_) (fun cdv A outer s H vs Q E hr h => ?_)
  · obtain ⟨gs, rfl, _⟩ := h
    rfl
  obtain ⟨gs, rfl, ok, q⟩ := h
  obtain ⟨tw, hGAPS_WORD⟩ := hW
  refine ⟨_, (pss_cons (ps_set (i := 1) scReadGaps.nd rfl (Or.inl rfl) (pe_fn Dread_numbers hr (by rfl) (pa_cons (pe_glob (by rfl) hGAPS_WORD (v := .str "gaps") ⟨_, rfl⟩) (pa_cons (pv 0) pa_nil))))
    (pss_cons (ps_tryN (fun _ _ h => h) (pss_one (ps_expr (pe_fnX Dcheck_gaps hr passN (by rfl) (pa_cons (pv 1) pa_nil)))))
    (pss_one (ps_ret (pv 1))))), ?_⟩
  have few := ok.few
  refine ⟨_, rfl, _, gs, rfl, by decide +kernel, by decide +kernel, by decide +kernel, by decide +kernel, by omega, fun p hp => ⟨by have := ok.low p hp; omega, ok.high p hp⟩, fun r H1 s1 r0 r1 => ?_⟩
  refine ⟨_, rfl, r, gs, rfl, SqL.of r1, by omega, fun _ H2 s2 => ?_, fun z => absurd z (by omega), fun _ z => absurd ok z⟩
  exact ⟨_, rfl, q r H2 (s1.trans s2) r0 (s2 _ _ r1)⟩
end
end Rd
namespace Rd
open PySem L2 PyProof.Rows
/-! ### the law of what is written -/
theorem menuW (c : Int) : ∃ st : Int, atI [V.int 9, V.int 80] (c % 2) = some (.int st) ∧ 1 ≤ st ∧ st ≤ 80 := by
  obtain h | h : c % 2 = 0 ∨ c % 2 = 1 := by omega
  · rw [h]; exact ⟨9, rfl, by decide, by decide⟩
  · rw [h]; exact ⟨80, rfl, by decide, by decide⟩
theorem two_str {K : PySem.W.Frag} {H : Hp} {l : Addr} {x y : Str} (h : SqL K H l [.str x, .str y]) : Dt K H (.ref l) (.list [.str x, .str y]) := .lst h (.cons (.str x) (.cons (.str y) .nil))
theorem two_str_shaped {x y : Str} (hx : PyData.strOk x = true) (hy : PyData.strOk y = true) : SeqAt.shaped (.list [.str x, .str y]) = true := by
  unfold SeqAt.shaped
  simp only [PyData.canLay0, PyData.canLayAll0, hx, hy, Bool.and_self, Bool.true_and, PyData.depth, PyData.depthAll]
  rfl
theorem two_str_eqv (x y : Str) : PyData.eqv (.list [.str x, .str y]) (.list [.str x, .str y]) = true := by
  simp [PyData.eqv, PyData.eqvAll]
section
variable {P : Program} {w : World} {K : PySem.W.Frag} {mg : Str → Option Value} {base : Heap} {f g CN CG CT CM CB CR : Addr} {fd gd : FuncData}
def spLaw (K : PySem.W.Frag) : Sp := fun vs H Q _ => ∃ (a : Addr) (ns : List Int), vs = [.ref a] ∧ SqL K H a (ns.map V.int) ∧ ns.length ≤ 63 ∧ ∀ H', Q (.bl true) H'
theorem scLaw : FnScope ["script", "many", "road", "gaps", "texts", "place", "d", "handed", "found", "again"] ["script"] (defScope sLaw) := ⟨rfl, rfl, rfl, by decide +kernel, rfl, by decide +kernel, by decide +kernel⟩
set_option maxHeartbeats 16000000
theorem ok_law {k : Nat} (F : Fun K "law" "law" sLaw f fd) (G : MgA mg) (D_law_cell_at : Def P w K mg base CX0 "_law_cell_at" ["script", "k"] k (spCell K)) (D_law_road : Def P w K mg base CX0 "_law_road" ["script", "first", "many", "steps"] k (spRoad K)) (D_law_gaps : Def P w K mg base CX0 "_law_gaps" ["script", "first"] k (spGaps K)) (D_law_list : Def P w K mg base CX0 "_law_list" ["found", "due"] k (spList K))
    (Droad_shown : Def P w K mg base (CXE P w) "road_shown" ["road"] k (spShownR K CN)) (Dgaps_shown : Def P w K mg base (CXE P w) "gaps_shown" ["gaps"] k (spGapsE K CT CG okShownG)) (Dread_road : Def P w K mg base CX0 "read_road" ["text"] k (spReadW "road" (fun ps => roadB ps = true))) (Dread_gaps : Def P w K mg base CX0 "read_gaps" ["text"] k (spReadW "gaps" GapsOk)) : FnOk P w K mg base CX0 (k + 1) f fd ["script"] (spLaw K) := by
  refine F.ok (k := k) scLaw (fun vs H Q E h => ?_) (fun cdv A outer s H vs Q E hr h => ?_)
  · obtain ⟨a, ns, rfl, _⟩ := h
    rfl
  obtain ⟨a, ns, rfl, hS, h63, q⟩ := h
  refine ⟨_, (pss_cons (ps_set (i := 1) scLaw.nd rfl (Or.inl rfl) (pe_op op_add pe_int (pe_op op_mod (pe_fn D_law_cell_at hr (by rfl) (pa_cons (pv 0) (pa_cons pe_int pa_nil))) pe_int)))
    (pss_cons (ps_set (i := 2) scLaw.nd rfl (Or.inl rfl) (pe_fn D_law_road hr (by rfl) (pa_cons (pv 0) (pa_cons pe_int (pa_cons (pv 1) (pa_cons (pe_ix ix_list (pe_lst (pa_cons pe_int (pa_cons pe_int pa_nil))) (pe_op op_mod (pe_op op_fdiv (pe_fn D_law_cell_at hr (by rfl) (pa_cons (pv 0) (pa_cons pe_int pa_nil))) pe_int) pe_int) (fun _ _ => rfl)) pa_nil))))))
    (pss_cons (ps_set (i := 3) scLaw.nd rfl (Or.inl rfl) (pe_fn D_law_gaps hr (by rfl) (pa_cons (pv 0) (pa_cons pe_int pa_nil))))
    (pss_cons (ps_set (i := 4) scLaw.nd rfl (Or.inl rfl) (pe_lst (pa_cons pe_str (pa_cons pe_str pa_nil))))
    (pss_cons (ps_for PassesOwn.never rfl (pi_list (pv 2)) (pg_name (i := 5) scLaw.nd rfl (Or.inl rfl))
      (pss_one (ps_asg (pe_op op_add_str (pe_op op_add_str (pe_ix ix_list (pv 4) pe_int (fun _ _ => rfl)) pe_str) (pe_callTy call_str_int (by rfl) G.str PyProof.Rows.Boot.«str» (pa_cons (pv 5) pa_nil))) (pg_sub (pv 4) pe_int set_list))))
    (pss_cons (ps_for PassesOwn.never rfl (pi_list (pv 3)) (pg_name (i := 6) scLaw.nd rfl (Or.inl rfl))
      (pss_one (ps_asg (pe_op op_add_str (pe_op op_add_str (pe_ix ix_list (pv 4) pe_int (fun _ _ => rfl)) pe_str) (pe_callTy call_str_int (by rfl) G.str PyProof.Rows.Boot.«str» (pa_cons (pv 6) pa_nil))) (pg_sub (pv 4) pe_int set_list))))
    (pss_cons (ps_set (i := 7) scLaw.nd rfl (Or.inl rfl) (pe_lst (pa_cons (pe_callTy call_list_of (by rfl) G.list PyProof.Rows.Boot.«list» (pa_cons (pv 2) pa_nil)) (pa_cons (pe_callTy call_list_of (by rfl) G.list PyProof.Rows.Boot.«list» (pa_cons (pv 3) pa_nil)) pa_nil))))
    (pss_cons (ps_set (i := 8) scLaw.nd rfl (Or.inl rfl) (pe_lst (pa_cons (pe_fnX Droad_shown hr passN (by rfl) (pa_cons (pe_ix ix_list (pv 7) pe_int (fun _ _ => rfl)) pa_nil)) (pa_cons (pe_fnX Dgaps_shown hr passN (by rfl) (pa_cons (pe_ix ix_list (pv 7) pe_int (fun _ _ => rfl)) pa_nil)) pa_nil))))
    (pss_cons (ps_if (pw_or (pt_cmpR (op_neD hr.units) (pv 8) (pv 4) (nomark _)) (pw_or1 (pt_cmpR (op_neD hr.units) (pv 7) (pe_lst (pa_cons (pv 2) (pa_cons (pv 3) pa_nil))) (nomark _)))).pt (pss_one (ps_ret pe_bl)) pss_nil)
    (pss_cons (ps_set (i := 9) scLaw.nd rfl (Or.inl rfl) (pe_lst (pa_cons (pe_fn Dread_road hr (by rfl) (pa_cons (pe_ix ix_list (pv 4) pe_int (fun _ _ => rfl)) pa_nil)) (pa_cons (pe_fn Dread_gaps hr (by rfl) (pa_cons (pe_ix ix_list (pv 4) pe_int (fun _ _ => rfl)) pa_nil)) pa_nil))))
    (pss_cons (ps_if (pw_or (pt_not (pt_val (pe_fn D_law_list hr (by rfl) (pa_cons (pe_ix ix_list (pv 9) pe_int (fun _ _ => rfl)) (pa_cons (pv 2) pa_nil))))) (pw_or1 (pt_not (pt_val (pe_fn D_law_list hr (by rfl) (pa_cons (pe_ix ix_list (pv 9) pe_int (fun _ _ => rfl)) (pa_cons (pv 3) pa_nil))))))).pt (pss_one (ps_ret pe_bl)) pss_nil)
    (pss_cons (ps_expr (pe_bm PySem.F.plainAttrs_list PySem.F.slot_list_append PySem.F.type_list_append mt_append (pe_ix ix_list (pv 9) pe_int (fun _ _ => rfl)) (pa_cons pe_int pa_nil)))
    (pss_cons (ps_expr (pe_bm PySem.F.plainAttrs_list PySem.F.slot_list_append PySem.F.type_list_append mt_append (pe_ix ix_list (pv 9) pe_int (fun _ _ => rfl)) (pa_cons pe_int pa_nil)))
    (pss_one (ps_ret (pe_and (pe_fn D_law_list hr (by rfl) (pa_cons (pe_fn Dread_road hr (by rfl) (pa_cons (pe_ix ix_list (pv 4) pe_int (fun _ _ => rfl)) pa_nil)) (pa_cons (pv 2) pa_nil))) (pe_one (pe_fn D_law_list hr (by rfl) (pa_cons (pe_fn Dread_gaps hr (by rfl) (pa_cons (pe_ix ix_list (pv 4) pe_int (fun _ _ => rfl)) pa_nil)) (pa_cons (pv 3) pa_nil)))))))))))))))))))), ?_⟩
  refine ⟨_, rfl, a, ns, 9, rfl, hS, by omega, fun c1 => ⟨_, _, rfl, rfl, (by show (0 : Int) < 50; decide), _, _, rfl, rfl, ?_⟩⟩
  refine ⟨_, rfl, _, rfl, (by show 2 ≤ sizeLine; decide), fun l hl => ?_⟩
  have s1 := same_new (o := .lst [V.int 9, V.int 80]) hl
  refine ⟨_, rfl, a, ns, 9, rfl, s1.seq hS, by omega, fun c2 => ?_⟩
  obtain ⟨st, hst, st1, st2⟩ := menuW (c2 / 50)
  refine ⟨_, _, rfl, rfl, ⟨by decide, by decide⟩, _, _, rfl, rfl, (by show (0 : Int) < 2; decide), l, _, _, _, rfl, rfl, SqL.of upd_same, hst, a, ns, 10, _, st, rfl, s1.seq hS, by omega, by omega, by omega, st1, fun rd H2 ps s2 rd0 rd1 hD => ?_⟩
  have s12 := s1.trans s2
  have b1 : (1 + c1 % 50 - 1) * st ≤ 49 * 80 := Int.mul_le_mul (show 1 + c1 % 50 - 1 ≤ 49 by omega) st2 (by omega) (show (0 : Int) ≤ 49 by decide)
  have dl := hD.len
  have hp : ∀ p ∈ ps, 0 ≤ p ∧ p ≤ 4000 := fun p hp => by have := hD.high p hp; omega
  have dr : roadB ps = true := by
    refine roadB_true (by omega) (by omega) hD.zero ?_ hD.rise
    have hm : ps.getD (ps.length - 1) 0 ∈ ps := by
      have : ps.getD (ps.length - 1) 0 = ps[ps.length - 1] := by simp [List.getD_eq_getElem?_getD, show ps.length - 1 < ps.length by omega]
      rw [this]; exact List.getElem_mem _
    exact (hp _ hm).2
  have pl : ps.length ≤ 50 := by omega
  clear b1 hst st1 st2
  refine ⟨_, rfl, a, ns, 0, rfl, s12.seq hS, by omega, fun gl H3 gs s3 gl0 gl1 hG => ?_⟩
  have s13 := s12.trans s3
  have rd3 := s3 _ _ rd1
  have hg : ∀ g ∈ gs, 0 ≤ g ∧ g ≤ 4000 := fun g hg => ⟨by have := hG.low g hg; omega, hG.high g hg⟩
  have gsl := hG.few
  refine ⟨(by show 2 ≤ sizeLine; decide), fun tx htx => ?_⟩
  have s4 := same_new (o := .lst [V.str "road", V.str "gaps"]) htx
  have rd4 := s4 _ _ rd3
  have gl4 := s4 _ _ gl1
  have ok1 : PyData.strOk "road" = true := by decide +kernel
  have ok2 : PyData.strOk "gaps" = true := by decide +kernel
  have l1 : ("road" : Str).length ≤ 4 := by decide +kernel
  have l2 : ("gaps" : Str).length ≤ 4 := by decide +kernel
  have sp1 : (" " : Str).length = 1 := by decide +kernel
  -- both texts
  refine ⟨_, rfl, rd, rfl, ⟨_, SqL.of rd4⟩, for_list (xs := ps.map V.int) (fun i σ H' => (∃ o, σ = [some (.ref a), some (.int (1 + c1 % 50)), some (.ref rd), some (.ref gl), some (.ref tx), o, none, none, none, none]) ∧ Same H3 H' ∧ H' tx = some (.lst [.str (wr "road" (ps.take i)), .str "gaps"])) ⟨⟨_, rfl⟩, s4, upd_same⟩ ?_ ?_ ?_⟩
  · rintro i σ H' _ ⟨_, h1, _⟩
    exact SqL.of (h1 _ _ rd3)
  · rintro i x σ H' hx ⟨⟨o, rfl⟩, h1, h2⟩
    obtain ⟨p, hy, rfl⟩ := int_at hx
    have hpm := hp p (List.mem_of_getElem? hy)
    have fc := wr_facts l1 ok1 (ps.take i) fun p' h => hp p' ((List.take_sublist _ _).subset h)
    have il : (ps.take i).length ≤ 50 := by rw [List.length_take]; omega
    have nl := (num_ok hpm.1 hpm.2).1
    refine ⟨_, rfl, tx, _, _, _, rfl, rfl, SqL.of h2, rfl, _, _, rfl, rfl, ?_, _, rfl, p, rfl, log_small hpm.1 hpm.2, _, _, rfl, rfl, ?_, _, rfl, tx, _, _, 0, rfl, rfl, h2, rfl, ⟨_, rfl⟩, same_upd h1 htx, ?_⟩
    · exact small (by omega)
    · rw [str_len]; exact small (by omega)
    · rw [upd_same, Rg.take_succ hy, wr_snoc]
      rfl
  rintro σ H5 ⟨⟨o, rfl⟩, s5, tx5⟩
  rw [len_int, List.take_length] at tx5
  refine ⟨_, rfl, gl, rfl, ⟨_, SqL.of (s5 _ _ gl1)⟩, for_list (xs := gs.map V.int) (fun i σ H' => (∃ o', σ = [some (.ref a), some (.int (1 + c1 % 50)), some (.ref rd), some (.ref gl), some (.ref tx), o, o', none, none, none]) ∧ Same H3 H' ∧ H' tx = some (.lst [.str (wr "road" ps), .str (wr "gaps" (gs.take i))])) ⟨⟨_, rfl⟩, s5, tx5⟩ ?_ ?_ ?_⟩
  · rintro i σ H' _ ⟨_, h1, _⟩
    exact SqL.of (h1 _ _ gl1)
  · rintro i x σ H' hx ⟨⟨o', rfl⟩, h1, h2⟩
    obtain ⟨p, hy, rfl⟩ := int_at hx
    have hpm := hg p (List.mem_of_getElem? hy)
    have fc := wr_facts l2 ok2 (gs.take i) fun p' h => hg p' ((List.take_sublist _ _).subset h)
    have il : (gs.take i).length ≤ 50 := by rw [List.length_take]; omega
    have nl := (num_ok hpm.1 hpm.2).1
    refine ⟨_, rfl, tx, _, _, _, rfl, rfl, SqL.of h2, rfl, _, _, rfl, rfl, ?_, _, rfl, p, rfl, log_small hpm.1 hpm.2, _, _, rfl, rfl, ?_, _, rfl, tx, _, _, 1, rfl, rfl, h2, rfl, ⟨_, rfl⟩, same_upd h1 htx, ?_⟩
    · exact small (by omega)
    · rw [str_len]; exact small (by omega)
    · rw [upd_same, Rg.take_succ hy, wr_snoc]
      rfl
  rintro σ H6 ⟨⟨o', rfl⟩, s6, tx6⟩
  rw [len_int, List.take_length] at tx6
  clear tx5 s5 H5 rd4 gl4 s4
  have rd6 := s6 _ _ rd3
  have gl6 := s6 _ _ gl1
  have f1 := wr_facts l1 ok1 ps hp
  have f2 := wr_facts l2 ok2 gs hg
  -- what is handed in
  refine ⟨_, rfl, rd, _, rfl, .inl (SqL.of rd6), fun h1 hh1 => ⟨_, rfl, gl, _, rfl, .inl (sq_ne (SqL.of gl6) hh1), fun h2 hh2 => ⟨(by show 2 ≤ sizeLine; decide), fun hd hhd => ?_⟩⟩⟩
  have hh2' := upd_none hh2
  have n12 : h1 ≠ h2 := fun z => by rw [z, upd_same] at hh2; cases hh2
  have t1 : Same H6 (upd (upd (upd H6 h1 (.lst (ps.map V.int))) h2 (.lst (gs.map V.int))) hd (.lst [.ref h1, .ref h2])) := same_upd (same_upd (same_new hh1 _) hh2') (upd_none (upd_none hhd))
  obtain ⟨HA, eH⟩ : ∃ HA, HA = upd (upd (upd H6 h1 (.lst (ps.map V.int))) h2 (.lst (gs.map V.int))) hd (.lst [.ref h1, .ref h2]) := ⟨_, rfl⟩
  have p0 : HA hd = some (.lst [.ref h1, .ref h2]) := by rw [eH, upd_same]
  have p1 : HA h1 = some (.lst (ps.map V.int)) := by
    rw [eH, upd_ne, upd_ne n12, upd_same]
    intro z; rw [← z, upd_ne n12, upd_same] at hhd; cases hhd
  have p2 : HA h2 = some (.lst (gs.map V.int)) := by
    rw [eH, upd_ne, upd_same]
    intro z; rw [← z, upd_same] at hhd; cases hhd
  rw [← eH] at t1 ⊢
  have rdA := t1 _ _ rd6
  have glA := t1 _ _ gl6
  have txA := t1 _ _ tx6
  clear eH hhd hh2 hh2' hh1 t1 rd6 gl6 tx6 s6
  have i0 : ∀ {x y : V}, atI [x, y] 0 = some x := rfl
  have i1 : ∀ {x y : V}, atI [x, y] 1 = some y := rfl
  have few : gs.length ≤ 1000 := by omega
  refine ⟨_, rfl, hd, _, _, _, rfl, rfl, SqL.of p0, i0, h1, ps, rfl, SqL.of p1, by omega, fun _ H7 s7 => ?_, fun z => by rw [dr] at z; cases z⟩
  refine ⟨_, rfl, hd, _, _, _, rfl, rfl, SqL.of (s7 _ _ p0), i1, h2, gs, rfl, SqL.of (s7 _ _ p2), few, fun _ H8 s8 => ?_, fun z => by omega, fun _ z => absurd hG z⟩
  have s78 := s7.trans s8
  refine ⟨(by show 2 ≤ sizeLine; decide), fun fo hfo => ?_⟩
  have s9 := same_upd (o := .lst [.str (wr "road" ps), .str (wr "gaps" gs)]) s78 (s78.free hfo)
  have shp := two_str_shaped f1.2 f2.2
  refine ⟨_, rfl, _, rfl, _, _, two_str (SqL.of upd_same), two_str (SqL.of (s9 _ _ txA)), shp, shp, false, by rw [two_str_eqv]; rfl, ?_⟩
  refine ⟨_, rfl, _, rfl, _, rfl, (by show 2 ≤ sizeLine; decide), fun n hn => ?_⟩
  have s10 := same_upd (o := .lst [.ref rd, .ref gl]) s9 (s9.free hn)
  refine ⟨_, _, dt_two (SqL.of (s10 _ _ p0)) (SqL.of (s10 _ _ p1)) (SqL.of (s10 _ _ p2)), dt_two (SqL.of upd_same) (SqL.of (s10 _ _ rdA)) (SqL.of (s10 _ _ glA)), two_shaped _ _, two_shaped _ _, false, by rw [two_eqv]; rfl, ?_⟩
  -- read again
  have tl1 : (wr "road" ps).length ≤ 1000 := by omega
  have tl2 : (wr "gaps" gs).length ≤ 1000 := by omega
  refine ⟨_, rfl, tx, _, _, _, rfl, rfl, SqL.of (s10 _ _ txA), i0, ps, rfl, dr, fun r1 H9 s11 r10 r11 => ?_⟩
  have sA := s10.trans s11
  refine ⟨_, rfl, tx, _, _, _, rfl, rfl, SqL.of (sA _ _ txA), i1, gs, rfl, hG, fun r2 HB s12' r20 r21 => ?_⟩
  have sB := sA.trans s12'
  have r1B := s12' _ _ r11
  have n12' : r1 ≠ r2 := fun z => by rw [← z, r11] at r20; cases r20
  refine ⟨(by show 2 ≤ sizeLine; decide), fun ag hag => ?_⟩
  have sC := same_upd (o := .lst [.ref r1, .ref r2]) sB (sB.free hag)
  have r1C : upd HB ag (.lst [.ref r1, .ref r2]) r1 = some (.lst (ps.map V.int)) := by rw [upd_ne (ne_of_none r1B hag)]; exact r1B
  have r2C : upd HB ag (.lst [.ref r1, .ref r2]) r2 = some (.lst (gs.map V.int)) := by rw [upd_ne (ne_of_none r21 hag)]; exact r21
  have a1 : ag ≠ r1 := fun z => by rw [z, r1B] at hag; cases hag
  have a2 : ag ≠ r2 := fun z => by rw [z, r21] at hag; cases hag
  refine ⟨_, rfl, ag, _, _, _, rfl, rfl, SqL.of upd_same, i0, _, rfl, r1, rd, ps, ps, rfl, r1C, SqL.of (sC _ _ rdA), by omega, by omega, ?_⟩
  rw [decide_eq_true rfl]
  refine ⟨true, rfl, ?_⟩
  refine ⟨_, rfl, ag, _, _, _, rfl, rfl, SqL.of upd_same, i1, _, rfl, r2, gl, gs, gs, rfl, r2C, SqL.of (sC _ _ glA), by omega, by omega, ?_⟩
  rw [decide_eq_true rfl]
  refine ⟨true, rfl, ?_⟩
  refine ⟨_, rfl, ag, _, _, _, rfl, rfl, SqL.of upd_same, i0, .inl ⟨rfl, _, SqL.of r1C⟩, r1, _, _, rfl, rfl, r1C, by rw [len_int]; exact small1000 (by omega), ?_⟩
  have f10 : HA r1 = none := s10.free r10
  have f20 : HA r2 = none := sA.free r20
  have sD := same_upd (o := .lst (ps.map V.int ++ [V.int 0])) sC f10
  have agD : upd (upd HB ag (.lst [.ref r1, .ref r2])) r1 (.lst (ps.map V.int ++ [V.int 0])) ag = some (.lst [.ref r1, .ref r2]) := by rw [upd_ne a1, upd_same]
  have r2D : upd (upd HB ag (.lst [.ref r1, .ref r2])) r1 (.lst (ps.map V.int ++ [V.int 0])) r2 = some (.lst (gs.map V.int)) := by rw [upd_ne (Ne.symm n12')]; exact r2C
  refine ⟨_, rfl, ag, _, _, _, rfl, rfl, SqL.of agD, i1, .inl ⟨rfl, _, SqL.of r2D⟩, r2, _, _, rfl, rfl, r2D, by rw [len_int]; exact small1000 (by omega), ?_⟩
  have sE := same_upd (o := .lst (gs.map V.int ++ [V.int 0])) sD f20
  refine ⟨_, rfl, tx, _, _, _, rfl, rfl, SqL.of (sE _ _ txA), i0, ps, rfl, dr, fun x1 HF s15 x10 x11 => ?_⟩
  have sF := sE.trans s15
  refine ⟨_, rfl, x1, rd, ps, ps, rfl, x11, SqL.of (sF _ _ rdA), by omega, by omega, ?_⟩
  rw [decide_eq_true rfl]
  refine ⟨true, rfl, ?_⟩
  refine ⟨_, rfl, tx, _, _, _, rfl, rfl, SqL.of (sF _ _ txA), i1, gs, rfl, hG, fun x2 HG s16 x20 x21 => ?_⟩
  have sG := sF.trans s16
  refine ⟨_, rfl, x2, gl, gs, gs, rfl, x21, SqL.of (sG _ _ glA), by omega, by omega, ?_⟩
  rw [decide_eq_true rfl]
  exact q _
end
end Rd
namespace Rd
open PySem L2 PyProof.Rows
theorem all_mk {l : PySem.W.OpenLaw} {w : World} {K : PySem.W.Frag} {h : Heap} {mg : Str → Option Value} {fa f1 f2 f3 f4 f5 f6 f7 f8 f9 f10 f11 f12 f13 f14 f15 f16 f17 : Addr} (X : K.In h) (G : h.Ns mainGlobals mg) (hfa : mg "law" = some (.ref fa))
    {od1 an1 od2 an2 od3 an3 od4 an4 od5 an5 od6 an6 od7 an7 od8 an8 od9 an9 od10 an10 od11 an11 od12 an12 od13 an13 od14 an14 od15 an15 od16 an16 od17 an17 : Option Addr}
    {sl1 sl2 sl3 sl4 sl5 sl6 sl7 sl8 sl9 sl10 sl11 sl12 sl13 sl14 sl15 sl16 sl17 : Array (Option Value)} {oc1 kV1 dc1 pm1 cd1 ct1 oc2 kV2 dc2 pm2 cd2 ct2 oc3 kV3 dc3 pm3 cd3 ct3 oc4 kV4 dc4 pm4 cd4 ct4 oc5 kV5 dc5 pm5 cd5 ct5 oc6 kV6 dc6 pm6 cd6 ct6 oc7 kV7 dc7 pm7 cd7 ct7 oc8 kV8 dc8 pm8 cd8 ct8 oc9 kV9 dc9 pm9 cd9 ct9 oc10 kV10 dc10 pm10 cd10 ct10 oc11 kV11 dc11 pm11 cd11 ct11 oc12 kV12 dc12 pm12 cd12 ct12 oc13 kV13 dc13 pm13 cd13 ct13 oc14 kV14 dc14 pm14 cd14 ct14 oc15 kV15 dc15 pm15 cd15 ct15 oc16 kV16 dc16 pm16 cd16 ct16 oc17 kV17 dc17 pm17 cd17 ct17 : Value}
    {tk1 tk2 tk3 tk4 tk5 : Tok}
    (a1 : PySem.W.nsIn K mainGlobals "is_road" = some (some (.ref f1))) (l1 : K.lookup f1 = some ⟨oc1, od1, .func (PySem.W.fnOf "is_road" "is_road" (defArgs sIsRoad) (defBody sIsRoad) (defScope sIsRoad) .none kV1 dc1 pm1 an1 cd1 ct1), sl1⟩) (c1 : PySem.W.codeIn K cd1 "is_road" = true) (k1 : PySem.W.keepIn K (.ref f1) = true)
    (a2 : PySem.W.nsIn K mainGlobals "check_road" = some (some (.ref f2))) (l2 : K.lookup f2 = some ⟨oc2, od2, .func (PySem.W.fnOf "check_road" "check_road" (defArgs sCheckRoad) (defBody sCheckRoad) (defScope sCheckRoad) .none kV2 dc2 pm2 an2 cd2 ct2), sl2⟩) (c2 : PySem.W.codeIn K cd2 "check_road" = true) (k2 : PySem.W.keepIn K (.ref f2) = true)
    (a3 : PySem.W.nsIn K mainGlobals "check_gaps" = some (some (.ref f3))) (l3 : K.lookup f3 = some ⟨oc3, od3, .func (PySem.W.fnOf "check_gaps" "check_gaps" (defArgs sCheckGaps) (defBody sCheckGaps) (defScope sCheckGaps) .none kV3 dc3 pm3 an3 cd3 ct3), sl3⟩) (c3 : PySem.W.codeIn K cd3 "check_gaps" = true) (k3 : PySem.W.keepIn K (.ref f3) = true)
    (a4 : PySem.W.nsIn K mainGlobals "shown" = some (some (.ref f4))) (l4 : K.lookup f4 = some ⟨oc4, od4, .func (PySem.W.fnOf "shown" "shown" (defArgs dShown) (defBody dShown) (defScope dShown) .none kV4 dc4 pm4 an4 cd4 ct4), sl4⟩) (c4 : PySem.W.codeIn K cd4 "shown" = true) (k4 : PySem.W.keepIn K (.ref f4) = true)
    (a5 : PySem.W.nsIn K mainGlobals "road_shown" = some (some (.ref f5))) (l5 : K.lookup f5 = some ⟨oc5, od5, .func (PySem.W.fnOf "road_shown" "road_shown" (defArgs dRoadShown) (defBody dRoadShown) (defScope dRoadShown) .none kV5 dc5 pm5 an5 cd5 ct5), sl5⟩) (c5 : PySem.W.codeIn K cd5 "road_shown" = true) (k5 : PySem.W.keepIn K (.ref f5) = true)
    (a6 : PySem.W.nsIn K mainGlobals "gaps_shown" = some (some (.ref f6))) (l6 : K.lookup f6 = some ⟨oc6, od6, .func (PySem.W.fnOf "gaps_shown" "gaps_shown" (defArgs dGapsShown) (defBody dGapsShown) (defScope dGapsShown) .none kV6 dc6 pm6 an6 cd6 ct6), sl6⟩) (c6 : PySem.W.codeIn K cd6 "gaps_shown" = true) (k6 : PySem.W.keepIn K (.ref f6) = true)
    (a7 : PySem.W.nsIn K mainGlobals "read_number" = some (some (.ref f7))) (l7 : K.lookup f7 = some ⟨oc7, od7, .func (PySem.W.fnOf "read_number" "read_number" (defArgs dReadNumber) (defBody dReadNumber) (defScope dReadNumber) .none kV7 dc7 pm7 an7 cd7 ct7), sl7⟩) (c7 : PySem.W.codeIn K cd7 "read_number" = true) (k7 : PySem.W.keepIn K (.ref f7) = true)
    (a8 : PySem.W.nsIn K mainGlobals "read_numbers" = some (some (.ref f8))) (l8 : K.lookup f8 = some ⟨oc8, od8, .func (PySem.W.fnOf "read_numbers" "read_numbers" (defArgs dReadNumbers) (defBody dReadNumbers) (defScope dReadNumbers) .none kV8 dc8 pm8 an8 cd8 ct8), sl8⟩) (c8 : PySem.W.codeIn K cd8 "read_numbers" = true) (k8 : PySem.W.keepIn K (.ref f8) = true)
    (a9 : PySem.W.nsIn K mainGlobals "read_road" = some (some (.ref f9))) (l9 : K.lookup f9 = some ⟨oc9, od9, .func (PySem.W.fnOf "read_road" "read_road" (defArgs dReadRoad) (defBody dReadRoad) (defScope dReadRoad) .none kV9 dc9 pm9 an9 cd9 ct9), sl9⟩) (c9 : PySem.W.codeIn K cd9 "read_road" = true) (k9 : PySem.W.keepIn K (.ref f9) = true)
    (a10 : PySem.W.nsIn K mainGlobals "read_gaps" = some (some (.ref f10))) (l10 : K.lookup f10 = some ⟨oc10, od10, .func (PySem.W.fnOf "read_gaps" "read_gaps" (defArgs dReadGaps) (defBody dReadGaps) (defScope dReadGaps) .none kV10 dc10 pm10 an10 cd10 ct10), sl10⟩) (c10 : PySem.W.codeIn K cd10 "read_gaps" = true) (k10 : PySem.W.keepIn K (.ref f10) = true)
    (a11 : PySem.W.nsIn K mainGlobals "_law_cell_at" = some (some (.ref f11))) (l11 : K.lookup f11 = some ⟨oc11, od11, .func (PySem.W.fnOf "_law_cell_at" "_law_cell_at" (defArgs sCell) (defBody sCell) (defScope sCell) .none kV11 dc11 pm11 an11 cd11 ct11), sl11⟩) (c11 : PySem.W.codeIn K cd11 "_law_cell_at" = true) (k11 : PySem.W.keepIn K (.ref f11) = true)
    (a12 : PySem.W.nsIn K mainGlobals "_law_whole" = some (some (.ref f12))) (l12 : K.lookup f12 = some ⟨oc12, od12, .func (PySem.W.fnOf "_law_whole" "_law_whole" (defArgs sWhole) (defBody sWhole) (defScope sWhole) .none kV12 dc12 pm12 an12 cd12 ct12), sl12⟩) (c12 : PySem.W.codeIn K cd12 "_law_whole" = true) (k12 : PySem.W.keepIn K (.ref f12) = true)
    (a13 : PySem.W.nsIn K mainGlobals "_law_list" = some (some (.ref f13))) (l13 : K.lookup f13 = some ⟨oc13, od13, .func (PySem.W.fnOf "_law_list" "_law_list" (defArgs sList) (defBody sList) (defScope sList) .none kV13 dc13 pm13 an13 cd13 ct13), sl13⟩) (c13 : PySem.W.codeIn K cd13 "_law_list" = true) (k13 : PySem.W.keepIn K (.ref f13) = true)
    (a14 : PySem.W.nsIn K mainGlobals "_law_between" = some (some (.ref f14))) (l14 : K.lookup f14 = some ⟨oc14, od14, .func (PySem.W.fnOf "_law_between" "_law_between" (defArgs sBetween) (defBody sBetween) (defScope sBetween) .none kV14 dc14 pm14 an14 cd14 ct14), sl14⟩) (c14 : PySem.W.codeIn K cd14 "_law_between" = true) (k14 : PySem.W.keepIn K (.ref f14) = true)
    (a15 : PySem.W.nsIn K mainGlobals "_law_road" = some (some (.ref f15))) (l15 : K.lookup f15 = some ⟨oc15, od15, .func (PySem.W.fnOf "_law_road" "_law_road" (defArgs sRoad) (defBody sRoad) (defScope sRoad) .none kV15 dc15 pm15 an15 cd15 ct15), sl15⟩) (c15 : PySem.W.codeIn K cd15 "_law_road" = true) (k15 : PySem.W.keepIn K (.ref f15) = true)
    (a16 : PySem.W.nsIn K mainGlobals "_law_gaps" = some (some (.ref f16))) (l16 : K.lookup f16 = some ⟨oc16, od16, .func (PySem.W.fnOf "_law_gaps" "_law_gaps" (defArgs sGaps) (defBody sGaps) (defScope sGaps) .none kV16 dc16 pm16 an16 cd16 ct16), sl16⟩) (c16 : PySem.W.codeIn K cd16 "_law_gaps" = true) (k16 : PySem.W.keepIn K (.ref f16) = true)
    (a17 : PySem.W.nsIn K mainGlobals "law" = some (some (.ref f17))) (l17 : K.lookup f17 = some ⟨oc17, od17, .func (PySem.W.fnOf "law" "law" (defArgs sLaw) (defBody sLaw) (defScope sLaw) .none kV17 dc17 pm17 an17 cd17 ct17), sl17⟩) (c17 : PySem.W.codeIn K cd17 "law" = true) (k17 : PySem.W.keepIn K (.ref f17) = true)
    (m1 : PySem.W.nsIn K mainGlobals "MOST_PLACES" = some (some (.int 50 tk1)))
    (m2 : PySem.W.nsIn K mainGlobals "LONGEST" = some (some (.int 4000 tk2)))
    (m3 : PySem.W.nsIn K mainGlobals "MOST_GAPS" = some (some (.int 21 tk3)))
    (m4 : PySem.W.nsIn K mainGlobals "ROAD_WORD" = some (some (.str "road" tk4)))
    (m5 : PySem.W.nsIn K mainGlobals "GAPS_WORD" = some (some (.str "gaps" tk5)))
    {CN CG CT : Addr}
    (xN : PySem.W.nsIn K mainGlobals "NoRoad" = some (some (.ref CN)))
    (xG : PySem.W.nsIn K mainGlobals "NoGaps" = some (some (.ref CG)))
    (xT : PySem.W.nsIn K mainGlobals "TooMany" = some (some (.ref CT)))
    (eN : PySem.W.excIn K CN bmV "ValueError.__new__" = true)
    (eG : PySem.W.excIn K CG bmV "ValueError.__new__" = true)
    (eT : PySem.W.excIn K CT bmV "ValueError.__new__" = true)
    (z1 : PySem.W.nsIn K mainGlobals "len" = some none)
    (z2 : PySem.W.nsIn K mainGlobals "range" = some none)
    (z3 : PySem.W.nsIn K mainGlobals "all" = some none)
    (z4 : PySem.W.nsIn K mainGlobals "sorted" = some none)
    (z5 : PySem.W.nsIn K mainGlobals "list" = some none)
    (z6 : PySem.W.nsIn K mainGlobals "isinstance" = some none)
    (z7 : PySem.W.nsIn K mainGlobals "int" = some none)
    (z8 : PySem.W.nsIn K mainGlobals "bool" = some none)
    (z9 : PySem.W.nsIn K mainGlobals "max" = some none)
    (z10 : PySem.W.nsIn K mainGlobals "min" = some none)
    (z11 : PySem.W.nsIn K mainGlobals "reversed" = some none)
    (z12 : PySem.W.nsIn K mainGlobals "set" = some none)
    (z13 : PySem.W.nsIn K mainGlobals "ValueError" = some none)
    (z14 : PySem.W.nsIn K mainGlobals "tuple" = some none)
    (z15 : PySem.W.nsIn K mainGlobals "str" = some none)
    : ∃ fd : FuncData, (∀ (s : Shared) (v : Value), BindsTo s fd ⟨[v], []⟩ [("script", v)]) ∧ ∀ base : Heap, K.In base → base.Ns mainGlobals mg → FnOk l.prog w K mg base CX0 4 fa fd ["script"] (spLaw K) := by
  have e := hfa.symm.trans (PySem.W.mg_of X G a17)
  cases e
  have Fis_road := fun_mk (st := sIsRoad) l1 c1 k1
  have Mis_road := PySem.W.mg_of X G a1
  have Fcheck_road := fun_mk (st := sCheckRoad) l2 c2 k2
  have Mcheck_road := PySem.W.mg_of X G a2
  have Fcheck_gaps := fun_mk (st := sCheckGaps) l3 c3 k3
  have Mcheck_gaps := PySem.W.mg_of X G a3
  have Fshown := fun_mk (st := dShown) l4 c4 k4
  have Mshown := PySem.W.mg_of X G a4
  have Froad_shown := fun_mk (st := dRoadShown) l5 c5 k5
  have Mroad_shown := PySem.W.mg_of X G a5
  have Fgaps_shown := fun_mk (st := dGapsShown) l6 c6 k6
  have Mgaps_shown := PySem.W.mg_of X G a6
  have Fread_number := fun_mk (st := dReadNumber) l7 c7 k7
  have Mread_number := PySem.W.mg_of X G a7
  have Fread_numbers := fun_mk (st := dReadNumbers) l8 c8 k8
  have Mread_numbers := PySem.W.mg_of X G a8
  have Fread_road := fun_mk (st := dReadRoad) l9 c9 k9
  have Mread_road := PySem.W.mg_of X G a9
  have Fread_gaps := fun_mk (st := dReadGaps) l10 c10 k10
  have Mread_gaps := PySem.W.mg_of X G a10
  have F_law_cell_at := fun_mk (st := sCell) l11 c11 k11
  have M_law_cell_at := PySem.W.mg_of X G a11
  have F_law_whole := fun_mk (st := sWhole) l12 c12 k12
  have M_law_whole := PySem.W.mg_of X G a12
  have F_law_list := fun_mk (st := sList) l13 c13 k13
  have M_law_list := PySem.W.mg_of X G a13
  have F_law_between := fun_mk (st := sBetween) l14 c14 k14
  have M_law_between := PySem.W.mg_of X G a14
  have F_law_road := fun_mk (st := sRoad) l15 c15 k15
  have M_law_road := PySem.W.mg_of X G a15
  have F_law_gaps := fun_mk (st := sGaps) l16 c16 k16
  have M_law_gaps := PySem.W.mg_of X G a16
  have Flaw := fun_mk (st := sLaw) l17 c17 k17
  have Mlaw := PySem.W.mg_of X G a17
  have CMOST_PLACES := PySem.W.mg_of X G m1
  have CLONGEST := PySem.W.mg_of X G m2
  have CMOST_GAPS := PySem.W.mg_of X G m3
  have CROAD_WORD := PySem.W.mg_of X G m4
  have CGAPS_WORD := PySem.W.mg_of X G m5
  have Nlen := PySem.W.mg_none_of X G z1
  have Nrange := PySem.W.mg_none_of X G z2
  have Nall := PySem.W.mg_none_of X G z3
  have Nsorted := PySem.W.mg_none_of X G z4
  have Nlist := PySem.W.mg_none_of X G z5
  have Nisinstance := PySem.W.mg_none_of X G z6
  have Nint := PySem.W.mg_none_of X G z7
  have Nbool := PySem.W.mg_none_of X G z8
  have Nmax := PySem.W.mg_none_of X G z9
  have Nmin := PySem.W.mg_none_of X G z10
  have Nreversed := PySem.W.mg_none_of X G z11
  have Nset := PySem.W.mg_none_of X G z12
  have NValueError := PySem.W.mg_none_of X G z13
  have Ntuple := PySem.W.mg_none_of X G z14
  have Nstr := PySem.W.mg_none_of X G z15
  have G1 : Mg mg := ⟨Nlen, Nrange, Nall, Nsorted, ⟨_, CLONGEST⟩⟩
  have GP : MgP mg := ⟨G1, ⟨_, CMOST_PLACES⟩⟩
  have GG : MgG mg := ⟨G1, ⟨_, CMOST_GAPS⟩, Nlist⟩
  have G3 : MgL mg := ⟨Nlen, Nrange, Nsorted, Nisinstance, Nint, Nbool, Nlist⟩
  have GA : MgA mg := ⟨G3, Nset, Nmax, Nmin, Nreversed, NValueError, Ntuple, Nstr⟩
  have GW : MgW mg := ⟨Nstr⟩
  have ON := PySem.W.mg_of X G xN
  have OG := PySem.W.mg_of X G xG
  have OT := PySem.W.mg_of X G xT
  have ZXN : XCls K "NoRoad" CN := ⟨xN, eN⟩
  have ZXG : XCls K "NoGaps" CG := ⟨xG, eG⟩
  have ZXT : XCls K "TooMany" CT := ⟨xT, eT⟩
  refine ⟨PySem.W.fnOf "law" "law" (defArgs sLaw) (defBody sLaw) (defScope sLaw) .none kV17 dc17 pm17 an17 cd17 ct17, fun s v => .of_eq rfl, fun base _ _ => ?_⟩
  have E1 := ok_isRoad (P := l.prog) (w := w) (base := base) Fis_road Mis_road GP
  have E2 := ok_checkRoadE Fcheck_road Mcheck_road GP ZXN ON E1
  have E4 := ok_checkGapsE (P := l.prog) (w := w) (base := base) Fcheck_gaps Mcheck_gaps GG ZXT OT ZXG OG
  have W1 := ok_shown (P := l.prog) (w := w) (base := base) Fshown Mshown GW
  have W2 := ok_roadShown Froad_shown Mroad_shown ⟨_, CROAD_WORD⟩ E2 (W1.mono (by decide))
  have W3 := ok_gapsShown Fgaps_shown Mgaps_shown ⟨_, CGAPS_WORD⟩ (E4.mono (by decide)) (W1.mono (by decide))
  have W4 := ok_number (P := l.prog) (w := w) (base := base) Fread_number Mread_number GA
  have W5 := ok_numbers Fread_numbers Mread_numbers W4
  have W6 := ok_readRoad Fread_road Mread_road ⟨_, CROAD_WORD⟩ E2 W5
  have W7 := ok_readGaps Fread_gaps Mread_gaps ⟨_, CGAPS_WORD⟩ (E4.mono (by decide)) W5
  have L1 := ok_cell (P := l.prog) (w := w) (base := base) F_law_cell_at M_law_cell_at G3
  have L2 := ok_whole (P := l.prog) (w := w) (base := base) F_law_whole M_law_whole G3
  have L3 := ok_list F_law_list M_law_list G3 L2
  have L4 := ok_between (P := l.prog) (w := w) (base := base) F_law_between M_law_between G3
  have L5 := ok_road F_law_road M_law_road G3 L1
  have L9 := ok_gaps F_law_gaps M_law_gaps G3 Nmax L1 L5 L4
  exact ok_law (k := 3) Flaw GA (L1.mono (by decide)) (L5.mono (by decide)) L9 (L3.mono (by decide)) W2 W3 W6 W7
theorem walk {l : PySem.W.OpenLaw} {q : Program} {loose : List Str} {XP : (Str → Option Value) → Heap → Prop} {YP : World → Heap → Prop} {d : DefRec} {K : Params → PySem.W.Frag} (hn : l.most = some 63) (hdf : d.params.defaults = [])
    (hY : ∀ (w : World) (h : Heap), YP w h → (K w.params).In h)
    (F : ∀ (w : World) (mg : Str → Option Value) (fa : Addr) (h : Heap), (K w.params).In h → h.Ns mainGlobals mg → mg d.name = some (.ref fa) →
      ∃ fd : FuncData, (∀ (s : Shared) (u : Value), BindsTo s fd ⟨[u], []⟩ [("script", u)]) ∧ ∀ base : Heap, (K w.params).In base → base.Ns mainGlobals mg → FnOk l.prog w (K w.params) mg base CX0 4 fa fd ["script"] (spLaw (K w.params))) :
    PySem.W.WalkO q loose XP YP l.row.toRowW d [] (fun f vs => PySem.call f vs) :=
  L2.walk_of (n := 63) (k := 4) (x := "script") (CX := fun _ => CX0) (sp := fun w => spLaw (K w.params)) hn (by decide) hdf ⟨rfl, by decide, by decide⟩ hY F (fun _ _ a ns hl _ hS => ⟨a, ns, rfl, hS, hl, fun _ => rfl⟩) fun _ _ _ _ _ z => z
end Rd
open PySem PySem.W PyProof.Rows
set_option maxRecDepth 100000 in
set_option maxHeartbeats 0 in
theorem PySem.Challenge.cw_roadgaps_k10_written_holds : PySem.Challenge.rw_roadgaps_k10_written.Holds := by
  w_on; o_law; k_head; (case hw => w_witness2)
  k_fill
  refine Rd.walk (l := PySem.Challenge.rw_roadgaps_k10_written) rfl rfl (fun w h Y => PySem.W.kIn_of Y) ?F
  case F =>
    intro w mg fa h KX G hmg
    refine' Rd.all_mk KX G hmg ?a1 ?l1 ?c1 ?k1 ?a2 ?l2 ?c2 ?k2 ?a3 ?l3 ?c3 ?k3 ?a4 ?l4 ?c4 ?k4 ?a5 ?l5 ?c5 ?k5 ?a6 ?l6 ?c6 ?k6 ?a7 ?l7 ?c7 ?k7 ?a8 ?l8 ?c8 ?k8 ?a9 ?l9 ?c9 ?k9 ?a10 ?l10 ?c10 ?k10 ?a11 ?l11 ?c11 ?k11 ?a12 ?l12 ?c12 ?k12 ?a13 ?l13 ?c13 ?k13 ?a14 ?l14 ?c14 ?k14 ?a15 ?l15 ?c15 ?k15 ?a16 ?l16 ?c16 ?k16 ?a17 ?l17 ?c17 ?k17 ?m1 ?m2 ?m3 ?m4 ?m5 ?xN ?xG ?xT ?eN ?eG ?eT ?z1 ?z2 ?z3 ?z4 ?z5 ?z6 ?z7 ?z8 ?z9 ?z10 ?z11 ?z12 ?z13 ?z14 ?z15
    (case a1 => k_is)
    (case l1 => k_is)
    (case c1 => k_is)
    (case k1 => k_is)
    (case a2 => k_is)
    (case l2 => k_is)
    (case c2 => k_is)
    (case k2 => k_is)
    (case a3 => k_is)
    (case l3 => k_is)
    (case c3 => k_is)
    (case k3 => k_is)
    (case a4 => k_is)
    (case l4 => k_is)
    (case c4 => k_is)
    (case k4 => k_is)
    (case a5 => k_is)
    (case l5 => k_is)
    (case c5 => k_is)
    (case k5 => k_is)
    (case a6 => k_is)
    (case l6 => k_is)
    (case c6 => k_is)
    (case k6 => k_is)
    (case a7 => k_is)
    (case l7 => k_is)
    (case c7 => k_is)
    (case k7 => k_is)
    (case a8 => k_is)
    (case l8 => k_is)
    (case c8 => k_is)
    (case k8 => k_is)
    (case a9 => k_is)
    (case l9 => k_is)
    (case c9 => k_is)
    (case k9 => k_is)
    (case a10 => k_is)
    (case l10 => k_is)
    (case c10 => k_is)
    (case k10 => k_is)
    (case a11 => k_is)
    (case l11 => k_is)
    (case c11 => k_is)
    (case k11 => k_is)
    (case a12 => k_is)
    (case l12 => k_is)
    (case c12 => k_is)
    (case k12 => k_is)
    (case a13 => k_is)
    (case l13 => k_is)
    (case c13 => k_is)
    (case k13 => k_is)
    (case a14 => k_is)
    (case l14 => k_is)
    (case c14 => k_is)
    (case k14 => k_is)
    (case a15 => k_is)
    (case l15 => k_is)
    (case c15 => k_is)
    (case k15 => k_is)
    (case a16 => k_is)
    (case l16 => k_is)
    (case c16 => k_is)
    (case k16 => k_is)
    (case a17 => k_is)
    (case l17 => k_is)
    (case c17 => k_is)
    (case k17 => k_is)
    (case m1 => k_is)
    (case m2 => k_is)
    (case m3 => k_is)
    (case m4 => k_is)
    (case m5 => k_is)
    (case xN => k_is)
    (case xG => k_is)
    (case xT => k_is)
    (case eN => k_exc)
    (case eG => k_exc)
    (case eT => k_exc)
    (case z1 => k_is)
    (case z2 => k_is)
    (case z3 => k_is)
    (case z4 => k_is)
    (case z5 => k_is)
    (case z6 => k_is)
    (case z7 => k_is)
    (case z8 => k_is)
    (case z9 => k_is)
    (case z10 => k_is)
    (case z11 => k_is)
    (case z12 => k_is)
    (case z13 => k_is)
    (case z14 => k_is)
    (case z15 => k_is)
