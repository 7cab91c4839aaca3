import PyProof.Rows.All
import Wide.All
import OpenK.AllK
import Wide.FinOn
import Lean
import PyProof.EqAt
import PyProof.EqKinds
import PyProof.TupleCall
import PyProof.Rows.SortShell
import PyProof.Rows.SortWalk
import PyProof.Rules
import PyProof.RulesTry
import PyProof.Comp
import PyProof.CompFree
import PyProof.ForAny
import PyProof.DefCall
import PyProof.CallType
import PyProof.CompMap
import PyProof.Conv_int
import PyProof.ReprStr
import KE.KIntText
import KE.KRevIter
import KE.KTryMore
import PyProof.StrLawsRepr
import PyProof.StrCalls2
import PyProof.StrLawsTight
import PyProof.SetScanFacts
import PyProof.Rows.SetFrom
import PyProof.CollectWalk
import PyProof.SetRoads
import PyProof.P3Eq
import PyProof.StrWalks
import PyProof.StrBlockG
import PySem.Challenge.RW_roadgaps_k11_read
set_option Elab.async false
set_option linter.all false
set_option maxRecDepth 100000
set_option maxHeartbeats 4000000
/-! RUNS BENEATH THE CLAIM'S CALLER: what a refused int(text) leaves hangs on who stands at the stack's end; so the rules on the way to it, for such stacks alone. -/
namespace L2
open PySem
open Sem (wp)
def Bl (Γ : Ctx) : Prop := (Γ.below.map (·.1)).any Code.isCaller = true
def Cl (Γ : Ctx) : Prop := Γ.code.isCaller = true ∨ Bl Γ
/-- under the caller -/
def wpC {α : Type} (M : Model) (A : Around) (t : Sem α) (Q : α → Shared → Prop) (E : Value → Shared → Prop) (s : Shared) : Prop :=
  ∀ (Γ : Ctx) (p : Pos), Γ.In A → Cl Γ → wp M Γ t (fun a _ z => Q a z) (fun e _ z => E e z) p s
def codeC (M : Model) (A : Around) (c : Code) (R : Result → Shared → Prop) (s : Shared) : Prop :=
  ∀ (Γ : Ctx) (p : Pos), Γ.code = c → Γ.Below A → Bl Γ → wpCode M Γ R p s
theorem Cl.enter {Γ : Ctx} (h : Cl Γ) (c : Code) (v : Option Value) (p : Pos) : Bl (Γ.enter c v p) := by
  show (((Γ.code, p) :: Γ.below).map (·.1)).any Code.isCaller = true
  rw [List.map_cons, List.any_cons]
  rcases h with h | h
  · rw [show Code.isCaller (Γ.code, p).1 = true from h]; rfl
  · rw [show (Γ.below.map (·.1)).any Code.isCaller = true from h, Bool.or_true]
section
variable {α β : Type} {M : Model} {A : Around} {E : Value → Shared → Prop} {s : Shared}
theorem wpC.any {t : Sem α} {Q : α → Shared → Prop} (h : wpAny M A t Q E s) : wpC M A t Q E s := fun Γ p hΓ _ => h Γ p hΓ
theorem codeC.any {c : Code} {R : Result → Shared → Prop} (h : codeAny M A c R s) : codeC M A c R s := fun Γ p hc hΓ _ => h Γ p hc hΓ
theorem wpC.mono {t : Sem α} {Q Q' : α → Shared → Prop} {E' : Value → Shared → Prop} (h : wpC M A t Q E s) (hQ : ∀ a z, Q a z → Q' a z) (hE : ∀ e z, E e z → E' e z) : wpC M A t Q' E' s :=
  fun Γ p hΓ hc => Sem.wp_mono M Γ t (fun a _ z q => hQ a z q) (fun e _ z q => hE e z q) p s (h Γ p hΓ hc)
theorem wpC.thn {t : Sem α} {Q Q' : α → Shared → Prop} (h : wpC M A t Q E s) (hQ : ∀ a z, Q a z → Q' a z) : wpC M A t Q' E s := h.mono hQ fun _ _ q => q
theorem wpC.bind {m : Sem α} {f : α → Sem β} {Q : β → Shared → Prop} (h : wpC M A m (fun a z => wpC M A (f a) Q E z) E s) : wpC M A (m >>= f) Q E s := fun Γ p hΓ hc => by
  rw [Sem.wp_bind']
  exact Sem.wp_mono M Γ m (fun a p' z q => q Γ p' hΓ hc) (fun _ _ _ q => q) p s (h Γ p hΓ hc)
/-- a step of which the plain rule is known, then a run under the caller -/
theorem wpC.step {m : Sem α} {f : α → Sem β} {Q : β → Shared → Prop} (h : wpAny M A m (fun a z => wpC M A (f a) Q E z) E s) : wpC M A (m >>= f) Q E s := .bind (.any h)
theorem wpC.onRaise {m : Sem α} {k : Value → Sem Unit} {Q : α → Shared → Prop} (h : wpC M A m Q (fun e z => wpAny M A (k e) (fun _ z' => E e z') E z) s) : wpC M A (m.onRaise k) Q E s := fun Γ p hΓ hc => by
  rw [Sem.wp_onRaise]
  exact Sem.wp_mono M Γ m (fun _ _ _ q => q) (fun e p' z q => q Γ p' hΓ) p s (h Γ p hΓ hc)
theorem wpC.attempt {m : Sem α} {Q : Except Value α → Shared → Prop} (h : wpC M A m (fun a => Q (.ok a)) (fun e => Q (.error e)) s) : wpC M A m.attempt Q E s := fun Γ p hΓ hc => by
  rw [Sem.wp_attempt]
  exact h Γ p hΓ hc
theorem wpC.holding {vs : List Value} {m : Sem α} {Q : α → Shared → Prop} (h : wpC M A m Q E s) : wpC M A (PySem.holding vs m) Q E s := fun Γ p hΓ hc => by
  rw [Sem.wp_holding]
  exact h Γ p hΓ hc
theorem codeC.mono {c : Code} {R R' : Result → Shared → Prop} (h : codeC M A c R s) (hR : ∀ r z, R r z → R' r z) : codeC M A c R' s := fun Γ p hc hΓ hb => wpCode_mono hR (h Γ p hc hΓ hb)
theorem wpC.run {c : Code} {v : Option Value} {Q : Flow → Shared → Prop} (hc : codeC M (A.mark v) c (fun r z => match r with | .ok f => Q f z | .error e => E e z) s) (hnb : v ≠ some byPass := by intro x; cases x) : wpC M A (PySem.run c v) Q E s := fun Γ p hΓ hcl => by
  rw [Sem.wp_run]
  exact hc _ p rfl (hΓ.enter c v p hnb) (hcl.enter c v p)
theorem wpC.runValue {c : Code} {Q : Value → Shared → Prop} (hc : codeC M A c (fun r z => match r with | .ok (.ret u) => Q u z | .ok _ => False | .error e => E e z) s) : wpC M A (PySem.runValue c) Q E s := fun Γ p hΓ hcl => by
  rw [Sem.wp_runValue]
  exact hc _ p rfl (hΓ.enter c none p (by intro x; cases x)) (hcl.enter c none p)
theorem wpC.call {f : Value} {pos : List Value} {kw : List (Str × Value)} {Q : Value → Shared → Prop} (hc : codeC M A (.call f ⟨pos, kw⟩) (fun r z => match r with | .ok (.ret u) => Q u z | .ok _ => False | .error e => E e z) s) : wpC M A (PySem.call f pos kw) Q E s := .runValue hc
theorem wpC.runOwn {c : Code} {env : Env} {v : Option Value} {Q : Flow → Shared → Prop} (hc : codeC M (A.mark v) c (fun r z => match r with | .ok f => Q f z | .error e => cameBackBy M A env E e z) s) (hnb : v ≠ some byPass := by intro x; cases x) : wpC M A (PySem.runOwn c env v) Q E s := by
  unfold PySem.runOwn
  exact .onRaise (.run hc hnb)
/-- the end of a code's tree -/
abbrev EndC (M : Model) (A : Around) (R : Result → Shared → Prop) : Fin → Shared → Prop := fun fin z => match fin with | .done f => R (.ok f) z | .again c' => c'.quiet = true ∧ codeC M A c' R z
theorem codeC.tree {c : Code} {R : Result → Shared → Prop} (h : wpC M (A.under c) (M.den c) (EndC M A R) (fun e z => R (.error e) z) s) : codeC M A c R s := fun Γ p hc hΓ hb => by
  rw [wpCode_iff_wp, hc]
  refine Sem.wp_mono M Γ _ (fun fin p' z q => ?_) (fun _ _ _ q => q) p s (h Γ p (hc ▸ hΓ.in) (.inr hb))
  cases fin with
  | done f => exact q
  | again c' => exact ⟨q.1, q.2 (Γ.goto c') p' rfl (hΓ.goto c') hb⟩
theorem codeC.loop {c : Code} {R : Result → Shared → Prop} (hq : c.quiet = true) (I : Nat → Shared → Prop)
    (turn : ∀ n z, I n z → wpC M (A.under c) (M.den c) (fun fin z' => match fin with | .done f => R (.ok f) z' | .again c' => (c' = c ∧ ∃ m, m < n ∧ I m z') ∨ (c'.quiet = true ∧ codeC M A c' R z')) (fun e z' => R (.error e) z') z) :
    ∀ (n : Nat) (z : Shared), I n z → codeC M A c R z := by
  intro n
  induction n using Nat.strongRecOn with
  | ind n ih =>
    intro z hz
    refine .tree ((turn n z hz).thn fun fin z' q => ?_)
    cases fin with
    | done f => exact q
    | again c' =>
      rcases q with ⟨rfl, m, hm, hI⟩ | q
      · exact ⟨hq, ih m hm z' hI⟩
      · exact q
/-! ### statements -/
theorem wpC.execs {env : Env} {st : Stmt} {rest : List Stmt} {Q : Flow → Shared → Prop} (h : wpC M A (exec st env) (fun f z => match f with | .next => wpC M A (PySem.execs rest env) Q E z | f => Q f z) E s) : wpC M A (PySem.execs (st :: rest) env) Q E s := by
  rw [execs_cons]
  refine .bind (h.thn fun f z q => ?_)
  cases f with
  | next => exact q
  | brk => exact .any (wpAny_pure q)
  | cont => exact .any (wpAny_pure q)
  | ret v => exact .any (wpAny_pure q)
theorem wpC.assign {env : Env} {x : Str} {pos' pos : Pos} {value : Expr} {Q : Flow → Shared → Prop} (h : wpC M A (eval value env) (fun v z => wpAny M A (storeName env x v) (fun _ => Q .next) E z) E s) (hs : swapsWith value (some (.Name x pos')) pos.line env = pure false := by rfl) :
    wpC M A (exec (.Assign [.Name x pos'] value pos) env) Q E s := fun Γ p hΓ hc => by
  simp only [exec_Assign_Name env x pos' value pos hs, Sem.wp_bind', Sem.wp_cmd_standAt, Sem.wp_bindName, Sem.wp_pure']
  exact Sem.wp_mono M Γ _ (fun v _ z q => q Γ _ hΓ) (fun _ _ _ q => q) _ _ (h Γ _ hΓ hc)
theorem wpC.ret {env : Env} {e : Expr} {pos : Pos} {Q : Flow → Shared → Prop} (h : wpC M A (eval e env) (fun v => Q (.ret v)) E s) : wpC M A (exec (.Return (some e) pos) env) Q E s := by
  rw [arm_exec_Return]
  refine .step (wpAny_standAt ?_)
  show wpC M A (eval e env >>= fun v => pure (Flow.ret v)) Q E s
  exact .bind (h.thn fun v z q => .any (wpAny_pure q))
theorem wpC.ite {env : Env} {test : Expr} {a b : List Stmt} {pos : Pos} {Q : Flow → Shared → Prop} (h : wpAny M A (isTrue test env (eval test env)) (fun d z => if d = true then wpC M A (PySem.execs a env) Q E z else wpC M A (PySem.execs b env) Q E z) E s) : wpC M A (exec (.If test a b pos) env) Q E s := by
  rw [arm_exec_If]
  refine .step (wpAny_standAt (.step (wpAny_mono h (fun d z q => ?_) fun _ _ q => q)))
  cases d with
  | true => exact q
  | false => exact q
end
section
variable {prog : Program} {w : World} {A : Around} {E : Value → Shared → Prop} {s : Shared} {env : Env} {R : Result → Shared → Prop}
theorem wpC.try_ {body : List Stmt} {h₀ : ExceptHandler} {hs : List ExceptHandler} {pos : Pos} {Q : Flow → Shared → Prop}
    (h : wpC (model prog w) A (PySem.execs body env) Q (fun e z => wpAny (model prog w) A (noteFrame e env) (fun _ z2 => wpAny (model prog w) A (setFlight e none) (fun _ z3 => wpAny (model prog w) A (handleBy e env (h₀ :: hs)) Q E z3) E z2) E z) s) :
    wpC (model prog w) A (exec (.Try body (h₀ :: hs) [] [] pos) env) Q E s := by
  rw [arm_exec_Try]
  refine .step (wpAny_standAt ?_)
  show wpC (model prog w) A (tryStmt false (PySem.execs body env) (h₀ :: hs) (PySem.execs [] env) [] env) Q E s
  unfold tryStmt
  simp only [List.isEmpty_nil, if_true, List.isEmpty_cons, Bool.false_and, Bool.false_eq_true, if_false]
  refine .bind (.attempt (h.mono (fun f z q => ?_) fun e z q => ?_))
  · cases f with
    | next => exact .any (wpAny_execs_nil q)
    | brk => exact .any (wpAny_pure q)
    | cont => exact .any (wpAny_pure q)
    | ret v => exact .any (wpAny_pure q)
  · exact .step (wpAny_mono q (fun _ _ q2 => .step (wpAny_mono q2 (fun _ _ q3 => .any q3) fun _ _ x => x)) fun _ _ x => x)
theorem wpC.for_ {target iter : Expr} {body : List Stmt} {pos : Pos} {Q : Flow → Shared → Prop}
    (h : wpAny (model prog w) A (eval iter env) (fun x z => wpAny (model prog w) A (pyIter x) (fun it z2 => codeC (model prog w) A (.forLoop target it body [] env) (fun r z3 => match r with | .ok f => Q f z3 | .error e => cameBackBy (model prog w) A env E e z3) z2) E z) E s)
    (hs : ∀ x, foldedSetIterable iter env x = pure x := by intro _; rfl) : wpC (model prog w) A (exec (.For target iter body [] pos) env) Q E s := by
  rw [arm_exec_For]
  refine .step (wpAny_standAt (.step (wpAny_mono h (fun x z q => ?_) fun _ _ q => q)))
  refine .step (wpAny_of_eq (hs x) (.step (wpAny_standAt (.step (wpAny_holding (wpAny_mono q (fun it z2 q2 => .runOwn q2) fun _ _ q => q))))))
theorem codeC.func {body : List Stmt} (h : wpC (model prog w) (A.deeper env) (PySem.execs body env) (fun f z => R (.ok (.ret (match f with | .ret v => v | _ => .none))) z) (fun e z => wpAny (model prog w) (A.deeper env) (leaving env e) (fun _ z2 => R (.error e) z2) (fun e' z2 => R (.error e') z2) z) s) :
    codeC (model prog w) A (.func body env) R s := by
  refine .tree ?_
  show wpC _ (A.deeper env) (point >>= fun _ => ((PySem.execs body env).onRaise (leaving env) >>= fun f => match f with | .ret v => PySem.ret v | _ => PySem.ret .none)) _ _ s
  refine .step (wpAny_point (.bind (.onRaise (h.mono (fun f z q => ?_) fun _ _ q => q))))
  cases f <;> exact .any (wpAny_pure q)
theorem codeC.call_function {a : Addr} {args : Args} {o : Obj} {fd : FuncData} {body : List Stmt} (hroom : A.depth < recursionLimit) (ho : s.heap.get? a = some o) (hd : o.data = .func fd) (hco : fd.scope.isCoroutine = false) (hgen : fd.scope.isGenerator = false) (hbody : fd.body = .stmts body) (hcd : s.heap.CodeRec fd.code fd.qualname)
    (h : wpAny (model prog w) A.in1 (bindArgs fd args) (fun binds z => wpAny (model prog w) A.in1 (newFunctionEnv fd.scope fd.globals fd.closure binds (fd.qualname ++ ".<locals>.") (some a) fd.code none fd.builtins)
        (fun env z2 => z2.heap.NoLimit ∧ codeC (model prog w) A (.func body env) R z2) (fun e z' => R (.error e) z') z) (fun e z' => R (.error e) z') s) : codeC (model prog w) A (.call (.ref a) args) R s := by
  refine .tree ?_
  show wpC _ A.in1 (callAny (.ref a) args) _ _ s
  simp only [callAny]
  refine .step (wpAny_load ho ?_)
  obtain ⟨c, oc, vs, tq, hc, hoc, hdc, hq⟩ := hcd
  simp only [hd, callFunction, hco, hgen, hbody, hc]
  rw [hc] at h
  refine .step (m := field (.ref c) 1) (wpAny_field hoc hdc hq (.step (wpAny_pure ?_)))
  refine .step (wpAny_mono h (fun binds z q => ?_) fun _ _ q => q)
  refine .step (wpAny_mono q (fun env z2 q2 => ?_) fun _ _ q => q)
  exact .step (wpAny_enterFrame q2.1 hroom (.any (wpAny_pure (And.intro rfl q2.2))))
end
end L2
namespace L2
open PySem
open Sem (wp)
section
variable {α : Type} {M : Model} {A : Around} {E : Value → Shared → Prop} {s : Shared} {env : Env}
theorem wpC.keep {vs : List Value} {m : Sem α} {Q : α → Shared → Prop} (h : wpC M A m Q E s) : wpC M A (m.keep vs) Q E s := fun Γ p hΓ hc => by
  rw [Sem.wp_keep]
  exact h Γ p hΓ hc
theorem wpC.noted {m : Sem α} {Q : α → Shared → Prop} (h : wpC M A m Q (notedBy M A env E) s) : wpC M A (m.onRaise fun x => do noteFrame x env; theTreesLotGoes x) Q E s :=
  .onRaise (h.mono (fun _ _ q => q) fun _ _ q => wpAny_bind (wpAny_mono q (fun _ _ e => wpAny_theTreesLotGoes e) fun _ _ e => e))
theorem wpC.notedAt {pos : Pos} {m : Sem α} {Q : α → Shared → Prop} (h : wpC M A m Q (notedBy M A env E) s) : wpC M A (m.onRaise fun x => do noteFrame x env; standAt pos) Q E s :=
  .onRaise (h.mono (fun _ _ q => q) fun _ _ q => wpAny_bind (wpAny_mono q (fun _ _ e => wpAny_standAt e) fun _ _ e => e))
theorem wpC.callName {x : Str} {p pos : Pos} {args : List Expr} {Q : Value → Shared → Prop} (h : wpAny M A (eval (.Name x p) env) (fun f z => wpC M A (callWith pos f [] (backTo pos (starEach args env)) []) Q E z) E s) : wpC M A (eval (.Call (.Name x p) args [] pos) env) Q E s := by
  rw [arm_eval_Call_Name']
  exact .step h
theorem wpC.callWithT {pos : Pos} {T : String} {args : List (Bool × Sem Value)} {Q : Value → Shared → Prop} (hplain : args.any (·.1) = false)
    (h : wpAny M A (evalArgs (.type T) true args []) (fun a z => wpC M A (PySem.call (.type T) ([] ++ a.pos) a.kw) Q E z) E s) : wpC M A (callWith pos (.type T) [] args []) Q E s := by
  unfold callWith
  refine .step (wpAny_holding (wpAny_mono h (fun a z q => .step (wpAny_standAt ?_)) fun _ _ x => x))
  simp only [hplain, List.any_nil, Bool.or_false]
  refine .step (wpAny_pure ?_)
  exact .bind (q.thn fun r z2 q2 => .any (wpAny_bind (wpAny_holding (wpAny_point (wpAny_pure q2)))))
theorem wpC.standIf {c : Prop} [Decidable c] {pos : Pos} {k : PUnit → Sem α} {Q : α → Shared → Prop} (h : wpC M A (k ()) Q E s) : wpC M A (if c then (standAt pos >>= k) else k ()) Q E s := by
  split
  · exact .step (wpAny_standAt h)
  · exact h
/-- a comprehension, its block under the caller -/
theorem wpC.comp {e : Expr} {scope : Scope} {pos : Pos} {newAcc first : Sem Value} {g : Comprehension} {gs : List Comprehension} {cl : List (Str × Addr)} {Q : Value → Shared → Prop}
    (hcl : clausesOf e = g :: gs) (hs : ∀ x, foldedSetIterable g.iter env x = pure x) (hclos : closureFor scope env = pure cl) (hkind : scope.kind = .function) (hnames : ∀ x ∈ scope.names, x.2 = .local → scope.names.lookup x.1 = some .local)
    (h : wpAny M A first (fun x z => wpAny M A (pyIter x) (fun it z2 => wpAny M A newAcc (fun acc z3 => wpAny M A (newFunctionEnv scope env.globals cl [] env.qual none .none (some env)) (fun cenv z4 =>
        codeC M A (.compStart e 0 it acc { cenv with scope := relabel scope env }) (compPost M A E none Q acc cenv.locals) z4) E z3) E z2) E z) E s) :
    wpC M A (comprehension e scope env pos newAcc false first none) Q E s := by
  unfold comprehension
  rw [hclos, hcl]
  refine .step (wpAny_mono h (fun x z q => ?_) fun _ _ q => q)
  refine .step (wpAny_standAt (.step (wpAny_of_eq (hs x) ?_)))
  refine .step (wpAny_holding (wpAny_mono q (fun it z2 q2 => ?_) fun _ _ q => q))
  refine .standIf (.step (wpAny_mono q2 (fun acc z3 q3 => ?_) fun _ _ q => q))
  refine .step (wpAny_pure (.step (wpAny_mono q3 (fun cenv z4 q4 => ?_) fun _ _ q => q)))
  dsimp only
  have hv : ∀ x ∈ (scope.names.filter fun x => (x.2 == .local || x.2 == .cell) && x.1 != (".0" : Str)).reverse, x.2 = .local → Env.kindOf { cenv with scope := relabel scope env } x.1 = some .local := fun x hx hl =>
    lookup_relabel_local (hnames x (List.mem_filter.mp (List.mem_reverse.mp hx)).1 hl)
  refine .holding (.bind (.attempt (.holding (.run (q4.mono fun r z5 q5 => ?_)))))
  cases r with
  | ok f =>
    obtain ⟨m, hn, q6⟩ := q5
    exact .any (wpAny_bind (wpAny_holding (wpAny_comp_letGo (cenv := { cenv with scope := relabel scope env }) hkind _ z5 m hv hn fun h' m' _ hs' => wpAny_pure (q6 h' hs'))))
  | error x =>
    obtain ⟨m, hn, q6⟩ := q5
    exact .any (wpAny_bind (wpAny_holding (wpAny_comp_letGo (cenv := { cenv with scope := relabel scope env }) hkind _ z5 m hv hn fun h' m' _ hs' => wpAny_mono (q6 h' hs' _ rfl) (fun _ _ f => f.elim) fun _ _ y => y)))
end
section
variable {prog : Program} {w : World} {A : Around} {E : Value → Shared → Prop} {s : Shared} {env : Env} {R : Result → Shared → Prop}
theorem codeC.builtin {id : String} {args : Args} {b : Builtin} (hb : entryFor table id = some b) (h : wpC (model prog w) (A.under (.builtin id args)) (b args) (EndC (model prog w) A R) (fun e z => R (.error e) z) s) : codeC (model prog w) A (.builtin id args) R s := by
  refine .tree ?_
  show wpC _ _ (match entryFor table id with | some b => b args | none => unsupported ((withoutEnding? id "#data").getD id)) _ _ s
  rw [hb]
  exact h
theorem codeC.callBuiltin {id : String} {args : Args} {b : Builtin} (hq : (Code.builtin id args).quiet = true) (hb : entryFor table id = some b) (hc : checkBuiltinCall id args = pure ())
    (h : wpC (model prog w) (A.under (.builtin id args)) (b args) (EndC (model prog w) A R) (fun e z => R (.error e) z) s) : codeC (model prog w) A (.call (.builtin id) args) R s := by
  refine .tree ?_
  show wpC _ A.in1 (checkBuiltinCall id args >>= fun _ => again (.builtin id args)) _ _ s
  exact .step (wpAny_of_eq hc (.any (wpAny_pure (And.intro hq (codeC.builtin hb h)))))
theorem codeC.compStart {elt target iter : Expr} {ifs : List Expr} {scope : Scope} {pos : Pos} {it acc : Value}
    (h0 : codeC (model prog w) A (.compLoop (.ListComp elt [⟨target, iter, ifs, 0⟩] scope pos) 0 it acc env) R s)
    (h : wpAny (model prog w) A (pyIter it) (fun it' z => codeC (model prog w) A (.compLoop (.ListComp elt [⟨target, iter, ifs, 0⟩] scope pos) 0 it' acc env) R z) (notedBy (model prog w) A env fun x z => R (.error x) z) s) :
    codeC (model prog w) A (.compStart (.ListComp elt [⟨target, iter, ifs, 0⟩] scope pos) 0 it acc env) R s := by
  refine .tree ?_
  show wpC _ _ ((PySem.compStart (.ListComp elt [⟨target, iter, ifs, 0⟩] scope pos) 0 it acc env).onRaise (fun x => do noteFrame x env; standAt theWindowsPlace)) _ _ s
  refine .notedAt ?_
  unfold PySem.compStart
  show wpC _ _ (ask >>= _) _ _ s
  refine .step (wpAny_askSetting ?_)
  split
  · first
      | exact .step (wpAny_pure (.any (wpAny_pure (And.intro rfl h0))))
      | exact .any (wpAny_pure (And.intro rfl h0))
  · refine .step (wpAny_rule ?_)
    show wpC _ _ (standAt iter.pos >>= _) _ _ s
    exact .step (wpAny_standAt (.step (wpAny_mono h (fun it' z q => .any (wpAny_pure (And.intro rfl q))) fun _ _ x => x)))
/-- one turn of a block without tests -/
theorem codeC.compLoop {elt target iter : Expr} {scope : Scope} {pos : Pos} {it acc : Value} (I : Nat → Shared → Prop)
    (turn : ∀ n z, I n z → wpAny (model prog w) A (pyNext it) (fun r z1 => match r with
      | none => R (.ok .next) z1
      | some v => wpAny (model prog w) A (letOwnedTupleGo target it v) (fun _ z2 => wpAny (model prog w) A (PySem.assign target env v) (fun _ z3 => wpC (model prog w) A (eval elt env) (fun x z4 =>
          wpAny (model prog w) A (PySem.call (.builtin "list.append") [acc, x]) (fun _ z5 => ∃ m, m < n ∧ I m z5) (fun _ _ => False) z4)
          (notedBy (model prog w) A env fun e z' => R (.error e) z') z3) (fun _ _ => False) z2) (fun _ _ => False) z1) (fun _ _ => False) z)
    (n : Nat) (h : I n s) : codeC (model prog w) A (.compLoop (.ListComp elt [⟨target, iter, [], 0⟩] scope pos) 0 it acc env) R s := by
  refine codeC.loop rfl I (fun n z hI => ?_) n s h
  show wpC _ A ((compTurn (.ListComp elt [⟨target, iter, [], 0⟩] scope pos) 0 it acc env).onRaise (fun x => do noteFrame x env; theTreesLotGoes x)) _ _ z
  refine .noted ?_
  rw [compTurn_list1]
  refine .step (wpAny_standAt (.step (wpAny_mono (turn n z hI) (fun r z1 q1 => ?_) fun _ _ q => q.elim)))
  cases r with
  | none => exact .any (wpAny_pure q1)
  | some v =>
    refine .step (wpAny_mono q1 (fun _ z2 q2 => ?_) fun _ _ q => q.elim)
    refine .step (wpAny_mono q2 (fun _ z3 q3 => ?_) fun _ _ q => q.elim)
    refine .bind (.bind (q3.thn fun x z4 q4 => ?_))
    exact .any (wpAny_bind (wpAny_mono q4 (fun _ z5 q5 => wpAny_pure (.any (wpAny_pure (.inl ⟨rfl, q5⟩)))) fun _ _ q => q.elim))
theorem codeC.forLoop {target : Expr} {it : Value} {body : List Stmt} (I : Nat → Shared → Prop)
    (turn : ∀ n z, I n z → wpAny (model prog w) A (pyNext it) (fun r z1 => match r with
      | none => R (.ok .next) z1
      | some v => wpAny (model prog w) A (letOwnedTupleGo target it v) (fun _ z2 => wpAny (model prog w) A (PySem.assign target env v) (fun _ z3 => wpC (model prog w) A (PySem.execs body env) (fun f z4 => match f with
          | .next | .cont => ∃ m, m < n ∧ I m z4
          | .brk => R (.ok .next) z4
          | .ret v => R (.ok (.ret v)) z4) (fun _ _ => False) z3) (fun _ _ => False) z2) (fun _ _ => False) z1) (fun _ _ => False) z)
    (n : Nat) (h : I n s) : codeC (model prog w) A (.forLoop target it body [] env) R s := by
  refine codeC.loop rfl I (fun n z hI => ?_) n s h
  show wpC _ A ((forTurn target it body [] env).onRaise (fun x => do noteFrame x env; theTreesLotGoes x)) _ _ z
  refine .noted ?_
  simp only [forTurn]
  refine .step (wpAny_standAt (.step (wpAny_onRaise (wpAny_mono (turn n z hI) (fun r z1 q1 => ?_) fun _ _ q => q.elim))))
  cases r with
  | none => exact .any (wpAny_pure (.inr ⟨rfl, .any (codeAny_block (wpAny_execs_nil q1))⟩))
  | some v =>
    refine .step (wpAny_mono q1 (fun _ z2 q2 => ?_) fun _ _ q => q.elim)
    refine .step (wpAny_mono q2 (fun _ z3 q3 => ?_) fun _ _ q => q.elim)
    refine .bind (q3.mono (fun f z4 q4 => ?_) fun _ _ q => q.elim)
    cases f with
    | next => exact .any (wpAny_pure (.inl ⟨rfl, q4⟩))
    | cont => exact .any (wpAny_pure (.inl ⟨rfl, q4⟩))
    | brk => exact .any (wpAny_pure q4)
    | ret v => exact .any (wpAny_pure q4)
end
end L2
namespace L2
open PySem PySem.NumText
open Sem (wp)
section
variable {M : Model} {A : Around} {E : Value → Shared → Prop} {s : Shared}
/-- under the caller a refusal is not marked -/
theorem wpC.mark {own : List String} {e : Value} {Q : Unit → Shared → Prop} (h : Q () s) : wpC M A (markTheRefusal own e) Q E s := fun Γ p hΓ hc => by
  have z : pythonCodeMadeTheCall own (((Γ.code, p) :: Γ.below).map (·.1)) = false := by
    have c : (((Γ.code, p) :: Γ.below).map (·.1)).any Code.isCaller = true := by
      rw [List.map_cons, List.any_cons]
      rcases hc with hc | hc
      · rw [show Code.isCaller (Γ.code, p).1 = true from hc]; rfl
      · rw [show (Γ.below.map (·.1)).any Code.isCaller = true from hc, Bool.or_true]
    unfold pythonCodeMadeTheCall
    refine Bool.and_eq_false_iff.mpr (.inl (Bool.and_eq_false_iff.mpr (.inl ?_)))
    rw [Bool.not_eq_false']
    exact c
  unfold markTheRefusal
  show wp M Γ (PySem.stack >>= _) _ _ p s
  rw [Sem.wp_bind']
  unfold PySem.stack
  rw [Sem.wp_stack, Sem.wp_pure]
  rw [if_neg (by rw [z]; exact Bool.false_ne_true)]
  exact h
end
section
variable {prog : Program} {w : World} {A : Around} {E : Value → Shared → Prop} {s : Shared}
/-- what a refused int(text) leaves -/
def Refused (E : Value → Shared → Prop) (s : Shared) : Prop := ∀ (h' : Heap) (e : Addr) (m : Value) (tk : Nat), Heap.MadeExc s.heap h' e "ValueError" [m] → E (.ref e) { s with heap := h', toks := tk }
theorem refused_tail {x : Str} {u : Tok} {Q : Value → Shared → Prop} (hh : A.handled = none) (hz : (reprText x).length + 300 ≤ sizeLine) (h : Refused E s) (r : Str → Str) (hr : ∀ y : Str, (r y).length ≤ 300) :
    wpC (model prog w) A (pyRepr (.str x u) >>= fun shown => mkStr (r shown) >>= fun m => newExc (.type "ValueError") [m] >>= fun refusal => markTheRefusal ["int.__new__"] refusal >>= fun _ => (raiseNew refusal : Sem Value)) Q E s := by
  refine .step (wpAny_pyRepr_str ?_ (by omega))
  refine .step (wpAny_mkStr ?_ (Nat.le_trans (hr _) (by decide)))
  refine .step (wpAny_newExc_plain plainExc_ValueError (fun h' e hm => ?_) (show 1 ≤ sizeLine by decide))
  exact .bind (.mark (.any (wpAny_raiseNew_none hh (h h' e _ _ hm))))
def head : String := toString "invalid literal for int() with base " ++ toString 10 ++ toString ": "
theorem head40 : head.length = 40 := by decide +kernel
def saying (y : Str) : Str := Str.ofString head ++ ⟨y.cps.extract 0 200⟩
theorem saying_len (y : Str) : (saying y).length ≤ 300 := by
  have e2 : (⟨y.cps.extract 0 200⟩ : Str).length ≤ 200 := by
    show (y.cps.extract 0 200).size ≤ 200
    rw [Array.size_extract]
    omega
  have e3 : (saying y).length = (Str.ofString head).length + (⟨y.cps.extract 0 200⟩ : Str).length := strLen_append _ _
  rw [e3, ofString_length, head40]
  omega
theorem refused_text {x : Str} {u : Tok} {Q : Value → Shared → Prop} (hh : A.handled = none) (hz : (reprText x).length + 300 ≤ sizeLine) (hl : x.length ≤ 640) (hn : intText? x = none) (h : Refused E s) :
    wpC (model prog w) A ((int_private% "intFromText") (.str x u) (numTextOf x) 10) Q E s := by
  have hs : (numSeenOf x).length ≤ 640 := Nat.le_trans (seen_length x) hl
  have hr := read0 x hs
  rw [hn] at hr
  have tail := refused_tail (prog := prog) (w := w) (A := A) (Q := Q) (u := u) hh hz h saying saying_len
  show wpC (model prog w) A (ite ((numSeenOf x).length ≤ 640) _ _) Q E s
  rw [if_pos hs]
  refine .step (wpAny_pure ?_)
  rcases hr with ⟨n, z, _⟩ | ⟨_, hr | ⟨i, hr, hne⟩⟩
  · cases z
  · dsimp only
    rw [show (int_private% "readNumeral") 0 10 (List.takeWhile (fun x => x != 0) (numTextOf x)) = int_private% "Numeral.invalid" from hr]
    dsimp only
    refine .step (wpAny_pure ?_)
    rw [if_neg (by simp)]
    exact .step (wpAny_rule (.step (wpAny_pure tail)))
  · dsimp only
    rw [show (int_private% "readNumeral") 0 10 (List.takeWhile (fun x => x != 0) (numTextOf x)) = (int_private% "Numeral.value") i from hr]
    dsimp only
    rw [if_neg hne]
    exact .step (wpAny_rule (.step (wpAny_pure tail)))
end
theorem refused_new {prog : Program} {w : World} {A : Around} {E : Value → Shared → Prop} {s : Shared} {x : Str} {u : Tok} {Q : Fin → Shared → Prop} (hh : A.handled = none) (hz : (reprText x).length + 300 ≤ sizeLine) (hl : x.length ≤ 640) (hn : intText? x = none) (h : Refused E s) :
     wpC (model prog w) A (Builtin.«int.__new__» ⟨[.type "int", .str x u], []⟩) Q E s := by
  unfold Builtin.«int.__new__»
  dsimp only
  refine .step (wpAny_pure ?_)
  rw [if_neg (by decide)]
  rw [F.conv_sub_int]
  refine .step (wpAny_pure ?_)
  rw [if_neg (by decide)]
  rw [F.madeHere_int]
  refine .step (wpAny_pure ?_)
  rw [if_neg (show ¬ (Value.type "int" == Value.type "int" && ([] : List (Str × Value)).isEmpty && decide ([Value.str x u].length > 2)) = true by simp)]
  rw [if_neg (show ¬ ([Value.str x u].length + ([] : List (Str × Value)).length > 2) by simp)]
  refine .step (wpAny_pure ?_)
  show wpC (model prog w) A ((int_private% "intFromObject") (.str x u) >>= _) Q E s
  refine .bind ?_
  have e1 := PySem.W.KIN.str_int
  have e2 := PySem.W.KIN.str_idx
  have e3 := PySem.W.KIN.str_trunc
  have e4 : typeOf (.str x u) = pure (.type "str") := rfl
  show wpC (model prog w) A (callSpecial? (.str x u) "__int__" >>= _) _ E s
  refine .step ?_
  obtain ⟨hp, g, d, tk, os⟩ := s
  repeat (any_goals (first | assumption | wp_step))
  show wpC (model prog w) A (specialOf (.str x u) "__index__" >>= _) _ E _
  refine .step ?_
  repeat (any_goals (first | assumption | wp_step))
  show wpC (model prog w) A (specialOf (.str x u) "__trunc__" >>= _) _ E _
  refine .step ?_
  repeat (any_goals (first | assumption | wp_step))
  show wpC (model prog w) A ((int_private% "numeralText?") (.str x u) >>= _) _ E _
  refine .step (wpAny_of_eq (show (int_private% "numeralText?") (.str x u) = pure (some (numTextOf x)) from rfl) ?_)
  exact refused_text hh hz hl hn h
theorem refused_call {prog : Program} {w : World} {A : Around} {E : Value → Shared → Prop} {s : Shared} {x : Str} {u : Tok} {Q : Value → Shared → Prop} (hh : A.handled = none) (hz : (reprText x).length + 300 ≤ sizeLine) (hl : x.length ≤ 640) (hn : intText? x = none) (h : Refused E s) :
    wpC (model prog w) A (PySem.call (.type "int") [.str x u]) Q E s := by
  obtain ⟨c, tl, hmro⟩ := F.called_int.mro
  refine .call (.tree ?_)
  show wpC _ _ (callAny (.type "int") _) _ _ _
  refine .any (wpAny_pure ⟨Code.quiet_builtin _ (by decide +kernel), codeC.builtin F.entry_type_call ?_⟩)
  rw [Around.under_plain (weight_type_call_type "int" [.str x u] []) (units_type_call_type "int" [.str x u] [])]
  unfold Builtin.«type.__call__»
  dsimp only
  rw [if_neg (by rw [F.called_int.notType]; exact Bool.false_ne_true)]
  rw [if_neg (by rw [F.called_int.canCreate]; exact Bool.false_ne_true)]
  refine .step (wpAny_of_eq (F.typeCall_int_1 _) (.step (wpAny_of_eq hmro ?_)))
  rw [if_neg (by simp)]
  refine .step (wpAny_of_eq F.called_int.made ?_)
  dsimp only
  refine .step (wpAny_pure (.bind (.holding (.call ?_))))
  refine codeC.mono (R := fun r z => match r with | .error e => E e z | .ok _ => False) ?_ fun r z q => ?_
  · refine codeC.callBuiltin (plainId_quiet F.called_int.plain _) F.entry_int_new (F.newCall_int_1 _) ?_
    rw [Around.under_plainId F.called_int.plain]
    exact refused_new hh hz hl hn h
  · cases r with
    | error e => exact q
    | ok f => exact q.elim
end L2
/-! THE HAND LAYER, for ints, bools, texts, own classes, LISTS and tuples (index, slices, in, append, pop ..), calls, loops. Paste it whole ahead of your own text; what your proof does not reach may be deleted. -/
namespace L2
open PySem PySem.Spec PyProof.Rows
/-- a key: an int or a str -/
abbrev Key := Sum Int Str
def keyIs : Key → Value → Bool
  | .inl k, v => Value.isInt k v
  | .inr x, v => Value.isStrOf x v
def keyH (w : World) : Key → Int
  | .inl k => hashInt k
  | .inr x => hashStr w x
theorem keyIs_shape : ∀ {k : Key} {v : Value}, keyIs k v = true → (∃ i t, k = Sum.inl i ∧ v = Value.int i t) ∨ (∃ x t, k = Sum.inr x ∧ v = Value.str x t)
  | .inl i, v, h => by
    obtain ⟨t, e⟩ := Value.isInt_shape (k := i) (v := v) h
    exact .inl ⟨i, t, rfl, e⟩
  | .inr x, v, h => by
    obtain ⟨t, e⟩ := Value.isStrOf_shape (x := x) (v := v) h
    exact .inr ⟨x, t, rfl, e⟩
theorem key_ll (a b : Int) : decide ((Sum.inl a : Key) = Sum.inl b) = (a == b) := by
  by_cases e : a = b
  · subst e; simp
  · have h : ¬ (Sum.inl a : Key) = Sum.inl b := fun q => e (Sum.inl.inj q)
    rw [decide_eq_false h]
    exact (beq_eq_false_iff_ne.mpr e).symm
theorem key_rr (a b : Str) : decide ((Sum.inr a : Key) = Sum.inr b) = decide (a = b) := by
  by_cases e : a = b
  · subst e; simp
  · have h : ¬ (Sum.inr a : Key) = Sum.inr b := fun q => e (Sum.inr.inj q)
    rw [decide_eq_false h, decide_eq_false e]
theorem key_lr (a : Int) (b : Str) : decide ((Sum.inl a : Key) = Sum.inr b) = false := decide_eq_false (fun q => nomatch q)
theorem key_rl (a : Str) (b : Int) : decide ((Sum.inr a : Key) = Sum.inl b) = false := decide_eq_false (fun q => nomatch q)
def mixKind (prog : Program) (w : World) : PySem.KeyKind prog w Key where
  is := keyIs
  hash := keyH w
  inj := fun v a b ha hb => by
    rcases keyIs_shape ha with ⟨i, t, rfl, rfl⟩ | ⟨x, t, rfl, rfl⟩
    · rcases keyIs_shape hb with ⟨j, u, rfl, e⟩ | ⟨y, u, rfl, e⟩
      · injection e with e1 _; rw [e1]
      · exact nomatch e
    · rcases keyIs_shape hb with ⟨j, u, rfl, e⟩ | ⟨y, u, rfl, e⟩
      · exact nomatch e
      · injection e with e1 _; rw [e1]
  byValue := fun k v h => by
    rcases keyIs_shape h with ⟨i, t, rfl, rfl⟩ | ⟨x, t, rfl, rfl⟩ <;> rfl
  pyHash := fun hv h => by
    rcases keyIs_shape hv with ⟨i, t, rfl, rfl⟩ | ⟨x, t, rfl, rfl⟩
    · exact wpAny_pyHash_int h
    · exact wpAny_pyHash_str h
  eqBool := fun hu hv h => by
    rcases keyIs_shape hu with ⟨i, t, rfl, rfl⟩ | ⟨x, t, rfl, rfl⟩
    · rcases keyIs_shape hv with ⟨j, u, rfl, rfl⟩ | ⟨y, u, rfl, rfl⟩
      · rw [key_ll] at h; exact wpAny_eqBool_int h
      · rw [key_lr] at h; exact SeqAt.EqAt.int_str i t y u _ _ _ _ h
    · rcases keyIs_shape hv with ⟨j, u, rfl, rfl⟩ | ⟨y, u, rfl, rfl⟩
      · rw [key_rl] at h; exact SeqAt.EqAt.str_int x t j u _ _ _ _ h
      · rw [key_rr] at h; exact wpAny_eqBool_str h
  «strs» := fun k x t v h => by
    rcases keyIs_shape h with ⟨i, u, rfl, e⟩ | ⟨y, u, rfl, e⟩
    · exact nomatch e
    · injection e with e1 _
      subst e1
      cases v <;> rfl
end L2
namespace L2
open PySem PySem.Spec PyProof.Rows
/-- a value, without the heap -/
inductive V where
  | non | bl (b : Bool) | int (i : Int) | str (x : Str) | byt (b : Array UInt8) | flt (b : UInt64) | ref (a : Addr) | ty (n : String)
  deriving DecidableEq
def RelV : V → Value → Prop
  | .non, u => u = Value.none
  | .bl b, u => u = Value.bool b
  | .int i, u => ∃ t, u = Value.int i t
  | .str x, u => ∃ t, u = Value.str x t
  | .byt b, u => ∃ t, u = Value.bytes b t
  | .flt b, u => ∃ t, u = Value.float b t
  | .ref a, u => u = Value.ref a
  | .ty n, u => u = Value.type n
abbrev Vals : List V → List Value → Prop := Paired RelV
theorem Vals.length {xs : List V} {us : List Value} (r : Vals xs us) : xs.length = us.length := Paired.length r
theorem Vals.get : ∀ {xs : List V} {us : List Value} {i : Nat} {x : V}, Vals xs us → xs[i]? = some x → ∃ u, us[i]? = some u ∧ RelV x u
  | _, _, _, _, .nil, e => by simp at e
  | _, _, 0, _, .cons r _, e => by simp at e; subst e; exact ⟨_, rfl, r⟩
  | _, _, i + 1, x, .cons _ t, e => by
    obtain ⟨u, h1, h2⟩ := Vals.get (i := i) (x := x) t (by simpa using e)
    exact ⟨u, by simpa using h1, h2⟩
theorem Vals.append : ∀ {xs ys : List V} {us ws : List Value}, Vals xs us → Vals ys ws → Vals (xs ++ ys) (us ++ ws)
  | _, _, _, _, .nil, s => s
  | _, _, _, _, .cons r t, s => .cons r (Vals.append t s)
theorem Vals.take : ∀ {xs : List V} {us : List Value} (n : Nat), Vals xs us → Vals (xs.take n) (us.take n)
  | _, _, 0, _ => .nil
  | _, _, _ + 1, .nil => .nil
  | _, _, n + 1, .cons r t => .cons r (Vals.take n t)
theorem Vals.drop : ∀ {xs : List V} {us : List Value} (n : Nat), Vals xs us → Vals (xs.drop n) (us.drop n)
  | _, _, 0, r => r
  | _, _, _ + 1, .nil => .nil
  | _, _, n + 1, .cons _ t => Vals.drop n t
def RelO : Option V → Option Value → Prop
  | some v, some u => RelV v u
  | none, none => True
  | _, _ => False
def KV {κ : Type} : List (κ × V) → List (κ × Value) → Prop := Paired fun (p : κ × V) (q : κ × Value) => p.1 = q.1 ∧ RelV p.2 q.2
/-- a key of a dict (00_mix): an int or a text -/
def kV : Key → V
  | .inl i => .int i
  | .inr x => .str x
/-- what stands at a tracked address -/
inductive HO where
  /-- a list -/
  | lst (xs : List V)
  /-- a tuple (never changes) -/
  | tup (xs : List V)
  /-- a dict whose keys are ints and texts; one whose keys are tuples of ints and texts (the empty one is both) -/
  | dK (kvs : List (Key × V)) | dT (kvs : List (List Key × V))
  /-- a set of ints: its members, its size -/
  | set (S : Int → Bool) (n : Nat)
  /-- an instance of the class at C, its dict at dx, its attributes -/
  | ins (C dx : Addr) (fs : List (Str × V))
  /-- the dict of the instance at x -/
  | own (x : Addr)
  /-- the dict of an exception -/
  | xd (fs : List (Str × V))
  /-- a bound method, f of x -/
  | met (f x : Addr)
  /-- a range object lo, lo + 1, .. below hi -/
  | rng (lo hi : Int)
  /-- a thing that is known to the object (the script; a dict while a loop walks it): read, never written while it is so -/
  | frz (o : Obj) (u : HO)
  /-- a code object's table -/
  | tbl (ps : Array Value)
  /-- any other thing, by what is true of its one object (a def of one's own: SetO a S n := HO.ext fun h => ..) -/
  | ext (φ : Heap → Prop)
abbrev Hp := Addr → Option HO
def upd (H : Hp) (a : Addr) (o : HO) : Hp := fun b => if b = a then some o else H b
theorem upd_same {H : Hp} {a : Addr} {o : HO} : upd H a o a = some o := by unfold upd; rw [if_pos rfl]
theorem upd_ne {H : Hp} {a b : Addr} {o : HO} (h : b ≠ a) : upd H a o b = H b := by unfold upd; rw [if_neg h]
theorem upd_upd {H : Hp} {a : Addr} {o u : HO} : upd (upd H a o) a u = upd H a u := by
  funext b; unfold upd; split <;> rfl
theorem ne_of_none {H : Hp} {a b : Addr} {o : HO} (h : H a = some o) (h' : H b = none) : a ≠ b := by
  intro e; subst e; rw [h] at h'; cases h'
section
variable (P : Program) (w : World)
def ObjOk (H : Hp) (h : Heap) (a : Addr) : HO → Prop
  | .lst xs => xs.length ≤ sizeLine ∧ ∃ (its : List Value) (n : Nat), Vals xs its ∧ h.get? a = some { cls := .type "list", data := .seq its.toArray n }
  | .tup xs => xs.length ≤ sizeLine ∧ ∃ its : List Value, Vals xs its ∧ IsTup h a its.toArray
  | .dK kvs => kvs.length ≤ sizeLine ∧ (a == sysModules) = false ∧ ∃ vs, KV kvs vs ∧ h.DictOf (mixKind P w) a vs
  | .dT kvs => kvs.length ≤ sizeLine ∧ (a == sysModules) = false ∧ ∃ xs : List (List Key × Addr × Value),
      Paired (fun (p : List Key × V) (q : List Key × Addr × Value) => p.1 = q.1 ∧ H q.2.1 = some (.tup (p.1.map kV)) ∧ RelV p.2 q.2.2) kvs xs ∧
      ∃ o es ep, h.get? a = some o ∧ o.ExactDict ∧ o.data = .dict es ep ∧ es.toList = xs.map (entryOfKey (tupleKind (mixKind P w))) ∧ (xs.map (·.1)).Nodup
  | .set S n => h.SetOf (intKind P w) a S n
  | .ins C dx fs => H dx = some (.own a) ∧ fs.length ≤ 1000 ∧ dx ≠ a ∧ h.get? a = some (PySem.W.instObj C dx) ∧
      ∃ mA, h.Ns1 dx mA ∧ (∀ f, RelO (fs.lookup f) (mA f)) ∧ PySem.Within mA (fs.map (·.1))
  | .own _ => ∃ o, h.get? a = some o
  | .xd fs => ∃ mA, h.Ns1 a mA ∧ ∀ f, RelO (fs.lookup f) (mA f)
  | .rng lo hi => ∃ t u v, h.get? a = some { cls := .type "range", data := .fields #[.int lo t, .int hi u, .int 1 v] }
  | .frz o u => h.get? a = some o ∧ ObjOk H h a u
  | .tbl ps => h.get? a = some { cls := .none, data := .fields ps }
  | .met f x => h.get? a = some (PySem.W.methodObj (.ref f) (.ref x))
  | .ext φ => φ h ∧ (∃ o, h.get? a = some o) ∧ ∀ h1 h2 : Heap, φ h1 → (∀ o, h1.get? a = some o → h2.get? a = some o) → φ h2
/-- the abstract heap is held -/
def HOk (H : Hp) (h : Heap) : Prop := ∀ a o, H a = some o → ObjOk P w H h a o
end
section
variable {P : Program} {w : World} {H H' : Hp} {h h' : Heap} {a : Addr} {o : HO}
theorem ObjOk.lt (x : ObjOk P w H h a o) : a < h.objs.size := by
  cases o with
  | lst xs => obtain ⟨_, _, _, _, e⟩ := x; exact Heap.lt_size e
  | tup xs => obtain ⟨_, _, _, p⟩ := x; exact p.lt
  | dK kvs => obtain ⟨_, _, _, _, o, _, _, e, _⟩ := x; exact Heap.lt_size e
  | dT kvs => obtain ⟨_, _, _, _, o, _, _, e, _⟩ := x; exact Heap.lt_size e
  | set S n => obtain ⟨o, _, _, _, e, _⟩ := x; exact Heap.lt_size e
  | ins C dx fs => obtain ⟨_, _, _, e, _⟩ := x; exact Heap.lt_size e
  | own y => obtain ⟨_, e⟩ := x; exact Heap.lt_size e
  | xd fs => obtain ⟨_, ⟨_, _, _, e, _⟩, _⟩ := x; exact Heap.lt_size e
  | rng lo hi => obtain ⟨_, _, _, e⟩ := x; exact Heap.lt_size e
  | frz ob u => obtain ⟨e, _⟩ := x; exact Heap.lt_size e
  | tbl ps => exact Heap.lt_size (show h.get? a = some _ from x)
  | met f y => exact Heap.lt_size (show h.get? a = some _ from x)
  | ext φ => obtain ⟨_, ⟨_, e⟩, _⟩ := x; exact Heap.lt_size e
theorem Paired.mapP {α β : Type} {F G : α → β → Prop} : ∀ {l₁ : List α} {l₂ : List β}, Paired F l₁ l₂ → (∀ a b, F a b → G a b) → Paired G l₁ l₂
  | _, _, .nil, _ => .nil
  | _, _, .cons r t, f => .cons (f _ _ r) (Paired.mapP t f)
/-- what an object's description leans on: its own object, its own dict, the tuples -/
theorem ObjOk.stay (x : ObjOk P w H h a o) (k : ∀ b u, (b = a ∨ H b = some (.own a)) → h.get? b = some u → h'.get? b = some u)
    (ho : ∀ b, H b = some (.own a) → H' b = some (.own a)) (ht : ∀ b xs, H b = some (.tup xs) → H' b = some (.tup xs)) : ObjOk P w H' h' a o := by
  induction o with
  | lst xs => obtain ⟨z, its, n, r, e⟩ := x; exact ⟨z, its, n, r, k _ _ (.inl rfl) e⟩
  | tup xs => obtain ⟨z, its, r, ob, e, c⟩ := x; exact ⟨z, its, r, ob, k _ _ (.inl rfl) e, c⟩
  | dK kvs => obtain ⟨z, y, vs, r, ob, es, ep, e, c⟩ := x; exact ⟨z, y, vs, r, ob, es, ep, k _ _ (.inl rfl) e, c⟩
  | dT kvs =>
    obtain ⟨z, y, xs, r, ob, es, ep, e, c⟩ := x
    exact ⟨z, y, xs, Paired.mapP r fun p q z => ⟨z.1, ht _ _ z.2.1, z.2.2⟩, ob, es, ep, k _ _ (.inl rfl) e, c⟩
  | set S n => obtain ⟨ob, es, ep, t, e, c⟩ := x; exact ⟨ob, es, ep, t, k _ _ (.inl rfl) e, c⟩
  | ins C dx fs =>
    obtain ⟨d, z, ne, e, mA, ⟨od, es, ep, e2, c⟩, r⟩ := x
    exact ⟨ho _ d, z, ne, k _ _ (.inl rfl) e, mA, ⟨od, es, ep, k _ _ (.inr d) e2, c⟩, r⟩
  | own y => obtain ⟨ob, e⟩ := x; exact ⟨ob, k _ _ (.inl rfl) e⟩
  | xd fs => obtain ⟨mA, ⟨od, es, ep, e, c⟩, r⟩ := x; exact ⟨mA, ⟨od, es, ep, k _ _ (.inl rfl) e, c⟩, r⟩
  | rng lo hi => obtain ⟨t, u, v, e⟩ := x; exact ⟨t, u, v, k _ _ (.inl rfl) e⟩
  | frz ob u ih => obtain ⟨e, q⟩ := x; exact ⟨k _ _ (.inl rfl) e, ih q⟩
  | tbl ps =>
    have e : h.get? a = some { cls := .none, data := .fields ps } := x
    show h'.get? a = some { cls := .none, data := .fields ps }
    exact k a _ (.inl rfl) e
  | met f y =>
    have e : h.get? a = some (PySem.W.methodObj (.ref f) (.ref y)) := x
    show h'.get? a = some (PySem.W.methodObj (.ref f) (.ref y))
    exact k a _ (.inl rfl) e
  | ext φ => obtain ⟨p, ⟨o, e⟩, st⟩ := x; exact ⟨st _ _ p fun o q => k _ _ (.inl rfl) q, ⟨o, k _ _ (.inl rfl) e⟩, st⟩
theorem HOk.lt (x : HOk P w H h) (e : H a = some o) : a < h.objs.size := (x a o e).lt
theorem HOk.fresh (x : HOk P w H h) (e : h.objs.size ≤ a) : H a = none := by
  cases q : H a with
  | none => rfl
  | some u => exact absurd (Nat.lt_of_lt_of_le (x.lt q) e) (Nat.lt_irrefl _)
/-- every object of the heap is kept -/
theorem HOk.kept (x : HOk P w H h) (k : ∀ b u, h.get? b = some u → h'.get? b = some u) : HOk P w H h' := fun a o e =>
  (x a o e).stay (fun b u _ q => k b u q) (fun _ q => q) fun _ _ q => q
/-- a new object is laid and tracked -/
theorem HOk.laid (x : HOk P w H h) (k : ∀ b u, h.get? b = some u → h'.get? b = some u) (hp : h.objs.size ≤ a) (new : ObjOk P w (upd H a o) h' a o) : HOk P w (upd H a o) h' := fun b u e => by
  have hn := x.fresh hp
  by_cases hb : b = a
  · subst hb; rw [upd_same] at e; cases e; exact new
  · rw [upd_ne hb] at e
    exact (x b u e).stay (fun c v _ q => k c v q) (fun c q => by rw [upd_ne (ne_of_none q hn)]; exact q) fun c xs q => by rw [upd_ne (ne_of_none q hn)]; exact q
end
/-- what may be read as u: it is u, or a known u -/
def Rd (H : Hp) (a : Addr) (u : HO) : Prop := H a = some u ∨ ∃ o, H a = some (.frz o u)
theorem Rd.ok {P : Program} {w : World} {H : Hp} {h : Heap} {a : Addr} {u : HO} (r : Rd H a u) (x : HOk P w H h) : ObjOk P w H h a u := by
  rcases r with r | ⟨o, r⟩
  · exact x a u r
  · obtain ⟨_, q⟩ := x a _ r
    exact q
/-- what may be written -/
def Mut : Option HO → Prop
  | some (.lst _) => True
  | some (.dK _) => True
  | some (.dT _) => True
  | some (.set _ _) => True
  | some (.ins _ _ _) => True
  | some (.ext _) => True
  | _ => False
section
variable {P : Program} {w : World} {H : Hp} {h h' : Heap} {x e : Addr} {o' : HO}
/-- the object at e is changed: x itself, or the dict of the instance x -/
theorem HOk.write (ok : HOk P w H h) (mu : Mut (H x)) (he : e = x ∨ H e = some (.own x)) (k : ∀ b u, b ≠ e → h.get? b = some u → h'.get? b = some u) (heo : ∃ u, h'.get? e = some u)
    (new : ObjOk P w (upd H x o') h' x o') : HOk P w (upd H x o') h' := fun b u q => by
  have nown : ∀ c y, H c = some (.own y) → c ≠ x := fun c y r z => by subst z; rw [r] at mu; exact mu
  have ntup : ∀ c xs, H c = some (.tup xs) → c ≠ x := fun c xs r z => by subst z; rw [r] at mu; exact mu
  by_cases hb : b = x
  · subst hb; rw [upd_same] at q; cases q; exact new
  · rw [upd_ne hb] at q
    by_cases hbe : b = e
    · have q' : H b = some (.own x) := by
        rcases he with z | z
        · exact absurd (hbe.trans z) hb
        · rw [hbe]; exact z
      rw [q] at q'; cases q'
      obtain ⟨v, hv⟩ := heo
      exact ⟨v, by rw [hbe]; exact hv⟩
    · refine (ok b u q).stay (fun c v hc r => k c v ?_ r) (fun c r => by rw [upd_ne (nown c b r)]; exact r) fun c xs r => by rw [upd_ne (ntup c xs r)]; exact r
      rcases hc with rfl | hc
      · exact hbe
      · rintro rfl
        rcases he with z | z
        · exact nown c b hc z
        · rw [hc] at z; cases z; exact hb rfl
end
/-! ### kept unless tracked; of the frames at fs (the callers') the slots may change (an exception that passes writes there); of the records at ex (iterators) nothing is said -/
structure Un (fs ex : List Addr) (H H' : Hp) (h h' : Heap) : Prop where
  keep : ∀ b o, h.get? b = some o → H b = none → b ∉ fs → b ∉ ex → h'.get? b = some o
  slot : ∀ b o, h.get? b = some o → H b = none → b ∈ fs → b ∉ ex → ∃ sl, h'.get? b = some { o with slots := sl }
  free : ∀ b o, h.get? b = some o → H b = none → b ∉ ex → H' b = none
  there : ∀ b o, h.get? b = some o → b ∉ ex → ∃ o', h'.get? b = some o'
  tups : ∀ b xs, H b = some (.tup xs) → H' b = some (.tup xs)
  frzs : ∀ b o u, H b = some (.frz o u) → H' b = some (.frz o u)
  tbls : ∀ b ps, H b = some (.tbl ps) → ∃ more, H' b = some (.tbl (ps ++ more))
section
variable {fs fs' ex ex' : List Addr} {H H1 H2 : Hp} {h h1 h2 h' : Heap} {a x e : Addr} {o : HO}
theorem Un.any (u : Un fs ex H H1 h h1) {b : Addr} {ob : Obj} (q : h.get? b = some ob) (n : H b = none) (hx : b ∉ ex) : ∃ sl, h1.get? b = some { ob with slots := sl } := by
  by_cases hb : b ∈ fs
  · exact u.slot b ob q n hb hx
  · exact ⟨ob.slots, u.keep b ob q n hb hx⟩
theorem Un.trans (a : Un fs ex H H1 h h1) (b : Un fs ex H1 H2 h1 h2) : Un fs ex H H2 h h2 where
  keep := fun c ob q n hc hx => b.keep c ob (a.keep c ob q n hc hx) (a.free c ob q n hx) hc hx
  slot := fun c ob q n hc hx => by
    obtain ⟨sl, e1⟩ := a.slot c ob q n hc hx
    obtain ⟨sl', e2⟩ := b.slot c _ e1 (a.free c ob q n hx) hc hx
    exact ⟨sl', e2⟩
  free := fun c ob q n hx => by
    obtain ⟨o', e1⟩ := a.there c ob q hx
    exact b.free c o' e1 (a.free c ob q n hx) hx
  there := fun c ob q hx => by
    obtain ⟨o', e1⟩ := a.there c ob q hx
    exact b.there c o' e1 hx
  tups := fun c xs q => b.tups c xs (a.tups c xs q)
  frzs := fun c ob xs q => b.frzs c ob xs (a.frzs c ob xs q)
  tbls := fun c ps q => by
    obtain ⟨m1, e1⟩ := a.tbls c ps q
    obtain ⟨m2, e2⟩ := b.tbls c _ e1
    exact ⟨m1 ++ m2, by rw [e2, Array.append_assoc]⟩
theorem Un.kept (k : ∀ b u, h.get? b = some u → h'.get? b = some u) : Un fs ex H H h h' :=
  ⟨fun b ob q _ _ _ => k b ob q, fun b ob q _ _ _ => ⟨ob.slots, k b ob q⟩, fun _ _ _ n _ => n, fun b ob q _ => ⟨ob, k b ob q⟩, fun _ _ q => q, fun _ _ _ q => q, fun _ ps q => ⟨#[], by rw [q]; simp⟩⟩
theorem Un.refl : Un fs ex H H h h := Un.kept fun _ _ q => q
theorem Un.laid (k : ∀ b u, h.get? b = some u → h'.get? b = some u) (hp : h.objs.size ≤ a) (hn : H a = none) : Un fs ex H (upd H a o) h h' where
  keep := fun b u q _ _ _ => k b u q
  slot := fun b u q _ _ _ => ⟨u.slots, k b u q⟩
  free := fun b u q n _ => by rw [upd_ne (Nat.ne_of_lt (Nat.lt_of_lt_of_le (Heap.lt_size q) hp))]; exact n
  there := fun b u q _ => ⟨u, k b u q⟩
  tups := fun b xs q => by rw [upd_ne (ne_of_none q hn)]; exact q
  frzs := fun b u xs q => by rw [upd_ne (ne_of_none q hn)]; exact q
  tbls := fun b ps q => ⟨#[], by rw [upd_ne (ne_of_none q hn), q]; simp⟩
theorem Un.write (mu : Mut (H x)) (he : e = x ∨ H e = some (.own x)) (k : ∀ b u, b ≠ e → h.get? b = some u → h'.get? b = some u) (heo : ∃ u, h'.get? e = some u) : Un fs ex H (upd H x o) h h' := by
  have hx : ∀ b, H b = none → b ≠ x := fun b n z => by subst z; rw [n] at mu; exact mu
  have hb : ∀ b, H b = none → b ≠ e := fun b n z => by
    subst z
    rcases he with r | r
    · exact hx b n r
    · rw [n] at r; cases r
  have hm : ∀ b u, H b = some u → ¬ Mut (some u) → b ≠ x := fun b u q nm z => by subst z; rw [q] at mu; exact nm mu
  refine ⟨fun b u q n _ _ => k b u (hb b n) q, fun b u q n _ _ => ⟨u.slots, k b u (hb b n) q⟩, fun b u q n _ => by rw [upd_ne (hx b n)]; exact n, fun b u q _ => ?_,
    fun b xs q => by rw [upd_ne (hm b _ q fun z => z)]; exact q, fun b u xs q => by rw [upd_ne (hm b _ q fun z => z)]; exact q, fun b ps q => ⟨#[], by rw [upd_ne (hm b _ q fun z => z), q]; simp⟩⟩
  by_cases hbe : b = e
  · subst hbe; exact heo
  · exact ⟨u, k b u hbe q⟩
theorem Un.mono (u : Un fs ex H H1 h h1) (hs : ∀ b ∈ fs, b ∈ fs') (hx : ∀ b ∈ ex, b ∈ ex') : Un fs' ex' H H1 h h1 :=
  ⟨fun b ob q n hb he => u.keep b ob q n (fun z => hb (hs b z)) fun z => he (hx b z), fun _ _ q n _ he => u.any q n fun z => he (hx _ z), fun b ob q n he => u.free b ob q n fun z => he (hx b z), fun b ob q he => u.there b ob q fun z => he (hx b z), u.tups, u.frzs, u.tbls⟩
end
/-! ### the heap without what is tracked -/
def trk (h : Heap) (H : Hp) : List Addr := (List.range h.objs.size).filter fun a => (H a).isSome
def hidT (h : Heap) (H : Hp) : Heap := PySem.W.hideAll h (trk h H)
theorem hidT_size (h : Heap) (H : Hp) : (hidT h H).objs.size = h.objs.size := PySem.W.hideAll_size _ _
theorem hidT_get {h : Heap} {H : Hp} {b : Addr} {o : Obj} (e : h.get? b = some o) (n : H b = none) : (hidT h H).get? b = some o :=
  PySem.W.hideAll_get _ e fun hm => by
    have q : (H b).isSome = true := (List.mem_filter.mp hm).2
    rw [n] at q; simp at q
theorem of_hidT {h : Heap} {H : Hp} {b : Addr} {o : Obj} (e : (hidT h H).get? b = some o) : h.get? b = some o ∧ H b = none := by
  have e' : h.get? b = some o := PySem.W.of_hideAll (trk h H) e
  refine ⟨e', ?_⟩
  cases q : H b with
  | none => rfl
  | some x =>
    have hm : b ∈ trk h H := List.mem_filter.mpr ⟨List.mem_range.mpr (Heap.lt_size e'), by simp [q]⟩
    have z : (hidT h H).get? b = none := PySem.W.hideAll_none (trk h H) hm
    rw [z] at e; cases e
end L2
namespace L2
open PySem PySem.Spec PyProof.Rows
/-- the module's facts, over the base: the heap at the law's entry without what is tracked there -/
structure Mod (K : PySem.W.Frag) (mg : Str → Option Value) (base : Heap) : Prop where
  kin : K.In base
  glob : base.Ns mainGlobals mg
  blt : ∃ mb, base.Ns builtinsNs mb ∧ ∀ x : Str, x ≠ "__name__" → mb x = bootBuiltins x
  nolimit : base.NoLimit
/-- the context: a def's body (or a comprehension's block) running. base: fixed through the whole law; s₀, H₀: the entry; outer: the frames whose slots others may change (a def's callers); stack: all frames that run;
   ex: iterators that were made ahead of the entry and are walked here (a comprehension's); fn: the names whose cells were made at the entry (a def: all; a comprehension's block: its own); calm: not within an except suite; pn: pins that every state bears; xe: what is wanted of an exception that leaves the code -/
structure Cx where
  prog : Program
  w : World
  K : PySem.W.Frag
  mg : Str → Option Value
  base : Heap
  A : Around
  N : List Str
  s₀ : Shared
  H₀ : Hp
  env : Env
  outer : List Env
  stack : List Env
  ex : List Addr
  fn : Str → Bool
  calm : Bool
  pn : List (Addr × Obj)
  xe : Value → Shared → Prop
/-- the callers' frames -/
def frs (l : List Env) : List Addr := l.filterMap (·.frame)
abbrev Cx.fs (X : Cx) : List Addr := frs X.outer
def Vis (sc : Scope) (x : Str) : Prop := sc.names.lookup x = some .local ∨ sc.names.lookup x = some .cell ∨ sc.names.lookup x = some .free
def Loc (sc : Scope) (x : Str) : Prop := sc.names.lookup x = some .local ∨ sc.names.lookup x = some .cell
def Look (env : Env) (h : Heap) (m : Str → Option Value) (x : Str) (u : Value) : Prop :=
  (env.kindOf x = some .local ∧ m x = some u) ∨ ((env.kindOf x = some .cell ∨ env.kindOf x = some .free) ∧ ∃ c, env.cells.lookup x = some c ∧ h.IsCell c (some u))
structure Cx.Ok (X : Cx) : Prop where
  mod : Mod X.K X.mg X.base
  kind : X.env.scope.kind = .function
  glob : X.env.globals = mainGlobals
  blt : X.env.builtins = builtinsNs
  above : X.s₀.heap.objs.size ≤ X.env.locals
  inj : ∀ x y c, X.env.cells.lookup x = some c → X.env.cells.lookup y = some c → x = y
  has : ∀ x, (X.env.kindOf x = some .cell ∨ X.env.kindOf x = some .free) → ∃ c, X.env.cells.lookup x = some c
  cab : ∀ x c, X.fn x = true → X.env.cells.lookup x = some c → X.s₀.heap.objs.size ≤ c
  hd : X.calm = true → X.A.handled = none
  frames : X.A.frames = some X.stack
  stk : X.stack = X.outer ∨ (X.stack = X.env :: X.outer ∧ X.env.frame = some X.env.locals)
  exf : ∀ b ∈ X.ex, b ≠ X.env.locals ∧ ∀ x c, X.env.cells.lookup x = some c → c ≠ b
  bs : ∀ b o, X.base.get? b = some o → X.s₀.heap.get? b = some o ∧ X.H₀ b = none
  bsz : X.base.objs.size ≤ X.s₀.heap.objs.size
  noex : ∀ b o, X.base.get? b = some o → b ∉ X.ex
  exfs : ∀ b ∈ X.ex, b ∉ X.fs
  funs : X.s₀.heap.FunFrames X.base X.outer
  frf : ∀ b ∈ X.fs, X.H₀ b = none
structure Inv (X : Cx) (pins : List (Addr × Obj)) (σ : List (Option V)) (H : Hp) (s : Shared) : Prop where
  ok : X.Ok
  os : s.os = X.s₀.os
  bare : AllBare s.gens
  base : Un X.fs X.ex X.H₀ H X.s₀.heap s.heap
  loc : ∃ m, s.heap.Ns X.env.locals m ∧ ∀ (i : Nat) (x : Str) (v : V), X.N[i]? = some x → σ[i]? = some (some v) → Vis X.env.scope x → ∃ u, RelV v u ∧ Look X.env s.heap m x u
  cell : ∀ x c, X.env.cells.lookup x = some c → ∃ v, s.heap.IsCell c v
  free : H X.env.locals = none
  freeC : ∀ x c, X.env.cells.lookup x = some c → H c = none
  pin : ∀ p ∈ X.pn ++ pins, s.heap.get? p.1 = some p.2 ∧ H p.1 = none ∧ p.1 ≠ X.env.locals ∧ p.1 ∉ X.fs ∧ ∀ v, p.2.data ≠ .cell v
  hok : HOk X.prog X.w H s.heap
  len : σ.length = X.N.length
section
variable {X : Cx} {pins : List (Addr × Obj)} {σ : List (Option V)} {H H' : Hp} {s : Shared} {h' : Heap}
theorem Cx.Ok.nofr (ok : X.Ok) {b : Addr} {o : Obj} (e : X.base.get? b = some o) : b ∉ X.fs := fun hb => by
  have := (ok.funs.mem hb).1
  rw [e] at this; cases this
theorem Inv.bs (I : Inv X pins σ H s) : ∀ b o, X.base.get? b = some o → s.heap.get? b = some o ∧ H b = none := fun b o e =>
  ⟨I.base.keep b o (I.ok.bs b o e).1 (I.ok.bs b o e).2 (I.ok.nofr e) (I.ok.noex b o e), I.base.free b o (I.ok.bs b o e).1 (I.ok.bs b o e).2 (I.ok.noex b o e)⟩
theorem Inv.bk (I : Inv X pins σ H s) : ∀ b o, X.base.get? b = some o → s.heap.get? b = some o := fun b o e => (I.bs b o e).1
theorem Inv.mod (I : Inv X pins σ H s) : Mod X.K X.mg X.base := I.ok.mod
theorem Inv.kIn (I : Inv X pins σ H s) : X.K.In s.heap := I.ok.mod.kin.keeps I.bk
theorem Inv.lt (I : Inv X pins σ H s) : X.env.locals < s.heap.objs.size := let ⟨_, hn, _⟩ := I.loc; hn.lt
theorem Inv.sz (I : Inv X pins σ H s) : X.s₀.heap.objs.size ≤ s.heap.objs.size := Nat.le_trans I.ok.above (Nat.le_of_lt I.lt)
theorem Inv.nofs (I : Inv X pins σ H s) {a : Addr} (h : s.heap.objs.size ≤ a) : a ∉ X.fs := fun hb => by
  obtain ⟨_, o, ho, _⟩ := I.ok.funs.mem hb
  exact absurd (Nat.lt_of_lt_of_le (Heap.lt_size ho) (Nat.le_trans I.sz h)) (Nat.lt_irrefl _)
theorem Inv.cne (I : Inv X pins σ H s) : ∀ x c, X.env.cells.lookup x = some c → c ≠ X.env.locals := fun x c e z => by
  obtain ⟨v, o, ho, hd⟩ := I.cell x c e
  obtain ⟨m, ⟨o', es, ep, ho', hd', _⟩, _⟩ := I.loc
  rw [z, ho'] at ho; cases ho; rw [hd'] at hd; cases hd
theorem Inv.funs (I : Inv X pins σ H s) : s.heap.FunFrames X.base X.outer := by
  have all : ∀ (l : List Env), (∀ b ∈ frs l, b ∈ X.fs) → X.s₀.heap.FunFrames X.base l → s.heap.FunFrames X.base l := by
    intro l
    induction l with
    | nil => intro _ _; trivial
    | cons env r ih =>
      intro hs hl
      obtain ⟨hk, ⟨L, o, hf, hn, ho, hd⟩, hr⟩ := hl
      have hL : L ∈ X.fs := hs L (by unfold frs; rw [List.filterMap_cons, hf]; exact List.mem_cons_self)
      obtain ⟨sl, e⟩ := I.base.slot L o ho (I.ok.frf L hL) hL fun z => I.ok.exfs L z hL
      exact ⟨hk, ⟨L, _, hf, hn, e, hd⟩, ih (fun b hb => hs b (by unfold frs; rw [List.filterMap_cons, hf]; exact List.mem_cons_of_mem _ hb)) hr⟩
  exact all X.outer (fun _ hb => hb) I.ok.funs
/-- the frames that run, for a call -/
theorem Inv.stack (I : Inv X pins σ H s) : s.heap.FunFrames X.base X.stack := by
  rcases I.ok.stk with e | ⟨e, hf⟩
  · rw [e]; exact I.funs
  · rw [e]
    obtain ⟨m, hn, _⟩ := I.loc
    refine .cons (by rw [I.ok.kind]; decide) hf hn ?_ I.funs
    exact Heap.get?_none_of_le (Nat.le_trans I.ok.bsz I.ok.above)
theorem Inv.stkSub (I : Inv X pins σ H s) : ∀ b ∈ frs X.stack, b ∈ X.env.locals :: X.fs := fun b hb => by
  rcases I.ok.stk with e | ⟨e, hf⟩
  · rw [e] at hb; exact List.mem_cons_of_mem _ hb
  · rw [e] at hb
    unfold frs at hb
    rw [List.filterMap_cons, hf] at hb
    exact hb
theorem Inv.stkFree (I : Inv X pins σ H s) : ∀ b ∈ frs X.stack, H b = none := fun b hb => by
  rcases List.mem_cons.mp (I.stkSub b hb) with e | hb
  · rw [e]; exact I.free
  · obtain ⟨_, o, ho, _⟩ := I.ok.funs.mem hb
    exact I.base.free b o ho (I.ok.frf b hb) fun z => I.ok.exfs b z hb
/-- THE STEP: the untracked objects but the frame and the records at ch are kept (the callers' frames up to slots), the frame's map is kept, the new abstract heap is held -/
theorem Inv.step {g' : Array GenState} {t' : Nat} {d' : Drawn} {ch : List Addr} (I : Inv X pins σ H s)
    (hch : ∀ b ∈ ch, (b ∈ X.ex ∨ X.s₀.heap.objs.size ≤ b) ∧ b ≠ X.env.locals ∧ (∀ x c, X.env.cells.lookup x = some c → c ≠ b) ∧ ∀ p ∈ X.pn ++ pins, p.1 ≠ b)
    (keep : ∀ b o, b ≠ X.env.locals → b ∉ X.fs → b ∉ ch → s.heap.get? b = some o → H b = none → h'.get? b = some o)
    (slot : ∀ b o, b ≠ X.env.locals → b ∈ X.fs → b ∉ ch → s.heap.get? b = some o → H b = none → ∃ sl, h'.get? b = some { o with slots := sl }) (free : ∀ b o, b ∉ ch → s.heap.get? b = some o → H b = none → H' b = none)
    (there : ∀ b o, b ∉ ch → s.heap.get? b = some o → ∃ o', h'.get? b = some o')
    (tups : ∀ b xs, H b = some (.tup xs) → H' b = some (.tup xs)) (frzs : ∀ b o u, H b = some (.frz o u) → H' b = some (.frz o u)) (tbls : ∀ b ps, H b = some (.tbl ps) → ∃ more, H' b = some (.tbl (ps ++ more)))
    (ns : ∀ m, s.heap.Ns X.env.locals m → h'.Ns X.env.locals m) (hok : HOk X.prog X.w H' h') (hg : AllBare g') :
    Inv X pins σ H' { s with heap := h', gens := g', drawn := d', toks := t' } := by
  have neL : ∀ b o, X.s₀.heap.get? b = some o → b ≠ X.env.locals := fun b o e => Nat.ne_of_lt (Nat.lt_of_lt_of_le (Heap.lt_size e) I.ok.above)
  have neC : ∀ b o, X.s₀.heap.get? b = some o → b ∉ X.ex → b ∉ ch := fun b o e hx hb => by
    rcases (hch b hb).1 with z | z
    · exact hx z
    · exact absurd (Nat.lt_of_lt_of_le (Heap.lt_size e) z) (Nat.lt_irrefl _)
  have cellK : ∀ x c, X.env.cells.lookup x = some c → ∀ v, s.heap.IsCell c v → h'.IsCell c v := fun x c e v ⟨o, ho, hd⟩ => by
    have nch : c ∉ ch := fun z => (hch c z).2.2.1 x c e rfl
    by_cases hc : c ∈ X.fs
    · obtain ⟨sl, q⟩ := slot c o (I.cne x c e) hc nch ho (I.freeC x c e)
      exact ⟨_, q, hd⟩
    · exact ⟨o, keep c o (I.cne x c e) hc nch ho (I.freeC x c e), hd⟩
  refine ⟨I.ok, I.os, hg, ⟨fun b o e n hb hx => ?_, fun b o e n hb hx => ?_, fun b o e n hx => ?_, fun b o e hx => ?_, fun b xs e => tups b xs (I.base.tups b xs e), fun b o xs e => frzs b o xs (I.base.frzs b o xs e), fun b ps e => ?_⟩, ?_, fun x c e => ?_, ?_, fun x c e => ?_, fun p hp => ?_, hok, I.len⟩
  · exact keep b o (neL b o e) hb (neC b o e hx) (I.base.keep b o e n hb hx) (I.base.free b o e n hx)
  · obtain ⟨sl, e1⟩ := I.base.slot b o e n hb hx
    obtain ⟨sl', e2⟩ := slot b _ (neL b o e) hb (neC b o e hx) e1 (I.base.free b o e n hx)
    exact ⟨sl', e2⟩
  · obtain ⟨o', e1⟩ := I.base.there b o e hx
    exact free b o' (neC b o e hx) e1 (I.base.free b o e n hx)
  · obtain ⟨o', e1⟩ := I.base.there b o e hx
    exact there b o' (neC b o e hx) e1
  · obtain ⟨m1, e1⟩ := I.base.tbls b ps e
    obtain ⟨m2, e2⟩ := tbls b _ e1
    exact ⟨m1 ++ m2, by rw [e2, Array.append_assoc]⟩
  · obtain ⟨m, hn, hl⟩ := I.loc
    refine ⟨m, ns m hn, fun i x v e1 e2 e3 => ?_⟩
    obtain ⟨u, r, l⟩ := hl i x v e1 e2 e3
    refine ⟨u, r, ?_⟩
    rcases l with l | ⟨k, c, e, z⟩
    · exact .inl l
    · exact .inr ⟨k, c, e, cellK x c e _ z⟩
  · obtain ⟨v, z⟩ := I.cell x c e
    exact ⟨v, cellK x c e v z⟩
  · obtain ⟨m, ⟨o, _, _, ho, _⟩, _⟩ := I.loc
    exact free _ o (fun z => (hch _ z).2.1 rfl) ho I.free
  · obtain ⟨v, o, ho, hd⟩ := I.cell x c e
    exact free c o (fun z => (hch c z).2.2.1 x c e rfl) ho (I.freeC x c e)
  · obtain ⟨e, n, ne, nf, d⟩ := I.pin p hp
    have nch : p.1 ∉ ch := fun z => (hch p.1 z).2.2.2 p hp rfl
    exact ⟨keep p.1 p.2 ne nf nch e n, free p.1 p.2 nch e n, ne, nf, d⟩
/-- .. where the frame's own object is kept too -/
theorem Inv.un {t' : Nat} (I : Inv X pins σ H s) (u : Un X.fs [] H H' s.heap h') (hok : HOk X.prog X.w H' h') : Inv X pins σ H' { s with heap := h', toks := t' } := by
  obtain ⟨m, ⟨o, es, ep, ho, r⟩, _⟩ := id I.loc
  obtain ⟨sl, hL⟩ := u.any ho I.free (by simp)
  exact I.step (g' := s.gens) (d' := s.drawn) (ch := []) (fun _ z => nomatch z) (fun b o _ hb _ e n => u.keep b o e n hb (by simp)) (fun b o _ hb _ e n => u.slot b o e n hb (by simp)) (fun b o _ e n => u.free b o e n (by simp)) (fun b o _ e => u.there b o e (by simp)) u.tups u.frzs u.tbls (fun m' hm => by
    obtain ⟨o', es', ep', ho', r'⟩ := hm
    rw [ho] at ho'; cases ho'
    exact ⟨_, es', ep', hL, r'⟩) hok I.bare
/-- behind a call (or a comprehension's block): the slots of this frame may have changed too, the records at ch may have turned -/
theorem Inv.call {g' : Array GenState} {t' : Nat} {d' : Drawn} {ch : List Addr} (I : Inv X pins σ H s) (u : Un (frs X.stack) ch H H' s.heap h') (hok : HOk X.prog X.w H' h') (hg : AllBare g')
    (hch : ∀ b ∈ ch, (b ∈ X.ex ∨ X.s₀.heap.objs.size ≤ b) ∧ b ≠ X.env.locals ∧ (∀ x c, X.env.cells.lookup x = some c → c ≠ b) ∧ ∀ p ∈ X.pn ++ pins, p.1 ≠ b) :
    Inv X pins σ H' { s with heap := h', gens := g', drawn := d', toks := t' } := by
  obtain ⟨m, ⟨o, es, ep, ho, r⟩, _⟩ := id I.loc
  obtain ⟨sl, hL⟩ := u.any ho I.free fun z => (hch _ z).2.1 rfl
  exact I.step (ch := ch) hch (fun b o hL hb hc e n => u.keep b o e n (fun z => (List.mem_cons.mp (I.stkSub b z)).elim hL hb) hc) (fun b o _ _ hc e n => u.any e n hc) (fun b o hc e n => u.free b o e n hc) (fun b o hc e => u.there b o e hc) u.tups u.frzs u.tbls (fun m' hm => by
    obtain ⟨o', es', ep', ho', r'⟩ := hm
    rw [ho] at ho'; cases ho'
    exact ⟨_, es', ep', hL, r'⟩) hok hg
/-- an untracked record of ours (an iterator) has turned -/
theorem Inv.turned {t' : Nat} {it : Addr} (I : Inv X pins σ H s) (k : ∀ b o, b ≠ it → s.heap.get? b = some o → h'.get? b = some o) (hn : H it = none) (hL : it ≠ X.env.locals)
    (h1 : it ∈ X.ex ∨ X.s₀.heap.objs.size ≤ it) (h2 : ∀ x c, X.env.cells.lookup x = some c → c ≠ it) (h3 : ∀ p ∈ X.pn ++ pins, p.1 ≠ it) : Inv X pins σ H { s with heap := h', toks := t' } := by
  have nit : ∀ b u, H b = some u → b ≠ it := fun b u e z => by rw [z, hn] at e; cases e
  refine I.step (g' := s.gens) (d' := s.drawn) (ch := [it]) (fun b hb => ?_) (fun b o _ _ hc e _ => k b o (fun z => hc (by simp [z])) e) (fun b o _ _ hc e _ => ⟨o.slots, k b o (fun z => hc (by simp [z])) e⟩) (fun _ _ _ _ n => n)
    (fun b o hc e => ⟨o, k b o (fun z => hc (by simp [z])) e⟩) (fun _ _ e => e) (fun _ _ _ e => e) (fun b ps e => ⟨#[], by rw [e]; simp⟩) (fun m hm => ?_) (fun b u e => ?_) I.bare
  · have e : b = it := by simpa using hb
    subst e
    exact ⟨h1, hL, h2, h3⟩
  · obtain ⟨o, es, ep, ho, r⟩ := hm
    exact ⟨o, es, ep, k _ o (Ne.symm hL) ho, r⟩
  · refine (I.hok b u e).stay (fun c v hc q => k c v ?_ q) (fun _ q => q) fun _ _ q => q
    rcases hc with z | z
    · rw [z]; exact nit b u e
    · exact nit c _ z
theorem Inv.tok (I : Inv X pins σ H s) (t : Nat) : Inv X pins σ H { s with toks := t } := I.un (h' := s.heap) (t' := t) Un.refl I.hok
/-- all objects kept -/
theorem Inv.kept {t' : Nat} (I : Inv X pins σ H s) (k : ∀ b u, s.heap.get? b = some u → h'.get? b = some u) : Inv X pins σ H { s with heap := h', toks := t' } := I.un (Un.kept k) (I.hok.kept k)
/-- a new object laid and tracked -/
theorem Inv.laid {a : Addr} {o : HO} {t' : Nat} (I : Inv X pins σ H s) (k : ∀ b u, s.heap.get? b = some u → h'.get? b = some u) (hp : s.heap.objs.size ≤ a) (new : ObjOk X.prog X.w (upd H a o) h' a o) :
    Inv X pins σ (upd H a o) { s with heap := h', toks := t' } := I.un (Un.laid k hp (I.hok.fresh hp)) (I.hok.laid k hp new)
/-- an object written -/
theorem Inv.write {x e : Addr} {o : HO} {t' : Nat} (I : Inv X pins σ H s) (mu : Mut (H x)) (he : e = x ∨ H e = some (.own x)) (k : ∀ b u, b ≠ e → s.heap.get? b = some u → h'.get? b = some u) (heo : ∃ u, h'.get? e = some u)
    (new : ObjOk X.prog X.w (upd H x o) h' x o) : Inv X pins σ (upd H x o) { s with heap := h', toks := t' } := I.un (Un.write mu he k heo) (I.hok.write mu he k heo new)
/-- forgetting slots, pins -/
theorem Inv.weak {σ' : List (Option V)} (I : Inv X pins σ H s) (hl : σ'.length = σ.length) (w : ∀ (i : Nat) v, σ'[i]? = some (some v) → σ[i]? = some (some v)) : Inv X pins σ' H s :=
  ⟨I.ok, I.os, I.bare, I.base, let ⟨m, hn, hl'⟩ := I.loc; ⟨m, hn, fun i x v e1 e2 e3 => hl' i x v e1 (w i v e2) e3⟩, I.cell, I.free, I.freeC, I.pin, I.hok, hl.trans I.len⟩
theorem Inv.pins_of {pins' : List (Addr × Obj)} (I : Inv X pins σ H s) (h : ∀ p ∈ pins', s.heap.get? p.1 = some p.2 ∧ H p.1 = none ∧ p.1 ≠ X.env.locals ∧ p.1 ∉ X.fs ∧ ∀ v, p.2.data ≠ .cell v) : Inv X pins' σ H s :=
  ⟨I.ok, I.os, I.bare, I.base, I.loc, I.cell, I.free, I.freeC, fun p hp => (List.mem_append.mp hp).elim (fun z => I.pin p (List.mem_append_left _ z)) (h p), I.hok, I.len⟩
theorem nodup_ix {N : List Str} (hN : N.Nodup) {i j : Nat} {x : Str} (a : N[i]? = some x) (b : N[j]? = some x) : i = j := by
  obtain ⟨h1, e1⟩ := List.getElem?_eq_some_iff.mp a
  obtain ⟨h2, e2⟩ := List.getElem?_eq_some_iff.mp b
  exact (List.getElem_inj hN).mp (e1.trans e2.symm)
/-- a name is stored; what changed -/
theorem store_ok2 {M : Model} {A : Around} {E : Value → Shared → Prop} {i : Nat} {x : Str} {v : V} {u : Value} {Q : Unit → Shared → Prop} (I : Inv X pins σ H s) (hN : X.N.Nodup) (hi : X.N[i]? = some x) (hx : Loc X.env.scope x) (r : RelV v u)
    (h : ∀ s', Inv X pins (σ.set i (some v)) H s' → (∃ a, Heap.SameBut a s.heap s'.heap ∧ (a = X.env.locals ∨ X.env.cells.lookup x = some a)) → Q () s') (hf : X.fn x = true ∨ X.env.scope.names.lookup x = some .local := by first | exact .inl rfl | exact .inr rfl | assumption) : wpAny M A (storeName X.env x u) Q E s := by
  obtain ⟨m, hn, hl⟩ := id I.loc
  have hcls : (X.env.scope.kind == .class || (X.env.scope.kind == .module && X.env.locals != X.env.globals)) = false := by rw [I.ok.kind]; rfl
  have hiσ : i < σ.length := by rw [I.len]; exact (List.getElem?_eq_some_iff.mp hi).1
  have cne := I.cne
  have tracked : ∀ {a : Addr} {h' : Heap}, (∃ o, s.heap.get? a = some o ∧ H a = none) → Heap.SameBut a s.heap h' → HOk X.prog X.w H h' := fun {a h'} ha hs b ob e => by
    obtain ⟨_, _, hfree⟩ := ha
    refine (I.hok b ob e).stay (fun c w' hc q => (hs.2 c ?_).trans q) (fun _ q => q) fun _ _ q => q
    rintro rfl
    rcases hc with rfl | hc
    · rw [hfree] at e; cases e
    · rw [hfree] at hc; cases hc
  rcases hx with hk | hk
  · refine wpAny_storeName_local hk hn (fun h' hn' hs => ?_) hcls
    obtain ⟨oL, _, _, hoL, _⟩ := id hn
    refine h _ ⟨I.ok, I.os, I.bare, ⟨fun b o e n hb hx => ?_, fun b o e n hb hx => ?_, I.base.free, fun b o e hx => ?_, I.base.tups, I.base.frzs, I.base.tbls⟩, ⟨_, hn', fun j y v' e1 e2 e3 => ?_⟩, fun y c e => ?_, I.free, I.freeC, fun p hp => ?_, tracked ⟨oL, hoL, I.free⟩ hs, by simpa using I.len⟩ ⟨_, hs, .inl rfl⟩
    · exact (hs.2 b (Nat.ne_of_lt (Nat.lt_of_lt_of_le (Heap.lt_size e) I.ok.above))).trans (I.base.keep b o e n hb hx)
    · obtain ⟨sl, e1⟩ := I.base.slot b o e n hb hx
      exact ⟨sl, (hs.2 b (Nat.ne_of_lt (Nat.lt_of_lt_of_le (Heap.lt_size e) I.ok.above))).trans e1⟩
    · obtain ⟨o', e1⟩ := I.base.there b o e hx
      exact ⟨o', (hs.2 b (Nat.ne_of_lt (Nat.lt_of_lt_of_le (Heap.lt_size e) I.ok.above))).trans e1⟩
    · by_cases hj : j = i
      · subst hj
        rw [hi] at e1; cases e1
        rw [List.getElem?_set_self hiσ] at e2
        cases e2
        exact ⟨u, r, .inl ⟨hk, by simp⟩⟩
      · rw [List.getElem?_set_ne (Ne.symm hj)] at e2
        obtain ⟨u', r', q⟩ := hl j y v' e1 e2 e3
        refine ⟨u', r', ?_⟩
        rcases q with ⟨k, e⟩ | ⟨k, c, e, z⟩
        · refine .inl ⟨k, ?_⟩
          have : y ≠ x := fun e => hj (nodup_ix hN e1 (e ▸ hi))
          simp [this, e]
        · exact .inr ⟨k, c, e, z.sameBut hs (cne y c e)⟩
    · obtain ⟨w', z⟩ := I.cell y c e
      exact ⟨w', z.sameBut hs (cne y c e)⟩
    · obtain ⟨e, n, ne, nf, d⟩ := I.pin p hp
      exact ⟨(hs.2 p.1 ne).trans e, n, ne, nf, d⟩
  · have hfn : X.fn x = true := by
      rcases hf with z | z
      · exact z
      · rw [z] at hk; cases hk
    obtain ⟨c, hc⟩ := I.ok.has x (.inl hk)
    obtain ⟨w', z⟩ := I.cell x c hc
    refine wpAny_storeName_cell I.ok.kind hk hc z (fun h' hc' hs => ?_)
    obtain ⟨oc, hoc, hocd⟩ := id z
    refine h { s with heap := h' } ⟨I.ok, I.os, I.bare, ⟨fun b o e n hb hx => ?_, fun b o e n hb hx => ?_, I.base.free, fun b o e hx => ?_, I.base.tups, I.base.frzs, I.base.tbls⟩, ⟨m, hn.sameBut hs (Ne.symm (cne x c hc)), fun j y v' e1 e2 e3 => ?_⟩, fun y c' e => ?_, I.free, I.freeC, fun p hp => ?_, tracked ⟨oc, hoc, I.freeC x c hc⟩ hs, by simpa using I.len⟩ ⟨c, hs, .inr hc⟩
    · exact (hs.2 b (Nat.ne_of_lt (Nat.lt_of_lt_of_le (Heap.lt_size e) (I.ok.cab x c hfn hc)))).trans (I.base.keep b o e n hb hx)
    · obtain ⟨sl, e1⟩ := I.base.slot b o e n hb hx
      exact ⟨sl, (hs.2 b (Nat.ne_of_lt (Nat.lt_of_lt_of_le (Heap.lt_size e) (I.ok.cab x c hfn hc)))).trans e1⟩
    · obtain ⟨o', e1⟩ := I.base.there b o e hx
      exact ⟨o', (hs.2 b (Nat.ne_of_lt (Nat.lt_of_lt_of_le (Heap.lt_size e) (I.ok.cab x c hfn hc)))).trans e1⟩
    · by_cases hj : j = i
      · subst hj
        rw [hi] at e1; cases e1
        rw [List.getElem?_set_self hiσ] at e2
        cases e2
        exact ⟨u, r, .inr ⟨.inl hk, c, hc, hc'⟩⟩
      · rw [List.getElem?_set_ne (Ne.symm hj)] at e2
        obtain ⟨u', r', q⟩ := hl j y v' e1 e2 e3
        refine ⟨u', r', ?_⟩
        rcases q with q | ⟨k, c', e, z'⟩
        · exact .inl q
        · refine .inr ⟨k, c', e, z'.sameBut hs ?_⟩
          rintro rfl
          exact hj (nodup_ix hN e1 (I.ok.inj _ _ _ e hc ▸ hi))
    · by_cases hcc : c' = c
      · subst hcc; exact ⟨_, hc'⟩
      · obtain ⟨w2, z2⟩ := I.cell y c' e
        exact ⟨w2, z2.sameBut hs hcc⟩
    · obtain ⟨e, n, ne, nf, d⟩ := I.pin p hp
      refine ⟨(hs.2 p.1 ?_).trans e, n, ne, nf, d⟩
      intro q
      rw [q, hoc] at e
      have q' : oc = p.2 := Option.some.inj e
      exact d w' (by rw [← q']; exact hocd)
theorem store_ok {M : Model} {A : Around} {E : Value → Shared → Prop} {i : Nat} {x : Str} {v : V} {u : Value} {Q : Unit → Shared → Prop} (I : Inv X pins σ H s) (hN : X.N.Nodup) (hi : X.N[i]? = some x) (hx : Loc X.env.scope x) (r : RelV v u)
    (h : ∀ s', Inv X pins (σ.set i (some v)) H s' → Q () s') (hf : X.fn x = true ∨ X.env.scope.names.lookup x = some .local := by first | exact .inl rfl | exact .inr rfl | assumption) : wpAny M A (storeName X.env x u) Q E s :=
  store_ok2 I hN hi hx r (fun s' I' _ => h s' I') hf
/-- behind a call or a block, the state as it is -/
theorem Inv.call' {s' : Shared} {ch : List Addr} (I : Inv X pins σ H s) (ho : s'.os = s.os) (u : Un (frs X.stack) ch H H' s.heap s'.heap) (hok : HOk X.prog X.w H' s'.heap) (hg : AllBare s'.gens)
    (hch : ∀ b ∈ ch, (b ∈ X.ex ∨ X.s₀.heap.objs.size ≤ b) ∧ b ≠ X.env.locals ∧ (∀ x c, X.env.cells.lookup x = some c → c ≠ b) ∧ ∀ p ∈ X.pn ++ pins, p.1 ≠ b) : Inv X pins σ H' s' := by
  obtain ⟨h', g', d', t', o'⟩ := s'
  have e : o' = s.os := ho
  subst e
  exact I.call (g' := g') (t' := t') (d' := d') u hok hg hch
end
/-! ### the judgements -/
/-- an exception: its class, its own dict's address (where it has one), the abstract heap behind it -/
abbrev XK := Value → Option Addr → Hp → Prop
abbrev St := List (Option V)
abbrev VK := V → Hp → Prop
/-- an expression's reading; a test's; an argument list's -/
abbrev TE := St → Hp → VK → Prop
abbrev TT := St → Hp → (Bool → Hp → Prop) → Prop
abbrev TA := St → Hp → (List V → Hp → Prop) → Prop
/-- what is wanted behind a statement -/
structure Ends where
  nx : St → Hp → Prop
  rt : VK
  bk : St → Hp → Prop := fun _ _ => False
  ct : St → Hp → Prop := fun _ _ => False
abbrev TS := Ends → St → Hp → Prop
def EP (X : Cx) (pins : List (Addr × Obj)) (σ : St) (Q : VK) (u : Value) (s' : Shared) : Prop := ∃ v H', Inv X pins σ H' s' ∧ RelV v u ∧ Q v H'
def TP (X : Cx) (pins : List (Addr × Obj)) (σ : St) (Q : Bool → Hp → Prop) (b : Bool) (s' : Shared) : Prop := ∃ H', Inv X pins σ H' s' ∧ Q b H'
def AP (X : Cx) (pins : List (Addr × Obj)) (σ : St) (Q : List V → Hp → Prop) (us : List Value) (s' : Shared) : Prop := ∃ vs H', Inv X pins σ H' s' ∧ Vals vs us ∧ Q vs H'
def SP (X : Cx) (pins : List (Addr × Obj)) (D : Ends) (f : Flow) (s' : Shared) : Prop :=
  match f with
  | .next => ∃ σ' H', Inv X pins σ' H' s' ∧ D.nx σ' H'
  | .brk => ∃ σ' H', Inv X pins σ' H' s' ∧ D.bk σ' H'
  | .cont => ∃ σ' H', Inv X pins σ' H' s' ∧ D.ct σ' H'
  | .ret u => ∃ v σ' H', Inv X pins σ' H' s' ∧ RelV v u ∧ D.rt v H'
def PE (X : Cx) (e : Expr) (t : TE) : Prop :=
  ∀ (pins : List (Addr × Obj)) (s : Shared) (σ : St) (H : Hp) (Q : VK), Inv X pins σ H s → t σ H Q → wpAny (model X.prog X.w) X.A (eval e X.env) (EP X pins σ Q) X.xe s
def PT (X : Cx) (e : Expr) (t : TT) : Prop :=
  ∀ (pins : List (Addr × Obj)) (s : Shared) (σ : St) (H : Hp) (Q : Bool → Hp → Prop), Inv X pins σ H s → t σ H Q → wpAny (model X.prog X.w) X.A (isTrue e X.env (eval e X.env)) (TP X pins σ Q) X.xe s
/-- a test whatever its 'whole' is (and, or) -/
def PW (X : Cx) (e : Expr) (t : TT) : Prop :=
  ∀ (whole : Sem Value) (pins : List (Addr × Obj)) (s : Shared) (σ : St) (H : Hp) (Q : Bool → Hp → Prop), Inv X pins σ H s → t σ H Q → wpAny (model X.prog X.w) X.A (isTrue e X.env whole) (TP X pins σ Q) X.xe s
theorem PW.pt {X : Cx} {e : Expr} {t : TT} (h : PW X e t) : PT X e t := h _
/-- an argument list (no star), from the left -/
def PA (X : Cx) (es : List Expr) (t : TA) : Prop :=
  ∀ (pos : Pos) (pins : List (Addr × Obj)) (s : Shared) (σ : St) (H : Hp) (Q : List V → Hp → Prop), Inv X pins σ H s → t σ H Q → wpAny (model X.prog X.w) X.A (spliced (backTo pos (starEach es X.env))) (AP X pins σ Q) X.xe s
def PS (X : Cx) (st : Stmt) (t : TS) : Prop :=
  ∀ (pins : List (Addr × Obj)) (s : Shared) (σ : St) (H : Hp) (D : Ends), Inv X pins σ H s → t D σ H → wpAny (model X.prog X.w) X.A (exec st X.env) (SP X pins D) X.xe s
def PSs (X : Cx) (st : List Stmt) (t : TS) : Prop :=
  ∀ (pins : List (Addr × Obj)) (s : Shared) (σ : St) (H : Hp) (D : Ends), Inv X pins σ H s → t D σ H → wpAny (model X.prog X.w) X.A (execs st X.env) (SP X pins D) X.xe s
/-- weaken the end -/
theorem thn {α : Type} {t : Sem α} {Q Q' : α → Shared → Prop} {M : Model} {A : Around} {E : Value → Shared → Prop} {s : Shared} (h : wpAny M A t Q E s) (hQ : ∀ a s, Q a s → Q' a s) : wpAny M A t Q' E s := wpAny_mono h hQ fun _ _ x => x
end L2
namespace L2
open PySem PySem.Spec PyProof.Rows
section
variable {X : Cx}
/-! ### names and constants -/
def tVar (i : Nat) : TE := fun σ H Q => ∃ v, σ[i]? = some (some v) ∧ Q v H
def tC (v : V) : TE := fun _ H Q => Q v H
theorem pe_var {i : Nat} {x : Str} {pos : Pos} (hN : X.N[i]? = some x) (hv : Vis X.env.scope x) (hd : (x == ("__debug__" : Str)) = false := by decide) (hcd : (x == ("__classdict__" : Str)) = false := by decide) : PE X (.Name x pos) (tVar i) := by
  intro pins s σ H Q I h
  obtain ⟨v, e, h⟩ := h
  obtain ⟨m, hn, hl⟩ := I.loc
  obtain ⟨u, r, l⟩ := hl i x v hN e hv
  have fin : EP X pins σ Q u s := ⟨v, H, I, r, h⟩
  rcases l with ⟨hk, hm⟩ | ⟨hk, c, hc, hcell⟩
  · exact wpAny_Name (wpAny_loadName_local I.ok.kind hk hn hm fin) hd
  · rcases hk with hk | hk
    · exact wpAny_Name (wpAny_loadName_cell I.ok.kind hk hc hcell fin) hd
    · exact wpAny_Name (wpAny_loadName_free I.ok.kind hk hc hcell fin hcd) hd
theorem pe_int {i j pos} : PE X (.Constant (.int i) j pos) (tC (.int i)) := fun _ _ _ H _ I h => wpAny_Constant_int ⟨.int i, H, I.tok _, ⟨_, rfl⟩, h⟩
theorem pe_bl {b j pos} : PE X (.Constant (.bool b) j pos) (tC (.bl b)) := fun _ _ _ H _ I h => Constant_bool ⟨.bl b, H, I, rfl, h⟩
theorem pe_non {j pos} : PE X (.Constant .none j pos) (tC .non) := fun _ _ _ H _ I h => Constant_none ⟨.non, H, I, rfl, h⟩
theorem pe_str {x j pos} : PE X (.Constant (.str x) j pos) (tC (.str x)) := fun _ _ _ H _ I h => Calls.Constant_str ⟨.str x, H, I.tok _, ⟨_, rfl⟩, h⟩
/-- a global name of the def -/
def Gl (X : Cx) (x : Str) : Prop := X.env.kindOf x = some .globalImplicit
theorem ld_glob {E : Value → Shared → Prop} {pins : List (Addr × Obj)} {s : Shared} {σ : St} {H : Hp} {x : Str} {u : Value} {pos : Pos} {Q : Value → Shared → Prop} (I : Inv X pins σ H s) (hg : Gl X x) (hm : X.mg x = some u) (h : Q u s)
    (hd : (x == ("__debug__" : Str)) = false := by decide) : wpAny (model X.prog X.w) X.A (eval (.Name x pos) X.env) Q E s :=
  Calls.Name_function_global I.ok.kind hg (Calls.loadGlobal_global (by rw [I.ok.glob]; exact I.mod.glob.keeps I.bk) hm h) hd
theorem ld_blt {E : Value → Shared → Prop} {pins : List (Addr × Obj)} {s : Shared} {σ : St} {H : Hp} {x : Str} {u : Value} {pos : Pos} {Q : Value → Shared → Prop} (I : Inv X pins σ H s) (hg : Gl X x) (hm : X.mg x = none) (hv : bootBuiltins x = some u) (h : Q u s)
    (hn : x ≠ "__name__" := by decide) (hd : (x == ("__debug__" : Str)) = false := by decide) : wpAny (model X.prog X.w) X.A (eval (.Name x pos) X.env) Q E s := by
  obtain ⟨mb, h1, h2⟩ := I.mod.blt
  exact Calls.Name_function_global I.ok.kind hg (Calls.loadGlobal_builtin (by rw [I.ok.glob]; exact I.mod.glob.keeps I.bk) hm (by rw [I.ok.blt]; exact h1.keeps I.bk) ((h2 x hn).trans hv) h) hd
/-- a module's constant, a class, a function, as a value -/
theorem pe_glob {x : Str} {v : V} {u : Value} {pos : Pos} (hg : Gl X x) (hm : X.mg x = some u) (r : RelV v u) (hd : (x == ("__debug__" : Str)) = false := by decide) : PE X (.Name x pos) (tC v) :=
  fun _ _ _ H _ I h => ld_glob I hg hm ⟨v, H, I, r, h⟩ hd
theorem pe_bltn {x : Str} {v : V} {u : Value} {pos : Pos} (hg : Gl X x) (hm : X.mg x = none) (hv : bootBuiltins x = some u) (r : RelV v u) (hn : x ≠ "__name__" := by decide) (hd : (x == ("__debug__" : Str)) = false := by decide) : PE X (.Name x pos) (tC v) :=
  fun _ _ _ H _ I h => ld_blt I hg hm hv ⟨v, H, I, r, h⟩ hn hd
variable {a b : Expr} {ta tb : TE} {pos : Pos}
/-! ### comparisons -/
def PC (X : Cx) (op : CmpOp) (a b : Expr) (t : TE) : Prop :=
  ∀ (pins : List (Addr × Obj)) (s : Shared) (σ : St) (H : Hp) (Q : VK), Inv X pins σ H s → t σ H Q →
    wpAny (model X.prog X.w) X.A (eval a X.env) (fun v s₁ => wpAny (model X.prog X.w) X.A (eval b X.env) (fun u s₂ => wpAny (model X.prog X.w) X.A (compareOp op v u) (EP X pins σ Q) X.xe s₂) X.xe s₁) X.xe s
theorem nobehind (b : Expr) {op : CmpOp} (h : op ≠ .In) (h2 : op ≠ .NotIn) : behindInMarks op b = false := by
  have e1 : (op == CmpOp.In) = false := by cases op <;> first | rfl | exact absurd rfl h
  have e2 : (op == CmpOp.NotIn) = false := by cases op <;> first | rfl | exact absurd rfl h2
  cases b <;> simp [behindInMarks, e1, e2]
/-- is None -/
def tIsN (ta : TE) : TE := fun σ H Q => ta σ H fun x H1 => Q (.bl (decide (x = .non))) H1
theorem RelV.none_iff {x : V} {v : Value} (r : RelV x v) : (v == Value.none) = decide (x = .non) := by
  cases x with
  | non => cases r; rfl
  | bl _ => cases r; rfl
  | int _ => obtain ⟨t, rfl⟩ := r; rfl
  | str _ => obtain ⟨t, rfl⟩ := r; rfl
  | byt _ => obtain ⟨t, rfl⟩ := r; rfl
  | flt _ => obtain ⟨t, rfl⟩ := r; rfl
  | ref _ => cases r; rfl
  | ty _ => cases r; rfl
theorem pc_isN {j pos'} (ha : PE X a ta) : PC X .Is a (.Constant .none j pos') (tIsN ta) := by
  intro pins s σ H Q I h
  refine thn (ha pins s σ H _ I h) fun v s1 ⟨x, H1, I1, r1, q1⟩ => ?_
  exact Constant_none (is_none_gen ⟨.bl _, H1, I1, by rw [r1.none_iff]; rfl, q1⟩)
/-- a comparison as a value, as a test -/
def tB (t : TE) : TT := fun σ H Q => t σ H fun x H1 => ∃ c, x = .bl c ∧ Q c H1
theorem pt_cmp {op : CmpOp} {t : TE} (h : PC X op a b t) (h1 : behindInMarks op b = false := by first | exact nobehind _ (by decide) (by decide) | rfl) : PT X (.Compare a [op] [b] pos) (tB t) := by
  intro pins s σ H Q I hw
  refine wpAny_isTrue_Compare1 (thn (h pins s σ H _ I hw) fun v s1 h1 => thn h1 fun u s2 h2 => thn h2 fun c s3 ⟨x, H1, I1, r1, q1⟩ => ?_) h1
  obtain ⟨d, rfl, q⟩ := q1
  cases r1
  exact wpAny_truthy_bool ⟨H1, I1, q⟩
/-- an expression whose value is a bool, as a test -/
theorem pt_val {e : Expr} {t : TE} (h : PE X e t) (he : ∀ whole, isTrue e X.env whole = (do let v ← whole; standAt e.pos; holding [v] (truthy v)) := by intro _; rfl) : PT X e (tB t) := by
  intro pins s σ H Q I hw
  refine isTrue_plain (thn (h pins s σ H _ I hw) fun v s1 ⟨x, H1, I1, r1, q1⟩ => ?_) (he _)
  obtain ⟨d, rfl, q⟩ := q1
  cases r1
  exact wpAny_truthy_bool ⟨H1, I1, q⟩
/-! ### and, or, not -/
variable {tA tB' : TT} {rest : List Expr}
def tAnd (t u : TT) : TT := fun σ H Q => t σ H fun c H1 => if c = true then u σ H1 Q else Q false H1
def tOr (t u : TT) : TT := fun σ H Q => t σ H fun c H1 => if c = true then Q true H1 else u σ H1 Q
def tNot (t : TT) : TT := fun σ H Q => t σ H fun c H1 => Q (!c) H1
theorem pw_and1 (ha : PT X a tA) : PW X (.BoolOp .And [a] pos) tA := by
  intro wh pins s σ H Q I h
  refine isTrue_and (thn (ha pins s σ H Q I h) fun c s1 e => ?_)
  cases c with
  | true => exact isTrue_and_nil e
  | false => exact e
theorem pw_or1 (ha : PT X a tA) : PW X (.BoolOp .Or [a] pos) tA := by
  intro wh pins s σ H Q I h
  refine isTrue_or (thn (ha pins s σ H Q I h) fun c s1 e => ?_)
  cases c with
  | false => exact isTrue_or_nil e
  | true => exact e
theorem pw_and (ha : PT X a tA) (hb : PW X (.BoolOp .And (b :: rest) pos) tB') : PW X (.BoolOp .And (a :: b :: rest) pos) (tAnd tA tB') := by
  intro wh pins s σ H Q I h
  refine isTrue_and (thn (ha pins s σ H _ I h) fun c s1 ⟨H1, I1, q1⟩ => ?_)
  cases c with
  | true => exact hb wh pins s1 σ H1 Q I1 q1
  | false => exact ⟨H1, I1, q1⟩
theorem pw_or (ha : PT X a tA) (hb : PW X (.BoolOp .Or (b :: rest) pos) tB') : PW X (.BoolOp .Or (a :: b :: rest) pos) (tOr tA tB') := by
  intro wh pins s σ H Q I h
  refine isTrue_or (thn (ha pins s σ H _ I h) fun c s1 ⟨H1, I1, q1⟩ => ?_)
  cases c with
  | true => exact ⟨H1, I1, q1⟩
  | false => exact hb wh pins s1 σ H1 Q I1 q1
theorem pt_not (ha : PT X a tA) : PT X (.UnaryOp .Not a pos) (tNot tA) := by
  intro pins s σ H Q I h
  exact isTrue_not (ha pins s σ H (fun c H1 => Q (!c) H1) I h)
/-- .. as values (bools) -/
def tAndV (ta tb : TE) : TE := fun σ H Q => ta σ H fun x H1 => ∃ c, x = .bl c ∧ if c = true then tb σ H1 Q else Q (.bl false) H1
def tNotV (ta : TE) : TE := fun σ H Q => ta σ H fun x H1 => ∃ c, x = .bl c ∧ Q (.bl (!c)) H1
theorem pe_one {op} {t : TE} (h : PE X a t) : PE X (.BoolOp op [a] pos) t := fun pins s σ H Q I hw => BoolOp_one (h pins s σ H Q I hw)
theorem pe_and (ha : PE X a ta) (hb : PE X (.BoolOp .And (b :: rest) pos) tb) : PE X (.BoolOp .And (a :: b :: rest) pos) (tAndV ta tb) := by
  intro pins s σ H Q I h
  refine BoolOp_and (thn (ha pins s σ H _ I h) fun v s1 ⟨x, H1, I1, r1, q1⟩ => ?_)
  obtain ⟨c, rfl, q1⟩ := q1
  cases r1
  refine wpAny_truthy_bool ?_
  cases c with
  | true => exact hb pins s1 σ H1 Q I1 q1
  | false => exact ⟨.bl false, H1, I1, rfl, q1⟩
theorem pe_not (ha : PE X a ta) : PE X (.UnaryOp .Not a pos) (tNotV ta) := by
  intro pins s σ H Q I h
  refine UnaryOp_ (thn (ha pins s σ H _ I h) fun v s1 ⟨x, H1, I1, r1, q1⟩ => ?_)
  obtain ⟨c, rfl, q1⟩ := q1
  cases r1
  exact not_of (wpAny_truthy_bool ⟨.bl (!c), H1, I1, rfl, q1⟩)
end
end L2
namespace L2
open PySem PySem.Spec PyProof.Rows
/-! ### a list, a tuple that is read: tracked, frozen, or an object of the module -/
def SqL (K : PySem.W.Frag) (H : Hp) (a : Addr) (xs : List V) : Prop :=
  Rd H a (.lst xs) ∨
    ∃ (o : Obj) (its : Array Value) (n : Nat), K.lookup a = some o ∧ o.cls = .type "list" ∧ o.dict = none ∧ o.data = .seq its n ∧ its.size ≤ sizeLine ∧ Vals xs its.toList
def SqT (K : PySem.W.Frag) (H : Hp) (a : Addr) (xs : List V) : Prop :=
  Rd H a (.tup xs) ∨
    ∃ (o : Obj) (its : Array Value) (n : Nat), K.lookup a = some o ∧ o.cls = .type "tuple" ∧ o.data = .seq its n ∧ its.size ≤ sizeLine ∧ Vals xs its.toList
def absV : Value → Option V
  | .none => some .non
  | .bool b => some (.bl b)
  | .int i _ => some (.int i)
  | .str x _ => some (.str x)
  | .bytes b _ => some (.byt b)
  | .float b _ => some (.flt b)
  | .ref a => some (.ref a)
  | .type n => some (.ty n)
  | _ => none
theorem RelV.abs {x : V} {u : Value} (r : RelV x u) : absV u = some x := by
  cases x with
  | non => cases r; rfl
  | bl _ => cases r; rfl
  | int _ => obtain ⟨t, rfl⟩ := r; rfl
  | str _ => obtain ⟨t, rfl⟩ := r; rfl
  | byt _ => obtain ⟨t, rfl⟩ := r; rfl
  | flt _ => obtain ⟨t, rfl⟩ := r; rfl
  | ref _ => cases r; rfl
  | ty _ => cases r; rfl
theorem RelV.inj {x y : V} {u : Value} (r : RelV x u) (q : RelV y u) : x = y := Option.some.inj (r.abs.symm.trans q.abs)
theorem Vals.inj : ∀ {xs ys : List V} {us : List Value}, Vals xs us → Vals ys us → xs = ys
  | _, _, _, .nil, .nil => rfl
  | _, _, _, .cons r t, .cons r' t' => by rw [r.inj r', Vals.inj t t']
section
variable {X : Cx} {pins : List (Addr × Obj)} {σ : St} {H : Hp} {s : Shared} {a : Addr} {xs ys : List V}
theorem SqL.of {K : PySem.W.Frag} (h : H a = some (.lst xs)) : SqL K H a xs := .inl (.inl h)
theorem SqT.of {K : PySem.W.Frag} (h : H a = some (.tup xs)) : SqT K H a xs := .inl (.inl h)
theorem Inv.list (I : Inv X pins σ H s) (h : SqL X.K H a xs) : ∃ its : List Value, Vals xs its ∧ PlainL s.heap a its.toArray ∧ xs.length ≤ sizeLine := by
  rcases h with h | ⟨o, its, n, hk, hc, hd, hs, hz, r⟩
  · obtain ⟨z, its, n, r, e⟩ := h.ok I.hok
    exact ⟨its, r, ⟨_, n, e, rfl, rfl, rfl⟩, z⟩
  · refine ⟨its.toList, r, ⟨o, n, I.kIn a o hk, hc, hd, by simpa using hs⟩, ?_⟩
    have e := r.length
    simp only [Array.length_toList] at e
    omega
theorem Inv.tuple (I : Inv X pins σ H s) (h : SqT X.K H a xs) : ∃ its : List Value, Vals xs its ∧ IsTup s.heap a its.toArray ∧ xs.length ≤ sizeLine := by
  rcases h with h | ⟨o, its, n, hk, hc, hs, hz, r⟩
  · obtain ⟨z, its, r, p⟩ := h.ok I.hok
    exact ⟨its, r, p, z⟩
  · refine ⟨its.toList, r, ⟨o, I.kIn a o hk, hc, n, by simpa using hs⟩, ?_⟩
    have e := r.length
    simp only [Array.length_toList] at e
    omega
theorem Inv.list_inj (I : Inv X pins σ H s) (h : SqL X.K H a xs) (h' : SqL X.K H a ys) : xs = ys := by
  obtain ⟨its, r, ⟨o, n, e, _, _, d⟩, _⟩ := I.list h
  obtain ⟨its', r', ⟨o', n', e', _, _, d'⟩, _⟩ := I.list h'
  rw [e] at e'; cases e'
  rw [d] at d'
  injection d' with d1 _
  have : its = its' := by simpa using congrArg Array.toList d1
  subst this
  exact r.inj r'
end
/-! ### another wish about exceptions -/
abbrev Cx.wish (X : Cx) (E : Value → Shared → Prop) : Cx := { X with xe := E }
/-- no exception leaves -/
abbrev Cx.nox (X : Cx) : Cx := X.wish fun _ _ => False
theorem Cx.Ok.wish {X : Cx} (ok : X.Ok) (E : Value → Shared → Prop) : (X.wish E).Ok :=
  ⟨ok.mod, ok.kind, ok.glob, ok.blt, ok.above, ok.inj, ok.has, ok.cab, ok.hd, ok.frames, ok.stk, ok.exf, ok.bs, ok.bsz, ok.noex, ok.exfs, ok.funs, ok.frf⟩
theorem Cx.Ok.unwish {X : Cx} {E : Value → Shared → Prop} (ok : (X.wish E).Ok) : X.Ok :=
  ⟨ok.mod, ok.kind, ok.glob, ok.blt, ok.above, ok.inj, ok.has, ok.cab, ok.hd, ok.frames, ok.stk, ok.exf, ok.bs, ok.bsz, ok.noex, ok.exfs, ok.funs, ok.frf⟩
section
variable {X : Cx} {pins : List (Addr × Obj)} {σ : St} {H : Hp} {s : Shared} {E : Value → Shared → Prop}
theorem Inv.wish (I : Inv X pins σ H s) (E : Value → Shared → Prop) : Inv (X.wish E) pins σ H s := ⟨I.ok.wish E, I.os, I.bare, I.base, I.loc, I.cell, I.free, I.freeC, I.pin, I.hok, I.len⟩
theorem Inv.unwish (I : Inv (X.wish E) pins σ H s) : Inv X pins σ H s := ⟨I.ok.unwish, I.os, I.bare, I.base, I.loc, I.cell, I.free, I.freeC, I.pin, I.hok, I.len⟩
theorem SP.unwish {D : Ends} {f : Flow} {s' : Shared} (h : SP (X.wish E) pins D f s') : SP X pins D f s' := by
  cases f with
  | next => obtain ⟨σ', H', I, q⟩ := h; exact ⟨σ', H', I.unwish, q⟩
  | brk => obtain ⟨σ', H', I, q⟩ := h; exact ⟨σ', H', I.unwish, q⟩
  | cont => obtain ⟨σ', H', I, q⟩ := h; exact ⟨σ', H', I.unwish, q⟩
  | ret u => obtain ⟨v, σ', H', I, r, q⟩ := h; exact ⟨v, σ', H', I.unwish, r, q⟩
theorem PSs.nox {st : List Stmt} {t : TS} (h : PSs X.nox st t) : PSs X st t := fun pins s σ H D I hw =>
  wpAny_mono (h pins s σ H D (I.wish _) hw) (fun _ _ q => q.unwish) fun _ _ z => False.elim z
end
/-! ### blocks and small statements -/
section
variable {X : Cx} {st : Stmt} {rest : List Stmt} {t u : TS} {e : Expr} {te : TE} {pos : Pos}
def tNext : TS := fun D σ H => D.nx σ H
def tSeq (t u : TS) : TS := fun D σ H => t { D with nx := u D } σ H
theorem pss_nil : PSs X [] tNext := fun _ _ σ H _ I h => wpAny_execs_nil ⟨σ, H, I, h⟩
theorem pss_cons (h1 : PS X st t) (h2 : PSs X rest u) : PSs X (st :: rest) (tSeq t u) := by
  intro pins s σ H D I h
  refine wpAny_execs_cons (thn (h1 pins s σ H { D with nx := u D } I h) fun f s1 q => ?_)
  cases f with
  | next =>
    obtain ⟨σ', H', I', q⟩ := q
    exact h2 pins s1 σ' H' D I' q
  | ret v => exact q
  | brk => exact q
  | cont => exact q
theorem pss_one (h1 : PS X st t) : PSs X [st] t := by
  intro pins s σ H D I h
  refine wpAny_execs_cons (thn (h1 pins s σ H D I h) fun f s1 q => ?_)
  cases f with
  | next => exact wpAny_execs_nil q
  | ret v => exact q
  | brk => exact q
  | cont => exact q
/-- in a def's body nothing is shown -/
theorem Inv.quiet {pins : List (Addr × Obj)} {σ : St} {H : Hp} {s : Shared} (I : Inv X pins σ H s) : interactive X.env = false := by simp [interactive, I.ok.kind]
/-- an expression whose value is dropped -/
def tDrop (te : TE) : TS := fun D σ H => te σ H fun _ H1 => D.nx σ H1
theorem ps_expr (he : PE X e te) (hs : swapsWith e none pos.line X.env = pure false := by rfl) : PS X (.Expr e pos) (tDrop te) := by
  intro pins s σ H D I h
  exact wpAny_Expr_any (thn (he pins s σ H _ I h) fun v s1 ⟨x, H1, I1, r1, q1⟩ => ⟨σ, H1, I1, q1⟩) I.quiet hs
def tRet (te : TE) : TS := fun D σ H => te σ H D.rt
theorem ps_ret (he : PE X e te) : PS X (.Return (some e) pos) (tRet te) := by
  intro pins s σ H D I h
  exact wpAny_Return_some (thn (he pins s σ H _ I h) fun v s1 ⟨x, H1, I1, r1, q1⟩ => ⟨x, σ, H1, I1, r1, q1⟩)
def tIfS (c : TT) (t u : TS) : TS := fun D σ H => c σ H fun b H1 => if b = true then t D σ H1 else u D σ H1
theorem ps_if {c : Expr} {a b : List Stmt} {tc : TT} (hc : PT X c tc) (ha : PSs X a t) (hb : PSs X b u) : PS X (.If c a b pos) (tIfS tc t u) := by
  intro pins s σ H D I h
  refine wpAny_If (thn (hc pins s σ H _ I h) fun d s1 ⟨H1, I1, q1⟩ => ?_)
  cases d with
  | true => exact ha pins s1 σ H1 D I1 q1
  | false => exact hb pins s1 σ H1 D I1 q1
end
/-! ### targets -/
abbrev TG := V → St → Hp → (St → Hp → Prop) → Prop
def PG (X : Cx) (target : Expr) (t : TG) : Prop :=
  ∀ (pins : List (Addr × Obj)) (s : Shared) (σ : St) (H : Hp) (v : V) (u : Value) (Q : St → Hp → Prop), Inv X pins σ H s → RelV v u → t v σ H Q →
    wpAny (model X.prog X.w) X.A (assign target X.env u) (fun _ s' => ∃ σ' H', Inv X pins σ' H' s' ∧ Q σ' H') X.xe s
section
variable {X : Cx} {pos : Pos}
def gName (i : Nat) : TG := fun v σ H Q => Q (σ.set i (some v)) H
theorem pg_name {i : Nat} {x : Str} (hN : X.N.Nodup) (hi : X.N[i]? = some x) (hx : Loc X.env.scope x) (hf : X.fn x = true ∨ X.env.scope.names.lookup x = some .local := by first | exact .inl rfl | exact .inr rfl | assumption) : PG X (.Name x pos) (gName i) := by
  intro pins s σ H v u Q I r h
  exact wpAny_assign_Name (store_ok I hN hi hx r (fun s' I' => ⟨_, H, I', h⟩) hf)
/-- target = value -/
def tAsg (te : TE) (g : TG) : TS := fun D σ H => te σ H fun x H1 => g x σ H1 D.nx
/-- name = value -/
theorem ps_set {i : Nat} {x : Str} {e : Expr} {te : TE} {pos' : Pos} (hN : X.N.Nodup) (hi : X.N[i]? = some x) (hx : Loc X.env.scope x) (he : PE X e te) (hs : swapsWith e (some (.Name x pos')) pos.line X.env = pure false := by rfl) (hf : X.fn x = true ∨ X.env.scope.names.lookup x = some .local := by first | exact .inl rfl | exact .inr rfl | assumption) :
    PS X (.Assign [.Name x pos'] e pos) (tAsg te (gName i)) := by
  intro pins s σ H D I h
  refine wpAny_Assign_Name (thn (he pins s σ H _ I h) fun v s1 ⟨y, H1, I1, r1, q1⟩ => ?_) hs
  exact store_ok I1 hN hi hx r1 (fun s2 I2 => ⟨_, H1, I2, q1⟩) hf
end
/-! ### while -/
section
variable {X : Cx} {pos : Pos}
end
/-! ### what a loop or a comprehension walks -/
/-- at turn i: it yields x (the heap may grow), or it stops -/
structure It where
  go : Nat → Hp → Prop
  yld : Nat → Hp → V → Hp → Prop
  stop : Nat → Hp → Prop
/-- the iterator's own objects may turn: they are not the frame's, not pinned, younger than the entry (or a comprehension's own) -/
def FpOk (X : Cx) (pins : List (Addr × Obj)) (H : Hp) (b : Addr) : Prop :=
  H b = none ∧ b ≠ X.env.locals ∧ b ∉ X.fs ∧ (b ∈ X.ex ∨ X.s₀.heap.objs.size ≤ b) ∧ (∀ x c, X.env.cells.lookup x = some c → c ≠ b) ∧ ∀ p ∈ X.pn ++ pins, p.1 ≠ b
theorem Inv.fpOk {X : Cx} {pins : List (Addr × Obj)} {σ : St} {H H' : Hp} {s : Shared} {b : Addr} (I : Inv X pins σ H s) (hb : s.heap.objs.size ≤ b) (hn : H' b = none) : FpOk X pins H' b := by
  refine ⟨hn, Nat.ne_of_gt (Nat.lt_of_lt_of_le I.lt hb), I.nofs hb, .inr (Nat.le_trans I.sz hb), fun x c e z => ?_, fun p hp z => ?_⟩
  · obtain ⟨v, q⟩ := I.cell x c e
    exact absurd (Nat.lt_of_lt_of_le q.lt (by rw [z]; exact hb)) (Nat.lt_irrefl _)
  · exact absurd (Nat.lt_of_lt_of_le (Heap.lt_size (I.pin p hp).1) (by rw [z]; exact hb)) (Nat.lt_irrefl _)
structure Turn (P : Program) (w : World) (K : PySem.W.Frag) (tg : Expr) (J : It) (fp : List Addr) (it : Addr) (tn : Nat → Heap → Prop) : Prop where
  mem : it ∈ fp
  obj : ∀ i h, tn i h → ∀ b ∈ fp, ∃ o, h.get? b = some o ∧ ∀ v, o.data ≠ .cell v
  keep : ∀ i h h', tn i h → (∀ b ∈ fp, ∀ o, h.get? b = some o → h'.get? b = some o) → tn i h'
  item : ∀ (X : Cx), X.prog = P → X.w = w → X.K = K → X.calm = true → ∀ (i : Nat) (pins : List (Addr × Obj)) (s : Shared) (σ : St) (H : Hp) (E : Value → Shared → Prop), Inv X pins σ H s → (∀ b ∈ fp, FpOk X pins H b) → tn i s.heap → J.go i H →
    wpAny (model P w) X.A (pyNext (.ref it)) (fun r s1 => ∃ u, r = some u ∧
      wpAny (model P w) X.A (letOwnedTupleGo tg (.ref it) u) (fun _ s2 => ∃ x H', Inv X pins σ H' s2 ∧ RelV x u ∧ J.yld i H x H' ∧ tn (i + 1) s2.heap ∧ ∀ b ∈ fp, H' b = none) E s1) E s
  done : ∀ (X : Cx), X.prog = P → X.w = w → X.K = K → X.calm = true → ∀ (i : Nat) (pins : List (Addr × Obj)) (s : Shared) (σ : St) (H : Hp) (E : Value → Shared → Prop), Inv X pins σ H s → (∀ b ∈ fp, FpOk X pins H b) → tn i s.heap → J.stop i H →
    wpAny (model P w) X.A (pyNext (.ref it)) (fun r s1 => r = none ∧ Inv X pins σ H s1) E s
  self : ∀ (A : Around) (i : Nat) (s : Shared) (Q : Value → Shared → Prop) (E : Value → Shared → Prop), tn i s.heap → Q (.ref it) s → wpAny (model P w) A (pyIter (.ref it)) Q E s
abbrev TI := St → Hp → (It → Hp → Prop) → Prop
/-- an iterator has come -/
def PIE (X : Cx) (pins : List (Addr × Obj)) (σ : St) (tg : Expr) (R : It → Hp → Prop) (itv : Value) (s2 : Shared) : Prop :=
  ∃ (it : Addr) (fp : List Addr) (tn : Nat → Heap → Prop) (J : It) (H' : Hp), itv = .ref it ∧ Inv X pins σ H' s2 ∧ Turn X.prog X.w X.K tg J fp it tn ∧ tn 0 s2.heap ∧ (∀ b ∈ fp, FpOk X pins H' b) ∧ R J H'
def PI (X : Cx) (tg iter : Expr) (wi : TI) : Prop :=
  ∀ (pins : List (Addr × Obj)) (s : Shared) (σ : St) (H : Hp) (R : It → Hp → Prop), Inv X pins σ H s → wi σ H R →
    wpAny (model X.prog X.w) X.A (eval iter X.env) (fun v s1 => wpAny (model X.prog X.w) X.A (pyIter v) (PIE X pins σ tg R) X.xe s1) X.xe s
/-- the step ahead of the store is nothing for an iterator that keeps no tuple -/
theorem go_of {M : Model} {A : Around} {E : Value → Shared → Prop} {s : Shared} {tg : Expr} {it : Addr} {u : Value} {o : Obj} {n : String} {vs : Array Value} {Q : Unit → Shared → Prop} (ho : s.heap.get? it = some o) (hc : o.cls = .type n) (hd : o.data = .fields vs)
    (hn : ["enumerate", "zip", "dict_itemiterator", "dict_reverseitemiterator", "odict_iterator", "itertools.zip_longest", "itertools.pairwise"].contains n = false) (hQ : Q () s) : wpAny M A (letOwnedTupleGo tg (.ref it) u) Q E s := by
  unfold letOwnedTupleGo
  cases tg <;> first
    | exact wpAny_pure hQ
    | (cases u <;> first
        | exact wpAny_pure hQ
        | (refine wpAny_bind (wpAny_load ho ?_)
           rw [hc, hd]
           show wpAny M A (if (["enumerate", "zip", "dict_itemiterator", "dict_reverseitemiterator", "odict_iterator", "itertools.zip_longest", "itertools.pairwise"].contains n && vs[0]? == some (rawInt _)) = true then _ else _) Q E s
           rw [if_neg (by intro h; rw [hn, Bool.false_and] at h; cases h)]
           exact wpAny_pure hQ))
/-- the list at a, as it stands at each turn (a loop may append to it) -/
def Itl (K : PySem.W.Frag) (a : Addr) : It :=
  ⟨fun i H => ∃ xs x, SqL K H a xs ∧ xs[i]? = some x, fun i H x H' => H' = H ∧ ∀ xs, SqL K H a xs → xs[i]? = some x, fun i H => ∃ xs, SqL K H a xs ∧ xs.length ≤ i⟩
/-- lo, lo + 1, .. (n of them) -/
def Itr (lo : Int) (n : Nat) : It := ⟨fun i _ => i < n, fun i H x H' => H' = H ∧ x = .int (lo + i), fun i _ => n ≤ i⟩
theorem turn_list {P : Program} {w : World} {K : PySem.W.Frag} {tg : Expr} (a it : Addr) : Turn P w K tg (Itl K a) [it] it (fun i h => h.IsListIter it a i) where
  mem := by simp
  obj := fun i h st b hb => by
    have e : b = it := by simpa using hb
    subst e
    obtain ⟨o, e, c, d⟩ := st
    exact ⟨o, e, fun v z => by rw [d] at z; cases z⟩
  keep := fun i h h' st k => st.at fun o e => k it (by simp) o e
  item := by
    intro X hP hw hK hc i pins s σ H E I hf st hg
    subst hP hw hK
    obtain ⟨xs, x, hq, hx⟩ := hg
    obtain ⟨its, rv, p, hz⟩ := I.list hq
    obtain ⟨u, hu, ru⟩ := rv.get hx
    obtain ⟨f0, f1, f2, f3, f4, f5⟩ := hf it (by simp)
    refine wpAny_pyNext_list_item st p.isList (x := u) (by simpa using hu) fun h' st' sb => ?_
    have I1 : Inv X pins σ H { s with heap := h' } := I.turned (t' := s.toks) (fun b o hb e => (sb.2 b hb).trans e) f0 f1 f3 f4 f5
    obtain ⟨o, e, c, d⟩ := id st'
    exact ⟨u, rfl, go_of (s := { s with heap := h' }) e c d (by decide) ⟨x, H, I1, ru, ⟨rfl, fun ys hy => by rw [I.list_inj hy hq]; exact hx⟩, st', fun b hb => (hf b hb).1⟩⟩
  done := by
    intro X hP hw hK hc i pins s σ H E I hf st hg
    subst hP hw hK
    obtain ⟨xs, hq, hx⟩ := hg
    obtain ⟨its, rv, p, hz⟩ := I.list hq
    obtain ⟨f0, f1, f2, f3, f4, f5⟩ := hf it (by simp)
    have hl := rv.length
    exact wpAny_pyNext_list_end (I.ok.hd hc) st p.isList (by simp; omega) fun h' eb => ⟨rfl, I.turned (t' := s.toks) (fun b o hb e => eb b o hb e) f0 f1 f3 f4 f5⟩
  self := fun _ _ _ _ _ st h => wpAny_pyIter_listiter st h
theorem turn_range {P : Program} {w : World} {K : PySem.W.Frag} {tg : Expr} (it : Addr) (lo : Int) (n : Nat) : Turn P w K tg (Itr lo n) [it] it (fun i h => IsRangeIter h it (lo + (i : Nat) * 1) ((n : Int) - (i : Nat)) 1) where
  mem := by simp
  obj := fun i h st b hb => by
    have e : b = it := by simpa using hb
    subst e
    exact ⟨_, st, fun v z => by
      have z' : Data.fields _ = Data.cell v := z
      cases z'⟩
  keep := fun i h h' st k => k it (by simp) _ st
  item := by
    intro X hP hw hK hc i pins s σ H E I hf st hg
    subst hP hw hK
    obtain ⟨f0, f1, f2, f3, f4, f5⟩ := hf it (by simp)
    have W := Walks.range (prog := X.prog) (w := X.w) (I.ok.hd hc) it lo 1 n
    refine W.item i s _ _ hg st fun v h' tk hv st' kk => ?_
    obtain ⟨t, rfl⟩ := hv
    have I1 : Inv X pins σ H { s with heap := h', toks := tk } := I.turned (fun b o hb e => kk b o (by simpa using hb) e) f0 f1 f3 f4 f5
    refine ⟨_, rfl, go_of (s := { s with heap := h', toks := tk }) (n := "range_iterator") st' rfl rfl (by decide) ⟨.int (lo + i), H, I1, ⟨t, ?_⟩, ⟨rfl, rfl⟩, st', fun b hb => (hf b hb).1⟩⟩
    rw [Int.mul_one]
  done := by
    intro X hP hw hK hc i pins s σ H E I hf st hg
    subst hP hw hK
    obtain ⟨f0, f1, f2, f3, f4, f5⟩ := hf it (by simp)
    exact wpAny_pyNext_range_end (I.ok.hd hc) st (by have : n ≤ i := hg; omega) fun h' eb => ⟨rfl, I.turned (t' := s.toks) (fun b o hb e => eb b o hb e) f0 f1 f3 f4 f5⟩
  self := fun _ _ _ _ _ st h => wpAny_pyIter_rangeiter st h
end L2
namespace L2
open PySem PySem.Spec PyProof.Rows
section
variable {X : Cx} {tg : Expr}
def iList (K : PySem.W.Frag) (tl : TE) : TI := fun σ H R => tl σ H fun x H1 => ∃ a, x = .ref a ∧ (∃ xs, SqL K H1 a xs) ∧ R (Itl K a) H1
theorem pi_list {l : Expr} {tl : TE} (hl : PE X l tl) : PI X tg l (iList X.K tl) := by
  intro pins s σ H R I h
  refine thn (hl pins s σ H _ I h) fun v s1 ⟨x, H1, I1, r1, q1⟩ => ?_
  obtain ⟨a, e, ⟨xs, hq⟩, q⟩ := q1
  subst e
  cases r1
  obtain ⟨its, rv, p, hz⟩ := I1.list hq
  refine wpAny_pyIter_list p.isList ?_
  refine ⟨s1.heap.objs.size, [s1.heap.objs.size], _, _, H1, rfl, I1.kept (t' := s1.toks) fun b o e => Heap.get?_push_of_some _ e, turn_list a _, ⟨_, Heap.get?_push_size _ rfl, rfl, rfl⟩, fun b hb => ?_, q⟩
  have e : b = s1.heap.objs.size := by simpa using hb
  subst e
  exact I1.fpOk (Nat.le_refl _) (I1.hok.fresh (Nat.le_refl _))
/-- a range object just made, walked -/
theorem range_it {pins : List (Addr × Obj)} {σ : St} {H : Hp} {s : Shared} {R : It → Hp → Prop} {E : Value → Shared → Prop} {lo hi : Int} {t u v : Tok} {tk : Nat} (I : Inv X pins σ H s) (h1 : -(2 ^ 62) ≤ lo) (h2 : lo < 2 ^ 62) (h3 : -(2 ^ 62) ≤ hi) (h4 : hi < 2 ^ 62)
    (q : R (Itr lo (hi - lo).toNat) H) : wpAny (model X.prog X.w) X.A (pyIter (.ref s.heap.objs.size)) (PIE X pins σ tg R) E { s with heap := s.heap.push { cls := .type "range", data := .fields #[.int lo t, .int hi u, .int 1 v] }, toks := tk } := by
  refine wpAny_pyIter_range (IsRange.new ..) (small_one h1 h2 h3 h4) ?_
  have I1 : Inv X pins σ H { s with heap := s.heap.push { cls := .type "range", data := .fields #[.int lo t, .int hi u, .int 1 v] }, toks := tk } := I.kept fun b o e => Heap.get?_push_of_some _ e
  refine ⟨(s.heap.push { cls := .type "range", data := .fields #[.int lo t, .int hi u, .int 1 v] }).objs.size, [(s.heap.push { cls := .type "range", data := .fields #[.int lo t, .int hi u, .int 1 v] }).objs.size], _, _, H, rfl,
    I1.kept (t' := tk) fun b o e => Heap.get?_push_of_some _ e, turn_range _ lo (hi - lo).toNat, ?_, fun b hb => ?_, q⟩
  · have e1 : lo + ((0 : Nat) : Int) * 1 = lo := by simp
    have e2 : (((hi - lo).toNat : Nat) : Int) - ((0 : Nat) : Int) = Builtin.Range.rangeSize lo hi 1 := by rw [rangeSize_one]; split <;> omega
    show IsRangeIter _ _ (lo + ((0 : Nat) : Int) * 1) ((((hi - lo).toNat : Nat) : Int) - ((0 : Nat) : Int)) 1
    rw [e1, e2]
    exact Heap.get?_push_size _ rfl
  · have e : b = (s.heap.push { cls := .type "range", data := .fields #[.int lo t, .int hi u, .int 1 v] }).objs.size := by simpa using hb
    subst e
    exact I1.fpOk (Nat.le_refl _) (I1.hok.fresh (Nat.le_refl _))
def iRng1 (ta : TA) : TI := fun σ H R => ta σ H fun vs H1 => ∃ j : Int, vs = [.int j] ∧ -(2 ^ 62) ≤ j ∧ j < 2 ^ 62 ∧ R (Itr 0 j.toNat) H1
def iRng2 (ta : TA) : TI := fun σ H R => ta σ H fun vs H1 => ∃ i j : Int, vs = [.int i, .int j] ∧ (-(2 ^ 62) ≤ i ∧ i < 2 ^ 62 ∧ -(2 ^ 62) ≤ j ∧ j < 2 ^ 62) ∧ R (Itr i (j - i).toNat) H1
theorem pi_range1 {a : Expr} {ta : TA} {p pos : Pos} (hg : Gl X "range") (hm : X.mg "range" = none) (ha : PA X [a] ta) (hs : starEach [a] X.env = [(false, eval a X.env)] := by rfl) : PI X tg (.Call (.Name "range" p) [a] [] pos) (iRng1 ta) := by
  intro pins s σ H R I h
  refine Call_ (ld_blt I hg hm boot_range (PyProof.Rows.callWith_type1 (thn (ha pos pins s σ H _ I h) fun us s1 ⟨vs, H1, I1, r1, q1⟩ => ?_) hs rfl))
  obtain ⟨j, e, q1, q2, q⟩ := q1
  subst e
  cases r1 with
  | cons r rr =>
    cases rr
    obtain ⟨t, rfl⟩ := r
    exact call_range_1 (range_it I1 (by omega) (by omega) q1 q2 (by simpa using q))
theorem pi_range2 {a b : Expr} {ta : TA} {p pos : Pos} (hg : Gl X "range") (hm : X.mg "range" = none) (ha : PA X [a, b] ta) (hs : starEach [a, b] X.env = [(false, eval a X.env), (false, eval b X.env)] := by rfl) (hs2 : starEach [b] X.env = [(false, eval b X.env)] := by rfl) :
    PI X tg (.Call (.Name "range" p) [a, b] [] pos) (iRng2 ta) := by
  intro pins s σ H R I h
  refine Call_ (ld_blt I hg hm boot_range (PyProof.Rows.callWith_type1 (thn (ha pos pins s σ H _ I h) fun us s1 ⟨vs, H1, I1, r1, q1⟩ => ?_) (by rw [hs, hs2]) (by rw [hs2]; rfl)))
  obtain ⟨i, j, e, ⟨q1, q2, q3, q4⟩, q⟩ := q1
  subst e
  cases r1 with
  | cons r rr =>
    cases rr with
    | cons r' rr =>
      cases rr
      obtain ⟨t, rfl⟩ := r
      obtain ⟨t', rfl⟩ := r'
      exact call_range_2 (range_it I1 q1 q2 q3 q4 q)
/-! ### for -/
/-- W: the invariant by the turn and a measure; N: what the body is to reach -/
def tFor (wi : TI) (g : TG) (tb : TS) : TS := fun D σ H => wi σ H fun J H1 => ∃ W : Nat → Nat → St → Hp → Prop, (∃ m, W 0 m σ H1) ∧ ∀ i m σ H, W i m σ H →
  (J.stop i H ∧ D.nx σ H) ∨ (J.go i H ∧ ∃ N : St → Hp → Prop, (∀ σ' H', N σ' H' → ∃ m', m' < m ∧ W (i + 1) m' σ' H') ∧ ∀ x H', J.yld i H x H' → g x σ H' fun σ2 H2 => tb { D with nx := N, ct := N, bk := D.nx } σ2 H2)
/-- the records at fp as they stand -/
def pinsAt (fp : List Addr) (h : Heap) : List (Addr × Obj) := fp.filterMap fun b => (h.get? b).map fun o => (b, o)
theorem mem_pinsAt {fp : List Addr} {h : Heap} {b : Addr} {o : Obj} (hb : b ∈ fp) (e : h.get? b = some o) : (b, o) ∈ pinsAt fp h := List.mem_filterMap.mpr ⟨b, hb, by rw [e]; rfl⟩
theorem of_pinsAt {fp : List Addr} {h : Heap} {p : Addr × Obj} (hp : p ∈ pinsAt fp h) : p.1 ∈ fp ∧ h.get? p.1 = some p.2 := by
  obtain ⟨b, hb, e⟩ := List.mem_filterMap.mp hp
  cases q : h.get? b with
  | none => rw [q] at e; cases e
  | some o =>
    rw [q] at e
    have e' : (b, o) = p := Option.some.inj e
    subst e'
    exact ⟨hb, q⟩
theorem Inv.pinned {pins : List (Addr × Obj)} {σ : St} {H : Hp} {s : Shared} {fp : List Addr} (I : Inv X pins σ H s) (hf : ∀ b ∈ fp, FpOk X pins H b) (ho : ∀ b ∈ fp, ∃ o, s.heap.get? b = some o ∧ ∀ v, o.data ≠ .cell v) : Inv X (pins ++ pinsAt fp s.heap) σ H s :=
  I.pins_of fun p hp => (List.mem_append.mp hp).elim (fun z => I.pin p (List.mem_append_right _ z)) fun z => by
    obtain ⟨hb, e⟩ := of_pinsAt z
    obtain ⟨f0, f1, f2, _⟩ := hf p.1 hb
    obtain ⟨o, e', d⟩ := ho p.1 hb
    rw [e] at e'; cases e'
    exact ⟨e, f0, f1, f2, d⟩
theorem Inv.unpinned {pins pl : List (Addr × Obj)} {σ : St} {H : Hp} {s : Shared} (I : Inv X (pins ++ pl) σ H s) : Inv X pins σ H s := I.pins_of fun p hp => I.pin p (List.mem_append_right _ (List.mem_append_left _ hp))
theorem ps_for {iter : Expr} {body : List Stmt} {wi : TI} {g : TG} {tb : TS} {pos : Pos} (hp : PassesOwn (model X.prog X.w) X.A X.env X.xe) (hc : X.calm = true) (hi : PI X tg iter wi) (hg : PG X tg g) (hb : PSs X body tb)
    (hs : ∀ x, foldedSetIterable iter X.env x = pure x := by intro _; rfl) : PS X (.For tg iter body [] pos) (tFor wi g tb) := by
  intro pins s σ H D I h
  refine wpAny_For (thn (hi pins s σ H _ I h) fun v s1 h1 => thn h1 fun itv s2 h2 => ?_) hs
  obtain ⟨it, fp, tn, J, H2, e, I2, T, st2, f2, W, ⟨m0, w0⟩, turn⟩ := h2
  subst e
  -- what stays true of the iterator's objects through the loop
  have stat : ∀ {H' : Hp}, (∀ b ∈ fp, H' b = none) → ∀ b ∈ fp, FpOk X pins H' b := fun hn b hb => ⟨hn b hb, (f2 b hb).2⟩
  refine codeAny_forLoop_any (fun n s' => ∃ i σ' H', Inv X pins σ' H' s' ∧ tn i s'.heap ∧ (∀ b ∈ fp, H' b = none) ∧ W i n σ' H') ?_ m0 ⟨0, σ, H2, I2, st2, fun b hb => (f2 b hb).1, w0⟩
  rintro n s3 ⟨i, σ3, H3, I3, st3, fr3, w3⟩
  rcases turn i n σ3 H3 w3 with ⟨stop, qn⟩ | ⟨go, N, hN, step⟩
  · refine wpAny_passesOwn hp (thn (T.done X rfl rfl rfl hc i pins s3 σ3 H3 X.xe I3 (stat fr3) st3 stop) fun r s4 ⟨hr, I4⟩ => ?_)
    subst hr
    exact wpAny_execs_nil ⟨σ3, H3, I4, qn⟩
  · refine wpAny_passesOwn hp (thn (T.item X rfl rfl rfl hc i pins s3 σ3 H3 X.xe I3 (stat fr3) st3 go) fun r s4 ⟨u, hr, h4⟩ => ?_)
    subst hr
    refine wpAny_passesOwn hp (thn h4 fun _ s5 ⟨x, H5, I5, r5, y5, st5, fr5⟩ => ?_)
    have I5' := I5.pinned (stat fr5) (T.obj _ _ st5)
    refine wpAny_passesOwn hp (thn (hg _ s5 σ3 H5 x u _ I5' r5 (step x H5 y5)) fun _ s6 ⟨σ6, H6, I6, q6⟩ => ?_)
    refine wpAny_passesOwn hp (thn (hb _ s6 σ6 H6 _ I6 q6) fun f s7 q7 => ?_)
    have again : ∀ {σ7 : St} {H7 : Hp}, Inv X (pins ++ pinsAt fp s5.heap) σ7 H7 s7 → N σ7 H7 → ∃ m, m < n ∧ ∃ i σ' H', Inv X pins σ' H' s7 ∧ tn i s7.heap ∧ (∀ b ∈ fp, H' b = none) ∧ W i m σ' H' := fun {σ7 H7} I7 n7 => by
      obtain ⟨m', hm, w7⟩ := hN σ7 H7 n7
      refine ⟨m', hm, i + 1, σ7, H7, I7.unpinned, T.keep _ _ _ st5 fun b hb o e => (I7.pin (b, o) (List.mem_append_right _ (List.mem_append_right _ (mem_pinsAt hb e)))).1, fun b hb => ?_, w7⟩
      obtain ⟨o, e, d⟩ := T.obj _ _ st5 b hb
      exact (I7.pin (b, o) (List.mem_append_right _ (List.mem_append_right _ (mem_pinsAt hb e)))).2.1
    cases f with
    | next => obtain ⟨σ7, H7, I7, n7⟩ := q7; exact again I7 n7
    | cont => obtain ⟨σ7, H7, I7, n7⟩ := q7; exact again I7 n7
    | brk => obtain ⟨σ7, H7, I7, q7⟩ := q7; exact ⟨σ7, H7, I7.unpinned, q7⟩
    | ret v => obtain ⟨x7, σ7, H7, I7, r7, q7⟩ := q7; exact ⟨x7, σ7, H7, I7.unpinned, r7, q7⟩
end
/-! ### the forms one uses -/
/-- over a list that the body leaves as it is -/
theorem for_list {K : PySem.W.Frag} {a : Addr} {xs : List V} {g : TG} {tb : TS} {D : Ends} {σ : St} {H : Hp} (Pv : Nat → St → Hp → Prop) (h0 : Pv 0 σ H) (hl : ∀ i σ H, i ≤ xs.length → Pv i σ H → SqL K H a xs)
    (hs : ∀ i x σ H, xs[i]? = some x → Pv i σ H → g x σ H fun σ2 H2 => tb { D with nx := Pv (i + 1), ct := Pv (i + 1), bk := D.nx } σ2 H2) (hd : ∀ σ H, Pv xs.length σ H → D.nx σ H) :
    ∃ W : Nat → Nat → St → Hp → Prop, (∃ m, W 0 m σ H) ∧ ∀ i m σ H, W i m σ H →
      ((Itl K a).stop i H ∧ D.nx σ H) ∨ ((Itl K a).go i H ∧ ∃ N : St → Hp → Prop, (∀ σ' H', N σ' H' → ∃ m', m' < m ∧ W (i + 1) m' σ' H') ∧ ∀ x H', (Itl K a).yld i H x H' → g x σ H' fun σ2 H2 => tb { D with nx := N, ct := N, bk := D.nx } σ2 H2) := by
  refine ⟨fun i m σ H => m = xs.length - i ∧ i ≤ xs.length ∧ Pv i σ H, ⟨xs.length, by simp, Nat.zero_le _, h0⟩, ?_⟩
  rintro i m σ H ⟨rfl, hi, p⟩
  have q := hl i σ H hi p
  by_cases hlt : i < xs.length
  · refine .inr ⟨⟨xs, xs[i], q, by simp [hlt]⟩, Pv (i + 1), fun σ' H' p' => ⟨xs.length - (i + 1), by omega, rfl, hlt, p'⟩, fun x H' y => ?_⟩
    obtain ⟨e, y⟩ := y
    subst e
    exact hs i x σ _ (y xs q) p
  · have e : i = xs.length := by omega
    subst e
    exact .inl ⟨⟨xs, q, Nat.le_refl _⟩, hd σ H p⟩
theorem for_range {lo : Int} {n : Nat} {g : TG} {tb : TS} {D : Ends} {σ : St} {H : Hp} (Pv : Nat → St → Hp → Prop) (h0 : Pv 0 σ H)
    (hs : ∀ i σ H, i < n → Pv i σ H → g (.int (lo + i)) σ H fun σ2 H2 => tb { D with nx := Pv (i + 1), ct := Pv (i + 1), bk := D.nx } σ2 H2) (hd : ∀ σ H, Pv n σ H → D.nx σ H) :
    ∃ W : Nat → Nat → St → Hp → Prop, (∃ m, W 0 m σ H) ∧ ∀ i m σ H, W i m σ H →
      ((Itr lo n).stop i H ∧ D.nx σ H) ∨ ((Itr lo n).go i H ∧ ∃ N : St → Hp → Prop, (∀ σ' H', N σ' H' → ∃ m', m' < m ∧ W (i + 1) m' σ' H') ∧ ∀ x H', (Itr lo n).yld i H x H' → g x σ H' fun σ2 H2 => tb { D with nx := N, ct := N, bk := D.nx } σ2 H2) := by
  refine ⟨fun i m σ H => m = n - i ∧ i ≤ n ∧ Pv i σ H, ⟨n, by simp, Nat.zero_le _, h0⟩, ?_⟩
  rintro i m σ H ⟨rfl, hi, p⟩
  by_cases hlt : i < n
  · refine .inr ⟨hlt, Pv (i + 1), fun σ' H' p' => ⟨n - (i + 1), by omega, rfl, hlt, p'⟩, fun x H' y => ?_⟩
    obtain ⟨e, y⟩ := y
    subst e y
    exact hs i σ _ hlt p
  · have e : i = n := by omega
    subst e
    exact .inl ⟨Nat.le_refl _, hd σ H p⟩
end L2
namespace L2
open PySem PySem.Spec PyProof.Rows
abbrev R2 := V → V → Hp → VK → Prop
/-- a two-place operation on values: f is binaryOp op, inplaceOp op or compareOp op -/
def OpR (X : Cx) (f : Value → Value → Sem Value) (r : R2) : Prop :=
  ∀ (pins : List (Addr × Obj)) (s : Shared) (σ : St) (H : Hp) (x y : V) (v u : Value) (Q : VK), Inv X pins σ H s → RelV x v → RelV y u → r x y H Q →
    wpAny (model X.prog X.w) X.A (f v u) (EP X pins σ Q) X.xe s
/-- a one-place operation -/
def UnR (X : Cx) (f : Value → Sem Value) (r : V → Hp → VK → Prop) : Prop :=
  ∀ (pins : List (Addr × Obj)) (s : Shared) (σ : St) (H : Hp) (x : V) (v : Value) (Q : VK), Inv X pins σ H s → RelV x v → r x H Q →
    wpAny (model X.prog X.w) X.A (f v) (EP X pins σ Q) X.xe s
/-- a call of a value that is known (a builtin, a type) with values -/
def CallR (X : Cx) (f : Value) (r : List V → Hp → VK → Prop) : Prop :=
  ∀ (pins : List (Addr × Obj)) (s : Shared) (σ : St) (H : Hp) (xs : List V) (us : List Value) (Q : VK), Inv X pins σ H s → Vals xs us → r xs H Q →
    wpAny (model X.prog X.w) X.A (call f us) (EP X pins σ Q) X.xe s
def tOp (r : R2) (ta tb : TE) : TE := fun σ H Q => ta σ H fun x H1 => tb σ H1 fun y H2 => r x y H2 Q
def tUn (r : V → Hp → VK → Prop) (ta : TE) : TE := fun σ H Q => ta σ H fun x H1 => r x H1 Q
/-- ints in, under C, and a value out -/
def rI (C : Int → Int → Prop) (g : Int → Int → V) : R2 := fun x y H Q => ∃ i j, x = .int i ∧ y = .int j ∧ C i j ∧ Q (g i j) H
def rI0 (g : Int → Int → V) : R2 := fun x y H Q => ∃ i j, x = .int i ∧ y = .int j ∧ Q (g i j) H
def rU (g : Int → V) : V → Hp → VK → Prop := fun x H Q => ∃ i, x = .int i ∧ Q (g i) H
section
variable {X : Cx} {a b c : Expr} {ta tb tc : TE} {pos : Pos}
theorem binT (ha : PE X a ta) (hb : PE X b tb) {pins : List (Addr × Obj)} {s : Shared} {σ : St} {H : Hp} {R : V → V → Hp → Prop} (I : Inv X pins σ H s)
    (h : ta σ H fun x H1 => tb σ H1 fun y H2 => R x y H2) {Q : Value → Shared → Prop} {f : Value → Value → Sem Value}
    (hf : ∀ v u s2 x y H2, Inv X pins σ H2 s2 → RelV x v → RelV y u → R x y H2 → wpAny (model X.prog X.w) X.A (f v u) Q X.xe s2) :
    wpAny (model X.prog X.w) X.A (eval a X.env) (fun v s₁ => wpAny (model X.prog X.w) X.A (eval b X.env) (fun u s₂ => wpAny (model X.prog X.w) X.A (f v u) Q X.xe s₂) X.xe s₁) X.xe s := by
  refine thn (ha pins s σ H _ I h) fun v s1 ⟨x, H1, I1, r1, q1⟩ => ?_
  refine thn (hb pins s1 σ H1 _ I1 q1) fun u s2 ⟨y, H2, I2, r2, q2⟩ => ?_
  exact hf v u s2 x y H2 I2 r1 r2 q2
theorem pe_op {op : Operator} {r : R2} (ho : OpR X (binaryOp op) r) (ha : PE X a ta) (hb : PE X b tb) : PE X (.BinOp a op b pos) (tOp r ta tb) := by
  intro pins s σ H Q I h
  exact wpAny_BinOp (binT ha hb I h fun v u s2 x y H2 I2 rx ry q => ho pins s2 σ H2 x y v u Q I2 rx ry q)
theorem pe_un {op : UnaryOp} {r : V → Hp → VK → Prop} (ho : UnR X (unaryOp op) r) (ha : PE X a ta) : PE X (.UnaryOp op a pos) (tUn r ta) := by
  intro pins s σ H Q I h
  exact UnaryOp_ (thn (ha pins s σ H _ I h) fun v s1 ⟨x, H1, I1, r1, q1⟩ => ho pins s1 σ H1 x v Q I1 r1 q1)
/-! ### ints -/
theorem opI {f : Value → Value → Sem Value} {C : Int → Int → Prop} {g : Int → Int → Int}
    (rule : ∀ (i j : Int) (t u : Tok) (s : Shared) (Q : Value → Shared → Prop) (E : Value → Shared → Prop), C i j → Q (.int (g i j) s.toks) { s with toks := s.toks + 1 } → wpAny (model X.prog X.w) X.A (f (.int i t) (.int j u)) Q E s) :
    OpR X f (rI C fun i j => .int (g i j)) := by
  intro pins s σ H x y v u Q I rx ry h
  obtain ⟨i, j, rfl, rfl, hc, q⟩ := h
  obtain ⟨t, rfl⟩ := rx
  obtain ⟨t', rfl⟩ := ry
  exact rule i j t t' s _ _ hc ⟨.int (g i j), H, I.tok _, ⟨_, rfl⟩, q⟩
theorem opI0 {f : Value → Value → Sem Value} {g : Int → Int → Int}
    (rule : ∀ (i j : Int) (t u : Tok) (s : Shared) (Q : Value → Shared → Prop) (E : Value → Shared → Prop), Q (.int (g i j) s.toks) { s with toks := s.toks + 1 } → wpAny (model X.prog X.w) X.A (f (.int i t) (.int j u)) Q E s) :
    OpR X f (rI0 fun i j => .int (g i j)) := by
  intro pins s σ H x y v u Q I rx ry h
  obtain ⟨i, j, rfl, rfl, q⟩ := h
  obtain ⟨t, rfl⟩ := rx
  obtain ⟨t', rfl⟩ := ry
  exact rule i j t t' s _ _ ⟨.int (g i j), H, I.tok _, ⟨_, rfl⟩, q⟩
theorem opB0 {f : Value → Value → Sem Value} {g : Int → Int → Bool}
    (rule : ∀ (i j : Int) (t u : Tok) (s : Shared) (Q : Value → Shared → Prop) (E : Value → Shared → Prop), Q (.bool (g i j)) s → wpAny (model X.prog X.w) X.A (f (.int i t) (.int j u)) Q E s) :
    OpR X f (rI0 fun i j => .bl (g i j)) := by
  intro pins s σ H x y v u Q I rx ry h
  obtain ⟨i, j, rfl, rfl, q⟩ := h
  obtain ⟨t, rfl⟩ := rx
  obtain ⟨t', rfl⟩ := ry
  exact rule i j t t' s _ _ ⟨.bl (g i j), H, I, rfl, q⟩
def CDiv (i j : Int) : Prop := 0 < j ∧ j < 1073741824
theorem op_add : OpR X (binaryOp .Add) (rI0 fun i j => .int (i + j)) := opI0 fun _ _ _ _ _ _ _ q => add_int q
theorem op_sub : OpR X (binaryOp .Sub) (rI0 fun i j => .int (i - j)) := opI0 fun _ _ _ _ _ _ _ q => sub_int q
/-- // by a positive divisor -/
theorem op_fdiv : OpR X (binaryOp .FloorDiv) (rI CDiv fun i j => .int (i / j)) := opI fun i j _ _ _ _ _ hc q => by
  have h1 : (0 : Int) < j := hc.1
  have h2 : j < 1073741824 := hc.2
  exact floordiv_int (by omega) (by rw [Int.fdiv_eq_ediv_of_nonneg i (by omega)]; exact q) (.inl (PyProof.noPylong_small (by omega)))
/-- % by a positive divisor of any size -/
theorem op_mod : OpR X (binaryOp .Mod) (rI (fun _ j => 0 < j) fun i j => .int (i % j)) := opI fun i j _ _ _ _ _ hc q => by
  have h1 : (0 : Int) < j := hc
  exact mod_int' (by omega) (by rw [Int.fmod_eq_emod_of_nonneg i (by omega)]; exact q)
theorem unI {f : Value → Sem Value} {g : Int → Int}
    (rule : ∀ (i : Int) (t : Tok) (s : Shared) (Q : Value → Shared → Prop) (E : Value → Shared → Prop), Q (.int (g i) s.toks) { s with toks := s.toks + 1 } → wpAny (model X.prog X.w) X.A (f (.int i t)) Q E s) :
    UnR X f (rU fun i => .int (g i)) := by
  intro pins s σ H x v Q I rx h
  obtain ⟨i, rfl, q⟩ := h
  obtain ⟨t, rfl⟩ := rx
  exact rule i t s _ _ ⟨.int (g i), H, I.tok _, ⟨_, rfl⟩, q⟩
theorem un_neg : UnR X (unaryOp .USub) (rU fun i => .int (-i)) := unI fun _ _ _ _ _ q => neg_int q
end
/-! ### comparisons -/
/-- the scalars that == tells apart as data does -/
def scal : V → V → Bool
  | .non, .non => true | .non, .int _ => true | .int _, .non => true | .non, .bl _ => true | .bl _, .non => true | .non, .str _ => true | .str _, .non => true
  | .int _, .int _ => true | .bl _, .bl _ => true | .str _, .str _ => true | .byt _, .byt _ => true
  | .int _, .str _ => true | .str _, .int _ => true | .bl _, .str _ => true | .str _, .bl _ => true
  | _, _ => false
def rEq : R2 := fun x y H Q => scal x y = true ∧ Q (.bl (decide (x = y))) H
def rNe : R2 := fun x y H Q => scal x y = true ∧ Q (.bl (!decide (x = y))) H
theorem dec_int {i j : Int} : decide (V.int i = V.int j) = (i == j) := by
  rw [Bool.eq_iff_iff]
  simp
theorem dec_bl {i j : Bool} : decide (V.bl i = V.bl j) = (i == j) := by
  rw [Bool.eq_iff_iff]
  simp
theorem dec_str {i j : Str} : decide (V.str i = V.str j) = (i == j) := by
  rw [Bool.eq_iff_iff]
  simp
theorem dec_byt {i j : Array UInt8} : decide (V.byt i = V.byt j) = (i.toList == j.toList) := by
  rw [Bool.eq_iff_iff]
  cases i
  cases j
  simp
section
variable {X : Cx} {a b c : Expr} {ta tb tc : TE} {pos : Pos}
theorem fin_bl {pins : List (Addr × Obj)} {σ : St} {H : Hp} {s : Shared} {Q : VK} {k k' : Bool} (I : Inv X pins σ H s) (q : Q (.bl k) H) (e : k = k') : EP X pins σ Q (.bool k') s := by
  subst e
  exact ⟨.bl k, H, I, rfl, q⟩
theorem op_eq : OpR X (compareOp .Eq) rEq := by
  intro pins s σ H x y v u Q I rx ry h
  obtain ⟨hs, q⟩ := h
  cases x with
  | non =>
    cases rx
    cases y with
    | non => cases ry; exact PySem.EqNone.eq_none_none (fin_bl I q (by simp))
    | bl j => cases ry; exact PySem.EqNone.eq_none_bool (fin_bl I q (by simp))
    | int j => obtain ⟨t', rfl⟩ := ry; exact PySem.EqNone.eq_none_int (fin_bl I q (by simp))
    | str j => obtain ⟨t', rfl⟩ := ry; exact PySem.EqNone.eq_none_str (fin_bl I q (by simp))
    | _ => exact absurd (show false = true from hs) Bool.false_ne_true
  | bl i =>
    cases rx
    cases y with
    | non => cases ry; exact PySem.EqNone.eq_bool_none (fin_bl I q (by simp))
    | bl j => cases ry; exact eq_bool (fin_bl I q dec_bl)
    | str j => obtain ⟨t', rfl⟩ := ry; exact PySem.EqMixed.eq_bool_str (fin_bl I q (by simp))
    | _ => exact absurd (show false = true from hs) Bool.false_ne_true
  | int i =>
    obtain ⟨t, rfl⟩ := rx
    cases y with
    | non => cases ry; exact PySem.EqNone.eq_int_none (fin_bl I q (by simp))
    | int j => obtain ⟨t', rfl⟩ := ry; exact eq_int (fin_bl I q dec_int)
    | str j => obtain ⟨t', rfl⟩ := ry; exact PySem.EqMixed.eq_int_str (fin_bl I q (by simp))
    | _ => exact absurd (show false = true from hs) Bool.false_ne_true
  | str i =>
    obtain ⟨t, rfl⟩ := rx
    cases y with
    | non => cases ry; exact PySem.EqNone.eq_str_none (fin_bl I q (by simp))
    | bl j => cases ry; exact PySem.EqMixed.eq_str_bool (fin_bl I q (by simp))
    | int j => obtain ⟨t', rfl⟩ := ry; exact PySem.EqMixed.eq_str_int (fin_bl I q (by simp))
    | str j => obtain ⟨t', rfl⟩ := ry; exact eq_str (fin_bl I q dec_str)
    | _ => exact absurd (show false = true from hs) Bool.false_ne_true
  | byt i =>
    obtain ⟨t, rfl⟩ := rx
    cases y with
    | byt j => obtain ⟨t', rfl⟩ := ry; exact PySem.W.eq_bytes (fin_bl I q dec_byt)
    | _ => exact absurd (show false = true from hs) Bool.false_ne_true
  | _ => cases y <;> exact absurd (show false = true from hs) Bool.false_ne_true
theorem op_ne : OpR X (compareOp .NotEq) rNe := by
  intro pins s σ H x y v u Q I rx ry h
  obtain ⟨hs, q⟩ := h
  cases x with
  | non =>
    cases rx
    cases y with
    | non => cases ry; exact PySem.EqNone.ne_none_none (fin_bl I q (by simp))
    | bl j => cases ry; exact PySem.EqNone.ne_none_bool (fin_bl I q (by simp))
    | int j => obtain ⟨t', rfl⟩ := ry; exact PySem.EqNone.ne_none_int (fin_bl I q (by simp))
    | str j => obtain ⟨t', rfl⟩ := ry; exact PySem.EqNone.ne_none_str (fin_bl I q (by simp))
    | _ => exact absurd (show false = true from hs) Bool.false_ne_true
  | bl i =>
    cases rx
    cases y with
    | non => cases ry; exact PySem.EqNone.ne_bool_none (fin_bl I q (by simp))
    | bl j => cases ry; exact ne_bool (fin_bl I q (congrArg not dec_bl))
    | str j => obtain ⟨t', rfl⟩ := ry; exact PySem.EqMixed.ne_bool_str (fin_bl I q (by simp))
    | _ => exact absurd (show false = true from hs) Bool.false_ne_true
  | int i =>
    obtain ⟨t, rfl⟩ := rx
    cases y with
    | non => cases ry; exact PySem.EqNone.ne_int_none (fin_bl I q (by simp))
    | int j => obtain ⟨t', rfl⟩ := ry; exact ne_int (fin_bl I q (congrArg not dec_int))
    | str j => obtain ⟨t', rfl⟩ := ry; exact PySem.EqMixed.ne_int_str (fin_bl I q (by simp))
    | _ => exact absurd (show false = true from hs) Bool.false_ne_true
  | str i =>
    obtain ⟨t, rfl⟩ := rx
    cases y with
    | non => cases ry; exact PySem.EqNone.ne_str_none (fin_bl I q (by simp))
    | bl j => cases ry; exact PySem.EqMixed.ne_str_bool (fin_bl I q (by simp))
    | int j => obtain ⟨t', rfl⟩ := ry; exact PySem.EqMixed.ne_str_int (fin_bl I q (by simp))
    | str j => obtain ⟨t', rfl⟩ := ry; exact ne_str (fin_bl I q (congrArg not dec_str))
    | _ => exact absurd (show false = true from hs) Bool.false_ne_true
  | byt i =>
    obtain ⟨t, rfl⟩ := rx
    cases y with
    | byt j => obtain ⟨t', rfl⟩ := ry; exact PySem.W.ne_bytes (fin_bl I q (congrArg not dec_byt))
    | _ => exact absurd (show false = true from hs) Bool.false_ne_true
  | _ => cases y <;> exact absurd (show false = true from hs) Bool.false_ne_true
theorem op_lt : OpR X (compareOp .Lt) (rI0 fun i j => .bl (decide (i < j))) := opB0 fun _ _ _ _ _ _ _ q => lt_int q
theorem op_le : OpR X (compareOp .LtE) (rI0 fun i j => .bl (decide (i ≤ j))) := opB0 fun _ _ _ _ _ _ _ q => le_int q
theorem op_gt : OpR X (compareOp .Gt) (rI0 fun i j => .bl (decide (j < i))) := opB0 fun _ _ _ _ _ _ _ q => gt_int q
theorem nomark (b : Expr) {op : CmpOp} (h : op ≠ .In := by decide) (h2 : op ≠ .NotIn := by decide) : behindInMarks op b = false := by
  have e1 : (op == CmpOp.In) = false := by cases op <;> first | rfl | exact absurd rfl h
  have e2 : (op == CmpOp.NotIn) = false := by cases op <;> first | rfl | exact absurd rfl h2
  cases b <;> simp [behindInMarks, e1, e2]
/-- a comparison as a value; hm: nomark b, or (for in, not in) by with_unfolding_all rfl -/
theorem pe_cmpR {op : CmpOp} {r : R2} (ho : OpR X (compareOp op) r) (ha : PE X a ta) (hb : PE X b tb) (hm : behindInMarks op b = false) : PE X (.Compare a [op] [b] pos) (tOp r ta tb) := by
  intro pins s σ H Q I h
  exact wpAny_Compare1 (binT ha hb I h fun v u s2 x y H2 I2 rx ry q => ho pins s2 σ H2 x y v u Q I2 rx ry q) hm
/-- a reading of a value as a test -/
def tTest (t : TE) : TT := fun σ H Q => t σ H fun x H' => ∃ k, x = .bl k ∧ Q k H'
theorem pt_cmpR {op : CmpOp} {r : R2} (ho : OpR X (compareOp op) r) (ha : PE X a ta) (hb : PE X b tb) (hm : behindInMarks op b = false) : PT X (.Compare a [op] [b] pos) (tTest (tOp r ta tb)) := by
  intro pins s σ H Q I h
  refine wpAny_isTrue_Compare1 (thn (ha pins s σ H _ I h) fun v s1 ⟨x, H1, I1, r1, q1⟩ => thn (hb pins s1 σ H1 _ I1 q1) fun u s2 ⟨y, H2, I2, r2, q2⟩ =>
    thn (ho pins s2 σ H2 x y v u _ I2 r1 r2 q2) fun c s3 ⟨z, H3, I3, r3, k, e, q3⟩ => ?_) hm
  subst e
  cases r3
  exact wpAny_truthy_bool ⟨H3, I3, q3⟩
/-- a op1 b op2 c -/
def tChain (r r' : R2) (ta tb tc : TE) : TE := fun σ H Q => ta σ H fun x H1 => tb σ H1 fun y H2 => r x y H2 fun z H3 => ∃ k, z = .bl k ∧
  (if k = true then tc σ H3 fun w' H4 => r' y w' H4 Q else Q (.bl false) H3)
theorem pt_chain {op op' : CmpOp} {r r' : R2} (ho : OpR X (compareOp op) r) (ho' : OpR X (compareOp op') r') (ha : PE X a ta) (hb : PE X b tb) (hc : PE X c tc)
    (hm : lastMarks [op, op'] [b, c] = false := by with_unfolding_all rfl) : PT X (.Compare a [op, op'] [b, c] pos) (tTest (tChain r r' ta tb tc)) := by
  intro pins s σ H Q I h
  refine isTrue_chain (thn (ha pins s σ H _ I h) fun v s1 ⟨x, H1, I1, r1, q1⟩ => test_link (thn (hb pins s1 σ H1 _ I1 q1) fun u s2 ⟨y, H2, I2, r2, q2⟩ =>
    thn (ho pins s2 σ H2 x y v u _ I2 r1 r2 q2) fun d s3 ⟨z, H3, I3, r3, k, e, q3⟩ => ?_)) hm
  subst e
  cases r3
  refine wpAny_truthy_bool ?_
  cases k with
  | false =>
    obtain ⟨k', e', q'⟩ := q3
    cases e'
    exact ite_ff ⟨H3, I3, q'⟩
  | true =>
    refine ite_tt (test_last (thn (hc pins s3 σ H3 _ I3 q3) fun w' s4 ⟨z', H4, I4, r4, q4⟩ => thn (ho' pins s4 σ H4 y z' u w' _ I4 r2 r4 q4) fun d' s5 ⟨z2, H5, I5, r5, k2, e2, q5⟩ => ?_))
    subst e2
    cases r5
    exact wpAny_truthy_bool ⟨H5, I5, q5⟩
theorem line63 : (sizeLine : Nat) < 2 ^ 63 := by rw [sizeLine_eq]; decide
theorem op_add_str : OpR X (binaryOp .Add) (fun x y H Q => ∃ i j, x = .str i ∧ y = .str j ∧ i.length + j.length ≤ sizeLine ∧ Q (.str (i ++ j)) H) := by
  intro pins s σ H x y v u Q I rx ry h
  obtain ⟨i, j, rfl, rfl, hz, q⟩ := h
  obtain ⟨t, rfl⟩ := rx
  obtain ⟨t', rfl⟩ := ry
  exact add_str (fun t' tk => ⟨.str (i ++ j), H, I.tok _, ⟨_, rfl⟩, q⟩) hz
/-! ### scalar builtins, by CallR -/
theorem vals1 {x : V} {us : List Value} (r : Vals [x] us) : ∃ u, us = [u] ∧ RelV x u := by
  cases r with
  | cons r1 r2 => cases r2; exact ⟨_, rfl, r1⟩
theorem call_str_int : CallR X (.type "str") (fun xs H Q => ∃ i, xs = [.int i] ∧ i.natAbs.log2 < 1920 ∧ Q (.str (toString i)) H) := by
  intro pins s σ H xs us Q I r h
  obtain ⟨i, rfl, hz, q⟩ := h
  obtain ⟨u, rfl, t, rfl⟩ := vals1 r
  exact PySem.P.str_of_int hz ⟨.str _, H, I.tok _, ⟨_, rfl⟩, q⟩
end
end L2
namespace L2
open PySem PySem.Spec PyProof.Rows
/-! ### an instance, its attributes a map -/
structure ObjM (h : Heap) (x dx C : Addr) (mA : Str → Option Value) : Prop where
  obj : h.get? x = some (PySem.W.instObj C dx)
  ns : h.Ns1 dx mA
  ne : dx ≠ x
theorem lookIn_ns {h : Heap} {dx : Addr} {mA : Str → Option Value} (n : h.Ns1 dx mA) : ∃ od, h.get? dx = some od ∧ ∀ name, PySem.W.lookIn name od = some (mA name) := by
  obtain ⟨o, es, ep, ho, hd, hk, _, hm⟩ := n
  refine ⟨o, ho, fun name => ?_⟩
  have e := hm name
  unfold nsFind findBy at e
  rw [← Array.find?_toList] at e
  unfold PySem.W.lookIn
  rw [hd]
  dsimp only
  split
  · rename_i y q
    rw [q] at e
    exact congrArg some e
  · rename_i q
    rw [q] at e
    have a : es.toList.any (·.refKey) = false := by
      rw [List.any_eq_false]
      intro y hy
      obtain ⟨z, t, hkey⟩ := hk y (Array.mem_toList_iff.mp hy)
      simp [DictEntry.refKey, hkey]
    have a' : ¬ es.toList.any (·.refKey) = true := by rw [a]; exact Bool.false_ne_true
    rw [if_neg a']
    exact congrArg some e
theorem ObjM.look {h : Heap} {x dx C : Addr} {mA : Str → Option Value} (I : ObjM h x dx C mA) : ∃ od, PySem.W.InstAt h x (PySem.W.instObj C dx) C (some od) ∧ ∀ name, PySem.W.lookIn name od = some (mA name) :=
  let ⟨od, ho, hl⟩ := lookIn_ns I.ns
  ⟨od, ⟨I.obj, rfl, rfl, ho⟩, hl⟩
section
variable {prog : Program} {w : World} {A : Around} {E : Value → Shared → Prop} {s : Shared} {K : PySem.W.Frag} {x dx C f : Addr} {mA : Str → Option Value} {name : Str} {v : Value}
end
section
variable {P : Program} {w : World} {H H' : Hp} {h h' : Heap} {a C dx : Addr} {fs fs' : List (Str × V)}
theorem ins_get (hok : HOk P w H h) (e : H a = some (.ins C dx fs)) : ∃ mA, ObjM h a dx C mA ∧ (∀ f, RelO (fs.lookup f) (mA f)) ∧ PySem.Within mA (fs.map (·.1)) ∧ fs.length ≤ 1000 ∧ H dx = some (.own a) := by
  obtain ⟨d, z, ne, ob, mA, n, r, q⟩ := (show ObjOk P w H h a (.ins C dx fs) from hok a _ e)
  exact ⟨mA, ⟨ob, n, ne⟩, r, q, z, d⟩
end
/-! ### what of the text a class must have -/
structure Cls (K : PySem.W.Frag) (C : Addr) : Prop where
  pg : PySem.W.plainGet K C Str.empty = true
  hd : PySem.W.hasDictIn K C = true
  po : PySem.W.plainOver K C = true
  sa : PySem.W.findIn K (.ref C) "__setattr__" = some (some (.builtin "object.__setattr__"))
theorem Cls.get {K : PySem.W.Frag} {C : Addr} (c : Cls K C) (f : Str) : PySem.W.plainGet K C f = true := c.pg
section
variable {X : Cx} {pins : List (Addr × Obj)} {σ : St} {H : Hp} {s : Shared} {a C dx : Addr} {fs : List (Str × V)} {f : Str} {v : V} {A : Around} {E : Value → Shared → Prop}
end
section
variable {X : Cx} {o e value : Expr} {f : Str} {pos pos' tpos : Pos} {ta tv : TE}
end
/-! ### isinstance -/
section
variable {X : Cx} {pins : List (Addr × Obj)} {σ : St} {H : Hp} {s : Shared} {A : Around} {E : Value → Shared → Prop} {Q : Value → Shared → Prop} {c : Value} {b : Bool}
/-- the type of a value, as the fragment's deciders take it; for an instance its class -/
inductive TyOf (K : PySem.W.Frag) (H : Hp) : V → Value → Prop where
  | non : TyOf K H .non (.type "NoneType")
  | bl (x : Bool) : TyOf K H (.bl x) (.type "bool")
  | int (i : Int) : TyOf K H (.int i) (.type "int")
  | str (x : Str) : TyOf K H (.str x) (.type "str")
  | flt (x : UInt64) : TyOf K H (.flt x) (.type "float")
  | lst {a : Addr} {xs : List V} (e : H a = some (.lst xs)) : TyOf K H (.ref a) (.type "list")
  | frz {a : Addr} {o : Obj} {xs : List V} (e : H a = some (.frz o (.lst xs))) : TyOf K H (.ref a) (.type "list")
  | tup {a : Addr} {xs : List V} (e : H a = some (.tup xs)) : TyOf K H (.ref a) (.type "tuple")
  | dK {a : Addr} {kvs : List (Key × V)} (e : H a = some (.dK kvs)) : TyOf K H (.ref a) (.type "dict")
  | dT {a : Addr} {kvs : List (List Key × V)} (e : H a = some (.dT kvs)) : TyOf K H (.ref a) (.type "dict")
  | ins {a C dx : Addr} {fs : List (Str × V)} (e : H a = some (.ins C dx fs)) (cl : Cls K C) (ha : PySem.W.findIn K (.ref C) "__class__" = some (some (.builtin "object.__class__")))
      (hn : PySem.W.specialIn K (.builtin "object.__class__") "__get__" = some (some (.builtin "getset_descriptor.__get__"))) (htk : PySem.W.takesIn K (.builtin "object.__class__") = some true)
      (hm : PySem.W.mroIn K C (.type "object") = some true) : TyOf K H (.ref a) (.ref C)
/-- isinstance(x, c) for one class c, a built-in or an own one: kitOne's answer -/
theorem isinst_ok {x : V} {u t : Value} (I : Inv X pins σ H s) (rx : RelV x u) (ty : TyOf X.K H x t) (e : PySem.W.kitOne X.K t c = some b) (h : ∀ tk, Q (.bool b) { s with toks := tk }) :
    wpAny (model X.prog X.w) A (call (.builtin "isinstance") [u, c]) Q E s := by
  cases ty with
  | non => cases (show u = Value.none from rx); exact PySem.W.kia_one PySem.W.kitx_none I.kIn True.intro e (fun z => nomatch z) h
  | bl y => cases (show u = Value.bool y from rx); exact PySem.W.kia_one PySem.W.kitx_bool I.kIn True.intro e (fun z => nomatch z) h
  | int i => obtain ⟨t, q⟩ := (show ∃ t, u = Value.int i t from rx); cases q; exact PySem.W.kia_one PySem.W.kitx_int I.kIn True.intro e (fun z => nomatch z) h
  | str y => obtain ⟨t, q⟩ := (show ∃ t, u = Value.str y t from rx); cases q; exact PySem.W.kia_one PySem.W.kitx_str I.kIn True.intro e (fun z => nomatch z) h
  | flt y => obtain ⟨t, q⟩ := (show ∃ t, u = Value.float y t from rx); cases q; exact PySem.W.kia_one PySem.W.kitx_float I.kIn True.intro e (fun z => nomatch z) h
  | @lst a xs ea =>
    cases (show u = Value.ref a from rx)
    obtain ⟨_, _, n, _, h1⟩ := (show ObjOk X.prog X.w H s.heap a (.lst xs) from I.hok a _ ea)
    exact PySem.W.kia_one PySem.W.kitx_list I.kIn ⟨_, h1, rfl⟩ e (fun z => nomatch z) h
  | @frz a ob xs ea =>
    cases (show u = Value.ref a from rx)
    obtain ⟨_, _, _, n, _, h1⟩ := (show ObjOk X.prog X.w H s.heap a (.frz ob (.lst xs)) from I.hok a _ ea)
    exact PySem.W.kia_one PySem.W.kitx_list I.kIn ⟨_, h1, rfl⟩ e (fun z => nomatch z) h
  | @tup a xs ea =>
    cases (show u = Value.ref a from rx)
    obtain ⟨_, _, _, p⟩ := (show ObjOk X.prog X.w H s.heap a (.tup xs) from I.hok a _ ea)
    obtain ⟨o, h1, h2, _⟩ := p
    exact PySem.W.kia_one PySem.W.kitx_tuple I.kIn ⟨o, h1, h2⟩ e (fun z => nomatch z) h
  | @dK a kvs ea =>
    cases (show u = Value.ref a from rx)
    obtain ⟨_, _, vs, _, p⟩ := (show ObjOk X.prog X.w H s.heap a (.dK kvs) from I.hok a _ ea)
    obtain ⟨o, es, ep, h1, h2, _⟩ := p
    exact PySem.W.kia_one PySem.W.kitx_dict I.kIn ⟨o, h1, h2.1⟩ e (fun z => nomatch z) h
  | @dT a kvs ea =>
    cases (show u = Value.ref a from rx)
    obtain ⟨_, _, xs, _, o, es, ep, h1, h2, _⟩ := (show ObjOk X.prog X.w H s.heap a (.dT kvs) from I.hok a _ ea)
    exact PySem.W.kia_one PySem.W.kitx_dict I.kIn ⟨o, h1, h2.1⟩ e (fun z => nomatch z) h
  | @ins a C dx fs ea cl ha hn htk hm =>
    cases (show u = Value.ref a from rx)
    obtain ⟨mA, O, _⟩ := ins_get I.hok ea
    obtain ⟨od, J, _⟩ := O.look
    exact PySem.W.kia_one (PySem.W.kitx_own (cl.get _) cl.hd ha hn htk hm) I.kIn J e (fun z => nomatch z) h
end
end L2
namespace L2
open PySem PySem.Spec PyProof.Rows
/-! ### room -/
structure Room (k : Nat) (A : Around) : Prop where
  hd : A.handled = none
  dp : A.depth + 3 * k + 5 < recursionLimit
  un : A.units + 16 * k + 200 < cLine
theorem Room.mono {j k : Nat} {A : Around} (r : Room k A) (h : j ≤ k) : Room j A := ⟨r.hd, by have := r.dp; omega, by have := r.un; omega⟩
theorem Room.deeper {k : Nat} {A : Around} (r : Room (k + 1) A) (env : Env) : Room k (A.deeper env) :=
  ⟨r.hd, by have := r.dp; show A.depth + 1 + 3 * k + 5 < _; omega, by have := r.un; show A.units + 3 + 16 * k + 200 < _; omega⟩
theorem Room.depth {k : Nat} {A : Around} (r : Room k A) : A.depth < recursionLimit := by have := r.dp; omega
theorem Room.units {k : Nat} {A : Around} (r : Room k A) : A.units + 64 < cLine := by have := r.un; omega
/-! ### argument lists and displays -/
def tNil : TA := fun _ H Q => Q [] H
def tCons (ta : TE) (tr : TA) : TA := fun σ H Q => ta σ H fun x H1 => tr σ H1 fun xs H2 => Q (x :: xs) H2
section
variable {X : Cx} {e : Expr} {es : List Expr} {te : TE} {t : TA} {pos : Pos}
theorem pa_nil : PA X [] tNil := fun _ _ _ _ H Q I h => Calls.spliced_nil ⟨[], H, I, .nil, h⟩
theorem pa_cons (ha : PE X e te) (hr : PA X es t) (hs : starEach (e :: es) X.env = (false, eval e X.env) :: starEach es X.env := by rfl) : PA X (e :: es) (tCons te t) := by
  intro pos pins s σ H Q I h
  rw [hs]
  show wpAny _ _ (spliced ((false, eval e X.env) :: backTo pos (starEach es X.env))) _ _ s
  refine Calls.spliced_cons (thn (ha pins s σ H _ I h) fun u s1 ⟨x, H1, I1, r1, q1⟩ => ?_)
  exact thn (hr pos pins s1 σ H1 _ I1 q1) fun us s2 ⟨xs, H2, I2, r2, q2⟩ => ⟨x :: xs, H2, I2, .cons r1 r2, q2⟩
/-- a tuple, a list of written items -/
def tTup (t : TA) : TE := fun σ H Q => t σ H fun xs H1 => xs.length ≤ sizeLine ∧ ∀ p, H1 p = none → Q (.ref p) (upd H1 p (.tup xs))
def tLst (t : TA) : TE := fun σ H Q => t σ H fun xs H1 => xs.length ≤ sizeLine ∧ ∀ p, H1 p = none → Q (.ref p) (upd H1 p (.lst xs))
theorem pe_tup {x1} (h : PA X es t) : PE X (.Tuple es x1 pos) (tTup t) := by
  intro pins s σ H Q I hq
  refine wpAny_Tuple_spliced (thn (h pos pins s σ H _ I hq) fun us s1 ⟨xs, H1, I1, r, z, q⟩ => ⟨by rw [← r.length]; exact z, ?_⟩)
  have hf : H1 s1.heap.objs.size = none := I1.hok.fresh (Nat.le_refl _)
  refine ⟨.ref s1.heap.objs.size, upd H1 s1.heap.objs.size (.tup xs), I1.laid (t' := s1.toks) (fun b u e => Heap.get?_push_of_some _ e) (Nat.le_refl _) ?_, rfl, q _ hf⟩
  exact ⟨z, us, r, ⟨_, Heap.get?_push_size _ rfl, rfl, _, rfl⟩⟩
theorem pe_lst (h : PA X es t) : PE X (.List es pos) (tLst t) := by
  intro pins s σ H Q I hq
  refine wpAny_List_spliced (thn (h pos pins s σ H _ I hq) fun us s1 ⟨xs, H1, I1, r, z, q⟩ => ⟨by rw [← r.length]; exact z, ?_⟩)
  have hf : H1 s1.heap.objs.size = none := I1.hok.fresh (Nat.le_refl _)
  refine ⟨.ref s1.heap.objs.size, upd H1 s1.heap.objs.size (.lst xs), I1.laid (t' := s1.toks) (fun b u e => Heap.get?_push_of_some _ e) (Nat.le_refl _) ?_, rfl, q _ hf⟩
  exact ⟨z, us, 0, r, Heap.get?_push_size _ rfl⟩
end
/-! ### what a def promises -/
/-- a def's promise: the bound arguments in the parameters' order, the heap, the wanted end, the wanted exception -/
abbrev Sp := List V → Hp → VK → XK → Prop
/-- how an exception lies behind a call (file 08 gives it): the callers' frames, abstract heap and state ahead of the call, the wish, the exception, the state -/
abbrev CXT := List Env → Hp → Shared → XK → Value → Shared → Prop
/-- the state at a call -/
structure Env0 (P : Program) (w : World) (K : PySem.W.Frag) (mg : Str → Option Value) (base : Heap) (A : Around) (outer : List Env) (s : Shared) (H : Hp) : Prop where
  frames : A.frames = some outer
  mod : Mod K mg base
  bs : ∀ b o, base.get? b = some o → s.heap.get? b = some o ∧ H b = none
  bsz : base.objs.size ≤ s.heap.objs.size
  funs : s.heap.FunFrames base outer
  frf : ∀ b ∈ frs outer, H b = none
  hok : HOk P w H s.heap
  bare : AllBare s.gens
/-- a call's end -/
def CE (outer : List Env) (P : Program) (w : World) (H : Hp) (s : Shared) (Q : VK) (u : Value) (s' : Shared) : Prop :=
  ∃ v H', s'.os = s.os ∧ AllBare s'.gens ∧ Un (frs outer) [] H H' s.heap s'.heap ∧ HOk P w H' s'.heap ∧ RelV v u ∧ Q v H'
def CR (CX : CXT) (outer : List Env) (P : Program) (w : World) (H : Hp) (s : Shared) (Q : VK) (E : XK) (r : Result) (s' : Shared) : Prop :=
  match r with
  | .ok (.ret u) => CE outer P w H s Q u s'
  | .ok _ => False
  | .error e => CX outer H s E e s'
structure FnOk (P : Program) (w : World) (K : PySem.W.Frag) (mg : Str → Option Value) (base : Heap) (CX : CXT) (k : Nat) (f : Addr) (fd : FuncData) (ps : List Str) (sp : Sp) : Prop where
  len : ∀ vs H Q E, sp vs H Q E → vs.length = ps.length
  run : ∀ (A : Around) (outer : List Env) (s : Shared) (H : Hp) (args : Args) (us : List Value) (vs : List V) (Q : VK) (E : XK), Room k A → Env0 P w K mg base A outer s H → BindsTo s fd args (ps.zip us) → Vals vs us → sp vs H Q E →
    codeAny (model P w) A (.call (.ref f) args) (CR CX outer P w H s Q E) s
theorem FnOk.mono {P : Program} {w : World} {K : PySem.W.Frag} {mg : Str → Option Value} {base : Heap} {CX : CXT} {j k : Nat} {f : Addr} {fd : FuncData} {ps : List Str} {sp : Sp} (F : FnOk P w K mg base CX j f fd ps sp) (h : j ≤ k) :
    FnOk P w K mg base CX k f fd ps sp := ⟨F.len, fun A outer s H args us vs Q E hr => F.run A outer s H args us vs Q E (hr.mono h)⟩
section
variable {X : Cx} {pins : List (Addr × Obj)} {σ : St} {H : Hp} {s s' : Shared}
/-- from a body: what a callee wants -/
theorem Inv.env0 (I : Inv X pins σ H s) : Env0 X.prog X.w X.K X.mg X.base X.A X.stack s H :=
  ⟨I.ok.frames, I.ok.mod, I.bs, Nat.le_trans I.ok.bsz I.sz, I.stack, I.stkFree, I.hok, I.bare⟩
/-- behind a call -/
theorem Inv.after {Q : VK} {u : Value} (I : Inv X pins σ H s) (h : CE X.stack X.prog X.w H s Q u s') : EP X pins σ Q u s' := by
  obtain ⟨v, H', os, bare, un, hok, r, q⟩ := h
  obtain ⟨hh, g, d, t, os'⟩ := s'
  obtain rfl : os' = s.os := os
  exact ⟨v, H', I.call (h' := hh) (g' := g) (d' := d) (t' := t) (ch := []) un hok bare (fun b z => absurd z (by simp)), r, q⟩
end
/-! ### calls -/
/-- f(..): the written arguments, then the defaults dvs; E: what is wanted of an exception -/
def tCall (sp : Sp) (dvs : List V) (E : XK) (t : TA) : TE := fun σ H Q => t σ H fun vs H1 => sp (vs ++ dvs) H1 Q E
/-- how the parameters are bound: us the positional arguments, kw the keywords' values by name, ds the defaults that fill up -/
def Binds (K : PySem.W.Frag) (fd : FuncData) (ps : List Str) (ds : List Value) : Prop :=
  ∀ (s : Shared) (us : List Value), K.In s.heap → (us ++ ds).length = ps.length → BindsTo s fd ⟨us, []⟩ (ps.zip (us ++ ds))
/-- every parameter is given -/
theorem Binds.all {K : PySem.W.Frag} {fd : FuncData} {ps : List Str} (h : ∀ us : List Value, us.length = ps.length → bindArgs fd ⟨us, []⟩ = pure (ps.zip us)) : Binds K fd ps [] := fun s us _ hl => by
  rw [List.append_nil] at hl ⊢
  exact .of_eq (h us hl)
/-- an exception of a callee reaches what this body wants of exceptions -/
def Passes (CX : CXT) (X : Cx) (E : XK) : Prop := ∀ (pins : List (Addr × Obj)) (σ : St) (H : Hp) (s : Shared) (e : Value) (s' : Shared), Inv X pins σ H s → CX X.stack H s E e s' → X.xe e s'
section
variable {X : Cx} {CX : CXT} {k : Nat} {f C : Addr} {fd : FuncData} {ps : List Str} {sp : Sp} {dvs : List V} {ds : List Value} {E : XK} {x m : Str} {p pos apos : Pos} {e o : Expr} {es : List Expr} {ta : TE} {t : TA}
/-- the callee runs -/
theorem run_fn {pins : List (Addr × Obj)} {σ : St} {H : Hp} {s : Shared} {Q : VK} {us : List Value} {vs : List V} (F : FnOk X.prog X.w X.K X.mg X.base CX k f fd ps sp) (hr : Room k X.A) (hb : Binds X.K fd ps ds) (hd : Vals dvs ds) (hx : Passes CX X E)
    (I : Inv X pins σ H s) (r : Vals vs us) (h : sp (vs ++ dvs) H Q E) : wpAny (model X.prog X.w) X.A (call (.ref f) us) (EP X pins σ Q) X.xe s := by
  have r2 : Vals (vs ++ dvs) (us ++ ds) := r.append hd
  have hl : (us ++ ds).length = ps.length := by rw [← r2.length]; exact F.len _ _ _ _ h
  refine wpAny_call (codeAny_mono (F.run X.A X.stack s H ⟨us, []⟩ (us ++ ds) (vs ++ dvs) Q E hr I.env0 (hb s us I.kIn hl) r2 h) fun r s' hq => ?_)
  cases r with
  | error e => exact hx pins σ H s e s' I hq
  | ok fl =>
    cases fl with
    | ret u => exact I.after hq
    | next => exact False.elim hq
    | brk => exact False.elim hq
    | cont => exact False.elim hq
theorem pe_call (F : FnOk X.prog X.w X.K X.mg X.base CX k f fd ps sp) (hr : Room k X.A) (hg : Gl X x) (hm : X.mg x = some (.ref f)) (hk : PySem.W.keepIn X.K (.ref f) = true) (hb : Binds X.K fd ps ds) (hd : Vals dvs ds) (hx : Passes CX X E)
    (ha : PA X (e :: es) t) (hdb : (x == ("__debug__" : Str)) = false := by decide) (he : starEach (e :: es) X.env = (false, eval e X.env) :: starEach es X.env := by rfl) (hpl : (backTo pos (starEach es X.env)).any (·.1) = false := by rfl) :
    PE X (.Call (.Name x p) (e :: es) [] pos) (tCall sp dvs E t) := by
  intro pins s σ H Q I h
  refine wpAny_Call_Name_kw (ld_glob I hg hm ?_ hdb)
  refine PySem.W.callWith_K (h₀ := X.base) I.ok.mod.kin hk (thn (ha pos pins s σ H _ I h) fun us s1 ⟨vs, H1, I1, r, q⟩ => ⟨I1.kIn, ?_⟩) he hpl
  exact run_fn F hr hb hd hx I1 r q
end
/-! ### keywords -/
/-- the values of the keywords, from the left -/
def PK (X : Cx) (kws : List Keyword) (t : TA) : Prop :=
  ∀ (pos : Pos) (pins : List (Addr × Obj)) (s : Shared) (σ : St) (H : Hp) (Q : List V → Hp → Prop), Inv X pins σ H s → t σ H Q → wpAny (model X.prog X.w) X.A (evalAll ((backToKw pos (keywordEach kws X.env)).map (·.2))) (AP X pins σ Q) X.xe s
section
variable {X : Cx} {CX : CXT} {k : Nat} {f C : Addr} {fd : FuncData} {ps ks : List Str} {sp : Sp} {E : XK} {x m : Str} {p pos apos kpos : Pos} {e o : Expr} {es : List Expr} {kws : List Keyword} {te ta : TE} {t tk : TA} {nm : Option Str}
theorem pk_nil : PK X [] tNil := fun _ _ _ _ H Q I h => wpAny_evalAll_nil ⟨[], H, I, .nil, h⟩
theorem pk_cons (ha : PE X e te) (hr : PK X kws t) : PK X (⟨nm, e, kpos⟩ :: kws) (tCons te t) := by
  intro pos pins s σ H Q I h
  show wpAny _ _ (evalAll ((do let v ← eval e X.env; standAt pos; pure v) :: (backToKw pos (keywordEach kws X.env)).map (·.2))) _ _ s
  refine wpAny_evalAll_cons (wpAny_bind (thn (ha pins s σ H _ I h) fun u s1 ⟨x, H1, I1, r1, q1⟩ => wpAny_bind (wpAny_standAt (wpAny_pure ?_))))
  exact thn (hr pos pins s1 σ H1 _ I1 q1) fun us s2 ⟨xs, H2, I2, r2, q2⟩ => ⟨x :: xs, H2, I2, .cons r1 r2, q2⟩
variable {g : List Value → List Value → List Value} {gV : List V → List V → List V}
end
/-! ### a def's body keeps its promise -/
/-- names: the parameters first -/
structure FnScope (N P : List Str) (sc : Scope) : Prop where
  kind : sc.kind = .function
  co : sc.isCoroutine = false
  gen : sc.isGenerator = false
  nd : N.Nodup
  pre : N.take P.length = P
  par : ∀ x ∈ P, sc.names.lookup x = some .local ∨ sc.names.lookup x = some .cell
  nofree : ∀ y ∈ sc.names, y.2 ≠ .free
theorem bindL_out {kindOf : Str → Option NameKind} {x : Str} : ∀ {binds : List (Str × Value)} {m : Str → Option Value}, (∀ v, (x, v) ∉ binds) → bindL kindOf binds m x = m x
  | [], _, _ => rfl
  | (n, v) :: r, m, h => by
    unfold bindL
    rw [bindL_out fun w hw => h w (List.mem_cons_of_mem _ hw)]
    split
    · have : x ≠ n := by rintro rfl; exact h v List.mem_cons_self
      simp [this]
    · rfl
theorem bindC_out {kindOf : Str → Option NameKind} {x : Str} : ∀ {binds : List (Str × Value)} {m : Str → Option Value}, (∀ v, (x, v) ∉ binds) → bindC kindOf binds m x = m x
  | [], _, _ => rfl
  | (n, v) :: r, m, h => by
    unfold bindC
    rw [bindC_out fun w hw => h w (List.mem_cons_of_mem _ hw)]
    split
    · rfl
    · have : x ≠ n := by rintro rfl; exact h v List.mem_cons_self
      simp [this]
theorem bindL_get {kindOf : Str → Option NameKind} {x : Str} {v : Value} : ∀ {P : List Str} {vs : List Value} {i : Nat} {m : Str → Option Value}, P.Nodup → P[i]? = some x → vs[i]? = some v → kindOf x = some .local →
    bindL kindOf (P.zip vs) m x = some v
  | [], _, _, _, _, h, _, _ => by simp at h
  | _ :: _, [], _, _, _, _, h, _ => by simp at h
  | p :: P, w :: vs, 0, m, nd, h1, h2, hk => by
    simp at h1 h2; subst h1; subst h2
    show bindL kindOf ((p, w) :: P.zip vs) m p = _
    unfold bindL
    rw [bindL_out fun v hv => (List.nodup_cons.mp nd).1 (List.of_mem_zip hv).1, if_pos hk]
    simp
  | p :: P, w :: vs, i + 1, m, nd, h1, h2, hk => by
    show bindL kindOf ((p, w) :: P.zip vs) m x = _
    unfold bindL
    exact bindL_get (i := i) (List.nodup_cons.mp nd).2 (by simpa using h1) (by simpa using h2) hk
theorem bindC_get {kindOf : Str → Option NameKind} {x : Str} {v : Value} : ∀ {P : List Str} {vs : List Value} {i : Nat} {m : Str → Option Value}, P.Nodup → P[i]? = some x → vs[i]? = some v → kindOf x ≠ some .local →
    bindC kindOf (P.zip vs) m x = some v
  | [], _, _, _, _, h, _, _ => by simp at h
  | _ :: _, [], _, _, _, _, h, _ => by simp at h
  | p :: P, w :: vs, 0, m, nd, h1, h2, hk => by
    simp at h1 h2; subst h1; subst h2
    show bindC kindOf ((p, w) :: P.zip vs) m p = _
    unfold bindC
    rw [bindC_out fun v hv => (List.nodup_cons.mp nd).1 (List.of_mem_zip hv).1, if_neg hk]
    simp
  | p :: P, w :: vs, i + 1, m, nd, h1, h2, hk => by
    show bindC kindOf ((p, w) :: P.zip vs) m x = _
    unfold bindC
    exact bindC_get (i := i) (List.nodup_cons.mp nd).2 (by simpa using h1) (by simpa using h2) hk
/-- the names' values at the entry -/
def start (N : List Str) (vs : List V) : St := vs.map some ++ List.replicate (N.length - vs.length) none
/-- the context of a def's body, at its entry; an exception leaves the frame, then lies as CX says -/
def cxOf (CX : CXT) (P : Program) (w : World) (K : PySem.W.Frag) (mg : Str → Option Value) (base : Heap) (N : List Str) (qual : Str) (scope : Scope) (f : Addr) (cd : Value) (A : Around) (outer : List Env) (s : Shared) (H : Hp) (E : XK) : Cx where
  prog := P
  w := w
  K := K
  mg := mg
  base := base
  A := A.deeper (envOfC qual scope s.heap.objs.size f cd)
  N := N
  s₀ := s
  H₀ := H
  env := envOfC qual scope s.heap.objs.size f cd
  outer := outer
  stack := envOfC qual scope s.heap.objs.size f cd :: outer
  ex := []
  calm := true
  fn := fun _ => true
  pn := []
  xe := fun e s' => wpAny (model P w) (A.deeper (envOfC qual scope s.heap.objs.size f cd)) (leaving (envOfC qual scope s.heap.objs.size f cd) e) (fun _ s'' => CX outer H s E e s'') (fun e' s'' => CX outer H s E e' s'') s'
theorem cell_has {sc : Scope} {n : Nat} {x : Str} (h : sc.names.lookup x = some .cell) : ∃ c, (cellsFrom n sc.names []).lookup x = some c := by
  have q := PySem.W.cellsFrom_some sc.names n [] (.inl h)
  exact Option.isSome_iff_exists.mp q
theorem inv_start {CX : CXT} {P : Program} {w : World} {K : PySem.W.Frag} {mg : Str → Option Value} {base : Heap} {N ps : List Str} {qual : Str} {scope : Scope} {f : Addr} {cd : Value} {A : Around} {outer : List Env} {s s1 : Shared} {H : Hp} {E : XK} {us : List Value} {vs : List V}
    (S : FnScope N ps scope) (hd : A.handled = none) (e0 : Env0 P w K mg base A outer s H) (hl : vs.length = ps.length) (r : Vals vs us)
    (x : InCallC s s.heap.objs.size (bindL (envOfC qual scope s.heap.objs.size f cd).kindOf (ps.zip us) fun _ => none) (cellsFrom (s.heap.objs.size + 1) scope.names []) (bindC (envOfC qual scope s.heap.objs.size f cd).kindOf (ps.zip us) fun _ => none) s1) :
    Inv (cxOf CX P w K mg base N qual scope f cd A outer s H E) [] (start N vs) H s1 := by
  have hpl : ps.length ≤ N.length := by have := congrArg List.length S.pre; rw [List.length_take] at this; omega
  obtain ⟨h1, tk, rfl, hk⟩ := x.done
  have noA : ∀ b : Addr, b ∉ (cxOf CX P w K mg base N qual scope f cd A outer s H E).ex := fun b z => absurd (show b ∈ ([] : List Addr) from z) (by simp)
  refine ⟨⟨e0.mod, S.kind, rfl, rfl, Nat.le_refl _, fun y z c h1 h2 => ?_, fun y hy => ?_, fun y c _ h => ?_, fun _ => hd, Around.frames_deeper e0.frames, .inr ⟨rfl, rfl⟩, fun b z => absurd z (noA b), e0.bs, e0.bsz, fun b _ _ => noA b, fun b z => absurd z (noA b), e0.funs, e0.frf⟩,
    rfl, e0.bare, Un.kept hk, ⟨_, x.toInCall.ns, fun i y v h1 h2 h3 => ?_⟩, fun y c h => ⟨_, x.cell y c h⟩, e0.hok.fresh (Nat.le_refl _), fun y c h => ?_, fun p hp => absurd (show p ∈ ([] : List (Addr × Obj)) from hp) (by simp), e0.hok.kept hk, ?_⟩
  · exact name_of_addr x.apart (PySem.mem_of_lookup h1) (PySem.mem_of_lookup h2)
  · have hy : scope.names.lookup y = some .cell ∨ scope.names.lookup y = some .free := hy
    rcases hy with hy | hy
    · exact cell_has hy
    · exact absurd rfl (S.nofree _ (PySem.mem_of_lookup hy))
  · exact Nat.le_of_lt (x.above y c (PySem.mem_of_lookup h))
  · have hi : i < vs.length := by
      unfold start at h2
      by_cases hi : i < vs.length
      · exact hi
      · rw [List.getElem?_append_right (by simpa using hi)] at h2
        rw [List.getElem?_replicate] at h2
        split at h2 <;> cases h2
    have ha : vs[i]? = some v := by
      unfold start at h2
      rw [List.getElem?_append_left (by simpa using hi), List.getElem?_map] at h2
      cases e : vs[i]? with
      | none => rw [e] at h2; cases h2
      | some a => rw [e] at h2; cases h2; rfl
    obtain ⟨u, hu, rv⟩ := r.get ha
    have hp : ps[i]? = some y := by
      rw [← S.pre, List.getElem?_take_of_lt (by omega)]; exact h1
    have ndP : ps.Nodup := by rw [← S.pre]; exact S.nd.sublist (List.take_sublist _ _)
    refine ⟨u, rv, ?_⟩
    rcases S.par y (List.mem_of_getElem? hp) with k | k
    · exact .inl ⟨k, bindL_get ndP hp hu k⟩
    · obtain ⟨c, e⟩ := cell_has (n := s.heap.objs.size + 1) k
      refine .inr ⟨.inl k, c, e, ?_⟩
      have q := x.cell y c e
      rw [bindC_get ndP hp hu (by show scope.names.lookup y ≠ _; rw [k]; decide)] at q
      exact q
  · exact e0.hok.fresh (Nat.le_of_lt (x.above y c (PySem.mem_of_lookup h)))
  · unfold start
    show _ = N.length
    rw [List.length_append, List.length_map, List.length_replicate]
    omega
/-- THE RULE: a def (or a method) of the text, by its body. The body's reading t is chosen for each entry; it is run at the parameters' values -/
theorem fn_of {CX : CXT} {P : Program} {w : World} {K : PySem.W.Frag} {mg : Str → Option Value} {base : Heap} {k : Nat} {f : Addr} {name qual : Str} {params : Arguments} {body : List Stmt} {scope : Scope} {dV kV doc pm cdv ct oc : Value} {an od : Option Addr}
    {osl : Array (Option Value)} {N ps : List Str} {sp : Sp} (lk : K.lookup f = some ⟨oc, od, .func (PySem.W.fnOf name qual params body scope dV kV doc pm an cdv ct), osl⟩) (hcd : PySem.W.codeIn K cdv qual = true) (S : FnScope N ps scope)
    (len : ∀ vs H Q E, sp vs H Q E → vs.length = ps.length)
    (hbody : ∀ (A : Around) (outer : List Env) (s : Shared) (H : Hp) (vs : List V) (Q : VK) (E : XK), Room k (A.deeper (envOfC qual scope s.heap.objs.size f cdv)) → sp vs H Q E →
      ∃ t, PSs (cxOf CX P w K mg base N qual scope f cdv A outer s H E) body t ∧ t { nx := fun _ H' => Q .non H', rt := Q } (start N vs) H) :
    FnOk P w K mg base CX (k + 1) f (PySem.W.fnOf name qual params body scope dV kV doc pm an cdv ct) ps sp := by
  refine ⟨len, fun A outer s H args us vs Q E hr e0 hb r hsp => ?_⟩
  have hl := len _ _ _ _ hsp
  have KX : K.In s.heap := e0.mod.kin.keeps fun b o e => (e0.bs b o e).1
  have lim : s.heap.NoLimit := e0.mod.nolimit.keeps fun b o e => (e0.bs b o e).1
  have hkind : ∀ y ∈ ps.zip us, scope.names.lookup y.1 = some .local ∨ (scope.names.lookup y.1 = some .cell ∧ ((cellsFrom (s.heap.objs.size + 1) scope.names []).lookup y.1).isSome = true) := fun ⟨n, v⟩ hy => by
    rcases S.par n (List.of_mem_zip hy).1 with q | q
    · exact .inl q
    · exact .inr ⟨q, PySem.W.cellsFrom_some _ _ _ (.inl q)⟩
  refine codeAny_call_function hr.depth (KX _ _ lk) rfl S.co S.gen rfl (PySem.W.codeRec_of KX hcd) (hb _ _ _ _ ?_)
  refine wpAny_newFunctionEnv_cells S.kind hkind fun env he s1 x => ?_
  subst he
  refine ⟨lim.keeps x.toInCall.keep, codeAny_func ?_⟩
  obtain ⟨t, ht, hq⟩ := hbody A outer s H vs Q E (hr.deeper _) hsp
  have I : Inv (cxOf CX P w K mg base N qual scope f cdv A outer s H E) [] (start N vs) H s1 := inv_start S hr.hd e0 hl r x
  refine wpAny_mono (ht [] s1 (start N vs) H _ I hq) (fun fl s' hs => ?_) fun e s' hs => hs
  have fin : ∀ {σ' : St} {H' : Hp} {v : V} {u : Value}, Inv (cxOf CX P w K mg base N qual scope f cdv A outer s H E) [] σ' H' s' → RelV v u → Q v H' → CE outer P w H s Q u s' :=
    fun {σ' H' v u} J rv q => ⟨v, H', J.os, J.bare, J.base, J.hok, rv, q⟩
  cases fl with
  | ret u =>
    obtain ⟨v, σ', H', J, rv, q⟩ := hs
    exact fin J rv q
  | next =>
    obtain ⟨σ', H', J, q⟩ := hs
    exact fin (v := V.non) (u := Value.none) J rfl q
  | brk =>
    obtain ⟨_, _, _, q⟩ := hs
    exact False.elim q
  | cont =>
    obtain ⟨_, _, _, q⟩ := hs
    exact False.elim q
end L2
namespace L2
open PySem PySem.Spec PyProof.Rows
section
variable {X : Cx} {x : Str} {p pos : Pos} {e : Expr} {es : List Expr} {t : TA} {id T : String} {r : List V → Hp → VK → Prop}
def tCB (r : List V → Hp → VK → Prop) (t : TA) : TE := fun σ H Q => t σ H fun vs H1 => r vs H1 Q
/-- f(e, ..), f a built-in function -/
theorem pe_callB (hc : CallR X (.builtin id) r) (hg : Gl X x) (hm : X.mg x = none) (hv : bootBuiltins x = some (.builtin id)) (ha : PA X (e :: es) t) (hn : x ≠ "__name__" := by decide) (hdb : (x == ("__debug__" : Str)) = false := by decide)
    (he : starEach (e :: es) X.env = (false, eval e X.env) :: starEach es X.env := by rfl) (hpl : (backTo pos (starEach es X.env)).any (·.1) = false := by rfl) : PE X (.Call (.Name x p) (e :: es) [] pos) (tCB r t) := by
  intro pins s σ H Q I h
  refine wpAny_Call_Name_kw (ld_blt I hg hm hv ?_ hn hdb)
  exact PyProof.Rows.callWith_builtin1 (thn (ha pos pins s σ H _ I h) fun us s1 ⟨vs, H1, I1, r1, q1⟩ => hc pins s1 σ H1 vs us Q I1 r1 q1) he hpl
/-- T(e, ..), T a built-in type -/
theorem pe_callTy (hc : CallR X (.type T) r) (hg : Gl X x) (hm : X.mg x = none) (hv : bootBuiltins x = some (.type T)) (ha : PA X (e :: es) t) (hn : x ≠ "__name__" := by decide) (hdb : (x == ("__debug__" : Str)) = false := by decide)
    (he : starEach (e :: es) X.env = (false, eval e X.env) :: starEach es X.env := by rfl) (hpl : (backTo pos (starEach es X.env)).any (·.1) = false := by rfl) : PE X (.Call (.Name x p) (e :: es) [] pos) (tCB r t) := by
  intro pins s σ H Q I h
  refine wpAny_Call_Name_kw (ld_blt I hg hm hv ?_ hn hdb)
  exact PyProof.Rows.callWith_type1 (thn (ha pos pins s σ H _ I h) fun us s1 ⟨vs, H1, I1, r1, q1⟩ => hc pins s1 σ H1 vs us Q I1 r1 q1) he hpl
end
end L2
namespace HT
open PySem PyProof.Rows
section
open PySem.SeqAt
open PySem.AutoSeq1 (wpAny_loadPart')
open PySem.MeetsSeq PySem.MeetsSeq2 PySem.MeetsSeq3
end
section
variable {prog : Program} {w : World} {A : Around} {E : Value → Shared → Prop} {s : Shared}
/-! ### t[a:b], not the whole -/
/-- a slice's bound as a place among n (d where it is left out) -/
def sIx (n d : Nat) : Option Int → Nat
  | none => d
  | some v => if v < 0 then (v + (n : Int)).toNat else min v.toNat n
end
end HT
namespace L2
open PySem PySem.Spec PyProof.Rows
/-! ### the parts of a slice -/
abbrev TO := St → Hp → (Option Int → Hp → Prop) → Prop
/-- a slice's part (left out, or an int) -/
def PO (X : Cx) (e : Option Expr) (t : TO) : Prop :=
  ∀ (pins : List (Addr × Obj)) (s : Shared) (σ : St) (H : Hp) (Q : Option Int → Hp → Prop), Inv X pins σ H s → t σ H Q →
    wpAny (model X.prog X.w) X.A (evalPart e X.env) (fun u s' => ∃ o H', Inv X pins σ H' s' ∧ IsPart u o ∧ Q o H') X.xe s
def tNoPart : TO := fun _ H Q => Q none H
def tPart (t : TE) : TO := fun σ H Q => t σ H fun x H1 => ∃ i, x = .int i ∧ Q (some i) H1
section
variable {X : Cx} {e : Expr} {te : TE} {lo hi : Option Expr} {tl th : TO} {pos p2 : Pos}
theorem po_none : PO X none tNoPart := by
  intro pins s σ H Q I h
  rw [evalPart_none]
  exact wpAny_pure ⟨none, H, I, .none, h⟩
theorem po_some (h : PE X e te) : PO X (some e) (tPart te) := by
  intro pins s σ H Q I hw
  rw [evalPart_some]
  refine thn (h pins s σ H _ I hw) fun u s1 ⟨x, H1, I1, r1, q1⟩ => ?_
  obtain ⟨i, rfl, q⟩ := q1
  obtain ⟨t, rfl⟩ := r1
  exact ⟨some i, H1, I1, .int i t, q⟩
/-- what a slice of a value is, by values: the slice object stands at sl -/
def SlR (X : Cx) (r : V → Option Int → Option Int → Hp → VK → Prop) : Prop :=
  ∀ (pins : List (Addr × Obj)) (s : Shared) (σ : St) (H : Hp) (x : V) (v vl vu : Value) (lo hi : Option Int) (sl : Addr) (Q : VK), Inv X pins σ H s → RelV x v → s.heap.IsSliceOf sl vl vu .none → IsPart vl lo → IsPart vu hi → r x lo hi H Q →
    ∃ T id, typeLookup (.type T) "__getitem__" = pure (some (.builtin id)) ∧ s.TypeIs v T ∧ wpAny (model X.prog X.w) X.A (getItem v (.ref sl)) (EP X pins σ Q) X.xe s
def tSl (r : V → Option Int → Option Int → Hp → VK → Prop) (te : TE) (tl th : TO) : TE := fun σ H Q => te σ H fun x H1 => tl σ H1 fun l H2 => th σ H2 fun u H3 => r x l u H3 Q
/-- a[lo:hi], any a -/
theorem pe_slice {r : V → Option Int → Option Int → Hp → VK → Prop} (hr : SlR X r) (he : PE X e te) (hl : PO X lo tl) (hu : PO X hi th) : PE X (.Subscript e (.Slice lo hi none p2) pos) (tSl r te tl th) := by
  intro pins s σ H Q I h
  refine Subscript_ (thn (he pins s σ H _ I h) fun v s1 ⟨x, H1, I1, r1, q1⟩ => ?_)
  refine wpAny_Slice (thn (hl pins s1 σ H1 _ I1 q1) fun vl s2 ⟨l, H2, I2, pl, q2⟩ => thn (hu pins s2 σ H2 _ I2 q2) fun vu s3 ⟨u, H3, I3, pu, q3⟩ => ?_)
  rw [evalPart_none]
  refine wpAny_pure ?_
  have I4 : Inv X pins σ H3 { s3 with heap := s3.heap.push { cls := .type "slice", data := .fields #[vl, vu, .none] } } := I3.kept (t' := s3.toks) fun b ob q => Heap.get?_push_of_some _ q
  obtain ⟨T, id, hT, ht, hg⟩ := hr pins { s3 with heap := s3.heap.push { cls := .type "slice", data := .fields #[vl, vu, .none] } } σ H3 x v vl vu l u s3.heap.objs.size Q I4 r1 (Heap.IsSliceOf.new ..) pl pu q3
  show wpAny (model X.prog X.w) X.A (subscriptTail e (.Slice lo hi none p2) v (.ref s3.heap.objs.size)) (EP X pins σ Q) X.xe { s3 with heap := s3.heap.push { cls := .type "slice", data := .fields #[vl, vu, .none] } }
  exact tail_any (ops := [.ref s3.heap.objs.size, v]) ht hT hg (by with_unfolding_all rfl)
/-- the items of xs[lo:hi] -/
def cutV (xs : List V) (lo hi : Option Int) : List V := (xs.drop (HT.sIx xs.length 0 lo)).take (HT.sIx xs.length xs.length hi - HT.sIx xs.length 0 lo)
theorem cutV_length (xs : List V) (lo hi : Option Int) : (cutV xs lo hi).length ≤ xs.length := by
  unfold cutV
  rw [List.length_take, List.length_drop]
  omega
end
end L2
namespace L2
open PySem PySem.Spec PyProof.Rows
/-! ### places -/
/-- the place that an index of any sign means -/
def ixN (n : Nat) (i : Int) : Option Nat := if 0 ≤ i then (if i < n then some i.toNat else none) else if -(n : Int) ≤ i then some (i + n).toNat else none
def atI {α : Type} (xs : List α) (i : Int) : Option α := (ixN xs.length i).bind fun j => xs[j]?
theorem ixN_seq {n : Nat} {i : Int} {j : Nat} (h : ixN n i = some j) : seqIndex? i n = some j ∧ j < n ∧ -(n : Int) ≤ i ∧ i < n := by
  unfold ixN at h
  by_cases h0 : 0 ≤ i
  · rw [if_pos h0] at h
    by_cases h1 : i < n
    · rw [if_pos h1] at h
      have e : i.toNat = j := Option.some.inj h
      exact ⟨by rw [seqIndex_of h0 h1, e], by omega, by omega, h1⟩
    · rw [if_neg h1] at h; cases h
  · rw [if_neg h0] at h
    by_cases h1 : -(n : Int) ≤ i
    · rw [if_pos h1] at h
      have e : (i + n).toNat = j := Option.some.inj h
      exact ⟨by rw [seqIndex_neg (by omega) h1, e], by omega, h1, by omega⟩
    · rw [if_neg h1] at h; cases h
theorem atI_get {α : Type} {xs : List α} {i : Int} {v : α} (h : atI xs i = some v) : ∃ j, seqIndex? i xs.length = some j ∧ xs[j]? = some v ∧ j < xs.length ∧ -(xs.length : Int) ≤ i ∧ i < xs.length := by
  unfold atI at h
  cases e : ixN xs.length i with
  | none => rw [e] at h; cases h
  | some j =>
    rw [e] at h
    obtain ⟨h1, h2, h3, h4⟩ := ixN_seq e
    exact ⟨j, h1, h, h2, h3, h4⟩
theorem atI_nat {α : Type} {xs : List α} {j : Nat} {v : α} (h : xs[j]? = some v) : atI xs (j : Int) = some v := by
  have hj : j < xs.length := (List.getElem?_eq_some_iff.mp h).1
  have e : ixN xs.length (j : Int) = some j := by
    unfold ixN
    rw [if_pos (by omega), if_pos (by omega)]; simp
  unfold atI; rw [e]; exact h
theorem atI_last {α : Type} (xs : List α) (v : α) : atI (xs ++ [v]) (-1) = some v := by
  have hl : (xs ++ [v]).length = xs.length + 1 := by simp
  have e : ixN (xs ++ [v]).length (-1) = some xs.length := by
    unfold ixN
    rw [hl, if_neg (by decide), if_pos (by omega)]
    congr 1
    omega
  unfold atI
  rw [e]
  show (xs ++ [v])[xs.length]? = some v
  simp
/-! ### what may be subscripted -/
/-- what stands as an index of a plain subscript -/
def PlainIx (b : Expr) : Prop := ∀ o i, subscripted b false o i = operate [o, i] (getItem o i)
/-- a subscript by values -/
def IxR (X : Cx) (r : R2) : Prop :=
  ∀ (value slice : Expr) (pins : List (Addr × Obj)) (s : Shared) (σ : St) (H : Hp) (x y : V) (v u : Value) (Q : VK), Inv X pins σ H s → RelV x v → RelV y u → r x y H Q →
    subscripted slice false v u = operate [v, u] (getItem v u) → wpAny (model X.prog X.w) X.A (subscriptTail value slice v u) (EP X pins σ Q) X.xe s
/-- a call of a builtin's method by values: the receiver, the arguments -/
def MtR (X : Cx) (id : String) (r : V → List V → Hp → VK → Prop) : Prop :=
  ∀ (pins : List (Addr × Obj)) (s : Shared) (σ : St) (H : Hp) (x : V) (xs : List V) (v : Value) (us : List Value) (Q : VK), Inv X pins σ H s → RelV x v → Vals xs us → r x xs H Q →
    wpAny (model X.prog X.w) X.A (call (.builtin id) (v :: us)) (EP X pins σ Q) X.xe s
section
variable {X : Cx} {a b : Expr} {ta tb : TE} {pos : Pos}
/-- a[b] -/
theorem pe_ix {r : R2} (hr : IxR X r) (ha : PE X a ta) (hb : PE X b tb) (hs : PlainIx b) : PE X (.Subscript a b pos) (tOp r ta tb) := by
  intro pins s σ H Q I h
  exact Subscript_ (binT ha hb I h fun v u s2 x y H2 I2 rx ry q => hr a b pins s2 σ H2 x y v u Q I2 rx ry q (hs _ _))
def rIxL (K : PySem.W.Frag) : R2 := fun x y H Q => ∃ p xs i v, x = .ref p ∧ y = .int i ∧ SqL K H p xs ∧ atI xs i = some v ∧ Q v H
def rIxT (K : PySem.W.Frag) : R2 := fun x y H Q => ∃ p xs i v, x = .ref p ∧ y = .int i ∧ SqT K H p xs ∧ atI xs i = some v ∧ Q v H
def rIxS : R2 := fun x y H Q => ∃ z i c, x = .str z ∧ y = .int i ∧ z.length ≤ sizeLine ∧ atI z.cps.toList i = some c ∧ Q (.str ⟨#[c]⟩) H
theorem ix_list : IxR X (rIxL X.K) := by
  intro value slice pins s σ H x y v u Q I rx ry h hs
  obtain ⟨p, xs, i, z, rfl, rfl, hq, he, q⟩ := h
  cases rx
  obtain ⟨t, rfl⟩ := ry
  obtain ⟨its, r, pl, hz⟩ := I.list hq
  obtain ⟨j, h1, h2, h3, h4, h5⟩ := atI_get he
  obtain ⟨w, ew, rw'⟩ := r.get h2
  have hl := r.length
  have hn := line63
  have fin : EP X pins σ Q w s := ⟨z, H, I, rw', q⟩
  by_cases h0 : 0 ≤ i
  · have hj : i.toNat = j := by
      rw [seqIndex_of h0 h5] at h1
      exact Option.some.inj h1
    exact item_listR pl.isList h0 (by omega) (by rw [hj]; simpa using ew) fin hs
  · have hj : (i + (its.toArray.size : Int)).toNat = j := by
      rw [seqIndex_neg (by omega) h4] at h1
      rw [List.size_toArray, ← hl]
      exact Option.some.inj h1
    exact subscriptTail_builtinR (x := w) pl.isList.typeIs slot_list_getitem.lookup
      (wpAny_getItem_list_neg (Q := fun r s' => r = w ∧ EP X pins σ Q r s') pl.isList (by omega) (by rw [List.size_toArray] <;> omega) (by omega) (by rw [hj]; simpa using ew) ⟨rfl, fin⟩) hs
theorem ix_tup : IxR X (rIxT X.K) := by
  intro value slice pins s σ H x y v u Q I rx ry h hs
  obtain ⟨p, xs, i, z, rfl, rfl, hq, he, q⟩ := h
  cases rx
  obtain ⟨t, rfl⟩ := ry
  obtain ⟨its, r, pl, hz⟩ := I.tuple hq
  obtain ⟨j, h1, h2, h3, h4, h5⟩ := atI_get he
  obtain ⟨w, ew, rw'⟩ := r.get h2
  have hl := r.length
  have hn := line63
  have fin : EP X pins σ Q w s := ⟨z, H, I, rw', q⟩
  exact subscriptTail_builtinR (x := w) pl.typeIs slot_tuple_getitem.lookup
    (getItem_tuple (j := j) (Q := fun r s' => r = w ∧ EP X pins σ Q r s') pl (by omega) (by omega) (by rw [List.size_toArray, ← hl]; exact h1) (by simpa using ew) ⟨rfl, fin⟩) hs
theorem ix_str : IxR X rIxS := by
  intro value slice pins s σ H x y v u Q I rx ry h hs
  obtain ⟨z, i, c, rfl, rfl, hz, he, q⟩ := h
  obtain ⟨t, rfl⟩ := rx
  obtain ⟨t', rfl⟩ := ry
  obtain ⟨j, h1, h2, h3, h4, h5⟩ := atI_get he
  have hl : z.cps.toList.length = z.length := by simp [Str.length]
  rw [hl] at h1 h4 h5
  have hn := line63
  exact tail_any (typeIs_str s z t) slot_str_getitem.lookup (getItem_str (c := c) (by
    have e1 : decide (i < -(2 ^ 63 : Int)) = false := decide_eq_false (by omega)
    have e2 : decide (i ≥ 2 ^ 63) = false := decide_eq_false (by omega)
    rw [e1, e2, Bool.or_false]) (by rw [h1]; simpa using h2) ⟨.str ⟨#[c]⟩, H, I.tok _, ⟨_, rfl⟩, q⟩) hs
/-! ### slices -/
theorem slice_bounds (lo hi : Option Int) (n : Nat) : (sliceBounds lo hi none n).1 = ((HT.sIx n 0 lo : Nat) : Int) ∧ (sliceBounds lo hi none n).2.1 = ((HT.sIx n n hi : Nat) : Int) ∧ (sliceBounds lo hi none n).2.2 = 1 := by
  refine ⟨?_, ?_, rfl⟩
  · cases lo with
    | none => simp [sliceBounds, HT.sIx]
    | some i =>
      simp only [sliceBounds, HT.sIx, Option.getD_none, show (1 : Int) > 0 by decide, if_true]
      by_cases h : i < 0
      · simp only [h, if_true] <;> omega
      · simp only [h, if_false] <;> omega
  · cases hi with
    | none => simp [sliceBounds, HT.sIx]
    | some i =>
      simp only [sliceBounds, HT.sIx, Option.getD_none, show (1 : Int) > 0 by decide, if_true]
      by_cases h : i < 0
      · simp only [h, if_true] <;> omega
      · simp only [h, if_false] <;> omega
theorem slicePick_cut (its : List Value) (lo hi : Option Int) : slicePick its.toArray lo hi none = ((its.drop (HT.sIx its.length 0 lo)).take (HT.sIx its.length its.length hi - HT.sIx its.length 0 lo)).toArray := by
  obtain ⟨h1, h2, h3⟩ := slice_bounds lo hi its.toArray.size
  unfold slicePick
  rw [h1, h2, h3]
  simp only [sliceRange_one, pick_run, List.size_toArray] <;> rfl
/-- xs[lo:hi] of a list: a new list -/
def rSlL (K : PySem.W.Frag) : V → Option Int → Option Int → Hp → VK → Prop := fun x lo hi H Q => ∃ a xs, x = .ref a ∧ SqL K H a xs ∧ ∀ p, H p = none → Q (.ref p) (upd H p (.lst (cutV xs lo hi)))
theorem sl_list : SlR X (rSlL X.K) := by
  intro pins s σ H x v vl vu lo hi sl Q I rx hs pl pu h
  obtain ⟨a, xs, rfl, hx, q⟩ := h
  cases rx
  obtain ⟨its, r, ht, hz⟩ := I.list hx
  have hlen := r.length
  refine ⟨"list", _, slot_list_getitem.lookup, ht.isList.typeIs, ?_⟩
  refine wpAny_getItem_list_slice ht.isList hs pl pu .none (by simp) ?_ (by rw [List.size_toArray] <;> omega)
  rw [slicePick_cut, ← hlen]
  refine ⟨.ref s.heap.objs.size, _, I.laid (t' := s.toks) (o := .lst (cutV xs lo hi)) (fun b ob q => Heap.get?_push_of_some _ q) (Nat.le_refl _) ?_, rfl, q _ (I.hok.fresh (Nat.le_refl _))⟩
  exact ⟨Nat.le_trans (cutV_length xs lo hi) hz, _, 0, (r.drop (HT.sIx xs.length 0 lo)).take (HT.sIx xs.length xs.length hi - HT.sIx xs.length 0 lo), Heap.get?_push_size _ rfl⟩
/-! ### in, not in: flat items -/
def flatV : V → Bool
  | .non => true
  | .bl _ => true
  | .int _ => true
  | .str _ => true
  | _ => false
/-- == of flat values -/
def eqV : V → V → Bool
  | .non, .non => true
  | .bl a, .bl b => a == b
  | .bl a, .int b => (if a then 1 else 0) == b
  | .int a, .bl b => a == (if b then 1 else 0)
  | .int a, .int b => a == b
  | .str a, .str b => a == b
  | _, _ => false
theorem eqAt_V {A : Around} {s : Shared} {y x : V} {u v : Value} (ry : RelV y u) (rx : RelV x v) (fy : flatV y = true) (fx : flatV x = true) : SeqAt.EqAt A s u v (eqV y x) := by
  cases y with
  | non =>
    cases ry
    cases x with
    | non => cases rx; exact SeqAt.EqAt.same _
    | bl b => cases rx; exact SeqAt.EqAt.none_bool b
    | int b => obtain ⟨t, rfl⟩ := rx; exact SeqAt.EqAt.none_int b t
    | str b => obtain ⟨t, rfl⟩ := rx; exact SeqAt.EqAt.none_str b t
    | _ => exact absurd (show false = true from fx) Bool.false_ne_true
  | bl a =>
    cases ry
    cases x with
    | non => cases rx; exact SeqAt.EqAt.bool_none a
    | bl b => cases rx; exact SeqAt.EqAt.bool_bool a b
    | int b => obtain ⟨t, rfl⟩ := rx; exact SeqAt.EqAt.bool_int a b t
    | str b => obtain ⟨t, rfl⟩ := rx; exact SeqAt.EqAt.bool_str a b t
    | _ => exact absurd (show false = true from fx) Bool.false_ne_true
  | int a =>
    obtain ⟨t', rfl⟩ := ry
    cases x with
    | non => cases rx; exact SeqAt.EqAt.int_none a t'
    | bl b => cases rx; exact SeqAt.EqAt.int_bool a t' b
    | int b => obtain ⟨t, rfl⟩ := rx; exact SeqAt.EqAt.int_int a t' b t
    | str b => obtain ⟨t, rfl⟩ := rx; exact SeqAt.EqAt.int_str a t' b t
    | _ => exact absurd (show false = true from fx) Bool.false_ne_true
  | str a =>
    obtain ⟨t', rfl⟩ := ry
    cases x with
    | non => cases rx; exact SeqAt.EqAt.str_none a t'
    | bl b => cases rx; exact SeqAt.EqAt.str_bool a t' b
    | int b => obtain ⟨t, rfl⟩ := rx; exact SeqAt.EqAt.str_int a t' b t
    | str b => obtain ⟨t, rfl⟩ := rx; exact SeqAt.EqAt.str_str a t' b t
    | _ => exact absurd (show false = true from fx) Bool.false_ne_true
  | _ => exact absurd (show false = true from fy) Bool.false_ne_true
/-- the items' answers, read off the values (a value's own answer does not lean on its token) -/
def eqU (x : V) (u : Value) : Bool := match u with
  | .none => eqV .non x
  | .bool b => eqV (.bl b) x
  | .int i _ => eqV (.int i) x
  | .str z _ => eqV (.str z) x
  | _ => false
theorem eqU_of {x y : V} {u : Value} (r : RelV y u) (f : flatV y = true) : eqU x u = eqV y x := by
  cases y with
  | non => cases r; rfl
  | bl b => cases r; rfl
  | int i => obtain ⟨t, rfl⟩ := r; rfl
  | str z => obtain ⟨t, rfl⟩ := r; rfl
  | _ => exact absurd (show false = true from f) Bool.false_ne_true
theorem any_eqU {x : V} : ∀ {xs : List V} {us : List Value}, Vals xs us → xs.all flatV = true → us.any (eqU x) = xs.any fun y => eqV y x
  | _, _, .nil, _ => rfl
  | y :: xs, u :: us, .cons r t, f => by
    rw [List.all_cons, Bool.and_eq_true] at f
    rw [List.any_cons, List.any_cons, eqU_of r f.1, any_eqU t f.2]
theorem mem_eqAt {A : Around} {s : Shared} {x : V} {v : Value} (rx : RelV x v) (fx : flatV x = true) : ∀ {xs : List V} {us : List Value}, Vals xs us → xs.all flatV = true → ∀ u ∈ us, SeqAt.EqAt A s u v (eqU x u)
  | _, _, .nil, _ => fun u hu => by cases hu
  | y :: xs, u :: us, .cons r t, f => fun u' hu => by
    rw [List.all_cons, Bool.and_eq_true] at f
    rcases List.mem_cons.mp hu with rfl | hu
    · rw [eqU_of r f.1]; exact eqAt_V r rx f.1 fx
    · exact mem_eqAt rx fx t f.2 u' hu
def inV (x : V) (xs : List V) : Bool := xs.any fun y => eqV y x
/-- x in a list or tuple of flat items -/
def rIn (K : PySem.W.Frag) (neg : Bool) : R2 := fun x y H Q => ∃ p xs, y = .ref p ∧ (SqL K H p xs ∨ SqT K H p xs) ∧ flatV x = true ∧ xs.all flatV = true ∧ Q (.bl (if neg then !inV x xs else inV x xs)) H
theorem op_in_seq : OpR X (compareOp .In) (rIn X.K false) := by
  intro pins s σ H x y v u Q I rx ry h
  obtain ⟨p, xs, rfl, hq, fx, fs, q⟩ := h
  cases ry
  rcases hq with hq | hq
  · obtain ⟨its, r, pl, hz⟩ := I.list hq
    refine SeqAt.in_listAt (eqU x) pl.isList (fun w hw => mem_eqAt rx fx r fs w (by simpa using hw)) ⟨.bl _, H, I, rfl, ?_⟩
    rw [show its.toArray.any (eqU x) = its.any (eqU x) by simp, any_eqU r fs]
    exact q
  · obtain ⟨its, r, pl, hz⟩ := I.tuple hq
    refine SeqAt.in_tupleAt (eqU x) pl (fun w hw => mem_eqAt rx fx r fs w (by simpa using hw)) ⟨.bl _, H, I, rfl, ?_⟩
    rw [show its.toArray.any (eqU x) = its.any (eqU x) by simp, any_eqU r fs]
    exact q
theorem op_notIn_str : OpR X (compareOp .NotIn) (fun x y H Q => ∃ i j, x = .str i ∧ y = .str j ∧ Q (.bl (!(!(Builtin.Str.occurrences j i 0 j.length 1).isEmpty))) H) := by
  intro pins s σ H x y v u Q I rx ry h
  obtain ⟨i, j, rfl, rfl, q⟩ := h
  obtain ⟨t, rfl⟩ := rx
  obtain ⟨t', rfl⟩ := ry
  exact notIn_str ⟨.bl _, H, I, rfl, q⟩
/-! ### len, list(x), tuple(x) of any list or tuple that is read -/
theorem call_len_seq : CallR X (.builtin "len") (fun xs H Q => ∃ p ys, xs = [.ref p] ∧ (SqL X.K H p ys ∨ SqT X.K H p ys) ∧ Q (.int ys.length) H) := by
  intro pins s σ H xs us Q I r h
  obtain ⟨p, ys, rfl, hq, q⟩ := h
  obtain ⟨u, rfl, rx⟩ := vals1 r
  cases rx
  have hn := line63
  rcases hq with hq | hq
  · obtain ⟨its, r', pl, hz⟩ := I.list hq
    have hlen := r'.length
    exact Calls.call_len_list pl.isList (by simp only [List.size_toArray] <;> omega) ⟨.int ys.length, H, I.tok _, ⟨s.toks + 1, by rw [List.size_toArray, hlen]⟩, q⟩
  · obtain ⟨its, r', pl, hz⟩ := I.tuple hq
    have hlen := r'.length
    exact len_tuple pl (by simp only [List.size_toArray] <;> omega) ⟨.int ys.length, H, I.tok _, ⟨s.toks + 1, by rw [List.size_toArray, hlen]⟩, q⟩
theorem call_len_str : CallR X (.builtin "len") (fun xs H Q => ∃ z, xs = [.str z] ∧ z.length ≤ sizeLine ∧ Q (.int z.length) H) := by
  intro pins s σ H xs us Q I r h
  obtain ⟨z, rfl, hz, q⟩ := h
  obtain ⟨u, rfl, t, rfl⟩ := vals1 r
  have hn := line63
  exact len_str (by omega) ⟨.int z.length, H, I.tok _, ⟨_, rfl⟩, q⟩
/-! ### the call of a builtin's method: o.m(..) -/
/-- the value is of that builtin type -/
def tyV (K : PySem.W.Frag) (T : String) (x : V) (H : Hp) : Prop := match x with
  | .str _ => T = "str"
  | .int _ => T = "int"
  | .ref p => (T = "list" ∧ ∃ xs, SqL K H p xs) ∨ (T = "tuple" ∧ ∃ o, K.lookup p = some o ∧ o.cls = .type "tuple" ∧ o.dict = none) ∨
      (T = "dict" ∧ ((∃ kvs, H p = some (.dK kvs)) ∨ ∃ kvs, H p = some (.dT kvs))) ∨ (T = "set" ∧ ∃ S n, H p = some (.set S n))
  | _ => False
theorem tyV_is {pins : List (Addr × Obj)} {σ : St} {H : Hp} {s : Shared} {T : String} {x : V} {v : Value} (I : Inv X pins σ H s) (r : RelV x v) (ty : tyV X.K T x H) :
    s.TypeIs v T ∧ ∀ a, v = .ref a → ∃ ob, s.heap.get? a = some ob ∧ ob.dict = none := by
  cases x with
  | str z =>
    obtain ⟨t, rfl⟩ := r
    cases (show T = "str" from ty)
    exact ⟨typeIs_str s z t, fun _ e => nomatch e⟩
  | int i =>
    obtain ⟨t, rfl⟩ := r
    cases (show T = "int" from ty)
    exact ⟨typeIs_int s i t, fun _ e => nomatch e⟩
  | ref p =>
    cases r
    rcases ty with ⟨rfl, xs, hq⟩ | ⟨rfl, o, hk, hc, hd⟩ | ⟨rfl, hk⟩ | ⟨rfl, S, n, hk⟩
    · obtain ⟨its, _, pl, _⟩ := I.list hq
      refine ⟨pl.isList.typeIs, fun a e => ?_⟩
      cases e
      obtain ⟨o, n, e, c, hd, _⟩ := pl
      exact ⟨o, e, hd⟩
    · refine ⟨⟨o, I.kIn p o hk, hc⟩, fun a e => ?_⟩
      cases e
      exact ⟨o, I.kIn _ o hk, hd⟩
    · have z : ∃ o, s.heap.get? p = some o ∧ o.ExactDict := by
        rcases hk with ⟨kvs, hk⟩ | ⟨kvs, hk⟩
        · obtain ⟨_, _, _, _, o, _, _, e, ex, _⟩ := I.hok p _ hk
          exact ⟨o, e, ex⟩
        · obtain ⟨_, _, _, _, o, _, _, e, ex, _⟩ := I.hok p _ hk
          exact ⟨o, e, ex⟩
      obtain ⟨o, e, ex⟩ := z
      refine ⟨⟨o, e, ex.1⟩, fun a e2 => ?_⟩
      cases e2
      exact ⟨o, e, ex.2.1⟩
    · obtain ⟨o, _, _, _, e, ex, _⟩ := I.hok p _ hk
      refine ⟨⟨o, e, ex.1⟩, fun a e2 => ?_⟩
      cases e2
      exact ⟨o, e, ex.2.1⟩
  | _ => exact False.elim ty
def tBM (K : PySem.W.Frag) (T : String) (r : V → List V → Hp → VK → Prop) (to : TE) (t : TA) : TE := fun σ H Q => to σ H fun x H1 => tyV K T x H1 ∧ t σ H1 fun xs H2 => r x xs H2 Q
variable {o e : Expr} {es : List Expr} {to : TE} {t : TA} {name : Str} {apos cpos : Pos} {T id : String} {r : V → List V → Hp → VK → Prop}
theorem pe_bm (pa : PlainAttrs T) (slot : Slot T name id) (hty : typeOf (.builtin id) = pure (.type "method_descriptor")) (hm : MtR X id r) (ho : PE X o to) (ha : PA X (e :: es) t)
    (hbase : attributeBase o name X.env (eval o X.env) = eval o X.env := by rfl)
    (hfew : ((backTo cpos (starEach (e :: es) X.env)).all (fun x => !x.1) && (backToKw cpos (keywordEach [] X.env)).all (fun x => x.1.isSome)
      && decide ((e :: es).length + ([] : List Keyword).length + (if ([] : List Keyword).isEmpty then 0 else 1) < 30)) = true := by rfl)
    (hline : (apos.endLine == cpos.line) = true := by rfl) (hs : starEach (e :: es) X.env = (false, eval e X.env) :: starEach es X.env := by rfl) (hplain : (backTo cpos (starEach es X.env)).any (·.1) = false := by rfl) :
    PE X (.Call (.Attribute o name apos) (e :: es) [] cpos) (tBM X.K T r to t) := by
  intro pins s σ H Q I h
  refine wpAny_Call_method_late hbase hfew hline rfl (thn (ho pins s σ H _ I h) fun v s1 ⟨x, H1, I1, r1, ty, q1⟩ => ?_)
  obtain ⟨h1, h2⟩ := tyV_is I1 r1 ty
  refine ⟨T, id, pa, slot, hty, h1, h2, ?_⟩
  have hA := ha cpos pins s1 σ H1 _ I1 q1
  rw [hs] at hA ⊢
  refine Calls.callWith_builtin (by show (false || (backTo cpos (starEach es X.env)).any (·.1)) = false; rw [hplain] <;> rfl) (Calls.evalArgs_plain ?_)
  exact thn hA fun us s2 ⟨vs, H2, I2, r2, q2⟩ => hm pins s2 σ H2 x vs v us Q I2 r1 r2 q2
/- xs.append(e), list.index on a module's tuple .. are MtR facts of 06m -/
end
end L2
namespace L2
open PySem PySem.Spec PyProof.Rows
def MtM (X : Cx) (id : String) (r : V → List V → Hp → VK → Prop) : Prop :=
  ∀ (pins : List (Addr × Obj)) (s : Shared) (σ : St) (H : Hp) (x : V) (xs : List V) (v : Value) (us : List Value) (Q : VK), Inv X pins σ H s → RelV x v → Vals xs us → r x xs H Q →
    wpAny (model X.prog X.w) X.A (call (.builtin id) (v :: us)) (EP X pins σ Q) X.xe s
/-! ### lists of values -/
theorem Vals.one : ∀ {x : V} {us : List Value}, Vals [x] us → ∃ u, us = [u] ∧ RelV x u
  | _, _, .cons r .nil => ⟨_, rfl, r⟩
theorem Vals.two : ∀ {x y : V} {us : List Value}, Vals [x, y] us → ∃ u v, us = [u, v] ∧ RelV x u ∧ RelV y v
  | _, _, _, .cons r (.cons q .nil) => ⟨_, _, rfl, r, q⟩
section
variable {X : Cx} {pins : List (Addr × Obj)} {σ : St} {H : Hp} {s : Shared} {l b : Addr} {xs ys zs : List V}
/-! ### the two steps: a tracked list is rewritten, a new list is laid -/
theorem Inv.lset {its its' : List Value} {n : Nat} {f : Array Value → Array Value} {t' : Nat} (I : Inv X pins σ H s) (hH : H l = some (.lst xs))
    (e : s.heap.get? l = some { cls := .type "list", data := .seq its.toArray n }) (hf : f its.toArray = its'.toArray) (hv : Vals ys its') (hz : ys.length ≤ sizeLine) :
    Inv X pins σ (upd H l (.lst ys)) { s with heap := s.heap.update l (Obj.mapSeq f), toks := t' } := by
  have q := PySem.IsL.update e f
  rw [hf] at q
  refine I.write (x := l) (e := l) (by rw [hH]; exact trivial) (.inl rfl) (fun b' u hb hu => (Heap.get?_update_other s.heap (Obj.mapSeq f) (Ne.symm hb)).trans hu) ⟨_, q⟩ ?_
  exact ⟨hz, its', _, hv, q⟩
theorem Inv.lnew {its : List Value} {t' : Nat} (I : Inv X pins σ H s) (hv : Vals ys its) (hz : ys.length ≤ sizeLine) :
    Inv X pins σ (upd H s.heap.objs.size (.lst ys)) { s with heap := s.heap.push { cls := .type "list", data := .seq its.toArray }, toks := t' } :=
  I.laid (fun _ _ q => Heap.get?_push_of_some _ q) (Nat.le_refl _) ⟨hz, its, 0, hv, Heap.get?_push_size _ rfl⟩
theorem Inv.fresh (I : Inv X pins σ H s) : H s.heap.objs.size = none := I.hok.fresh (Nat.le_refl _)
theorem Inv.lstM (I : Inv X pins σ H s) (hH : H l = some (.lst xs)) : xs.length ≤ sizeLine ∧ ∃ (its : List Value) (n : Nat), Vals xs its ∧ xs.length = its.length ∧ s.heap.get? l = some { cls := .type "list", data := .seq its.toArray n } := by
  obtain ⟨z, its, n, r, e⟩ := I.hok l _ hH
  exact ⟨z, its, n, r, r.length, e⟩
end
section
variable {X : Cx}
/-! ### methods -/
def rAppend : V → List V → Hp → VK → Prop := fun x vs H Q => ∃ l xs y, x = .ref l ∧ vs = [y] ∧ H l = some (.lst xs) ∧ xs.length < sizeLine ∧ Q .non (upd H l (.lst (xs ++ [y])))
theorem mt_append : MtM X "list.append" rAppend := by
  intro pins s σ H x vs v us Q I rx rv h
  obtain ⟨l, xs, y, rfl, rfl, hH, hz, q⟩ := h
  cases rx
  obtain ⟨u, rfl, ru⟩ := rv.one
  obtain ⟨z, its, n, r, hl, e⟩ := I.lstM hH
  refine call_meets F.slot_list_append ⟨_, e, rfl⟩ F.entry_list_append (F.args_list_append_2 _ _) (PySem.list_append l its.toArray n u (by rw [List.size_toArray]; omega)) ⟨e, ?_⟩
  refine ⟨.non, _, I.lset (its' := its ++ [u]) hH e (by simp) (r.append (.cons ru .nil)) ?_, rfl, q⟩
  rw [List.length_append, List.length_singleton]
  omega
/-! ### list + list, list += list, list * int -/
def rCat : R2 := fun x y H Q => ∃ l b xs zs, x = .ref l ∧ y = .ref b ∧ H l = some (.lst xs) ∧ H b = some (.lst zs) ∧ xs.length + zs.length ≤ sizeLine ∧ ∀ p, H p = none → Q (.ref p) (upd H p (.lst (xs ++ zs)))
theorem op_cat : OpR X (binaryOp .Add) rCat := by
  intro pins s σ H x y v u Q I rx ry h
  obtain ⟨l, b, xs, zs, rfl, rfl, hH, hB, hz, q⟩ := h
  cases rx
  cases ry
  obtain ⟨z, its, n, r, hl, e⟩ := I.lstM hH
  obtain ⟨z2, its2, n2, r2, hl2, e2⟩ := I.lstM hB
  refine PySem.P.add_list e e2 ?_ (by rw [List.size_toArray, List.size_toArray]; omega)
  have ea : its.toArray ++ its2.toArray = (its ++ its2).toArray := by simp
  rw [ea]
  exact ⟨.ref _, _, I.lnew (t' := s.toks) (r.append r2) (by rw [List.length_append]; omega), rfl, q _ I.fresh⟩
end
/-! ### xs[a:b] = ys -/
section
variable {prog : Program} {w : World} {A : Around} {E : Value → Shared → Prop} {s : Shared}
end
section
variable {X : Cx}
end
end L2
namespace Att
open PySem PySem.W PySem.Calls PyProof.Rows
/-! ### the script -/
theorem ints_of_wellAll {P : Params} {h : Heap} : ∀ (ns : List Int) (vs : List Value), WellAll P h vs (ns.map WData.int) → IntsAre vs ns := by
  intro ns
  induction ns with
  | nil =>
    intro vs w
    rw [List.map_nil] at w
    cases w
    exact .nil
  | cons n ns ih =>
    intro vs w
    rw [List.map_cons] at w
    cases w with
    | cons a b =>
      cases a
      exact .cons _ _ (ih _ b)
theorem script_of {l : OpenLaw} {n : Nat} (hn : l.most = some n) {P : Params} {h : Heap} {args : List WData} {vals : List Value}
    (hpre : l.row.toRowW.claim.pre args = true) (hwl : WellAll P h vals args) :
    ∃ a vs ns, vals = [Value.ref a] ∧ args = [WData.list (ns.map WData.int)] ∧ h.get? a = some { cls := .type "list", data := .seq vs.toArray } ∧ IntsAre vs ns ∧ ns.length ≤ n := by
  have hsh : WShape.hasAll [] args [.list .int] = true := (pre_splitW hpre).1
  have hc : l.pre.holds [] { args := args } = true := (pre_splitW hpre).2
  obtain ⟨d, r, rfl, h1, h2⟩ := hasAllW_cons hsh
  obtain rfl := hasAllW_nil h2
  obtain ⟨xs, rfl, h3⟩ := hasW_list h1
  obtain ⟨ns, rfl⟩ := items_int h3
  have hlen : ns.length ≤ n := by
    unfold OpenLaw.pre at hc
    have h4 : (WTm.not (.lt (.lit (.int (n : Int))) (.len (.arg 0)))).holds [] { args := [.list (ns.map .int)] } = true := by
      have h4 := (holds_andW hc).1
      rw [hn] at h4
      exact h4
    have h5 := condW_of h4 (w_not (w_lt w_lit (w_len_list (w_arg rfl))))
    rw [List.length_map] at h5
    refine Nat.le_of_not_lt fun q => ?_
    have q' : (n : Int) < ((ns.length : Nat) : Int) := by omega
    first
      | (rw [decide_eq_true q'] at h5; exact absurd h5 (by decide))
      | (simp at h5; omega)
  cases hwl with
  | cons w1 w2 =>
    cases w2
    cases w1 with
    | list ho hall => exact ⟨_, _, ns, rfl, rfl, ho, ints_of_wellAll ns _ hall, hlen⟩
theorem post_true (l : OpenLaw) (args : List WData) : l.row.toRowW.claim.post args (.bool true) args = true :=
  postW_of (r := l.row.toRowW) (X := (true == true))
    (show WShape.has [] (.bool true) .bool = true by first | rfl | decide | simp [WShape.has, WShape.arms, WShape.armsAll])
    (show (WTm.eq .res (.lit (.bool true))).value [] { args := args, res := some (.bool true), after := args } = some (.bool (true == true)) from w_eq_bool (w_res rfl) w_lit) rfl
/-! ### rules over ANY heap (no ledger) from facts about the written part K: the library's own take a ledger (News) for what they write -/
section
variable {prog : Program} {w : World} {A : Around} {E : Value → Shared → Prop} {s : Shared} {K : Frag}
end
end Att
namespace L2
open PySem PySem.Spec PyProof.Rows
theorem vals_ints : ∀ {vs : List Value} {ns : List Int}, IntsAre vs ns → Vals (ns.map V.int) vs
  | _, _, .nil => .nil
  | _, _, .cons n t h => .cons ⟨t, rfl⟩ (vals_ints h)
/-- nothing is tracked but the script, known to the object (or it is an object of the module) -/
def Only (H : Hp) : Prop := ∀ b, H b = none ∨ ∃ o xs, H b = some (.frz o (.lst xs))
end L2
namespace L2
open PySem PySem.Spec PyProof.Rows
end L2
/- THE LAST THEOREM (shape; LID, My.* are yours):
   My.Adr: a structure of the addresses that your layer names (classes, functions); My.Txt K t: a structure (Prop) of the equations over K;
   My.txt_mk : {K} {implicit addresses ..} (e1 : nsIn K mainGlobals "law" = some (some (.ref f))) (e2 : K.lookup f = some ⟨oc, od, .func (fnOf "law" "law" params body scope dV kV doc pm an cdv ct), sl⟩) (e3 : codeIn K cdv "law" = true) .. : ∃ t, My.Txt K t
set_option maxRecDepth 100000 in
set_option maxHeartbeats 0 in
theorem PySem.Challenge.cw_LID_holds : PySem.Challenge.rw_LID.Holds := by
  w_on; o_law; k_head; (case hw => w_witness2)
  k_fill
  refine L2.walk_of (l := PySem.Challenge.rw_LID) (n := 63) (k := 40) (x := "script") (CX := fun w => ..) (sp := fun _ => My.sp_law) rfl (by decide) rfl ⟨rfl, by decide, by decide⟩ (fun w h Y => PySem.W.kIn_of Y) ?F ?S ?C
  case F =>
    intro w mg fa h KX G hmg
    have T : ∃ t, My.Txt (L2.KOf KX) t := by
      dsimp only [L2.KOf]                          -- K must stand as «<heap const> w.params» for k_is
      refine' My.txt_mk ?e1 ?e2 ?e3 ..
      (case e1 => PySem.W.k_is)                    -- in the order: a name -> its address -> its object -> its parts
      (case e2 => PySem.W.k_is)
      ..
    obtain ⟨t, T⟩ := T
    have e0 := hmg.symm.trans (PySem.W.mg_of KX G T.law)
    cases e0                                       -- fa is the law's own address
    exact ⟨_, fun s u => .of_eq rfl, fun base kb nb => My.law_fn T kb nb⟩     -- if «.of_eq rfl» comes too early: refine' ⟨_, ?b, fun base kb nb => My.law_fn T kb nb⟩; exact fun s u => .of_eq rfl
  case S => exact fun w H a ns hl hO hS => ..
  case C => exact ..
(the tactic k_is has no namespace: write k_is) -/
/-! SHORT WORDS over the layer: a def of the text, its body, what a loop and a test want. -/
namespace L2
open PySem PySem.Spec PyProof.Rows
def defArgs (s : Stmt) : Arguments := match s with
  | .FunctionDef _ a _ _ _ _ _ _ _ _ => a
  | _ => { posonlyargs := [], args := [], vararg := none, kwonlyargs := [], kw_defaults := [], kwarg := none, defaults := [] }
def defBody (s : Stmt) : List Stmt := match s with
  | .FunctionDef _ _ b _ _ _ _ _ _ _ => b
  | _ => []
def defScope (s : Stmt) : Scope := match s with
  | .FunctionDef _ _ _ _ _ _ sc _ _ _ => sc
  | _ => { kind := .function, names := [], isGenerator := false, isCoroutine := false }
/-! ### no exception leaves a def -/
abbrev CX0 : CXT := fun _ _ _ _ _ _ => False
abbrev E0 : XK := fun _ _ _ => False
theorem pass0 {X : Cx} : Passes CX0 X E0 := fun _ _ _ _ _ _ _ h => h.elim
/-! ### a def (or method) of the text as it stands behind the top -/
structure Fun (K : PySem.W.Frag) (x qual : Str) (st : Stmt) (f : Addr) (fd : FuncData) : Prop where
  ex : ∃ (oc : Value) (od : Option Addr) (kV doc pm : Value) (an : Option Addr) (cdv ct : Value) (osl : Array (Option Value)),
    fd = PySem.W.fnOf x qual (defArgs st) (defBody st) (defScope st) .none kV doc pm an cdv ct ∧ K.lookup f = some ⟨oc, od, .func fd, osl⟩ ∧ PySem.W.codeIn K cdv qual = true
  kp : PySem.W.keepIn K (.ref f) = true
section
variable {P : Program} {w : World} {K : PySem.W.Frag} {mg : Str → Option Value} {base : Heap}
/-- THE RULE for a def: its body as a term of rules, and the reading of that term -/
theorem Fun.ok {x qual : Str} {st : Stmt} {f : Addr} {fd : FuncData} {N ps : List Str} {k : Nat} {sp : Sp} (F : Fun K x qual st f fd) (S : FnScope N ps (defScope st)) (len : ∀ vs H Q E, sp vs H Q E → vs.length = ps.length)
    (hbody : ∀ (cdv : Value) (A : Around) (outer : List Env) (s : Shared) (H : Hp) (vs : List V) (Q : VK) (E : XK), Room k (A.deeper (envOfC qual (defScope st) s.heap.objs.size f cdv)) → sp vs H Q E →
      ∃ t, PSs (cxOf CX0 P w K mg base N qual (defScope st) f cdv A outer s H E).nox (defBody st) t ∧ t { nx := fun _ H' => Q .non H', rt := Q } (start N vs) H) : FnOk P w K mg base CX0 (k + 1) f fd ps sp := by
  obtain ⟨oc, od, kV, doc, pm, an, cdv, ct, osl, rfl, lk, hcd⟩ := F.ex
  refine fn_of lk hcd S len fun A outer s H vs Q E hr hsp => ?_
  obtain ⟨t, h, q⟩ := hbody cdv A outer s H vs Q E hr hsp
  exact ⟨t, h.nox, q⟩
/-- how its arguments bind (no defaults): h is «fun _ _ _ _ _ _ us hl => match us, hl with | [_, _], _ => rfl», one _ a parameter -/
theorem Fun.binds {x qual : Str} {st : Stmt} {f : Addr} {fd : FuncData} {ps : List Str} (F : Fun K x qual st f fd)
    (h : ∀ (kV doc pm : Value) (an : Option Addr) (cdv ct : Value) (us : List Value), us.length = ps.length → bindArgs (PySem.W.fnOf x qual (defArgs st) (defBody st) (defScope st) .none kV doc pm an cdv ct) ⟨us, []⟩ = pure (ps.zip us)) : Binds K fd ps [] := by
  obtain ⟨oc, od, kV, doc, pm, an, cdv, ct, osl, rfl, lk, hcd⟩ := F.ex
  exact .all (h kV doc pm an cdv ct)
theorem fun_mk {x qual : Str} {st : Stmt} {f : Addr} {oc : Value} {od an : Option Addr} {osl : Array (Option Value)} {kV doc pm cdv ct : Value} (l : K.lookup f = some ⟨oc, od, .func (PySem.W.fnOf x qual (defArgs st) (defBody st) (defScope st) .none kV doc pm an cdv ct), osl⟩)
    (c : PySem.W.codeIn K cdv qual = true) (k : PySem.W.keepIn K (.ref f) = true) : Fun K x qual st f (PySem.W.fnOf x qual (defArgs st) (defBody st) (defScope st) .none kV doc pm an cdv ct) := ⟨⟨oc, od, kV, doc, pm, an, cdv, ct, osl, rfl, l, c⟩, k⟩
end
theorem small1000 {n : Nat} (h : n ≤ 1000) : n < sizeLine := Nat.lt_of_le_of_lt h (by decide)
/-! ### expressions in short: the name that stands in the i-th slot -/
section
variable {X : Cx}
theorem pv (i : Nat) {x : Str} {pos : Pos} (hN : X.N[i]? = some x := by rfl) (hv : Vis X.env.scope x := by first | exact Or.inl rfl | exact Or.inr (Or.inl rfl) | exact Or.inr (Or.inr rfl)) (hd : (x == ("__debug__" : Str)) = false := by decide)
    (hcd : (x == ("__classdict__" : Str)) = false := by decide) : PE X (.Name x pos) (tVar i) := pe_var hN hv hd hcd
end
/-! ### tests -/
theorem iteF {A B : Prop} (h : B) : if false = true then A else B := by
  rw [if_neg Bool.false_ne_true]
  exact h
theorem iteT {A B : Prop} (h : A) : if true = true then A else B := by
  rw [if_pos rfl]
  exact h
theorem ite2 {c A B : Prop} [Decidable c] (h1 : c → A) (h2 : ¬ c → B) : if c then A else B := by
  by_cases h : c
  · rw [if_pos h]
    exact h1 h
  · rw [if_neg h]
    exact h2 h
/-! ### heaps -/
/-- all that was tracked is as it was -/
def Same (H H' : Hp) : Prop := ∀ b o, H b = some o → H' b = some o
theorem Same.refl (H : Hp) : Same H H := fun _ _ h => h
theorem Same.trans {H H1 H2 : Hp} (a : Same H H1) (b : Same H1 H2) : Same H H2 := fun c o h => b c o (a c o h)
theorem Same.free {H H' : Hp} (e : Same H H') {l : Addr} (h : H' l = Option.none) : H l = Option.none := by
  cases q : H l with
  | none => rfl
  | some o =>
    rw [e l o q] at h
    cases h
theorem Same.seq {K : PySem.W.Frag} {H H' : Hp} {a : Addr} {xs : List V} (e : Same H H') (h : SqL K H a xs) : SqL K H' a xs := by
  rcases h with (h | ⟨o, h⟩) | h
  · exact .inl (.inl (e _ _ h))
  · exact .inl (.inr ⟨o, e _ _ h⟩)
  · exact .inr h
end L2
/-! A LIST COMPREHENSION OF ONE CLAUSE, over the hand layer: the block has a context of its own. -/
namespace L2
open PySem PySem.Spec PyProof.Rows
section
variable {prog : Program} {w : World} {A : Around} {R : Result → Shared → Prop} {s : Shared}
/-- the tests of a clause -/
abbrev tests (ifs : List Expr) (env : Env) : Sem Bool := forIn ifs true fun c r => if r = true then do let ok ← isTrue c env (eval c env); pure (ForInStep.yield ok) else pure (ForInStep.yield r)
theorem comp_loop {elt target iter : Expr} {ifs : List Expr} {scope : Scope} {pos : Pos} {it acc : Value} {env : Env} (I : Nat → Shared → Prop)
    (turn : ∀ n s, I n s → wpAny (model prog w) A (pyNext it) (fun r s₁ => match r with
      | none => R (.ok .next) s₁
      | some v => wpAny (model prog w) A (letOwnedTupleGo target it v) (fun _ s₁' => wpAny (model prog w) A (assign target env v) (fun _ s₂ =>
          wpAny (model prog w) A (tests ifs env) (fun ok s₃ =>
            if ok = true then wpAny (model prog w) A (eval elt env) (fun x s₄ =>
              wpAny (model prog w) A (call (.builtin "list.append") [acc, x]) (fun _ s₅ => ∃ m, m < n ∧ I m s₅) (fun _ _ => False) s₄) (fun _ _ => False) s₃
            else ∃ m, m < n ∧ I m s₃) (fun _ _ => False) s₂) (fun _ _ => False) s₁') (fun _ _ => False) s₁) (fun _ _ => False) s)
    (n : Nat) (h : I n s) :
    codeAny (model prog w) A (.compLoop (.ListComp elt [⟨target, iter, ifs, 0⟩] scope pos) 0 it acc env) R s := by
  refine codeAny_loop rfl I (fun n s hI => ?_) n h
  show wpAny _ A ((compTurn (.ListComp elt [⟨target, iter, ifs, 0⟩] scope pos) 0 it acc env).onRaise (fun x => do noteFrame x env; theTreesLotGoes x)) _ _ s
  refine wpAny_noted ?_
  rw [compTurn_list]
  refine wpAny_bind (wpAny_standAt (wpAny_bind (wpAny_mono (turn n s hI) (fun r s₁ h₁ => ?_) fun _ _ h' => h'.elim)))
  cases r with
  | none => exact wpAny_pure h₁
  | some v =>
    refine wpAny_bind (wpAny_mono h₁ (fun _ s₁' h₁' => ?_) fun _ _ h' => h'.elim)
    refine wpAny_bind (wpAny_mono h₁' (fun _ s₂ h₂ => wpAny_bind (wpAny_mono h₂ (fun ok s₃ h₃ => ?_) fun _ _ h' => h'.elim)) fun _ _ h' => h'.elim)
    cases ok with
    | false => exact wpAny_pure ⟨rfl, h₃⟩
    | true =>
      exact wpAny_bind (wpAny_bind (wpAny_mono h₃ (fun x s₄ h₄ => wpAny_bind (wpAny_mono h₄ (fun _ s₅ h₅ => wpAny_pure (wpAny_pure ⟨rfl, h₅⟩)) fun _ _ h' => h'.elim)) fun _ _ h' => h'.elim))
end
/-! ### the closure of the block -/
def closeL (env : Env) : List (Str × NameKind) → List (Str × Addr) → List (Str × Addr)
  | [], cs => cs
  | (n, k) :: r, cs => closeL env r (if k == .free then match env.cells.lookup n with | some c => (n, c) :: cs | none => cs else cs)
theorem closure_go (env : Env) : ∀ (names : List (Str × NameKind)) (cs : List (Str × Addr)), (∀ p ∈ names, p.2 = .free → ∃ c, env.cells.lookup p.1 = some c) →
    (forIn names cs (fun (x : Str × NameKind) (cs : List (Str × Addr)) => match x with
      | (name, kind) => if (kind == NameKind.free) = true then (do let a ← cellOf env name; pure (ForInStep.yield ((name, a) :: cs))) else (pure (ForInStep.yield cs) : Sem (ForInStep (List (Str × Addr))))) : Sem (List (Str × Addr))) = pure (closeL env names cs)
  | [], cs, _ => by rw [List.forIn_nil]; rfl
  | (n, k) :: r, cs, h => by
    have ih := fun cs' => closure_go env r cs' fun p hp => h p (List.mem_cons_of_mem _ hp)
    rw [List.forIn_cons]
    by_cases hk : (k == NameKind.free) = true
    · obtain ⟨c, hc⟩ := h (n, k) List.mem_cons_self (by simpa using hk)
      have hc' : env.cells.lookup n = some c := hc
      have e : cellOf env n = pure c := by unfold cellOf; rw [hc']
      simp only [closeL, hk, if_true, e, hc']
      exact ih _
    · simp only [closeL, hk]
      exact ih _
theorem closure_eq {scope : Scope} {env : Env} (h : ∀ p ∈ scope.names, p.2 = .free → ∃ c, env.cells.lookup p.1 = some c) : closureFor scope env = pure (closeL env scope.names []) := by
  unfold closureFor
  have e := closure_go env scope.names [] h
  exact (congrArg (fun m : Sem (List (Str × Addr)) => m >>= fun cs => pure cs) e)
theorem closeL_mem (env : Env) {n : Str} {c : Addr} : ∀ (names : List (Str × NameKind)) (cs : List (Str × Addr)), (n, c) ∈ closeL env names cs → (n, c) ∈ cs ∨ env.cells.lookup n = some c
  | [], cs, h => .inl h
  | (m, k) :: r, cs, h => by
    rcases closeL_mem env r _ h with q | q
    · by_cases hk : (k == NameKind.free) = true
      · rw [if_pos hk] at q
        cases e : env.cells.lookup m with
        | none => rw [e] at q; exact .inl q
        | some c' =>
          rw [e] at q
          rcases List.mem_cons.mp q with z | z
          · cases z; exact .inr e
          · exact .inl z
      · rw [if_neg hk] at q; exact .inl q
    · exact .inr q
theorem closeL_keep (env : Env) {p : Str × Addr} : ∀ (names : List (Str × NameKind)) (cs : List (Str × Addr)), p ∈ cs → p ∈ closeL env names cs
  | [], _, h => h
  | (m, k) :: r, cs, h => by
    refine closeL_keep env r _ ?_
    split
    · split
      · exact List.mem_cons_of_mem _ h
      · exact h
    · exact h
theorem closeL_has (env : Env) {n : Str} {c : Addr} (hc : env.cells.lookup n = some c) : ∀ (names : List (Str × NameKind)) (cs : List (Str × Addr)), (n, NameKind.free) ∈ names → (n, c) ∈ closeL env names cs
  | [], _, h => nomatch h
  | (m, k) :: r, cs, h => by
    rcases List.mem_cons.mp h with z | z
    · cases z
      refine closeL_keep env r _ ?_
      rw [if_pos (by rfl), hc]
      exact List.mem_cons_self
    · exact closeL_has env hc r _ z
theorem lookup_of_mem {n : Str} {c : Addr} : ∀ {l : List (Str × Addr)}, (n, c) ∈ l → ∃ c', l.lookup n = some c'
  | [], h => nomatch h
  | (m, d) :: r, h => by
    rw [List.lookup_cons]
    cases e : n == m with
    | true => exact ⟨d, rfl⟩
    | false =>
      rcases List.mem_cons.mp h with z | z
      · cases z; simp at e
      · exact lookup_of_mem z
theorem closeL_lookup {env : Env} {names : List (Str × NameKind)} {n : Str} {c : Addr} (h : (closeL env names []).lookup n = some c) : env.cells.lookup n = some c := by
  rcases closeL_mem env names [] (PySem.mem_of_lookup h) with z | z
  · exact nomatch z
  · exact z
theorem closeL_some {env : Env} {names : List (Str × NameKind)} {n : Str} {c : Addr} (hc : env.cells.lookup n = some c) (h : (n, NameKind.free) ∈ names) : (closeL env names []).lookup n = some c := by
  obtain ⟨c', e⟩ := lookup_of_mem (closeL_has env hc names [] h)
  rw [e]
  exact (closeL_lookup e).symm.trans hc
theorem mem_of_lookupK {n : Str} {k : NameKind} : ∀ {l : List (Str × NameKind)}, l.lookup n = some k → (n, k) ∈ l
  | [], h => by simp at h
  | (m, d) :: r, h => by
    rw [List.lookup_cons] at h
    cases e : n == m with
    | true =>
      rw [e] at h
      cases h
      rw [eq_of_beq e]
      exact List.mem_cons_self
    | false =>
      rw [e] at h
      exact List.mem_cons_of_mem _ (mem_of_lookupK h)
/-- a name that is free in the block stays a captured one -/
theorem relabel_free {env : Env} {n : Str} : ∀ {names : List (Str × NameKind)}, names.lookup n = some .free →
    (names.map fun (n, k) => if (k == NameKind.free && env.scope.kind == .function && env.kindOf n == some .cell) then (n, NameKind.cell) else (n, k)).lookup n = some .cell ∨
    (names.map fun (n, k) => if (k == NameKind.free && env.scope.kind == .function && env.kindOf n == some .cell) then (n, NameKind.cell) else (n, k)).lookup n = some .free
  | [], h => by simp at h
  | (m, k) :: r, h => by
    have ih := @relabel_free env n r
    rw [List.map_cons]
    rw [List.lookup_cons] at h
    cases e : n == m with
    | true =>
      rw [e] at h
      cases h
      by_cases hc : (NameKind.free == NameKind.free && env.scope.kind == .function && env.kindOf m == some .cell) = true
      · left; show List.lookup n ((if _ then _ else _) :: _) = _; rw [if_pos hc, List.lookup_cons, e]
      · right; show List.lookup n ((if _ then _ else _) :: _) = _; rw [if_neg hc, List.lookup_cons, e]
    | false =>
      rw [e] at h
      have e2 : ∀ l : List (Str × NameKind), List.lookup n ((if (k == NameKind.free && env.scope.kind == .function && env.kindOf m == some .cell) = true then (m, NameKind.cell) else (m, k)) :: l) = l.lookup n := fun l => by
        by_cases hc : (k == NameKind.free && env.scope.kind == .function && env.kindOf m == some .cell) = true
        · rw [if_pos hc, List.lookup_cons, e]
        · rw [if_neg hc, List.lookup_cons, e]
      show List.lookup n ((if _ then _ else _) :: _) = _ ∨ List.lookup n ((if _ then _ else _) :: _) = _
      rw [e2]
      exact ih h
/-- a captured name of the block is one of the text's captured names -/
theorem relabel_back {env : Env} {n : Str} {k' : NameKind} (hk' : k' = .cell ∨ k' = .free) : ∀ {names : List (Str × NameKind)},
    (names.map fun (n, k) => if (k == NameKind.free && env.scope.kind == .function && env.kindOf n == some .cell) then (n, NameKind.cell) else (n, k)).lookup n = some k' →
    names.lookup n = some .free ∨ names.lookup n = some .cell
  | [], h => by simp at h
  | (m, k) :: r, h => by
    have ih := @relabel_back env n k' hk' r
    rw [List.map_cons] at h
    have h : List.lookup n ((if (k == NameKind.free && env.scope.kind == .function && env.kindOf m == some .cell) = true then (m, NameKind.cell) else (m, k)) :: _) = some k' := h
    rw [List.lookup_cons]
    cases e : n == m with
    | true =>
      by_cases hc : (k == NameKind.free && env.scope.kind == .function && env.kindOf m == some .cell) = true
      · left
        have : k = .free := by
          simp only [Bool.and_eq_true, beq_iff_eq] at hc
          exact hc.1.1
        rw [this]
      · rw [if_neg hc, List.lookup_cons, e] at h
        have h : some k = some k' := h
        cases h
        rcases hk' with z | z
        · right; rw [z]
        · left; rw [z]
    | false =>
      have e2 : ∀ l : List (Str × NameKind), List.lookup n ((if (k == NameKind.free && env.scope.kind == .function && env.kindOf m == some .cell) = true then (m, NameKind.cell) else (m, k)) :: l) = l.lookup n := fun l => by
        by_cases hc : (k == NameKind.free && env.scope.kind == .function && env.kindOf m == some .cell) = true
        · rw [if_pos hc, List.lookup_cons, e]
        · rw [if_neg hc, List.lookup_cons, e]
      rw [e2] at h
      exact ih h
/-! ### the block's context -/
/-- what is asked of the block's scope: osc the scope around, M the names taken from there with their slots, N the slots around -/
structure CompSc (scope osc : Scope) (M : List (Str × Nat)) (N : List Str) : Prop where
  kind : scope.kind = .function
  nocell : ∀ p ∈ scope.names, p.2 ≠ .cell
  free : ∀ p ∈ scope.names, p.2 = .free → osc.names.lookup p.1 = some .cell ∨ osc.names.lookup p.1 = some .free
  loc : ∀ p ∈ scope.names, p.2 = .local → scope.names.lookup p.1 = some .local
  imp : ∀ p ∈ M, N[p.2]? = some p.1 ∧ scope.names.lookup p.1 = some .free
def impS (M : List (Str × Nat)) (σ : St) : St := M.map fun p => (σ[p.2]?).join
def Cx.comp (X : Cx) (scope : Scope) (Ns : List Str) (s : Shared) (H : Hp) (ex : List Addr) : Cx :=
  { X with N := Ns, s₀ := s, H₀ := H, env := compEnvC scope (closeL X.env scope.names []) s.heap.objs.size X.env, outer := X.stack, ex := ex, fn := fun _ => false, pn := [], xe := fun _ _ => False }
section
variable {X : Cx} {pins : List (Addr × Obj)} {σ : St} {H : Hp} {s : Shared} {scope : Scope} {own : List Str} {M : List (Str × Nat)} {ex : List Addr}
theorem inv_comp {h' : Heap} {tk : Nat} {m : Str → Option Value} (I : Inv X pins σ H s) (S : CompSc scope X.env.scope M X.N) (hex : ∀ b ∈ ex, FpOk X pins H b ∧ b < s.heap.objs.size)
    (hns : h'.Ns s.heap.objs.size m) (hkp : ∀ b o, s.heap.get? b = some o → h'.get? b = some o) :
    Inv (X.comp scope (own ++ M.map (·.1)) s H ex) [] (List.replicate own.length none ++ impS M σ) H { s with heap := h', toks := tk } := by
  have hfr : ∀ p ∈ scope.names, p.2 = .free → ∃ c, X.env.cells.lookup p.1 = some c := fun p hp hf => I.ok.has p.1 (S.free p hp hf)
  refine ⟨⟨I.ok.mod, S.kind, I.ok.glob, I.ok.blt, Nat.le_refl _, fun x y c h1 h2 => ?_, fun x hx => ?_, fun x c h _ => ?_, I.ok.hd, I.ok.frames, .inl rfl, fun b hb => ⟨?_, fun x c e => ?_⟩, I.bs, Nat.le_trans I.ok.bsz I.sz, fun b o e hb => ?_, fun b hb hfs => ?_, I.stack, I.stkFree⟩,
    rfl, I.bare, Un.kept hkp, ⟨m, hns, fun i x v e1 e2 e3 => ?_⟩, fun x c e => ?_, I.hok.fresh (Nat.le_refl _), fun x c e => I.freeC x c (closeL_lookup e), fun p hp => absurd (show p ∈ ([] : List (Addr × Obj)) from hp) (by simp), I.hok.kept hkp, ?_⟩
  · exact I.ok.inj x y c (closeL_lookup h1) (closeL_lookup h2)
  · have hx' : (relabel scope X.env).names.lookup x = some .cell ∨ (relabel scope X.env).names.lookup x = some .free := hx
    have hf : scope.names.lookup x = some .free := by
      rcases hx' with z | z
      · rcases relabel_back (.inl rfl) z with q | q
        · exact q
        · exact absurd rfl (S.nocell _ (mem_of_lookupK q))
      · rcases relabel_back (.inr rfl) z with q | q
        · exact q
        · exact absurd rfl (S.nocell _ (mem_of_lookupK q))
    have hm := mem_of_lookupK hf
    obtain ⟨c, hc⟩ := hfr _ hm rfl
    exact ⟨c, closeL_some hc hm⟩
  · exact absurd (show false = true from h) (by decide)
  · exact Nat.ne_of_lt (hex b hb).2
  · exact (hex b hb).1.2.2.2.2.1 x c (closeL_lookup e)
  · have hb' : b ∈ ex := hb
    have e' : X.base.get? b = some o := e
    rcases (hex b hb').1.2.2.2.1 with z | z
    · exact I.ok.noex b o e' z
    · exact absurd (Nat.lt_of_lt_of_le (Heap.lt_size e') (Nat.le_trans I.ok.bsz z)) (Nat.lt_irrefl _)
  · rcases List.mem_cons.mp (I.stkSub b hfs) with z | z
    · exact (hex b hb).1.2.1 z
    · exact (hex b hb).1.2.2.1 z
  · have e1' : (own ++ M.map (·.1))[i]? = some x := e1
    have hi : own.length ≤ i := by
      refine Nat.le_of_not_lt fun hlt => ?_
      rw [List.getElem?_append_left (by simpa using hlt), List.getElem?_replicate] at e2
      split at e2 <;> cases e2
    rw [List.getElem?_append_right hi, List.getElem?_map] at e1'
    rw [List.getElem?_append_right (by simpa using hi), List.length_replicate, impS, List.getElem?_map] at e2
    cases hp : M[i - own.length]? with
    | none => rw [hp] at e1'; cases e1'
    | some p =>
      rw [hp] at e1' e2
      have e1'' : p.1 = x := Option.some.inj e1'
      have e2' : (σ[p.2]?).join = some v := Option.some.inj e2
      obtain ⟨hN, hF⟩ := S.imp p (List.mem_of_getElem? hp)
      subst e1''
      have e2'' : σ[p.2]? = some (some v) := by
        cases q : σ[p.2]? with
        | none => rw [q] at e2'; cases e2'
        | some o => rw [q] at e2'; exact congrArg some e2'
      have hm := mem_of_lookupK hF
      have hcf := S.free _ hm rfl
      obtain ⟨m0, hn0, hl0⟩ := I.loc
      obtain ⟨u, ru, lk⟩ := hl0 p.2 p.1 v hN e2'' (.inr hcf)
      refine ⟨u, ru, .inr ⟨relabel_free hF, ?_⟩⟩
      rcases lk with ⟨kl, _⟩ | ⟨_, c, ec, z⟩
      · have kl' : X.env.scope.names.lookup p.1 = some .local := kl
        rcases hcf with q | q <;> (rw [q] at kl'; cases kl')
      · obtain ⟨oc, ho, hd⟩ := z
        exact ⟨c, closeL_some ec hm, oc, hkp c oc ho, hd⟩
  · obtain ⟨v, oc, ho, hd⟩ := I.cell x c (closeL_lookup e)
    exact ⟨v, oc, hkp c oc ho, hd⟩
  · show (List.replicate own.length none ++ impS M σ).length = (own ++ M.map (·.1)).length
    rw [List.length_append, List.length_append, List.length_replicate, impS, List.length_map, List.length_map]
end
/-- an untracked object that was not there at the start may change -/
theorem Un.sameBut {fs ex : List Addr} {H H' : Hp} {h h' h'' : Heap} {C : Addr} (u : Un fs ex H H' h h') (hs : Heap.SameBut C h' h'') (hC : h.get? C = none) : Un fs ex H H' h h'' where
  keep := fun b o e n f x => (hs.2 b (by rintro rfl; rw [hC] at e; cases e)).trans (u.keep b o e n f x)
  slot := fun b o e n f x => by
    obtain ⟨sl, q⟩ := u.slot b o e n f x
    exact ⟨sl, (hs.2 b (by rintro rfl; rw [hC] at e; cases e)).trans q⟩
  free := u.free
  there := fun b o e x => by
    obtain ⟨o', q⟩ := u.there b o e x
    exact ⟨o', (hs.2 b (by rintro rfl; rw [hC] at e; cases e)).trans q⟩
  tups := u.tups
  frzs := u.frzs
  tbls := u.tbls
theorem HOk.sameBut {P : Program} {w : World} {H : Hp} {h h' : Heap} {C : Addr} (ok : HOk P w H h) (hs : Heap.SameBut C h h') (hC : H C = none) : HOk P w H h' := fun b ob e => by
  refine (ok b ob e).stay (fun c w' hc q => (hs.2 c ?_).trans q) (fun _ q => q) fun _ _ q => q
  rintro rfl
  rcases hc with rfl | hc
  · rw [hC] at e; cases e
  · rw [hC] at hc; cases hc
/-! ### the tests -/
def PF (X : Cx) (ifs : List Expr) (t : TT) : Prop :=
  ∀ (pins : List (Addr × Obj)) (s : Shared) (σ : St) (H : Hp) (Q : Bool → Hp → Prop), Inv X pins σ H s → t σ H Q → wpAny (model X.prog X.w) X.A (tests ifs X.env) (TP X pins σ Q) X.xe s
def tYes : TT := fun _ H Q => Q true H
theorem pf_nil {X : Cx} : PF X [] tYes := fun pins s σ H Q I h => wpAny_tests_nil ⟨H, I, h⟩
/-! ### the rule -/
/-- the block's loop, by an invariant: D the list that grows -/
def CBG (J : It) (σ0 : St) (g : TG) (tt : TT) (te : TE) (Q : VK) (H1 : Hp) (D : Addr) : Prop :=
  ∃ W : Nat → Nat → Hp → Prop, (∃ m, W 0 m (upd H1 D (.lst []))) ∧ ∀ i m H2, W i m H2 →
    (J.stop i H2 ∧ Q (.ref D) H2) ∨ (J.go i H2 ∧ ∀ x H3, J.yld i H2 x H3 → g x σ0 H3 fun σ4 H4 =>
      (∀ (i : Nat) v, σ0[i]? = some (some v) → σ4[i]? = some (some v)) ∧
      tt σ4 H4 fun c H5 => if c = true then te σ4 H5 fun v H6 => ∃ ys, H6 D = some (.lst ys) ∧ ys.length < sizeLine ∧ ∃ m', m' < m ∧ W (i + 1) m' (upd H6 D (.lst (ys ++ [v]))) else ∃ m', m' < m ∧ W (i + 1) m' H5)
def tComp (own : Nat) (M : List (Str × Nat)) (wi : TI) (g : TG) (tt : TT) (te : TE) : TE := fun σ H Q => wi σ H fun J H1 => ∀ D, H1 D = none → CBG J (List.replicate own none ++ impS M σ) g tt te Q H1 D
section
variable {X : Cx} {tg iter elt : Expr} {ifs : List Expr} {scope osc : Scope} {pos : Pos} {own : List Str} {M : List (Str × Nat)} {wi : TI} {g : TG} {tt : TT} {te : TE}
/-- the block, behind the iterator's making -/
theorem comp_block {pins : List (Addr × Obj)} {s2 : Shared} {σ : St} {H2 : Hp} {J : It} {fp : List Addr} {it : Addr} {tn : Nat → Heap → Prop} {Q : Nat → Hp → Prop} {RR : Value → Addr → Result → Shared → Prop} {E : Value → Shared → Prop}
    (I2 : Inv X pins σ H2 s2) (hc : X.calm = true) (S : CompSc scope X.env.scope M X.N) (T : Turn X.prog X.w X.K tg J fp it tn) (st2 : tn 0 s2.heap) (f2 : ∀ b ∈ fp, FpOk X pins H2 b)
    (hg : ∀ s H, PG (X.comp scope (own ++ M.map (·.1)) s H fp) tg g) (hf : ∀ s H, PF (X.comp scope (own ++ M.map (·.1)) s H fp) ifs tt) (he : ∀ s H, PE (X.comp scope (own ++ M.map (·.1)) s H fp) elt te)
    (hw : ∀ D, H2 D = none → ∃ W : Nat → Nat → Hp → Prop, (∃ m, W 0 m (upd H2 D (.lst []))) ∧ ∀ i m H2, W i m H2 →
      (J.stop i H2 ∧ Q D H2) ∨ (J.go i H2 ∧ ∀ x H3, J.yld i H2 x H3 → g x (List.replicate own.length none ++ impS M σ) H3 fun σ4 H4 =>
        (∀ (i : Nat) v, (List.replicate own.length none ++ impS M σ)[i]? = some (some v) → σ4[i]? = some (some v)) ∧
        tt σ4 H4 fun c H5 => if c = true then te σ4 H5 fun v H6 => ∃ ys, H6 D = some (.lst ys) ∧ ys.length < sizeLine ∧ ∃ m', m' < m ∧ W (i + 1) m' (upd H6 D (.lst (ys ++ [v]))) else ∃ m', m' < m ∧ W (i + 1) m' H5))
    (hR : ∀ D C s' H', (∃ m, s'.heap.Ns C m) → FpOk X pins H' C → Q D H' → (∀ h'', Heap.SameBut C s'.heap h'' → Inv X pins σ H' { s' with heap := h'' }) → RR (.ref D) C (.ok .next) s') :
    wpAny (model X.prog X.w) X.A (newList []) (fun acc s₃ => wpAny (model X.prog X.w) X.A (newFunctionEnv scope X.env.globals (closeL X.env scope.names []) [] X.env.qual none .none (some X.env)) (fun cenv s₄ =>
      codeAny (model X.prog X.w) X.A (.compStart (.ListComp elt [⟨tg, iter, ifs, 0⟩] scope pos) 0 (.ref it) acc { cenv with scope := relabel scope X.env }) (RR acc cenv.locals) s₄) E s₃) E s2 := by
  refine wpAny_newObj_type (wpAny_newFunctionEnv S.nocell (by intro y hy; simp at hy) (fun h₁ hns₁ hsb₁ => ?_) S.kind)
  dsimp only at hns₁ hsb₁ ⊢
  obtain ⟨D, hD⟩ : ∃ D, D = s2.heap.objs.size := ⟨_, rfl⟩
  have fD : H2 D = none := I2.hok.fresh (Nat.le_of_eq hD.symm)
  have I3 : Inv X pins σ (upd H2 D (.lst [])) { s2 with heap := s2.heap.push { cls := .type "list", dict := none, data := .seq ([] : List Value).toArray } } :=
    I2.laid (t' := s2.toks) (fun b u e => Heap.get?_push_of_some _ e) (Nat.le_of_eq hD.symm) ⟨Nat.zero_le _, [], 0, .nil, by rw [hD]; exact Heap.get?_push_size _ rfl⟩
  obtain ⟨s3, hs3⟩ : ∃ s3 : Shared, s3 = { s2 with heap := s2.heap.push { cls := .type "list", dict := none, data := .seq ([] : List Value).toArray } } := ⟨_, rfl⟩
  have hsz3 : s3.heap.objs.size = D + 1 := by rw [hs3, hD]; exact Heap.size_push _ _
  rw [← hs3] at I3
  have hns₁' : h₁.Ns s3.heap.objs.size (fun _ => none) := by rw [hs3]; exact hns₁
  have hsb₁' : Heap.SameBut s3.heap.objs.size (s3.heap.push { cls := .type "dict", data := .dict #[] }) h₁ := by rw [hs3]; exact hsb₁
  have hk3 : ∀ b o, s3.heap.get? b = some o → h₁.get? b = some o := fun b o e => (hsb₁'.2 b (Nat.ne_of_lt (Heap.lt_size e))).trans (Heap.get?_push_of_some _ e)
  have tn3 : tn 0 s3.heap := T.keep _ _ _ st2 fun b hb o e => by rw [hs3]; exact Heap.get?_push_of_some _ e
  have hlt3 : ∀ b ∈ fp, b < s3.heap.objs.size := fun b hb => by
    obtain ⟨o, e, _⟩ := T.obj _ _ tn3 b hb
    exact Heap.lt_size e
  have neD : ∀ b ∈ fp, b ≠ D := fun b hb z => by
    obtain ⟨o, e, _⟩ := T.obj _ _ st2 b hb
    rw [z, hD] at e
    exact absurd (Heap.lt_size e) (Nat.lt_irrefl _)
  have f3 : ∀ b ∈ fp, FpOk X pins (upd H2 D (.lst [])) b := fun b hb => ⟨by rw [upd_ne (neD b hb)]; exact (f2 b hb).1, (f2 b hb).2⟩
  obtain ⟨Y, hY⟩ : ∃ Y : Cx, Y = X.comp scope (own ++ M.map (·.1)) s3 (upd H2 D (.lst [])) fp := ⟨_, rfl⟩
  have Yp : Y.prog = X.prog := by rw [hY]; rfl
  have IY : Inv Y [] (List.replicate own.length none ++ impS M σ) (upd H2 D (.lst [])) { s3 with heap := h₁, toks := s2.toks + 0 } := by
    rw [hY]
    exact inv_comp I3 S (fun b hb => ⟨f3 b hb, hlt3 b hb⟩) hns₁' hk3
  have fpY : ∀ {H' : Hp}, (∀ b ∈ fp, H' b = none) → ∀ b ∈ fp, FpOk Y [] H' b := fun {H'} hn b hb => by
    refine ⟨hn b hb, ?_, ?_, .inl ?_, fun x c e => ?_, fun p hp => ?_⟩
    · rw [hY]; exact Nat.ne_of_lt (hlt3 b hb)
    · rw [hY]
      intro hfs
      rcases List.mem_cons.mp (I3.stkSub b hfs) with z | z
      · exact (f2 b hb).2.1 z
      · exact (f2 b hb).2.2.1 z
    · rw [hY]; exact hb
    · rw [hY] at e
      exact (f2 b hb).2.2.2.2.1 x c (closeL_lookup e)
    · rw [hY] at hp
      exact absurd (show p ∈ ([] : List (Addr × Obj)) from hp) (by simp)
  obtain ⟨W, ⟨m0, w0⟩, turn⟩ := hw D fD
  have neC : s3.heap.objs.size ≠ X.env.locals := Nat.ne_of_gt I3.lt
  -- behind the block
  have back : ∀ {σ' : St} {H' : Hp} {s' : Shared} {h'' : Heap}, Inv Y [] σ' H' s' → Heap.SameBut s3.heap.objs.size s'.heap h'' → Inv X pins σ H' { s' with heap := h'' } := fun {σ' H' s' h''} K hs => by
    have u : Un (frs X.stack) fp (upd H2 D (.lst [])) H' s3.heap s'.heap := by
      have := K.base
      rw [hY] at this
      exact this
    have ho : s'.os = s3.os := by
      have := K.os
      rw [hY] at this
      exact this
    have fC : H' s3.heap.objs.size = none := by
      have := K.free
      rw [hY] at this
      exact this
    have hok : HOk X.prog X.w H' s'.heap := by
      have := K.hok
      rw [hY] at this
      exact this
    refine I3.call' (s' := { s' with heap := h'' }) (ch := fp) ho (u.sameBut hs (Heap.get?_none_of_le (Nat.le_refl _))) (hok.sameBut hs fC) K.bare fun b hb => ?_
    obtain ⟨_, b1, _, b3, b4, b5⟩ := f2 b hb
    exact ⟨b3, b1, b4, b5⟩
  have envY : Y.env = compEnvC scope (closeL X.env scope.names []) s3.heap.objs.size X.env := by rw [hY]; rfl
  have key : codeAny (model X.prog X.w) X.A (.compLoop (.ListComp elt [⟨tg, iter, ifs, 0⟩] scope pos) 0 (.ref it) (.ref D) Y.env) (RR (.ref D) s3.heap.objs.size) { s3 with heap := h₁, toks := s2.toks + 0 } := by
    refine comp_loop (fun n s' => ∃ i H', Inv Y [] (List.replicate own.length none ++ impS M σ) H' s' ∧ tn i s'.heap ∧ (∀ b ∈ fp, H' b = none) ∧ W i n H') ?_ m0
      ⟨0, _, IY, T.keep _ _ _ tn3 fun b hb o e => hk3 b o e, fun b hb => (f3 b hb).1, w0⟩
    rintro n s4 ⟨i, H4, I4, st4, fr4, w4⟩
    have hcY : Y.calm = true := by rw [hY]; exact hc
    have eP : Y.prog = X.prog := Yp
    have eW : Y.w = X.w := by rw [hY]; rfl
    have eK : Y.K = X.K := by rw [hY]; rfl
    have eA : Y.A = X.A := by rw [hY]; rfl
    have eE : Y.xe = fun _ _ => False := by rw [hY]; rfl
    rcases turn i n H4 w4 with ⟨stop, qn⟩ | ⟨go, step⟩
    · have q := T.done Y eP eW eK hcY i [] s4 _ H4 (fun _ _ => False) I4 (fpY fr4) st4 stop
      rw [eA] at q
      refine thn q fun r s5 ⟨hr, I5⟩ => ?_
      subst hr
      refine hR D _ s5 H4 ?_ (I3.fpOk (Nat.le_refl _) ?_) qn fun h'' hs => back I5 hs
      · obtain ⟨m, hn, _⟩ := I5.loc
        rw [envY] at hn
        exact ⟨m, hn⟩
      · have := I5.free
        rw [envY] at this
        exact this
    · have q := T.item Y eP eW eK hcY i [] s4 _ H4 (fun _ _ => False) I4 (fpY fr4) st4 go
      rw [eA] at q
      refine thn q fun r s5 ⟨u, hr, h5⟩ => ?_
      subst hr
      refine thn h5 fun _ s6 ⟨x, H6, I6, r6, y6, st6, fr6⟩ => ?_
      have I6' := I6.pinned (fpY fr6) (T.obj _ _ st6)
      have again : ∀ {σ7 : St} {H7 : Hp} {s7 : Shared}, (∀ (i : Nat) v, (List.replicate own.length none ++ impS M σ)[i]? = some (some v) → σ7[i]? = some (some v)) → Inv Y ([] ++ pinsAt fp s6.heap) σ7 H7 s7 →
          (∃ m', m' < n ∧ W (i + 1) m' H7) → ∃ m, m < n ∧ ∃ i H', Inv Y [] (List.replicate own.length none ++ impS M σ) H' s7 ∧ tn i s7.heap ∧ (∀ b ∈ fp, H' b = none) ∧ W i m H' := fun {σ7 H7 s7} kp I7 w7 => by
        obtain ⟨m', hm, w7⟩ := w7
        refine ⟨m', hm, i + 1, H7, I7.unpinned.weak (by rw [I6.len, I7.len]) kp, T.keep _ _ _ st6 fun b hb o e => (I7.pin (b, o) (List.mem_append_right _ (List.mem_append_right _ (mem_pinsAt hb e)))).1, fun b hb => ?_, w7⟩
        obtain ⟨o, e, d⟩ := T.obj _ _ st6 b hb
        exact (I7.pin (b, o) (List.mem_append_right _ (List.mem_append_right _ (mem_pinsAt hb e)))).2.1
      have qg := hg s3 (upd H2 D (.lst [])) _ s6 _ H6 x u _ (by rw [← hY]; exact I6') r6 (step x H6 y6)
      rw [← hY] at qg
      rw [eP, eW, eA, eE] at qg
      refine thn qg fun _ s7 ⟨σ7, H7, I7, k7, q7⟩ => ?_
      have qf := hf s3 (upd H2 D (.lst [])) _ s7 σ7 H7 _ (by rw [← hY]; exact I7) q7
      rw [← hY] at qf
      rw [eP, eW, eA, eE] at qf
      refine thn qf fun ok s8 ⟨H8, I8, q8⟩ => ?_
      cases ok with
      | false =>
        rw [if_neg Bool.false_ne_true] at q8 ⊢
        exact again k7 I8 q8
      | true =>
        rw [if_pos rfl] at q8 ⊢
        have qe := he s3 (upd H2 D (.lst [])) _ s8 σ7 H8 _ (by rw [← hY]; exact I8) q8
        rw [← hY] at qe
        rw [eP, eW, eA, eE] at qe
        refine thn qe fun v s9 ⟨xv, H9, I9, r9, ys, hys, hz, q9⟩ => ?_
        have qa := mt_append (X := Y) _ s9 σ7 H9 (.ref D) [xv] (.ref D) [v] (fun _ H10 => ∃ m', m' < n ∧ W (i + 1) m' H10) I9 rfl (.cons r9 .nil) ⟨D, ys, xv, rfl, rfl, hys, hz, q9⟩
        rw [eP, eW, eA, eE] at qa
        exact thn qa fun _ s10 ⟨_, H10, I10, _, q10⟩ => again k7 I10 q10
  have hst : codeAny (model X.prog X.w) X.A (.compStart (.ListComp elt [⟨tg, iter, ifs, 0⟩] scope pos) 0 (.ref it) (.ref D) Y.env) (RR (.ref D) s3.heap.objs.size) { s3 with heap := h₁, toks := s2.toks + 0 } :=
    codeAny_compStart_list key (T.self _ 0 _ _ _ (T.keep _ _ _ tn3 fun b hb o e => hk3 b o e) key)
  rw [envY] at hst
  subst hs3
  subst hD
  exact hst
theorem comp_closure {pins : List (Addr × Obj)} {s : Shared} {σ : St} {H : Hp} (I : Inv X pins σ H s) (S : CompSc scope X.env.scope M X.N) : closureFor scope X.env = pure (closeL X.env scope.names []) :=
  closure_eq fun p hp hf => I.ok.has p.1 (S.free p hp hf)
/-- [elt for tg in iter if ..] -/
theorem pe_comp {N : List Str} (own : List Str) (M : List (Str × Nat)) (hc : X.calm = true) (hi : PI X tg iter wi) (S : CompSc scope osc M N)
    (hg : ∀ s H ex, PG (X.comp scope (own ++ M.map (·.1)) s H ex) tg g) (hf : ∀ s H ex, PF (X.comp scope (own ++ M.map (·.1)) s H ex) ifs tt) (he : ∀ s H ex, PE (X.comp scope (own ++ M.map (·.1)) s H ex) elt te)
    (hsc : X.env.scope = osc := by rfl) (hN : X.N = N := by rfl) (hs : ∀ x, foldedSetIterable iter X.env x = pure x := by intro _; rfl) : PE X (.ListComp elt [⟨tg, iter, ifs, 0⟩] scope pos) (tComp own.length M wi g tt te) := by
  subst hsc
  subst hN
  intro pins s σ H Q I h
  rw [eval_ListComp]
  refine wpAny_comprehension_free (use := none) rfl hs (comp_closure I S) S.kind S.loc (thn (hi pins s σ H _ I h) fun v s1 h1 => thn h1 fun itv s2 h2 => ?_)
  obtain ⟨it, fp, tn, J, H2, e, I2, T, st2, f2, hw⟩ := h2
  subst e
  refine comp_block (own := own) (Q := fun D H' => Q (.ref D) H') (RR := fun acc C => compPost (model X.prog X.w) X.A X.xe none (EP X pins σ Q) acc C) I2 hc S T st2 f2 (fun s H => hg s H fp) (fun s H => hf s H fp) (fun s H => he s H fp) hw ?_
  intro D C s' H' hn _ q back
  obtain ⟨m, hn⟩ := hn
  exact ⟨m, hn, fun h'' hs'' => ⟨.ref D, H', back h'' hs'', rfl, q⟩⟩
/-- name = [elt for tg in iter if ..], both on one row -/
theorem ps_comp {N : List Str} {i : Nat} {y : Str} {py spos : Pos} (own : List Str) (M : List (Str × Nat)) (hnd : X.N.Nodup) (hi' : X.N[i]? = some y) (hy : X.env.scope.names.lookup y = some .local)
    (hsw : swapsWith (.ListComp elt [⟨tg, iter, ifs, 0⟩] scope pos) (some (.Name y py)) spos.line X.env = pure true)
    (hc : X.calm = true) (hi : PI X tg iter wi) (S : CompSc scope osc M N)
    (hg : ∀ s H ex, PG (X.comp scope (own ++ M.map (·.1)) s H ex) tg g) (hf : ∀ s H ex, PF (X.comp scope (own ++ M.map (·.1)) s H ex) ifs tt) (he : ∀ s H ex, PE (X.comp scope (own ++ M.map (·.1)) s H ex) elt te)
    (hsc : X.env.scope = osc := by rfl) (hN : X.N = N := by rfl) (hs : ∀ x, foldedSetIterable iter X.env x = pure x := by intro _; rfl) :
    PS X (.Assign [.Name y py] (.ListComp elt [⟨tg, iter, ifs, 0⟩] scope pos) spos) (tAsg (tComp own.length M wi g tt te) (gName i)) := by
  subst hsc
  subst hN
  intro pins s σ H D I h
  rw [exec_Assign_Name_used _ _ _ _ hsw]
  refine wpAny_bind (wpAny_standAt (wpAny_bind ?_))
  show wpAny _ X.A (do let _ ← comprehension (.ListComp elt [⟨tg, iter, ifs, 0⟩] scope pos) scope X.env _ (newList []) false (eval iter X.env) (some (assign (.Name y py) X.env))) _ _ s
  refine wpAny_bind (wpAny_mono (wpAny_comprehension_free (use := some (assign (.Name y py) X.env)) (Q := fun _ s' => SP X pins D .next s') rfl hs (comp_closure I S) S.kind S.loc
    (thn (hi pins s σ H _ I h) fun v s1 h1 => thn h1 fun itv s2 h2 => ?_)) (fun _ s' hq => wpAny_pure (wpAny_pure hq)) fun _ _ e => e)
  obtain ⟨it, fp, tn, J, H2, e, I2, T, st2, f2, hw⟩ := h2
  subst e
  refine comp_block (own := own) (Q := fun L H' => D.nx (σ.set i (some (.ref L))) H') (RR := fun acc C => compPost (model X.prog X.w) X.A X.xe (some (assign (.Name y py) X.env)) (fun _ s' => SP X pins D .next s') acc C) I2 hc S T st2 f2 (fun s H => hg s H fp) (fun s H => hf s H fp) (fun s H => he s H fp) hw ?_
  intro L C s' H' hn fC q back
  obtain ⟨m, hn⟩ := hn
  obtain ⟨c0, c1, c2, c3, c4, c5⟩ := fC
  have I' : Inv X pins σ H' s' := back s'.heap (Heap.SameBut.refl ..)
  show wpAny _ X.A (assign (.Name y py) X.env (.ref L)) _ _ s'
  refine wpAny_assign_Name (store_ok2 I' hnd hi' (.inl hy) (v := .ref L) rfl (fun s'' I'' ⟨a, sb, ha⟩ => ?_) (.inr hy))
  have aC : C ≠ a := by
    rcases ha with z | z
    · rw [z]; exact c1
    · exact fun e => c4 y a z e.symm
  refine ⟨m, hn.sameBut sb aC, fun h3 hs3 => ⟨_, H', I''.turned (t' := s''.toks) (fun b o hb e => (hs3.2 b hb).trans e) c0 c1 c3 c4 c5, q⟩⟩
end
/-! ### the forms one uses -/
theorem keep1 {l : St} {a : Option V} (i : Nat) (v : V) (h : (none :: l)[i]? = some (some v)) : (a :: l)[i]? = some (some v) := by
  cases i with
  | zero => cases h
  | succ i => simpa using h
end L2
/-! MORE RULES over the hand layer: data compared at any depth, sorted, count, remove, all, isinstance, enumerate, reversed. -/
namespace L2
open PySem PySem.Spec PyProof.Rows
/-! ### data, read off the abstract heap -/
mutual
inductive Dt (K : PySem.W.Frag) (H : Hp) : V → PyData → Prop where
  | non : Dt K H .non .none
  | bl (b : Bool) : Dt K H (.bl b) (.bool b)
  | int (i : Int) : Dt K H (.int i) (.int i)
  | str (x : Str) : Dt K H (.str x) (.str x)
  | lst {a : Addr} {xs : List V} {ds : List PyData} : SqL K H a xs → DtAll K H xs ds → Dt K H (.ref a) (.list ds)
  | tup {a : Addr} {xs : List V} {ds : List PyData} : SqT K H a xs → DtAll K H xs ds → Dt K H (.ref a) (.tuple ds)
inductive DtAll (K : PySem.W.Frag) (H : Hp) : List V → List PyData → Prop where
  | nil : DtAll K H [] []
  | cons {x : V} {xs : List V} {d : PyData} {ds : List PyData} : Dt K H x d → DtAll K H xs ds → DtAll K H (x :: xs) (d :: ds)
end
section
variable {X : Cx} {pins : List (Addr × Obj)} {σ : St} {H : Hp} {s : Shared}
mutual
theorem Inv.reads (I : Inv X pins σ H s) {v : V} {d : PyData} {u : Value} : Dt X.K H v d → RelV v u → ∃ as, Reads s.heap u d as
  | .non, r => by cases (show u = Value.none from r); exact ⟨_, .none⟩
  | .bl b, r => by cases (show u = Value.bool b from r); exact ⟨_, .bool b⟩
  | .int i, r => by obtain ⟨t, rfl⟩ := (show ∃ t, u = Value.int i t from r); exact ⟨_, .int i t⟩
  | .str x, r => by obtain ⟨t, rfl⟩ := (show ∃ t, u = Value.str x t from r); exact ⟨_, .str x t⟩
  | .lst (a := a) h hs, r => by
    cases (show u = Value.ref a from r)
    obtain ⟨its, rv, ⟨o, n, e, c, dd, dt⟩, z⟩ := I.list h
    obtain ⟨as, q⟩ := I.readsAll hs rv
    exact ⟨_, .list e c dt (by simpa using q)⟩
  | .tup (a := a) h hs, r => by
    cases (show u = Value.ref a from r)
    obtain ⟨its, rv, ⟨o, e, c, n, dt⟩, z⟩ := I.tuple h
    obtain ⟨as, q⟩ := I.readsAll hs rv
    exact ⟨_, .tuple e c dt (by simpa using q)⟩
theorem Inv.readsAll (I : Inv X pins σ H s) {vs : List V} {ds : List PyData} {us : List Value} : DtAll X.K H vs ds → Vals vs us → ∃ as, ReadsAll s.heap us ds as
  | .nil, r => by cases r; exact ⟨_, .nil⟩
  | .cons h hs, r => by
    cases r with
    | cons r1 r2 =>
      obtain ⟨as, q⟩ := I.reads h r1
      obtain ⟨bs, q2⟩ := I.readsAll hs r2
      exact ⟨_, .cons q q2⟩
end
end
theorem dt_ints {K : PySem.W.Frag} {H : Hp} : ∀ ns : List Int, DtAll K H (ns.map V.int) (ns.map PyData.int)
  | [] => .nil
  | n :: r => .cons (.int n) (dt_ints r)
theorem dt_bools {K : PySem.W.Frag} {H : Hp} : ∀ ns : List Bool, DtAll K H (ns.map V.bl) (ns.map PyData.bool)
  | [] => .nil
  | n :: r => .cons (.bl n) (dt_bools r)
def rNeD (K : PySem.W.Frag) : R2 := fun x y H Q => ∃ dx dy, Dt K H x dx ∧ Dt K H y dy ∧ SeqAt.shaped dx = true ∧ SeqAt.shaped dy = true ∧ Q (.bl (!PyData.eqv dx dy)) H
section
variable {X : Cx}
theorem op_neD (hu : X.A.units + 64 < cLine) : OpR X (compareOp .NotEq) (rNeD X.K) := by
  intro pins s σ H x y v u Q I rx ry h
  obtain ⟨dx, dy, h1, h2, s1, s2, q⟩ := h
  obtain ⟨as, ra⟩ := I.reads h1 rx
  obtain ⟨bs, rb⟩ := I.reads h2 ry
  exact SeqAt.compareNe_shaped ra rb s1 s2 hu ⟨.bl _, H, I, rfl, q⟩
end
/-! ### what == says of lists of ints -/
theorem eqvAll_ints : ∀ ns ms : List Int, PyData.eqvAll (ns.map PyData.int) (ms.map PyData.int) = decide (ns = ms)
  | [], [] => by simp [PyData.eqvAll]
  | [], _ :: _ => by simp [PyData.eqvAll]
  | _ :: _, [] => by simp [PyData.eqvAll]
  | n :: ns, m :: ms => by
    rw [List.map_cons, List.map_cons, PyData.eqvAll, eqvAll_ints ns ms]
    rw [Bool.eq_iff_iff]
    simp [PyData.eqv]
theorem eqv_ints (ns ms : List Int) : PyData.eqv (.list (ns.map PyData.int)) (.list (ms.map PyData.int)) = decide (ns = ms) := by
  rw [PyData.eqv]; exact eqvAll_ints ns ms
theorem canAll_ints : ∀ ns : List Int, PyData.canLayAll0 (ns.map PyData.int) = true
  | [] => rfl
  | n :: r => by rw [List.map_cons, PyData.canLayAll0, canAll_ints r]; rfl
theorem depth_ints : ∀ ns : List Int, PyData.depthAll (ns.map PyData.int) ≤ 1
  | [] => by simp [PyData.depthAll]
  | n :: r => by
    have := depth_ints r
    rw [List.map_cons, PyData.depthAll]
    simp only [PyData.depth]
    omega
theorem shaped_ints (ns : List Int) : SeqAt.shaped (.list (ns.map PyData.int)) = true := by
  have h1 := canAll_ints ns
  have h2 := depth_ints ns
  unfold SeqAt.shaped
  rw [Bool.and_eq_true]
  refine ⟨by rw [PyData.canLay0]; exact h1, decide_eq_true ?_⟩
  rw [PyData.depth]
  omega
/-! ### sorted -/
theorem ints_vals : ∀ {ns : List Int} {vs : List Value}, Vals (ns.map V.int) vs → IntsAre vs ns
  | [], _, .nil => .nil
  | n :: ns, _, .cons ⟨t, e⟩ r => by subst e; exact .cons n t (ints_vals r)
section
variable {X : Cx}
theorem ints_at {vs : List Value} {ns : List Int} (h : IntsAre vs ns) : ∀ (i : Nat) (v : Value), vs[i]? = some v → ∃ n t, ns[i]? = some n ∧ v = .int n t := by
  induction h with
  | nil => intro i v hv; simp at hv
  | cons n t _ ih =>
    intro i v hv
    cases i with
    | zero => simp at hv; exact ⟨n, t, rfl, hv.symm⟩
    | succ i => exact ih i v (by simpa using hv)
/-! ### all of a list of bools -/
def rAll (K : PySem.W.Frag) : List V → Hp → VK → Prop := fun xs H Q => ∃ (p : Addr) (bs : List Bool), xs = [.ref p] ∧ SqL K H p (bs.map V.bl) ∧ Q (.bl (bs.all id)) H
theorem range_all {α : Type} (f : α → Bool) (d : α) : ∀ bs : List α, ((List.range bs.length).all fun i => f (bs.getD i d)) = bs.all f
  | [] => rfl
  | b :: r => by
    rw [List.length_cons, List.range_succ_eq_map, List.all_cons, List.all_cons, List.all_map, ← range_all f d r]
    rfl
theorem call_all (hc : X.calm = true) : CallR X (.builtin "all") (rAll X.K) := by
  intro pins s σ H xs us Q I r h
  obtain ⟨p, bs, rfl, hp, q⟩ := h
  obtain ⟨u, rfl, ru⟩ := r.one
  cases (show u = Value.ref p from ru)
  obtain ⟨its, rv, pl, hz⟩ := I.list hp
  have hlen : its.length = bs.length := by rw [← rv.length, List.length_map]
  refine call_all_walk (wpAny_pyIter_list pl.isList ?_)
  have hne : p ≠ s.heap.objs.size := by
    obtain ⟨o, n, e, _⟩ := pl
    exact Nat.ne_of_lt (Heap.lt_size e)
  refine ⟨_, _, _, _, _, _, fun i => bs.getD i true, rfl, Walks.list (show X.A.in1.handled = none from I.ok.hd hc) s.heap.objs.size p hne its.toArray, ⟨⟨_, Heap.get?_push_size _ rfl, rfl, rfl⟩, ?_⟩, ?_, ?_⟩
  · obtain ⟨o, n, e, c, d, dt⟩ := pl
    exact ⟨o, Heap.get?_push_of_some _ e, c, n, dt⟩
  · intro i v s' Q' E' hv hq
    have hv' : its[i]? = some v := by simpa using hv
    have hi : i < bs.length := by rw [← hlen]; exact (List.getElem?_eq_some_iff.mp hv').1
    have hb : (bs.map V.bl)[i]? = some (V.bl (bs.getD i true)) := by
      rw [List.getElem?_map, List.getElem?_eq_getElem hi]
      simp [List.getD_eq_getElem?_getD, hi]
    obtain ⟨u, hu, ru⟩ := rv.get hb
    rw [hv'] at hu
    cases hu
    cases (show v = Value.bool _ from ru)
    exact wpAny_truthy_bool hq
  · intro h' tk hk
    refine ⟨.bl (bs.all id), H, I.kept (t' := tk) fun b o e => ?_, ?_, q⟩
    · exact hk b o (by simp; exact Nat.ne_of_lt (Heap.lt_size e)) (Heap.get?_push_of_some _ e)
    · show Value.bool _ = Value.bool _
      rw [List.size_toArray, hlen]
      exact congrArg Value.bool (range_all id true bs)
/-! ### isinstance -/
def rIsT (K : PySem.W.Frag) : List V → Hp → VK → Prop := fun xs H Q => ∃ x n t b, xs = [x, .ty n] ∧ TyOf K H x t ∧ PySem.W.kitOne K t (.type n) = some b ∧ Q (.bl b) H
theorem call_isT : CallR X (.builtin "isinstance") (rIsT X.K) := by
  intro pins s σ H xs us Q I r h
  obtain ⟨x, n, t, b, rfl, ty, e, q⟩ := h
  obtain ⟨u, c, rfl, ru, rc⟩ := r.two
  cases (show c = Value.type n from rc)
  exact isinst_ok I ru ty e fun tk => ⟨.bl b, H, I.tok _, rfl, q⟩
end
section
variable {X : Cx} {tg : Expr}
end
section
variable {X : Cx} {elts : List Expr} {k : Nat} {tp : Pos}
end
end L2
namespace Rg
open PySem PyProof.Rows
section
variable {prog : Program} {w : World} {A : Around} {E : Value → Shared → Prop} {s : Shared}
theorem sort_in_place {a : Addr} {vs : List Value} {ns : List Int} {n : Nat} {P : Fin → Shared → Prop} (ho : s.heap.get? a = some (seqObj "list" vs.toArray n)) (hI : IntsAre vs ns) (h64 : vs.length < 64)
    (h : ∀ (out : Array Value) (ns' : List Int), IntsAre out.toList ns' → ns'.Perm ns → ns'.Pairwise (· ≤ ·) → P (.done (.ret .none)) { s with heap := sortedHeap s.heap a vs out }) :
    wpAny (model prog w) A (Builtin.«list.sort» ⟨[.ref a], []⟩) P E s := list_sort_tree ho hI h64 h
theorem sorted_any {l : Addr} {vs : List Value} {ns : List Int} {Q : Value → Shared → Prop} (hl : s.heap.IsList l vs.toArray) (hI : IntsAre vs ns) (h64 : vs.length < 64)
    (h : ∀ (out : Array Value) (ns' : List Int), IntsAre out.toList ns' → ns'.Perm ns → ns'.Pairwise (· ≤ ·) → Q (.ref (s.heap.objs.size + 1)) { s with heap := sortedAll s.heap vs out }) :
    wpAny (model prog w) A (call (.builtin "sorted") [.ref l]) Q E s := by
  have hz : vs.length ≤ sizeLine := Nat.le_trans (Nat.le_of_lt h64) (by decide)
  refine Calls.call_function_entry kind_sorted plain_sorted entry_sorted (args_sorted1 _) ?_
  unfold Builtin.«sorted»
  refine wpAny_bind (m := checkCount "sorted" 1 1 _) (wpAny_pure (wpAny_bind (collect_list hl (wpAny_bind (wpAny_newList ?_ hz)) hz)))
  have e1 : ((s.heap.push (seqObj "list" #[] 0)).update s.heap.objs.size (Obj.mapSeq (· ++ vs.toArray))).objs.size = s.heap.objs.size + 1 := by rw [Heap.size_update, size_push']
  have e2 : (((s.heap.push (seqObj "list" #[] 0)).update s.heap.objs.size (Obj.mapSeq (· ++ vs.toArray))).push (seqObj "list" vs.toArray 0)).get? (s.heap.objs.size + 1) = some (seqObj "list" vs.toArray 0) := by
    rw [← e1]; exact Heap.get?_push_size _ rfl
  show wpAny _ _ _ _ _ { s with heap := ((s.heap.push (seqObj "list" #[] 0)).update s.heap.objs.size (Obj.mapSeq (· ++ vs.toArray))).push (seqObj "list" vs.toArray 0) }
  rw [e1]
  refine wpAny_bind (wpAny_holding (wpAny_call_entry slot_list_sort ⟨_, e2, rfl⟩ entry_list_sort (sort_in_place e2 hI h64 fun out ns' a1 a2 a3 => ⟨_, rfl, ?_⟩) (args_list_sort _)))
  exact wpAny_pure ⟨_, rfl, h out ns' a1 a2 a3⟩
end
end Rg
namespace Rg
/-! ### lists in order -/
def srt (l : List Int) : List Int := l.mergeSort fun a b => decide (a ≤ b)
theorem srt_perm (l : List Int) : (srt l).Perm l := List.mergeSort_perm l _
theorem srt_sorted (l : List Int) : (srt l).Pairwise (· ≤ ·) := by
  have h := List.pairwise_mergeSort (le := fun a b : Int => decide (a ≤ b)) (fun a b c h1 h2 => by simp at *; omega) (fun a b => by simp; omega) l
  exact h.imp (by simp)
theorem sorted_unique : ∀ {l m : List Int}, l.Perm m → l.Pairwise (· ≤ ·) → m.Pairwise (· ≤ ·) → l = m
  | [], m, p, _, _ => by simpa using p.symm
  | a :: l, [], p, _, _ => by simpa using p
  | a :: l, b :: m, p, hl, hm => by
    rw [List.pairwise_cons] at hl hm
    have h1 : a ∈ b :: m := p.mem_iff.mp List.mem_cons_self
    have h2 : b ∈ a :: l := p.mem_iff.mpr List.mem_cons_self
    have e : a = b := by
      rcases List.mem_cons.mp h1 with z | z
      · exact z
      · rcases List.mem_cons.mp h2 with y | y
        · exact y.symm
        · have := hl.1 b y
          have := hm.1 a z
          omega
    subst e
    rw [sorted_unique (List.Perm.cons_inv p) hl.2 hm.2]
theorem srt_unique {l m : List Int} (p : l.Perm m) (h : l.Pairwise (· ≤ ·)) : l = srt m := sorted_unique (p.trans (srt_perm m).symm) h (srt_sorted m)
theorem srt_of_sorted {l : List Int} (h : l.Pairwise (· ≤ ·)) : srt l = l := (srt_unique (List.Perm.refl l) h).symm
theorem take_succ {α : Type} {l : List α} {i : Nat} {x : α} (h : l[i]? = some x) : l.take (i + 1) = l.take i ++ [x] := by
  rw [List.take_succ, h]; rfl
end Rg
/-! THE FORMS ONE USES: heaps, comprehensions of plain elements, sorted of any length. -/
namespace L2
open PySem PySem.Spec PyProof.Rows
/-! ### heaps -/
theorem same_new {H : Hp} {p : Addr} (h : H p = none) (o : HO) : Same H (upd H p o) := fun b u q => by rw [upd_ne (ne_of_none q h)]; exact q
theorem same_upd {H H1 : Hp} {p : Addr} {o : HO} (h : Same H H1) (hp : H p = none) : Same H (upd H1 p o) := fun b u q => by rw [upd_ne (ne_of_none q hp)]; exact h b u q
/-- a list that is read is not one that was not there -/
theorem sq_ne {K : PySem.W.Frag} {H : Hp} {a p : Addr} {xs : List V} {o : HO} (h : SqL K H a xs) (hp : H p = none) : SqL K (upd H p o) a xs := (same_new hp o).seq h
/-! ### comprehensions of plain elements -/
/-- a comprehension's block of one name without a test -/
abbrev CB (J : It) (imp : St) (te : TE) (Q : VK) (H1 : Hp) (D : Addr) : Prop := CBG J (List.replicate 1 none ++ imp) (gName 0) tYes te Q H1 D
/-- over any source of n items x 0, x 1, ..: the list of the f's -/
theorem comp_n {J : It} {imp : St} {te : TE} {Q : VK} {H1 : Hp} {D : Addr} (n : Nat) (x f : Nat → V) (hn : n ≤ sizeLine)
    (hstop : ∀ ys, J.stop n (upd H1 D (.lst ys))) (hgo : ∀ i ys, i < n → J.go i (upd H1 D (.lst ys)) ∧ ∀ v H3, J.yld i (upd H1 D (.lst ys)) v H3 → v = x i ∧ H3 = upd H1 D (.lst ys))
    (hel : ∀ i ys (Q' : VK), i < n → Q' (f i) (upd H1 D (.lst ys)) → te (some (x i) :: imp) (upd H1 D (.lst ys)) Q')
    (hq : Q (.ref D) (upd H1 D (.lst ((List.range n).map f)))) : CB J imp te Q H1 D := by
  refine ⟨fun i m H2 => m = n - i ∧ i ≤ n ∧ H2 = upd H1 D (.lst ((List.range i).map f)), ⟨n, rfl, Nat.zero_le _, rfl⟩, ?_⟩
  rintro i m H2 ⟨rfl, hi, rfl⟩
  by_cases hlt : i < n
  · refine .inr ⟨(hgo i _ hlt).1, fun v H3 hy => ?_⟩
    obtain ⟨e1, e2⟩ := (hgo i _ hlt).2 v H3 hy
    subst e1 e2
    refine ⟨keep1, ?_⟩
    show te (some (x i) :: imp) (upd H1 D (.lst ((List.range i).map f))) _
    refine hel i _ _ hlt ⟨_, upd_same, ?_, n - (i + 1), by omega, rfl, hlt, ?_⟩
    · rw [List.length_map, List.length_range]; omega
    · rw [upd_upd, List.range_succ, List.map_append]; rfl
  · have e : i = n := by omega
    subst e
    exact .inl ⟨hstop _, hq⟩
/-- over a list -/
theorem comp_map {K : PySem.W.Frag} {a : Addr} {xs : List V} {imp : St} {te : TE} {Q : VK} {H1 : Hp} {D : Addr} (f : V → V) (hD : H1 D = none) (hx : SqL K H1 a xs) (hz : xs.length ≤ sizeLine)
    (hel : ∀ (i : Nat) x ys (Q' : VK), xs[i]? = some x → Q' (f x) (upd H1 D (.lst ys)) → te (some x :: imp) (upd H1 D (.lst ys)) Q')
    (hq : Q (.ref D) (upd H1 D (.lst (xs.map f)))) : CB (Itl K a) imp te Q H1 D := by
  have hx' : ∀ ys, SqL K (upd H1 D (.lst ys)) a xs := fun ys => sq_ne hx hD
  have get : ∀ i, i < xs.length → xs[i]? = some (xs.getD i .non) := fun i hi => by simp [List.getD_eq_getElem?_getD, hi]
  refine comp_n xs.length (fun i => xs.getD i .non) (fun i => f (xs.getD i .non)) hz (fun ys => ⟨xs, hx' ys, Nat.le_refl _⟩) (fun i ys hi => ⟨⟨xs, _, hx' ys, get i hi⟩, fun v H3 hy => ?_⟩) (fun i ys Q' hi q => hel i _ ys Q' (get i hi) q) ?_
  · obtain ⟨e, y⟩ := hy
    have := y xs (hx' ys)
    rw [get i hi] at this
    exact ⟨(Option.some.inj this).symm, e⟩
  · have e : (List.range xs.length).map (fun i => f (xs.getD i .non)) = xs.map f := by
      apply List.ext_getElem?
      intro i
      rw [List.getElem?_map, List.getElem?_map]
      by_cases hi : i < xs.length
      · rw [List.getElem?_range hi]; simp [List.getD_eq_getElem?_getD, hi]
      · rw [List.getElem?_eq_none (by simpa using hi), List.getElem?_eq_none (by omega)]; rfl
    rw [e]
    exact hq
/-- over lo, lo + 1, .. -/
theorem comp_range {lo : Int} {n : Nat} {imp : St} {te : TE} {Q : VK} {H1 : Hp} {D : Addr} (f : Nat → V) (hn : n ≤ sizeLine)
    (hel : ∀ i ys (Q' : VK), i < n → Q' (f i) (upd H1 D (.lst ys)) → te (some (.int (lo + i)) :: imp) (upd H1 D (.lst ys)) Q')
    (hq : Q (.ref D) (upd H1 D (.lst ((List.range n).map f)))) : CB (Itr lo n) imp te Q H1 D :=
  comp_n n (fun i => .int (lo + i)) f hn (fun _ => Nat.le_refl _) (fun i ys hi => ⟨hi, fun v H3 hy => ⟨hy.2, hy.1⟩⟩) hel hq
/-! ### sorted -/
section
variable {X : Cx}
def rSrt (K : PySem.W.Frag) : List V → Hp → VK → Prop := fun xs H Q => ∃ (p : Addr) (ns : List Int), xs = [.ref p] ∧ SqL K H p (ns.map V.int) ∧ ns.length < 64 ∧ ∀ l, H l = none → Q (.ref l) (upd H l (.lst ((Rg.srt ns).map V.int)))
theorem call_srt : CallR X (.builtin "sorted") (rSrt X.K) := by
  intro pins s σ H xs us Q I r h
  obtain ⟨p, ns, rfl, hp, h64, q⟩ := h
  obtain ⟨u, rfl, ru⟩ := r.one
  cases (show u = Value.ref p from ru)
  obtain ⟨its, rv, pl, hz⟩ := I.list hp
  have hi := ints_vals rv
  refine Rg.sorted_any pl.isList hi (by rw [← rv.length, List.length_map]; exact h64) fun out ns' a1 a2 a3 => ?_
  have fr : H (s.heap.objs.size + 1) = none := I.hok.fresh (Nat.le_succ _)
  obtain ⟨e, he⟩ := sortedAll_at s.heap its out
  have e2 : out = out.toList.toArray := by simp
  have e3 : ns' = Rg.srt ns := Rg.srt_unique a2 a3
  refine ⟨.ref (s.heap.objs.size + 1), _, I.laid (t' := s.toks) (o := .lst (ns'.map V.int)) (fun b o e => sortedAll_old e) (Nat.le_succ _) ⟨?_, out.toList, e, vals_ints a1, ?_⟩, rfl, ?_⟩
  · rw [List.length_map, a2.length_eq]
    rw [List.length_map] at hz
    exact hz
  · rw [← e2]; exact he
  · rw [e3]; exact q _ fr
end
/-! ### ints in lists of values -/
theorem at_int {ps : List Int} {i : Nat} {p : Int} (h : ps[i]? = some p) : (ps.map V.int)[i]? = some (.int p) := by rw [List.getElem?_map, h]; rfl
theorem atI_int {ps : List Int} {i : Nat} {p : Int} (h : ps[i]? = some p) : atI (ps.map V.int) (i : Int) = some (.int p) := atI_nat (at_int h)
theorem len_int (ps : List Int) : (ps.map V.int).length = ps.length := List.length_map _
theorem cut_from {xs : List V} {k : Int} (h : 0 ≤ k) : cutV xs (some k) none = xs.drop k.toNat := by
  unfold cutV
  have e1 : HT.sIx xs.length 0 (some k) = min k.toNat xs.length := by
    simp only [HT.sIx]
    split <;> omega
  have e2 : HT.sIx xs.length xs.length none = xs.length := rfl
  rw [e1, e2]
  by_cases hk : k.toNat ≤ xs.length
  · rw [Nat.min_eq_left hk]
    exact List.take_of_length_le (by rw [List.length_drop]; omega)
  · rw [Nat.min_eq_right (by omega), List.drop_eq_nil_of_le (by omega), List.drop_eq_nil_of_le (by omega), List.take_nil]
theorem atI_back {α : Type} {xs : List α} {x : α} (h : xs.getLast? = some x) : atI xs (-1) = some x := by
  have e := List.getLast?_eq_some_iff.mp h
  obtain ⟨ys, rfl⟩ := e
  exact atI_last ys x
end L2
namespace L2
open PySem PySem.Spec PyProof.Rows
/-! ### rules that name the written part (for a block's context) -/
section
variable {X : Cx}
theorem ix_listK (K : PySem.W.Frag) (h : X.K = K := by rfl) : IxR X (rIxL K) := h ▸ ix_list
end
end L2
namespace L2
open PySem PySem.Spec PyProof.Rows
/-! ### a def of the text, with all that a call of it wants -/
structure Def (P : Program) (w : World) (K : PySem.W.Frag) (mg : Str → Option Value) (base : Heap) (CX : CXT) (x : Str) (ps : List Str) (k : Nat) (sp : Sp) : Prop where
  ex : ∃ (f : Addr) (fd : FuncData), FnOk P w K mg base CX k f fd ps sp ∧ Binds K fd ps [] ∧ PySem.W.keepIn K (.ref f) = true ∧ mg x = some (.ref f)
theorem Def.mono {P : Program} {w : World} {K : PySem.W.Frag} {mg : Str → Option Value} {base : Heap} {CX : CXT} {x : Str} {ps : List Str} {j k : Nat} {sp : Sp} (D : Def P w K mg base CX x ps j sp) (h : j ≤ k) : Def P w K mg base CX x ps k sp := by
  obtain ⟨f, fd, F, r⟩ := D.ex
  exact ⟨f, fd, F.mono h, r⟩
section
variable {X : Cx} {CX : CXT} {k : Nat} {ps : List Str} {sp : Sp} {E : XK} {x : Str} {p pos : Pos} {e : Expr} {es : List Expr} {t : TA}
/-- f(e, ..) of a def of the text; what of an exception -/
theorem pe_fnX (D : Def X.prog X.w X.K X.mg X.base CX x ps k sp) (hr : Room k X.A) (hx : Passes CX X E) (hg : Gl X x) (ha : PA X (e :: es) t) (hdb : (x == ("__debug__" : Str)) = false := by decide)
    (he : starEach (e :: es) X.env = (false, eval e X.env) :: starEach es X.env := by rfl) (hpl : (backTo pos (starEach es X.env)).any (·.1) = false := by rfl) : PE X (.Call (.Name x p) (e :: es) [] pos) (tCall sp [] E t) := by
  obtain ⟨f, fd, F, hb, hk, hm⟩ := D.ex
  exact pe_call F hr hg hm hk hb .nil hx ha hdb he hpl
/-- .. that lets none out -/
theorem pe_fn (D : Def X.prog X.w X.K X.mg X.base CX0 x ps k sp) (hr : Room k X.A) (hg : Gl X x) (ha : PA X (e :: es) t) (hdb : (x == ("__debug__" : Str)) = false := by decide)
    (he : starEach (e :: es) X.env = (false, eval e X.env) :: starEach es X.env := by rfl) (hpl : (backTo pos (starEach es X.env)).any (·.1) = false := by rfl) : PE X (.Call (.Name x p) (e :: es) [] pos) (tCall sp [] E0 t) :=
  pe_fnX D hr pass0 hg ha hdb he hpl
end
end L2
namespace L2
open PySem PySem.Spec PyProof.Rows
theorem upd_none {H : Hp} {p D : Addr} {o : HO} (h : upd H p o D = none) : H D = none := by
  unfold upd at h
  split at h
  · cases h
  · exact h
end L2
namespace L2
open PySem PySem.Spec PyProof.Rows
/-! ### a block with a word in its middle -/
def tMid (M : St → Hp → Prop) (t u : TS) : TS := fun D σ H => t { D with nx := M } σ H ∧ ∀ σ' H', M σ' H' → u D σ' H'
end L2
/-! max(xs, default=d) of a list of ints: one of them, or d. -/
namespace L2
open PySem PySem.Spec PyProof.Rows
section
variable {prog : Program} {w : World} {A : Around} {R : Result → Shared → Prop} {I : Addr} {fp wr : List Addr} {n : Nat} {P : Nat → Value → Prop} {St : Nat → Heap → Prop}
end
section
variable {X : Cx} {p pos kpos : Pos} {e d : Expr} {ta tk : TA}
end
end L2
/-! EXCEPTIONS OF OWN CLASSES over the hand layer: raised, passing through calls, caught. -/
namespace L2
open PySem PySem.Spec PyProof.Rows
/-! ### heaps behind an exception -/
theorem hide_ok {P : Program} {w : World} {H : Hp} {h : Heap} {as : List Addr} (ok : HOk P w H h) (hn : ∀ b ∈ as, H b = none) : HOk P w H (PySem.W.hideAll h as) := fun a o e =>
  (ok a o e).stay (fun b u hb q => PySem.W.hideAll_get _ q fun hm => by
    have n := hn b hm
    rcases hb with z | z
    · rw [z, e] at n; cases n
    · rw [z] at n; cases n) (fun _ q => q) fun _ _ q => q
theorem Un.fly {fs : List Addr} {H H' : Hp} {h h' h2 B : Heap} (u : Un fs [] H H' h h') (kb : ∀ b o, B.get? b = some o → h2.get? b = some o) (hb : ∀ b o, h.get? b = some o → H b = none → b ∉ fs → B.get? b = some o)
    (ht : ∀ b o, h.get? b = some o → b ∉ fs → ∃ o', B.get? b = some o') (hs : ∀ b o, b ∈ fs → h'.get? b = some o → ∃ sl, h2.get? b = some { o with slots := sl }) : Un fs [] H H' h h2 where
  keep := fun b o q n f _ => kb b o (hb b o q n f)
  slot := fun b o q n f x => by
    obtain ⟨sl, e⟩ := u.slot b o q n f x
    obtain ⟨sl', e'⟩ := hs b _ f e
    exact ⟨sl', e'⟩
  free := u.free
  there := fun b o q x => by
    by_cases f : b ∈ fs
    · obtain ⟨o', e⟩ := u.there b o q x
      obtain ⟨sl, e'⟩ := hs b o' f e
      exact ⟨_, e'⟩
    · obtain ⟨o', e⟩ := ht b o q f
      exact ⟨o', kb _ _ e⟩
  tups := u.tups
  frzs := u.frzs
  tbls := u.tbls
/-- an exception of the class at C in flight at x, behind a call: the frames above outer are left -/
structure FlyX (P : Program) (w : World) (outer : List Env) (H : Hp) (s : Shared) (x C : Addr) (H' : Hp) (s' : Shared) : Prop where
  os : s'.os = s.os
  bare : AllBare s'.gens
  un : Un (frs outer) [] H H' s.heap s'.heap
  fly : ∃ (B : Heap) (t : Addr), Heap.FlyingW B outer x (.ref C) (.ref t) s'.heap ∧ (∀ b o, s.heap.get? b = some o → H b = none → b ∉ frs outer → B.get? b = some o) ∧ (∀ b o, s.heap.get? b = some o → b ∉ frs outer → ∃ o', B.get? b = some o') ∧ HOk P w H' B
def CXE (P : Program) (w : World) : CXT := fun outer H s E e s' => ∃ (x C : Addr) (H' : Hp), e = .ref x ∧ FlyX P w outer H s x C H' s' ∧ E (.ref C) none H'
/-- a def's context: the frame on top is its own -/
structure Own (X : Cx) : Prop where
  stk : X.stack = X.env :: X.outer
  fr : X.env.frame = some X.env.locals
  ex : X.ex = []
section
variable {X : Cx} {pins : List (Addr × Obj)} {σ : St} {H H' : Hp} {s s' : Shared} {x C : Addr} {Q : Unit → Shared → Prop} {E : Value → Shared → Prop}
theorem Own.frs (O : Own X) : frs X.stack = X.env.locals :: frs X.outer := by
  rw [O.stk]
  show (X.env :: X.outer).filterMap (·.frame) = _
  rw [List.filterMap_cons, O.fr]
  rfl
theorem Own.out (O : Own X) (I : Inv X pins σ H s) : ∀ b o, X.s₀.heap.get? b = some o → b ∈ L2.frs X.stack → b ∈ L2.frs X.outer := fun b o e hb => by
  rw [O.frs] at hb
  rcases List.mem_cons.mp hb with z | z
  · exact absurd (Nat.lt_of_lt_of_le (Heap.lt_size e) (by rw [z]; exact I.ok.above)) (Nat.lt_irrefl _)
  · exact z
end
/-- a def's context, as cxOf makes it -/
theorem own_cx {CX : CXT} {P : Program} {w : World} {K : PySem.W.Frag} {mg : Str → Option Value} {base : Heap} {N : List Str} {qual : Str} {scope : Scope} {f : Addr} {cd : Value} {A : Around} {outer : List Env} {s : Shared} {H : Hp} {E : XK} :
    Own (cxOf CX P w K mg base N qual scope f cd A outer s H E) := ⟨rfl, rfl, rfl⟩
end L2
namespace L2
open PySem PySem.Spec PyProof.Rows
/-! ### texts with fields -/
abbrev TJ := St → Hp → Str → (Str → Hp → Prop) → Prop
def PJ (X : Cx) (es : List Expr) (t : TJ) : Prop :=
  ∀ (pins : List (Addr × Obj)) (s : Shared) (σ : St) (H : Hp) (acc : Str) (Q : Str → Hp → Prop), Inv X pins σ H s → t σ H acc Q → wpAny (model X.prog X.w) X.A (joinParts acc (evalEach es X.env)) (fun v s' => ∃ y tk H', v = .str y tk ∧ Inv X pins σ H' s' ∧ Q y H') X.xe s
def tJnil : TJ := fun _ H acc Q => acc.length ≤ sizeLine ∧ Q acc H
def tJcons (te : TE) (t : TJ) : TJ := fun σ H acc Q => te σ H fun v H1 => ∃ y, v = .str y ∧ (acc ++ y).length ≤ sizeLine ∧ t σ H1 (acc ++ y) Q
def tFmt (te : TE) : TE := fun σ H Q => te σ H fun v H1 => (∃ i, v = .int i ∧ i.natAbs.log2 < 1920 ∧ Q (.str (toString i)) H1) ∨ (∃ x, v = .str x ∧ x.length ≤ sizeLine ∧ Q (.str x) H1)
section
variable {X : Cx} {e : Expr} {es : List Expr} {te : TE} {t : TJ} {pos : Pos}
theorem pj_nil : PJ X [] tJnil := fun pins s σ H acc Q I h => joinParts_nil ⟨acc, _, H, rfl, I.tok _, h.2⟩ h.1
theorem pj_cons (he : PE X e te) (hr : PJ X es t) (hs : evalEach (e :: es) X.env = eval e X.env :: evalEach es X.env := by rfl) : PJ X (e :: es) (tJcons te t) := by
  intro pins s σ H acc Q I h
  rw [hs]
  refine joinParts_cons (thn (he pins s σ H _ I h) fun u s1 ⟨v, H1, I1, r, y, ev, hz, q⟩ => ?_)
  subst ev
  obtain ⟨tk, rfl⟩ := (show ∃ tk, u = Value.str y tk from r)
  exact ⟨hz, hr pins s1 σ H1 _ Q I1 q⟩
theorem pe_fmt (he : PE X e te) : PE X (.FormattedValue e (-1) none pos) (tFmt te) := by
  intro pins s σ H Q I h
  refine FormattedValue_plain (thn (he pins s σ H _ I h) fun u s1 ⟨v, H1, I1, r, q⟩ => ?_)
  rcases q with ⟨i, ev, hl, q⟩ | ⟨x, ev, hz, q⟩
  · subst ev
    obtain ⟨tk, rfl⟩ := (show ∃ tk, u = Value.int i tk from r)
    exact PySem.wpAny_formatField_int hl ⟨.str _, H1, I1.tok _, ⟨_, rfl⟩, q⟩
  · subst ev
    obtain ⟨tk, rfl⟩ := (show ∃ tk, u = Value.str x tk from r)
    exact formatField_str (fun t' tk' => ⟨.str x, H1, I1.tok _, ⟨_, rfl⟩, q⟩) hz
def tJoin (t : TJ) : TE := fun σ H Q => t σ H Str.empty fun y H' => Q (.str y) H'
theorem pe_join {e1 e2 : Expr} {rest : List Expr} (h : PJ X (e1 :: e2 :: rest) t) : PE X (.JoinedStr (e1 :: e2 :: rest) pos) (tJoin t) := by
  intro pins s σ H Q I q
  rw [PySem.arm_eval_JoinedStr]
  show wpAny _ _ (joinParts Str.empty (evalEach (e1 :: e2 :: rest) X.env)) _ _ s
  exact thn (h pins s σ H _ _ I q) fun v s' ⟨y, tk, H', ev, I', q'⟩ => ⟨.str y, H', I', ⟨tk, ev⟩, q'⟩
end
/-! ### the classes -/
theorem top_of {K : PySem.W.Frag} {mg : Str → Option Value} {base : Heap} (p : Program) (M : Mod K mg base) : ∃ loose mb, PySem.W.TopRead p loose mg mb base := by
  obtain ⟨mb, hb, hbb⟩ := M.blt
  obtain ⟨o, es, ep, ho, hd, hk, hm⟩ := id M.glob
  refine ⟨es.toList.filterMap fun e => match e.key with | .str n _ => some n | _ => none, mb, M.glob, hb, M.nolimit, hbb, fun x _ hx _ _ _ => ?_⟩
  rw [← hm x]
  unfold nsFind findBy
  cases q : es.find? (fun e => e.key.isStr x) with
  | none => rfl
  | some en =>
    exfalso
    have h1 := Array.find?_some q
    have h2 := Array.mem_of_find?_eq_some q
    obtain ⟨n, t, hkey⟩ := hk en h2
    have e : n = x := by
      rw [hkey] at h1
      simpa [Value.isStr] using h1
    apply hx
    rw [List.mem_filterMap]
    exact ⟨en, by simpa using h2, by rw [hkey, e]⟩
def bmV : List Value := [.type "ValueError", .type "Exception", .type "BaseException", .type "object"]
/-- an own error class under ValueError -/
structure XCls (K : PySem.W.Frag) (x : Str) (C : Addr) : Prop where
  at_ : PySem.W.nsIn K mainGlobals x = some (some (.ref C))
  exc : PySem.W.excIn K C bmV "ValueError.__new__" = true
theorem XCls.own {K : PySem.W.Frag} {x : Str} {C : Addr} {mg : Str → Option Value} {base : Heap} (Z : XCls K x C) (M : Mod K mg base) : OwnCls x C bmV "ValueError.__new__" mg base := by
  obtain ⟨loose, mb, T⟩ := top_of default M
  exact PySem.W.own_of_in M.kin T Z.at_ Z.exc
/-! ### raise -/
def RaiseOk (X : Cx) (E : XK) : Prop := ∀ (pins : List (Addr × Obj)) (σ : St) (H : Hp) (s : Shared) (x C : Addr) (h' : Heap) (vs : List Value), Inv X pins σ H s → Heap.MadeExcOf s.heap h' x (.ref C) vs → E (.ref C) none H → X.xe (.ref x) { s with heap := h' }
def tRaise (C : Addr) (E : XK) (t : TA) : TS := fun _ σ H => t σ H fun vs H1 => vs.length ≤ sizeLine ∧ E (.ref C) none H1
theorem ps_raise {X : Cx} {E : XK} {C : Addr} {x : Str} {e : Expr} {es : List Expr} {t : TA} {np cpos pos : Pos} (R : RaiseOk X E) (hc : X.calm = true) (Z : XCls X.K x C) (hm : X.mg x = some (.ref C)) (hg : Gl X x) (ha : PA X (e :: es) t)
    (hdb : (x == ("__debug__" : Str)) = false := by decide) (he : starEach (e :: es) X.env = (false, eval e X.env) :: starEach es X.env := by rfl) (hpl : (backTo cpos (starEach es X.env)).any (·.1) = false := by rfl) :
    PS X (.Raise (some (.Call (.Name x np) (e :: es) [] cpos)) none pos) (tRaise C E t) := by
  intro pins s σ H D I h
  obtain ⟨tl, N, nm, qn, bs, hdct, sn, sub, ab, col, dd, k0, k1, k2, k3, k5, mN, hC, hN, hni, T⟩ := (Z.own I.mod).obj
  have pl : (backTo cpos (starEach (e :: es) X.env)).any (·.1) = false := by
    rw [he]
    show (false || (backTo cpos (starEach es X.env)).any (·.1)) = false
    rw [hpl]
    rfl
  have hb : tl.contains (.type "BaseException") = true := T.hasType F.excBase_ValueError.hasBase
  refine wpAny_Raise_call_subT (newId := "ValueError.__new__") (N := N) (nm := nm) (q := qn) (bs := bs) (hdct := hdct) (sn := sn) (sub := sub) (ab := ab) (col := col) (dd := dd) (k0 := k0) (k1 := k1) (k2 := k2) (k3 := k3) (k5 := k5) F.excBase_ValueError hb (I.ok.hd hc) pl hni (ld_glob I hg hm ⟨rfl, ?_⟩ hdb)
  have h1 := ha cpos pins s σ H _ I h
  rw [he] at h1 ⊢
  refine Calls.evalArgs_plain (thn h1 fun us s1 ⟨vs, H1, I1, rv, hz, q⟩ => ?_)
  exact ⟨rfl, by rw [← rv.length]; exact hz, I1.bk _ _ hC, hN.keeps I1.bk, T.keeps I1.bk, fun h' x' m => R pins σ H1 s1 x' C h' us I1 m q⟩
end L2
namespace L2
open PySem PySem.Spec PyProof.Rows
/-! ### does a handler's class take it -/
/-- the class that a handler names -/
structure HCls (K : PySem.W.Frag) (C : Addr) : Prop where
  cls : (PySem.W.clsIn K C).isSome = true
  ty : PySem.W.typeIn K (.ref C) = some (.type "type")
  base : PySem.W.subIn K (.ref C) (.type "BaseException") = some true
theorem looks_type {K : PySem.W.Frag} {M : Model} {h : Heap} {C : Addr} (X : K.In h) (e : (PySem.W.clsIn K C).isSome = true) : PySem.W.Looks M h (isType (.ref C)) true := by
  cases q : K.lookup C with
  | none => unfold PySem.W.clsIn at e; rw [q] at e; cases e
  | some o =>
    obtain ⟨c, d, dt, sl⟩ := o
    cases dt with
    | cls cd =>
      intro A Q E s k hq
      unfold isType loadHead
      exact wpAny_bind (wpAny_loadPart (k _ _ (X _ _ q)) (wpAny_pure hq))
    | _ => unfold PySem.W.clsIn at e; rw [q] at e; cases e
theorem exc_matches {K : PySem.W.Frag} {M : Model} {A : Around} {E : Value → Shared → Prop} {s : Shared} {x C Cr : Addr} {ox : Obj} {b : Bool} {Q : Bool → Shared → Prop} (X : K.In s.heap) (Z : HCls K Cr) (hx : s.heap.get? x = some ox) (hc : ox.cls = .ref C)
    (hs : PySem.W.subIn K (.ref C) (.ref Cr) = some b) (q : Q b s) : wpAny M A (excMatches (.ref x) (.ref Cr)) Q E s := by
  obtain ⟨h, g, d, tk, os⟩ := s
  have l1 : PySem.W.Looks M h (typeOf (.ref Cr)) (.type "type") := PySem.W.looks_typeIn X Z.ty
  have l2 := looks_type (M := M) X Z.cls
  have l3 := PySem.W.looks_subIn (M := M) X Z.base
  have l4 := PySem.W.looks_subIn (M := M) X hs
  have hT : (⟨h, g, d, tk, os⟩ : Shared).heap.get? x = some ox := hx
  unfold excMatches isInstance
  refine wpAny_bind (wpAny_bind (l1.at (wpAny_of_eq PySem.tc_notTuple ?_)))
  rw [if_neg Bool.false_ne_true]
  refine wpAny_bind (wpAny_pure ?_)
  have lx : ∀ {A' : Around} {Q' : Value → Shared → Prop} {E' : Value → Shared → Prop}, Q' (.ref C) ⟨h, g, d, tk, os⟩ → wpAny M A' (typeOf (.ref x)) Q' E' ⟨h, g, d, tk, os⟩ := fun q' => by
    have l : PySem.W.Looks M h (typeOf (.ref x)) (.ref C) := hc ▸ (PySem.W.Looks.ld hx).andThen .now
    exact l.at q'
  dsimp only
  simp only [List.forIn_cons, List.forIn_nil]
  unfold isExcClass
  refine wpAny_bind (wpAny_bind (wpAny_bind (wpAny_bind (l2.at ?_))))
  rw [if_pos rfl]
  refine l3.at ?_
  rw [if_neg (by decide)]
  refine wpAny_pure (wpAny_pure (wpAny_bind (lx (wpAny_bind (wpAny_bind (wpAny_bind (l4.at ?_)))))))
  cases b with
  | true => exact wpAny_pure (wpAny_pure (wpAny_pure q))
  | false => exact wpAny_pure (wpAny_pure (wpAny_pure q))
end L2
namespace L2
open PySem PySem.Spec PyProof.Rows
/-! ### the caught exception as a tracked thing -/
def excO (x C : Addr) : HO := .ext fun h => ∃ o vs, h.get? x = some o ∧ o.cls = .ref C ∧ o.data = .fields vs
section
variable {X : Cx} {pins : List (Addr × Obj)} {σ : St} {H : Hp} {s : Shared}
theorem Inv.track {x : Addr} {o : HO} (I : Inv X pins σ H s) (hx : H x = none) (h0 : X.s₀.heap.get? x = none) (hl : x ≠ X.env.locals) (hc : ∀ y c, X.env.cells.lookup y = some c → c ≠ x) (hp : ∀ p ∈ X.pn ++ pins, p.1 ≠ x)
    (new : ObjOk X.prog X.w (upd H x o) s.heap x o) : Inv X pins σ (upd H x o) s := by
  have ne : ∀ {b : Addr} {u : HO}, H b = some u → b ≠ x := fun e => ne_of_none e hx
  refine ⟨I.ok, I.os, I.bare, ⟨I.base.keep, I.base.slot, fun b ob e n z => ?_, I.base.there, fun b xs e => ?_, fun b ob u e => ?_, fun b ps e => ?_⟩, I.loc, I.cell, ?_, fun y c e => ?_, fun p hm => ?_, fun b u e => ?_, I.len⟩
  · have nb : b ≠ x := fun z => by rw [z, h0] at e; cases e
    rw [upd_ne nb]
    exact I.base.free b ob e n z
  · have := I.base.tups b xs e
    rw [upd_ne (ne this)]; exact this
  · have := I.base.frzs b ob u e
    rw [upd_ne (ne this)]; exact this
  · obtain ⟨more, q⟩ := I.base.tbls b ps e
    exact ⟨more, by rw [upd_ne (ne q)]; exact q⟩
  · rw [upd_ne (Ne.symm hl)]; exact I.free
  · rw [upd_ne (hc y c e)]; exact I.freeC y c e
  · obtain ⟨p1, p2, p3⟩ := I.pin p hm
    exact ⟨p1, by rw [upd_ne (hp p hm)]; exact p2, p3⟩
  · by_cases hb : b = x
    · subst hb
      rw [upd_same] at e
      cases e
      exact new
    · rw [upd_ne hb] at e
      exact (I.hok b u e).stay (fun c v _ q => q) (fun c q => by rw [upd_ne (ne q)]; exact q) fun c xs q => by rw [upd_ne (ne q)]; exact q
/-- a suite's context: an exception is being handled -/
def Cx.held (X : Cx) (x : Addr) : Cx := { X with A := X.A.mark (some (.ref x)), calm := false, xe := fun _ _ => False }
theorem Inv.held (I : Inv X pins σ H s) (x : Addr) : Inv (X.held x) pins σ H s :=
  ⟨⟨I.ok.mod, I.ok.kind, I.ok.glob, I.ok.blt, I.ok.above, I.ok.inj, I.ok.has, I.ok.cab, fun z => absurd (show false = true from z) (by decide), I.ok.frames, I.ok.stk, I.ok.exf, I.ok.bs, I.ok.bsz, I.ok.noex, I.ok.exfs, I.ok.funs, I.ok.frf⟩, I.os, I.bare, I.base, I.loc, I.cell, I.free, I.freeC, I.pin, I.hok, I.len⟩
theorem Inv.unheld {x : Addr} (ok : X.Ok) (I : Inv (X.held x) pins σ H s) : Inv X pins σ H s := ⟨ok, I.os, I.bare, I.base, I.loc, I.cell, I.free, I.freeC, I.pin, I.hok, I.len⟩
/-- the name goes behind the suite -/
theorem Inv.unbind {j : Nat} {n : Str} {m : Str → Option Value} {v : Option Value} {h' : Heap} {t' : Nat} (I : Inv X pins σ H s) (hN : X.N.Nodup) (hj : X.N[j]? = some n)
    (hl : ∀ (i : Nat) (y : Str) (u : V), X.N[i]? = some y → σ[i]? = some (some u) → Vis X.env.scope y → ∃ z, RelV u z ∧ Look X.env s.heap m y z) (hn : h'.Ns X.env.locals fun y => if y = n then v else m y) (sb : Heap.SameBut X.env.locals s.heap h') :
    Inv X pins (σ.set j none) H { s with heap := h', toks := t' } := by
  have old : ∀ {b : Addr} {o : Obj}, X.s₀.heap.get? b = some o → b ≠ X.env.locals := fun e => Nat.ne_of_lt (Nat.lt_of_lt_of_le (Heap.lt_size e) I.ok.above)
  refine ⟨I.ok, I.os, I.bare, ⟨fun b o e n' hb hx => (sb.2 b (old e)).trans (I.base.keep b o e n' hb hx), fun b o e n' hb hx => ?_, I.base.free, fun b o e hx => ?_, I.base.tups, I.base.frzs, I.base.tbls⟩, ⟨_, hn, fun i y u e1 e2 e3 => ?_⟩, fun y c e => ?_, I.free, I.freeC, fun p hm => ?_, fun b u e => ?_, ?_⟩
  · obtain ⟨sl, e1⟩ := I.base.slot b o e n' hb hx
    exact ⟨sl, (sb.2 b (old e)).trans e1⟩
  · obtain ⟨o', e1⟩ := I.base.there b o e hx
    exact ⟨o', (sb.2 b (old e)).trans e1⟩
  · have hij : i ≠ j := fun z => by
      subst z
      by_cases hlt : i < σ.length
      · rw [List.getElem?_set_self hlt] at e2; cases e2
      · rw [List.getElem?_eq_none (by simpa using hlt)] at e2; cases e2
    rw [List.getElem?_set_ne (Ne.symm hij)] at e2
    obtain ⟨z, r, lk⟩ := hl i y u e1 e2 e3
    have hy : y ≠ n := fun z => by
      subst z
      exact hij (nodup_ix hN e1 hj)
    refine ⟨z, r, ?_⟩
    rcases lk with ⟨k, q⟩ | ⟨k, c, ec, oc, ho, hd⟩
    · exact .inl ⟨k, by show (if y = n then v else m y) = _; rw [if_neg hy]; exact q⟩
    · exact .inr ⟨k, c, ec, oc, (sb.2 c (I.cne y c ec)).trans ho, hd⟩
  · obtain ⟨w', oc, ho, hd⟩ := I.cell y c e
    exact ⟨w', oc, (sb.2 c (I.cne y c e)).trans ho, hd⟩
  · obtain ⟨p1, p2, p3, p4⟩ := I.pin p hm
    exact ⟨(sb.2 p.1 p3).trans p1, p2, p3, p4⟩
  · refine (I.hok b u e).stay (fun c w' hc q => (sb.2 c ?_).trans q) (fun _ q => q) fun _ _ q => q
    rintro rfl
    rcases hc with z | z
    · rw [← z, I.free] at e; cases e
    · rw [I.free] at z; cases z
  · rw [List.length_set]; exact I.len
/-- a try's body: what an exception must show -/
def Land (X : Cx) (pins : List (Addr × Obj)) (S : St → XK) : Value → Shared → Prop := fun e s' => ∃ (σ : St) (H : Hp) (s : Shared) (x C : Addr) (H' : Hp), e = .ref x ∧ Inv X pins σ H s ∧ FlyX X.prog X.w X.stack H s x C H' s' ∧ S σ (.ref C) none H'
def Cx.tried (X : Cx) (pins : List (Addr × Obj)) (S : St → XK) : Cx := { X with pn := X.pn ++ pins, xe := Land X pins S }
theorem Inv.tried (I : Inv X pins σ H s) (S : St → XK) : Inv (X.tried pins S) [] σ H s :=
  ⟨⟨I.ok.mod, I.ok.kind, I.ok.glob, I.ok.blt, I.ok.above, I.ok.inj, I.ok.has, I.ok.cab, I.ok.hd, I.ok.frames, I.ok.stk, I.ok.exf, I.ok.bs, I.ok.bsz, I.ok.noex, I.ok.exfs, I.ok.funs, I.ok.frf⟩, I.os, I.bare, I.base, I.loc, I.cell, I.free, I.freeC, fun p hp => I.pin p (by have : p ∈ (X.pn ++ pins) ++ [] := hp; simpa using this), I.hok, I.len⟩
theorem Inv.untried {S : St → XK} {pins' : List (Addr × Obj)} (I : Inv (X.tried pins S) pins' σ H s) : Inv X pins σ H s :=
  ⟨⟨I.ok.mod, I.ok.kind, I.ok.glob, I.ok.blt, I.ok.above, I.ok.inj, I.ok.has, I.ok.cab, I.ok.hd, I.ok.frames, I.ok.stk, I.ok.exf, I.ok.bs, I.ok.bsz, I.ok.noex, I.ok.exfs, I.ok.funs, I.ok.frf⟩, I.os, I.bare, I.base, I.loc, I.cell, I.free, I.freeC, fun p hp => I.pin p (List.mem_append_left _ hp), I.hok, I.len⟩
theorem SP.untried {S : St → XK} {D : Ends} {f : Flow} {s' : Shared} (h : SP (X.tried pins S) [] D f s') : SP X pins D f s' := by
  cases f with
  | next => obtain ⟨σ', H', I, q⟩ := h; exact ⟨σ', H', I.untried, q⟩
  | brk => obtain ⟨σ', H', I, q⟩ := h; exact ⟨σ', H', I.untried, q⟩
  | cont => obtain ⟨σ', H', I, q⟩ := h; exact ⟨σ', H', I.untried, q⟩
  | ret u => obtain ⟨v, σ', H', I, r, q⟩ := h; exact ⟨v, σ', H', I.untried, r, q⟩
end
/-- f(e, ..) within a try's body -/
def tCallS (sp : Sp) (S : St → XK) (t : TA) : TE := fun σ H Q => t σ H fun vs H1 => sp vs H1 Q (S σ)
end L2
namespace L2
open PySem PySem.Spec PyProof.Rows
def tTry (K : PySem.W.Frag) (j : Nat) (Cr : Addr) (tb : (St → XK) → TS) (th : TS) : TS := fun D σ H =>
  tb (fun σ1 c _ H1 => ∃ C, c = .ref C ∧ PySem.W.subIn K (.ref C) (.ref Cr) = some true ∧ ∀ x, H1 x = none → th { nx := fun σ2 H2 => D.nx (σ2.set j none) H2, rt := D.rt, bk := fun σ2 H2 => D.bk (σ2.set j none) H2, ct := fun σ2 H2 => D.ct (σ2.set j none) H2 } (σ1.set j (some (.ref x))) (upd H1 x (excO x C))) D σ H
theorem ObjOk.there {P : Program} {w : World} {H : Hp} {h : Heap} {a : Addr} {o : HO} (x : ObjOk P w H h a o) : ∃ u, h.get? a = some u := by
  cases o with
  | lst xs => obtain ⟨_, _, _, _, e⟩ := x; exact ⟨_, e⟩
  | tup xs => obtain ⟨_, _, _, u, e, _⟩ := x; exact ⟨u, e⟩
  | dK kvs => obtain ⟨_, _, _, _, u, _, _, e, _⟩ := x; exact ⟨u, e⟩
  | dT kvs => obtain ⟨_, _, _, _, u, _, _, e, _⟩ := x; exact ⟨u, e⟩
  | set S n => obtain ⟨u, _, _, _, e, _⟩ := x; exact ⟨u, e⟩
  | ins C dx fs => obtain ⟨_, _, _, e, _⟩ := x; exact ⟨_, e⟩
  | own y => exact x
  | xd fs => obtain ⟨_, ⟨u, _, _, e, _⟩, _⟩ := x; exact ⟨u, e⟩
  | rng lo hi => obtain ⟨_, _, _, e⟩ := x; exact ⟨_, e⟩
  | frz ob u => obtain ⟨e, _⟩ := x; exact ⟨_, e⟩
  | tbl ps => exact ⟨_, x⟩
  | met f y => exact ⟨_, x⟩
  | ext φ => obtain ⟨_, z, _⟩ := x; exact z
section
variable {X : Cx} {pins : List (Addr × Obj)} {σ : St} {H H' : Hp} {s s' : Shared} {x C : Addr}
/-- what stands where the exception lands -/
theorem land_inv {h6 B : Heap} {t : Addr} (I : Inv X pins σ H s) (F : FlyX X.prog X.w X.stack H s x C H' s') (fl : Heap.FlyingW B X.stack x (.ref C) (.ref t) s'.heap) (hb : ∀ b o, s.heap.get? b = some o → H b = none → b ∉ frs X.stack → B.get? b = some o)
    (ht : ∀ b o, s.heap.get? b = some o → b ∉ frs X.stack → ∃ o', B.get? b = some o') (hok : HOk X.prog X.w H' B) (k6 : B.StaysIn h6) (sm : s'.heap.UpToSlots h6) : Inv X pins σ H' { s' with heap := h6 } := by
  refine I.call' (s' := { s' with heap := h6 }) (ch := []) F.os (F.un.fly (B := B) (fun b o e => k6 b o e) hb ht fun b o hm e => ?_) (hok.kept fun b o e => k6 b o e) F.bare fun b z => absurd z (by simp)
  obtain ⟨_, o', e', nf⟩ := fl.2.2.1.mem (b := b) hm
  rw [e] at e'
  cases e'
  exact sm b o e nf
theorem land_new {B : Heap} {t : Addr} (fl : Heap.FlyingW B X.stack x (.ref C) (.ref t) s'.heap) (ht : ∀ b o, s.heap.get? b = some o → b ∉ frs X.stack → ∃ o', B.get? b = some o') : s.heap.get? x = none := by
  cases e : s.heap.get? x with
  | none => rfl
  | some o =>
    exfalso
    by_cases hm : x ∈ frs X.stack
    · obtain ⟨_, o', e', nf⟩ := fl.2.2.1.mem hm
      obtain ⟨oe, vs, e2, _, hd, _⟩ := fl.first
      rw [e'] at e2
      cases e2
      exact nf vs hd
    · obtain ⟨o', e'⟩ := ht x o e hm
      rw [fl.2.1] at e'
      cases e'
theorem unbound {j : Nat} {n : Str} {D D' : Ends} {f : Flow} {E : Value → Shared → Prop} {pos : Pos} (ok : X.Ok) (hN : X.N.Nodup) (hj : X.N[j]? = some n) (hn : X.env.scope.names.lookup n = some .local) (h : SP (X.held x) pins D' f s)
    (d1 : ∀ σ H, D'.nx σ H → D.nx (σ.set j none) H) (d2 : ∀ v H, D'.rt v H → D.rt v H) (d3 : ∀ σ H, D'.bk σ H → D.bk (σ.set j none) H) (d4 : ∀ σ H, D'.ct σ H → D.ct (σ.set j none) H) :
    wpAny (model X.prog X.w) X.A (do bindName X.env n .none; unbindBehindTheSuite X.env n pos) (fun _ s5 => SP X pins D f s5) E s := by
  have go : ∀ {σ' : St} {H2 : Hp} {Q : Unit → Shared → Prop}, Inv (X.held x) pins σ' H2 s → (∀ s5, Inv X pins (σ'.set j none) H2 s5 → Q () s5) → wpAny (model X.prog X.w) X.A (do bindName X.env n .none; unbindBehindTheSuite X.env n pos) Q E s := fun {σ' H2 Q} J q => by
    have J' := J.unheld ok
    obtain ⟨m, hm, hl⟩ := id J'.loc
    exact wpAny_nameGoes_keeps hn hm (by rw [J'.ok.kind]; rfl) fun h' v hns sb => q _ (J'.unbind hN hj hl hns sb)
  cases f with
  | next => obtain ⟨σ', H2, J, q⟩ := h; exact go J fun s5 J5 => ⟨_, H2, J5, d1 _ _ q⟩
  | brk => obtain ⟨σ', H2, J, q⟩ := h; exact go J fun s5 J5 => ⟨_, H2, J5, d3 _ _ q⟩
  | cont => obtain ⟨σ', H2, J, q⟩ := h; exact go J fun s5 J5 => ⟨_, H2, J5, d4 _ _ q⟩
  | ret u => obtain ⟨v, σ', H2, J, r, q⟩ := h; exact go J fun s5 J5 => ⟨v, _, H2, J5, r, d2 _ _ q⟩
end
end L2
namespace L2
open PySem PySem.Spec PyProof.Rows PySem.W Builtin Builtin.ObjectAttr Builtin.Getset_descriptor
/-! ### isinstance of a caught exception -/
structure XAttr (K : PySem.W.Frag) (C : Addr) : Prop where
  cls : (PySem.W.clsIn K C).isSome = true
  ga : PySem.W.findIn K (.ref C) "__getattribute__" = some (some (.builtin "BaseException.__getattribute__"))
  gt : PySem.W.findIn K (.ref C) "__getattr__" = some none
  cl : PySem.W.findIn K (.ref C) "__class__" = some (some (.builtin "object.__class__"))
  sn : PySem.W.specialIn K (.builtin "object.__class__") "__get__" = some (some (.builtin "getset_descriptor.__get__"))
  tk : PySem.W.takesIn K (.builtin "object.__class__") = some true
  sb : PySem.W.subIn K (.ref C) (.type "BaseException") = some true
  so : PySem.W.mroIn K C (.type "object") = some true
section
variable {prog : Program} {w : World} {A : Around} {K : PySem.W.Frag} {x C : Addr} {o : Obj}
theorem exc_get {h : Heap} {g : Array GenState} {d : Drawn} {t : Nat} {os : OsState} {R : Result → Shared → Prop} {tp : Value} (X : K.In h) (Z : XAttr K C) (hx : h.get? x = some o) (hc : o.cls = .ref C) (q : R (.ok (.ret (.ref C))) ⟨h, g, d, t, os⟩) :
    codeAny (model prog w) A (.call (.builtin "getset_descriptor.__get__") ⟨[.builtin "object.__class__", .ref x, tp], []⟩) R ⟨h, g, d, t, os⟩ := by
  have l0 : PySem.W.Looks (model prog w) h (typeOf (.ref x)) (.ref C) := hc ▸ (PySem.W.Looks.ld hx).andThen .now
  have l1 := PySem.W.looks_mroIn (M := model prog w) X Z.so
  refine (codeAny_call_builtin KF.slot_gs.plain KF.entry_gs (KF.slot_gs.check _ _ _ _ _ _ _ _ KF.type_class (KF.args_gs _ _ _) ?gs))
  case gs =>
    unfold Builtin.«getset_descriptor.__get__» descrGet
    rw [dga_obj]
    refine wpAny_bind (wpAny_pure ?_)
    unfold descrGetter
    unfold descrCheckInstance
    unfold descrNameAndClass
    unfold isInstance
    simp only [KF.owner_class]
    repeat lk
    refine ⟨Code.quiet_builtin _ (by decide +kernel), (codeAny_builtin KF.entry_class ?ec)⟩
    case ec =>
      unfold Builtin.«object.__class__»
      unfold shownTypeOf
      repeat lk
      exact q
theorem exc_find {h : Heap} (M : Model) (X : K.In h) (Z : XAttr K C) : PySem.W.Looks M h (find (.ref x) (.ref C) "__class__") (.bind (.builtin "getset_descriptor.__get__") (.builtin "object.__class__")) := by
  have l1 := PySem.W.looks_findIn (M := M) X Z.cl
  have l2 := PySem.W.looks_specialIn (M := M) X Z.sn
  have l3 := PySem.W.looks_takesIn (M := M) X Z.tk
  refine l1.andThen (PySem.W.Looks.andThen l2 (PySem.W.Looks.andThen (PySem.W.Looks.andThen l3 .now) (PySem.W.Looks.tag .now)))
theorem exc_entry {h : Heap} {g : Array GenState} {d : Drawn} {t : Nat} {os : OsState} {E : Value → Shared → Prop} {Q : Fin → Shared → Prop} {tk : Tok} (X : K.In h) (Z : XAttr K C) (hx : h.get? x = some o) (hc : o.cls = .ref C)
    (q : Q (.done (.ret (.ref C))) ⟨h, g, d, t, os⟩) : wpAny (model prog w) A (Builtin.«object.__getattribute__» ⟨[.ref x, .str "__class__" tk], []⟩) Q E ⟨h, g, d, t, os⟩ := by
  have l0 : PySem.W.Looks (model prog w) h (typeOf (.ref x)) (.ref C) := hc ▸ (PySem.W.Looks.ld hx).andThen .now
  have l1 := exc_find (x := x) (model prog w) X Z
  unfold Builtin.«object.__getattribute__»
  refine wpAny_bind (wpAny_pure (wpAny_bind (wpAny_pure (wpAny_bind (l0.at (wpAny_bind (l1.at ?_)))))))
  show wpAny _ _ (bindTo _ _ _ _) _ _ _
  unfold bindTo
  exact wpAny_bind (wpAny_holding (wpAny_call (exc_get X Z hx hc (wpAny_pure q))))
theorem exc_check {h : Heap} {g : Array GenState} {d : Drawn} {t : Nat} {os : OsState} {E : Value → Shared → Prop} {Q : Unit → Shared → Prop} {v : Value} (X : K.In h) (Z : XAttr K C) (hx : h.get? x = some o) (hc : o.cls = .ref C)
    (q : Q () ⟨h, g, d, t, os⟩) : wpAny (model prog w) A (checkBuiltinCall "BaseException.__getattribute__" ⟨[.ref x, v], []⟩) Q E ⟨h, g, d, t, os⟩ := by
  have k1 : builtinKind "BaseException.__getattribute__" = some .slot := by decide +kernel
  have k2 : splitId "BaseException.__getattribute__" = some ("BaseException", "__getattribute__") := by decide +kernel
  have l0 : PySem.W.Looks (model prog w) h (typeOf (.ref x)) (.ref C) := hc ▸ (PySem.W.Looks.ld hx).andThen .now
  have l1 := PySem.W.looks_subIn (M := model prog w) X Z.sb
  have ha := F.args_bexc_ga (.ref x) v
  simp only [k1, k2, checkBuiltinCall]
  unfold isInstance
  refine wpAny_bind (wpAny_bind (l0.at (l1.at ?_)))
  rw [if_neg (by decide)]
  unfold argsOk at ha
  cases hsig : Manifest.signature? "BaseException.__getattribute__" with
  | none => exact wpAny_pure q
  | some sig =>
    rw [hsig] at ha
    have ha' : Bind.checkArgs "BaseException.__getattribute__" sig ⟨[.ref x, v], []⟩ = pure () := ha
    show wpAny _ _ (Bind.checkArgs "BaseException.__getattribute__" sig ⟨[.ref x, v], []⟩) _ _ _
    rw [ha']
    exact wpAny_pure q
theorem exc_attr {s : Shared} {E : Value → Shared → Prop} {Q : Option Value → Shared → Prop} (X : K.In s.heap) (Z : XAttr K C) (hx : s.heap.get? x = some o) (hc : o.cls = .ref C)
    (q : Q (some (.ref C)) { s with toks := s.toks + 1 }) : wpAny (model prog w) A (getAttr? (.ref x) "__class__") Q E s := by
  obtain ⟨h, g, d, t, os⟩ := s
  have l0 : PySem.W.Looks (model prog w) h (typeOf (.ref x)) (.ref C) := hc ▸ (PySem.W.Looks.ld hx).andThen .now
  have l1 := PySem.W.looks_findIn (M := model prog w) X Z.ga
  have l2 := PySem.W.looks_findIn (M := model prog w) X Z.gt
  unfold getAttr?
  unfold getAttrBy?
  unfold getAttrBy
  refine wpAny_bind (wpAny_mkText (wpAny_bind (wpAny_attempt (wpAny_holding (wpAny_bind (l0.at (wpAny_bind (l1.at ?_))))))))
  have hx2 : (onTheHeap (Value.ref C) && Value.builtin "BaseException.__getattribute__" == Value.builtin "object.__getattribute__") = false := by
    have : (Value.builtin "BaseException.__getattribute__" == Value.builtin "object.__getattribute__") = false := by decide +kernel
    rw [this]; rfl
  show wpAny _ _ (if (onTheHeap (Value.ref C) && Value.builtin "BaseException.__getattribute__" == Value.builtin "object.__getattribute__") = true then _ else _) _ _ _
  rw [if_neg (by rw [hx2]; exact Bool.false_ne_true)]
  unfold getAttrByItsOwn
  refine wpAny_bind (m := hookBefore (.ref C)) (l2.at ?_)
  refine wpAny_bind (wpAny_attempt (wpAny_holding ?_))
  unfold callGetattribute
  rw [if_neg (by decide)]
  unfold boundAndCalled
  refine wpAny_bind (wpAny_of_eq (F.excAttr_ValueError.ga.bind (.ref x)) ?_)
  refine wpAny_call (codeAny_call_builtin F.excAttr_ValueError.ga.plain F.entry_bexc_ga (exc_check X Z hx hc (exc_entry X Z hx hc ?_)))
  exact handed_on rfl (wpAny_pure q)
def ExcAt (x C : Addr) (h : Heap) : Prop := ∃ o vs, h.get? x = some o ∧ o.cls = .ref C ∧ o.data = .fields vs
theorem kitx_exc (Z : XAttr K C) : PySem.W.KitX K (.ref x) (.ref C) (ExcAt x C) where
  ty := fun M h _ p => by
    obtain ⟨o, vs, hx, hc, _⟩ := p
    exact hc ▸ (PySem.W.Looks.ld hx).andThen .now
  it := fun M h X _ => looks_type X Z.cls
  ne := fun h tp dd its n sl X htp => by
    refine Bool.eq_false_iff.mpr fun q => ?_
    have e : C = tp := Value.ref.inj (beq_iff_eq.mp q)
    subst e
    have := Z.cls
    unfold PySem.W.clsIn at this
    cases q2 : K.lookup C with
    | none => rw [q2] at this; cases this
    | some o2 =>
      have e2 := (X _ _ q2).symm.trans htp
      cases e2
      rw [q2] at this
      cases this
  ca := fun X p k => by
    obtain ⟨o, vs, hx, hc, _⟩ := p
    exact exc_attr X Z hx hc k
end
section
variable {X : Cx}
/-- isinstance(e, c) of a caught exception -/
def rIsX (K : PySem.W.Frag) : List V → Hp → VK → Prop := fun xs H Q => ∃ (x C : Addr) (c : V) (cv : Value) (b : Bool), xs = [.ref x, c] ∧ ((∃ n, c = .ty n ∧ cv = .type n) ∨ ∃ a, c = .ref a ∧ cv = .ref a) ∧ H x = some (excO x C) ∧ XAttr K C ∧ PySem.W.kitOne K (.ref C) cv = some b ∧ Q (.bl b) H
theorem call_isX : CallR X (.builtin "isinstance") (rIsX X.K) := by
  intro pins s σ H xs us Q I r h
  obtain ⟨x, C, c, cv, b, rfl, hcv, hx, Z, e, q⟩ := h
  obtain ⟨u, v, rfl, ru, rv⟩ := r.two
  cases (show u = Value.ref x from ru)
  have ev : v = cv := by
    rcases hcv with ⟨n, rfl, rfl⟩ | ⟨a, rfl, rfl⟩
    · exact rv
    · exact rv
  subst ev
  obtain ⟨hex, _⟩ := I.hok x _ hx
  exact PySem.W.kia_one (kitx_exc Z) I.kIn hex e (fun z => nomatch z) fun tk => ⟨.bl b, H, I.tok _, rfl, q⟩
end
end L2
namespace L2
open PySem PySem.Spec PyProof.Rows
/-! ### defs that may raise -/
section
variable {P : Program} {w : World} {K : PySem.W.Frag} {mg : Str → Option Value} {base : Heap}
end
/-! ### defs called within a suite -/
structure Room0 (k : Nat) (A : Around) : Prop where
  dp : A.depth + 3 * k + 5 < recursionLimit
  un : A.units + 16 * k + 200 < cLine
theorem Room.mark {k : Nat} {A : Around} {v : Option Value} (r : Room k A) : Room0 k (A.mark v) := ⟨r.dp, r.un⟩
theorem Room0.mono {j k : Nat} {A : Around} (r : Room0 k A) (h : j ≤ k) : Room0 j A := ⟨by have := r.dp; omega, by have := r.un; omega⟩
/-- a def's context, wherever it is called; no exception leaves -/
def cxC (P : Program) (w : World) (K : PySem.W.Frag) (mg : Str → Option Value) (base : Heap) (N : List Str) (qual : Str) (scope : Scope) (f : Addr) (cd : Value) (A : Around) (outer : List Env) (s : Shared) (H : Hp) : Cx :=
  { cxOf CX0 P w K mg base N qual scope f cd A outer s H E0 with calm := false, xe := fun _ _ => False }
structure FnC (P : Program) (w : World) (K : PySem.W.Frag) (mg : Str → Option Value) (base : Heap) (k : Nat) (f : Addr) (fd : FuncData) (ps : List Str) (sp : Sp) : Prop where
  len : ∀ vs H Q E, sp vs H Q E → vs.length = ps.length
  run : ∀ (A : Around) (outer : List Env) (s : Shared) (H : Hp) (args : Args) (us : List Value) (vs : List V) (Q : VK), Room0 k A → Env0 P w K mg base A outer s H → BindsTo s fd args (ps.zip us) → Vals vs us → sp vs H Q E0 →
    codeAny (model P w) A (.call (.ref f) args) (CR CX0 outer P w H s Q E0) s
section
variable {P : Program} {w : World} {K : PySem.W.Frag} {mg : Str → Option Value} {base : Heap}
theorem inv_startC {N ps : List Str} {qual : Str} {scope : Scope} {f : Addr} {cd : Value} {A : Around} {outer : List Env} {s s1 : Shared} {H : Hp} {us : List Value} {vs : List V} (S : FnScope N ps scope) (e0 : Env0 P w K mg base A outer s H) (hl : vs.length = ps.length) (r : Vals vs us)
    (x : InCallC s s.heap.objs.size (bindL (envOfC qual scope s.heap.objs.size f cd).kindOf (ps.zip us) fun _ => none) (cellsFrom (s.heap.objs.size + 1) scope.names []) (bindC (envOfC qual scope s.heap.objs.size f cd).kindOf (ps.zip us) fun _ => none) s1) :
    Inv (cxC P w K mg base N qual scope f cd A outer s H) [] (start N vs) H s1 := by
  have e1 : Env0 P w K mg base { A with handled := none } outer s H := ⟨e0.frames, e0.mod, e0.bs, e0.bsz, e0.funs, e0.frf, e0.hok, e0.bare⟩
  have I := inv_start (CX := CX0) (E := E0) (A := { A with handled := none }) (qual := qual) (f := f) (cd := cd) S rfl e1 hl r x
  exact ⟨⟨I.ok.mod, I.ok.kind, I.ok.glob, I.ok.blt, I.ok.above, I.ok.inj, I.ok.has, I.ok.cab, fun z => absurd (show false = true from z) (by decide), Around.frames_deeper e0.frames, I.ok.stk, I.ok.exf, I.ok.bs, I.ok.bsz, I.ok.noex, I.ok.exfs, I.ok.funs, I.ok.frf⟩, I.os, I.bare, I.base, I.loc, I.cell, I.free, I.freeC, I.pin, I.hok, I.len⟩
theorem Fun.okC {x qual : Str} {st : Stmt} {f : Addr} {fd : FuncData} {N ps : List Str} {k : Nat} {sp : Sp} (F : Fun K x qual st f fd) (S : FnScope N ps (defScope st)) (len : ∀ vs H Q E, sp vs H Q E → vs.length = ps.length)
    (hbody : ∀ (cdv : Value) (A : Around) (outer : List Env) (s : Shared) (H : Hp) (vs : List V) (Q : VK), Room0 k (A.deeper (envOfC qual (defScope st) s.heap.objs.size f cdv)) → sp vs H Q E0 →
      ∃ t, PSs (cxC P w K mg base N qual (defScope st) f cdv A outer s H) (defBody st) t ∧ t { nx := fun _ H' => Q .non H', rt := Q } (start N vs) H) : FnC P w K mg base (k + 1) f fd ps sp := by
  obtain ⟨oc, od, kV, doc, pm, an, cdv, ct, osl, rfl, lk, hcd⟩ := F.ex
  refine ⟨len, fun A outer s H args us vs Q hr e0 hb r hsp => ?_⟩
  have hl := len _ _ _ _ hsp
  have KX : K.In s.heap := e0.mod.kin.keeps fun b o e => (e0.bs b o e).1
  have lim : s.heap.NoLimit := e0.mod.nolimit.keeps fun b o e => (e0.bs b o e).1
  have hkind : ∀ y ∈ ps.zip us, (defScope st).names.lookup y.1 = some .local ∨ ((defScope st).names.lookup y.1 = some .cell ∧ ((cellsFrom (s.heap.objs.size + 1) (defScope st).names []).lookup y.1).isSome = true) := fun ⟨n, v⟩ hy => by
    rcases S.par n (List.of_mem_zip hy).1 with q | q
    · exact .inl q
    · exact .inr ⟨q, PySem.W.cellsFrom_some _ _ _ (.inl q)⟩
  refine codeAny_call_function (by have := hr.dp; omega) (KX _ _ lk) rfl S.co S.gen rfl (PySem.W.codeRec_of KX hcd) (hb _ _ _ _ ?_)
  refine wpAny_newFunctionEnv_cells S.kind hkind fun env he s1 x => ?_
  subst he
  refine ⟨lim.keeps x.toInCall.keep, codeAny_func ?_⟩
  obtain ⟨t, ht, hq⟩ := hbody cdv A outer s H vs Q ⟨by have := hr.dp; show A.depth + 1 + 3 * k + 5 < _; omega, by have := hr.un; show A.units + 3 + 16 * k + 200 < _; omega⟩ hsp
  have I : Inv (cxC P w K mg base N qual (defScope st) f cdv A outer s H) [] (start N vs) H s1 := inv_startC S e0 hl r x
  refine wpAny_mono (ht [] s1 (start N vs) H _ I hq) (fun fl s' hs => ?_) fun e s' hs => False.elim hs
  have fin : ∀ {σ' : St} {H' : Hp} {v : V} {u : Value}, Inv (cxC P w K mg base N qual (defScope st) f cdv A outer s H) [] σ' H' s' → RelV v u → Q v H' → CE outer P w H s Q u s' := fun {σ' H' v u} J rv q => ⟨v, H', J.os, J.bare, J.base, J.hok, rv, q⟩
  cases fl with
  | ret u =>
    obtain ⟨v, σ', H', J, rv, q⟩ := hs
    exact fin J rv q
  | next =>
    obtain ⟨σ', H', J, q⟩ := hs
    exact fin (v := V.non) (u := Value.none) J rfl q
  | brk =>
    obtain ⟨_, _, _, q⟩ := hs
    exact False.elim q
  | cont =>
    obtain ⟨_, _, _, q⟩ := hs
    exact False.elim q
end
structure DefC (P : Program) (w : World) (K : PySem.W.Frag) (mg : Str → Option Value) (base : Heap) (x : Str) (ps : List Str) (k : Nat) (sp : Sp) : Prop where
  ex : ∃ (f : Addr) (fd : FuncData), FnC P w K mg base k f fd ps sp ∧ Binds K fd ps [] ∧ PySem.W.keepIn K (.ref f) = true ∧ mg x = some (.ref f)
theorem DefC.mono {P : Program} {w : World} {K : PySem.W.Frag} {mg : Str → Option Value} {base : Heap} {x : Str} {ps : List Str} {j k : Nat} {sp : Sp} (D : DefC P w K mg base x ps j sp) (h : j ≤ k) : DefC P w K mg base x ps k sp := by
  obtain ⟨f, fd, F, r⟩ := D.ex
  exact ⟨f, fd, ⟨F.len, fun A outer s H args us vs Q hr => F.run A outer s H args us vs Q (hr.mono h)⟩, r⟩
/-- f(e, ..) of a def that may be called anywhere -/
theorem pe_fnC {X : Cx} {k : Nat} {ps : List Str} {sp : Sp} {x : Str} {p pos : Pos} {e : Expr} {es : List Expr} {t : TA} (D : DefC X.prog X.w X.K X.mg X.base x ps k sp) (hr : Room0 k X.A) (hg : Gl X x) (ha : PA X (e :: es) t)
    (hdb : (x == ("__debug__" : Str)) = false := by decide) (he : starEach (e :: es) X.env = (false, eval e X.env) :: starEach es X.env := by rfl) (hpl : (backTo pos (starEach es X.env)).any (·.1) = false := by rfl) :
    PE X (.Call (.Name x p) (e :: es) [] pos) (tCall sp [] E0 t) := by
  obtain ⟨f, fd, F, hb, hk, hm⟩ := D.ex
  intro pins s σ H Q I h
  refine wpAny_Call_Name_kw (ld_glob I hg hm ?_ hdb)
  refine PySem.W.callWith_K (h₀ := X.base) I.ok.mod.kin hk (thn (ha pos pins s σ H _ I h) fun us s1 ⟨vs, H1, I1, r, q⟩ => ⟨I1.kIn, ?_⟩) he hpl
  have q : sp (vs ++ []) H1 Q E0 := q
  rw [List.append_nil] at q
  have hl : (us ++ []).length = ps.length := by rw [List.append_nil, ← r.length]; exact F.len _ _ _ _ q
  refine wpAny_call (codeAny_mono (F.run X.A X.stack s1 H1 ⟨us, []⟩ us vs Q hr I1.env0 (by have := hb s1 us I1.kIn hl; rw [List.append_nil] at this; exact this) r q) fun res s' hq => ?_)
  cases res with
  | error e => exact False.elim hq
  | ok fl =>
    cases fl with
    | ret u => exact I1.after hq
    | next => exact False.elim hq
    | brk => exact False.elim hq
    | cont => exact False.elim hq
end L2
/-! AN EXCEPTION IN FLIGHT WITH ITS CONTEXT: what is raised within a handler is chained to what is handled. -/
namespace L2
open PySem PySem.Spec PyProof.Rows
/-- an exception's record, with its entry: c its context, fl whose frame it is in -/
def Trc (h base : Heap) (e : Addr) (cls a0 c fl : Value) : Prop :=
  ∃ (ob : Obj) (vs : Array Value) (T : Addr) (ot : Obj) (ts : Array Value), (h.get? e = some ob ∧ ob.cls = cls ∧ ob.data = .fields vs) ∧
    (vs[0]? = some a0 ∧ vs[2]? = some c ∧ vs[1]? = some (.ref T)) ∧ (base.get? T = none ∧ T ≠ e) ∧ h.get? T = some ot ∧ ot.data = .fields ts ∧ ts[3]? = some fl
structure Trk (base : Heap) (l : List Env) (e : Addr) (cls a0 c fl : Value) (h : Heap) : Prop where
  stays : base.StaysIn h
  new : base.get? e = none
  funs : h.FunFrames base l
  trc : Trc h base e cls a0 c fl
theorem Trk.fly {base h : Heap} {l : List Env} {e : Addr} {cls a0 c : Value} (x : Trk base l e cls a0 c .none h) : Heap.FlyingW base l e cls a0 h := by
  obtain ⟨ob, vs, T, ot, ts, ⟨h1, h2, h3⟩, ⟨v0, v2, v1⟩, ⟨b1, b2⟩, t1, t2, t3⟩ := x.trc
  exact ⟨x.stays, x.new, x.funs, ob, vs, T, ot, ts, h1, ⟨h2, v0⟩, h3, v1, b1, b2, t1, t2, t3⟩
theorem Trk.out {base h : Heap} {env : Env} {l : List Env} {e : Addr} {cls a0 c fl : Value} (x : Trk base (env :: l) e cls a0 c fl h) : Trk base l e cls a0 c fl h :=
  ⟨x.stays, x.new, x.funs.2.2, x.trc⟩
section
variable {M : Model} {A : Around} {E : Value → Shared → Prop} {s : Shared} {base : Heap} {env : Env} {outer l : List Env} {L e : Addr} {cls a0 c fl : Value} {Q : Unit → Shared → Prop}
/-- a new entry -/
theorem entry_new {ob : Obj} {vs : Array Value} {head : Value} {b : Bool} (fr : A.frames = some (env :: outer)) (hl : s.heap.FunFrames base (env :: outer)) (hf : env.frame = some L)
    (he : s.heap.get? e = some ob) (kb : base.StaysIn s.heap) (en : base.get? e = none) (hd : ob.data = .fields vs) (v1 : 1 < vs.size) (v0 : vs[0]? = some a0) (v2 : vs[2]? = some c)
    (h : ∀ h', Trk base (env :: outer) e ob.cls a0 c (rawInt L) h' → s.heap.UpToSlots h' → Q () { s with heap := h' }) :
    wpAny M A (frameOf env >>= fun a => entryPlaceOf L b >>= fun pl => EntryCells.newEntry head a .none (rawInt L) .none pl >>= fun t => setField (.ref e) 1 t) Q E s := by
  have hne : e ∉ (env :: outer).filterMap (·.frame) := fun z => by
    obtain ⟨_, o, ho, nf⟩ := hl.mem z
    rw [he] at ho
    cases ho
    exact nf vs hd
  refine wpAny_bind (wpAny_frameOf_fun fr hl hf fun g1 k1 => ?_)
  refine wpAny_bind (wpAny_entryPlaceOf fun pl hpl => ?_)
  unfold EntryCells.newEntry newFields
  refine wpAny_bind (wpAny_newObj_type ?_ (hpl.sizeOk5 _ _ _ _ _))
  obtain ⟨tb, etb⟩ : ∃ tb : Obj, tb = { cls := .type "traceback", dict := none, data := .fields ([head, .ref L, .none, rawInt L, .none] ++ (if pl.isEmpty then List.replicate 6 Value.none else pl)).toArray } := ⟨_, rfl⟩
  rw [← etb]
  have fre : tb.isFreed = false := by rw [etb]; rfl
  have e1 : g1.get? e = some ob := (k1.2.1 e hne).trans he
  have b1 : base.StaysIn g1 := fun x o q => (k1.2.1 x fun z => by rw [(hl.mem z).1] at q; cases q).trans (kb x o q)
  have e2 := Heap.get?_push_of_some (h := g1) tb e1
  refine wpAny_setField e2 hd v1 (h _ ?_ ?_)
  · have hTe : g1.objs.size ≠ e := Nat.ne_of_gt (Heap.lt_size e1)
    have d3 := Obj.data_mapFields hd (·.setIfInBounds 1 (Value.ref g1.objs.size))
    have e3 := Heap.get?_update_self (Obj.mapFields (·.setIfInBounds 1 (Value.ref g1.objs.size))) e2 (Obj.isFreed_of_fields d3)
    have t3 : ((g1.push tb).update e (Obj.mapFields (·.setIfInBounds 1 (Value.ref g1.objs.size)))).get? g1.objs.size = some tb := (Heap.get?_update_other _ _ (Ne.symm hTe)).trans (Heap.get?_push_size g1 fre)
    refine ⟨fun x o q => ?_, en, hl.of_keeps fun x o q nf => ?_, _, _, g1.objs.size, tb, _, ⟨e3, Obj.cls_mapFields _ _, d3⟩, ⟨?_, ?_, ?_⟩, ⟨b1.fresh, hTe⟩, t3, by rw [etb], ?_⟩
    · rw [Heap.get?_update_other _ _ fun z => by rw [← z, en] at q; cases q]
      exact Heap.get?_push_of_some _ (b1 x o q)
    · obtain ⟨sl, hs⟩ := k1.2.2 x o q
      refine ⟨_, (Heap.get?_update_other _ _ fun z => ?_).trans (Heap.get?_push_of_some _ hs), rfl⟩
      rw [← z, he] at q
      cases q
      exact nf vs hd
    · rw [Array.getElem?_setIfInBounds_ne (by decide)]; exact v0
    · rw [Array.getElem?_setIfInBounds_ne (by decide)]; exact v2
    · simp [v1]
    · first | (simp; done) | (rcases hpl with rfl | ⟨_, _, _, _, _, _, _, rfl⟩ <;> simp)
  · intro x o q nf
    obtain ⟨sl, hs⟩ := k1.2.2 x o q
    refine ⟨sl, (Heap.get?_update_other _ _ fun z => ?_).trans (Heap.get?_push_of_some _ hs)⟩
    rw [← z, he] at q
    cases q
    exact nf vs hd
theorem Trk.flight {h : Heap} {x : Value} (k : Trk base l e cls a0 c fl h) : ∃ (ob : Obj) (vs : Array Value) (T : Addr) (ot : Obj) (ts : Array Value), h.get? e = some ob ∧ ob.data = .fields vs ∧ vs[1]? = some (.ref T) ∧ h.get? T = some ot ∧ ot.data = .fields ts ∧ ts[3]? = some fl ∧
    Trk base l e cls a0 c x (h.update T (Obj.mapFields (·.setIfInBounds 3 x))) ∧ h.UpToSlots (h.update T (Obj.mapFields (·.setIfInBounds 3 x))) := by
  obtain ⟨ob, vs, T, ot, ts, ⟨h1, h2, h3⟩, ⟨v0, v2, v1⟩, ⟨b1, b2⟩, t1, t2, t3⟩ := k.trc
  have sz : 3 < ts.size := (Array.getElem?_eq_some_iff.mp t3).1
  have oth : ∀ y, y ≠ T → (h.update T (Obj.mapFields (·.setIfInBounds 3 x))).get? y = h.get? y := fun y hy => Heap.get?_update_other _ _ (Ne.symm hy)
  have nr : ∀ y o, h.get? y = some o → (∀ vs, o.data ≠ .fields vs) → y ≠ T := fun y o q nf z => by
    rw [z, t1] at q
    cases q
    exact nf ts t2
  refine ⟨ob, vs, T, ot, ts, h1, h3, v1, t1, t2, t3, ⟨fun y o q => (oth y fun z => by rw [z, b1] at q; cases q).trans (k.stays y o q), k.new, k.funs.of_keeps fun y o q nf => ⟨o, (oth y (nr y o q nf)).trans q, rfl⟩, ?_⟩, fun y o q nf => ⟨o.slots, (oth y (nr y o q nf)).trans q⟩⟩
  exact ⟨ob, vs, T, _, _, ⟨(oth e (Ne.symm b2)).trans h1, h2, h3⟩, ⟨v0, v2, v1⟩, ⟨b1, b2⟩, Heap.get?_update_self _ t1 (Obj.isFreed_of_fields (Obj.data_mapFields t2 _)), Obj.data_mapFields t2 _, by simp [sz]⟩
theorem fly_set {f : Option Addr} (k : Trk base l e cls a0 c fl s.heap) (q : ∀ h', Trk base l e cls a0 c (f.elim .none fun b => rawInt b) h' → s.heap.UpToSlots h' → Q () { s with heap := h' }) :
    wpAny M A (setFlight (.ref e) f) Q E s := by
  obtain ⟨ob, vs, T, ot, ts, h1, h2, v1, t1, t2, t3, k', u⟩ := k.flight (x := f.elim .none fun b => rawInt b)
  unfold setFlight
  refine wpAny_bind (wpAny_field h1 h2 v1 ?_)
  rw [if_pos (show (Value.ref T != Value.none) = true by simp)]
  exact wpAny_setField t1 t2 (Array.getElem?_eq_some_iff.mp t3).1 (q _ k' u)
/-- the frame is noted, whatever frame it was in -/
theorem note_at (fr : A.frames = some (env :: outer)) (hf : env.frame = some L) (k : Trk base (env :: outer) e cls a0 c fl s.heap)
    (q : ∀ h', Trk base (env :: outer) e cls a0 c (rawInt L) h' → s.heap.UpToSlots h' → Q () { s with heap := h' }) : wpAny M A (noteFrame (.ref e) env) Q E s := by
  obtain ⟨ob, vs, T, ot, ts, h1, h2, v1, t1, t2, t3, k', u⟩ := k.flight (x := .none)
  unfold noteFrame
  simp only [hf]
  refine wpAny_bind (wpAny_field h1 h2 v1 ?_)
  rw [if_pos (show (Value.ref T != Value.none) = true by simp)]
  refine wpAny_bind (wpAny_field t1 t2 t3 ?_)
  by_cases z : (fl == rawInt L) = true
  · rw [if_pos z]
    have z' : fl = rawInt L := by simpa using z
    subst z'
    exact wpAny_pure (q s.heap k (Heap.UpToSlots.refl _))
  rw [if_neg z]
  refine wpAny_bind (wpAny_setField t1 t2 (Array.getElem?_eq_some_iff.mp t3).1 ?_)
  obtain ⟨ob', vs', T', ot', ts', ⟨p1, p2, p3⟩, ⟨w0, w2, w1⟩, _⟩ := k'.trc
  subst p2
  exact entry_new fr k'.funs hf p1 k'.stays k'.new p3 (Array.getElem?_eq_some_iff.mp w1).1 w0 w2 fun h' k2 u2 => q h' k2 (u.trans u2)
/-- a made exception's first frame -/
theorem note_first {ob : Obj} {vs : Array Value} (fr : A.frames = some (env :: outer)) (hl : s.heap.FunFrames base (env :: outer)) (hf : env.frame = some L)
    (he : s.heap.get? e = some ob) (kb : base.StaysIn s.heap) (en : base.get? e = none) (hd : ob.data = .fields vs) (v1 : vs[1]? = some .none) (v0 : vs[0]? = some a0) (v2 : vs[2]? = some c)
    (q : ∀ h', Trk base (env :: outer) e ob.cls a0 c (rawInt L) h' → s.heap.UpToSlots h' → Q () { s with heap := h' }) : wpAny M A (noteFrame (.ref e) env) Q E s := by
  unfold noteFrame
  simp only [hf]
  refine wpAny_bind (wpAny_field he hd v1 ?_)
  rw [if_neg (by decide)]
  exact entry_new fr hl hf he kb en hd (Array.getElem?_eq_some_iff.mp v1).1 v0 v2 q
theorem leave_at (fr : A.frames = some (env :: outer)) (hf : env.frame = some L) (k : Trk base (env :: outer) e cls a0 c fl s.heap)
    (q : ∀ h', Trk base outer e cls a0 c .none h' → s.heap.UpToSlots h' → Q () { s with heap := h' }) : wpAny M A (leaving env (.ref e)) Q E s := by
  unfold leaving
  refine wpAny_bind (note_at fr hf k fun h1 k1 u1 => ?_)
  exact fly_set (s := { s with heap := h1 }) k1 fun h2 k2 u2 => q h2 k2.out (u1.trans u2)
theorem leave_first {ob : Obj} {vs : Array Value} (fr : A.frames = some (env :: outer)) (hl : s.heap.FunFrames base (env :: outer)) (hf : env.frame = some L)
    (he : s.heap.get? e = some ob) (kb : base.StaysIn s.heap) (en : base.get? e = none) (hd : ob.data = .fields vs) (v1 : vs[1]? = some .none) (v0 : vs[0]? = some a0) (v2 : vs[2]? = some c)
    (q : ∀ h', Trk base outer e ob.cls a0 c .none h' → s.heap.UpToSlots h' → Q () { s with heap := h' }) : wpAny M A (leaving env (.ref e)) Q E s := by
  unfold leaving
  refine wpAny_bind (note_first fr hl hf he kb en hd v1 v0 v2 fun h1 k1 u1 => ?_)
  exact fly_set (s := { s with heap := h1 }) k1 fun h2 k2 u2 => q h2 k2.out (u1.trans u2)
end
/-! ### the calls -/
/-- an exception in flight behind a call, its context c -/
structure FlyC (P : Program) (w : World) (outer : List Env) (H : Hp) (s : Shared) (x : Addr) (cls c fl : Value) (H' : Hp) (s' : Shared) : Prop where
  os : s'.os = s.os
  bare : AllBare s'.gens
  un : Un (frs outer) [] H H' s.heap s'.heap
  fly : ∃ (B : Heap) (t : Addr), Trk B outer x cls (.ref t) c fl s'.heap ∧ (∀ b o, s.heap.get? b = some o → H b = none → b ∉ frs outer → B.get? b = some o) ∧ (∀ b o, s.heap.get? b = some o → b ∉ frs outer → ∃ o', B.get? b = some o') ∧ HOk P w H' B
theorem FlyC.x {P : Program} {w : World} {outer : List Env} {H H' : Hp} {s s' : Shared} {x C : Addr} {c : Value} (F : FlyC P w outer H s x (.ref C) c .none H' s') : FlyX P w outer H s x C H' s' := by
  obtain ⟨B, t, k, h1, h2, h3⟩ := F.fly
  exact ⟨F.os, F.bare, F.un, B, t, k.fly, h1, h2, h3⟩
section
variable {X : Cx} {pins : List (Addr × Obj)} {σ : St} {H H' : Hp} {s s' : Shared} {x C : Addr} {cls c fl : Value} {Q : Unit → Shared → Prop} {E : Value → Shared → Prop}
/-- a made exception in its own frame: noted, or left -/
theorem made_base {h' : Heap} (O : Own X) (I : Inv X pins σ H s) (kp : ∀ b o, s.heap.get? b = some o → h'.get? b = some o) :
    (PySem.W.hideAll s.heap (frs X.stack)).StaysIn h' ∧ h'.FunFrames (PySem.W.hideAll s.heap (frs X.stack)) (X.env :: X.outer) ∧
    (∀ b o, X.s₀.heap.get? b = some o → X.H₀ b = none → b ∉ frs X.outer → (PySem.W.hideAll s.heap (frs X.stack)).get? b = some o) ∧
    (∀ b o, X.s₀.heap.get? b = some o → b ∉ frs X.outer → ∃ o', (PySem.W.hideAll s.heap (frs X.stack)).get? b = some o') := by
  have st' : s.heap.FunFrames X.base (X.env :: X.outer) := by rw [← O.stk]; exact I.stack
  have un0 : Un (frs X.outer) [] X.H₀ H X.s₀.heap s.heap := by have := I.base; rw [O.ex] at this; exact this
  have hin : ∀ env ∈ X.env :: X.outer, ∀ a, env.frame = some a → a ∈ frs X.stack := fun env he a ha => by rw [O.stk]; exact List.mem_filterMap.mpr ⟨env, he, ha⟩
  refine ⟨fun b o e => kp b o (PySem.W.of_hideAll _ e), (PySem.W.funFrames_hide st' hin).of_keeps fun b o e _ => ⟨o, kp b o e, rfl⟩, fun b o e n f => PySem.W.hideAll_get _ (un0.keep b o e n f (by simp)) fun z => f (O.out I b o e z), fun b o e f => ?_⟩
  obtain ⟨o', e'⟩ := un0.there b o e (by simp)
  exact ⟨o', PySem.W.hideAll_get _ e' fun z => f (O.out I b o e z)⟩
end
end L2
/-! RAISED WITHIN A HANDLER, from None. -/
namespace L2
open PySem PySem.Spec PyProof.Rows
theorem fly_to {P : Program} {w : World} {l : List Env} {H H' : Hp} {s s' : Shared} {x t : Addr} {cls c fl fl' : Value} {B h2 : Heap} (os : s'.os = s.os) (bare : AllBare s'.gens) (un : Un (frs l) [] H H' s.heap s'.heap) (k : Trk B l x cls (.ref t) c fl s'.heap)
    (hb : ∀ b o, s.heap.get? b = some o → H b = none → b ∉ frs l → B.get? b = some o) (ht : ∀ b o, s.heap.get? b = some o → b ∉ frs l → ∃ o', B.get? b = some o') (hok : HOk P w H' B)
    (k' : Trk B l x cls (.ref t) c fl' h2) (u : s'.heap.UpToSlots h2) : FlyC P w l H s x cls c fl' H' { s' with heap := h2 } := by
  refine ⟨os, bare, un.fly (B := B) (fun b o e => k'.stays b o e) hb ht (fun b o hm e => ?_), B, t, k', hb, ht, hok⟩
  obtain ⟨_, o', e', nf⟩ := k.funs.mem (b := b) hm
  rw [e] at e'
  cases e'
  exact u b o e nf
section
variable {X : Cx} {pins : List (Addr × Obj)} {σ : St} {H H' : Hp} {s s' : Shared} {x C : Addr} {cls c fl : Value} {Q : Unit → Shared → Prop} {E : Value → Shared → Prop} {A : Around}
theorem leave_madeC {h' : Heap} {ob : Obj} {vs : Array Value} {t : Addr} (O : Own X) (I : Inv X pins σ H s) (fr : A.frames = X.A.frames) (kp : ∀ b o, s.heap.get? b = some o → h'.get? b = some o) (new : s.heap.get? x = none)
    (he : h'.get? x = some ob) (hd : ob.data = .fields vs) (v1 : vs[1]? = some .none) (v0 : vs[0]? = some (.ref t)) (v2 : vs[2]? = some c)
    (q : ∀ h'', FlyC X.prog X.w X.outer X.H₀ X.s₀ x ob.cls c .none H { s with heap := h'' } → Q () { s with heap := h'' }) : wpAny (model X.prog X.w) A (leaving X.env (.ref x)) Q E { s with heap := h' } := by
  obtain ⟨b1, b2, b3, b4⟩ := made_base O I kp
  have un0 : Un (frs X.outer) [] X.H₀ H X.s₀.heap s.heap := by have := I.base; rw [O.ex] at this; exact this
  have nb : (PySem.W.hideAll s.heap (frs X.stack)).get? x = none := by
    cases z : (PySem.W.hideAll s.heap (frs X.stack)).get? x with
    | none => rfl
    | some o => rw [PySem.W.of_hideAll _ z] at new; cases new
  refine leave_first (s := { s with heap := h' }) (by rw [fr, I.ok.frames, O.stk]) b2 O.fr he b1 nb hd v1 v0 v2 fun h'' k u => q h'' ?_
  refine ⟨I.os, I.bare, un0.fly (B := PySem.W.hideAll s.heap (frs X.stack)) (fun b o e => k.stays b o e) b3 b4 (fun b o hm e => ?_), _, t, k, b3, b4, hide_ok I.hok I.stkFree⟩
  obtain ⟨_, o', e', nf⟩ := I.stack.mem (b := b) (by rw [O.stk]; show b ∈ L2.frs _; rw [← O.stk, O.frs]; exact List.mem_cons_of_mem _ hm)
  rw [e] at e'
  cases e'
  exact u b o (kp b o e) nf
theorem note_madeC {h' : Heap} {ob : Obj} {vs : Array Value} {t : Addr} (O : Own X) (I : Inv X pins σ H s) (fr : A.frames = X.A.frames) (kp : ∀ b o, s.heap.get? b = some o → h'.get? b = some o) (new : s.heap.get? x = none)
    (he : h'.get? x = some ob) (hd : ob.data = .fields vs) (v1 : vs[1]? = some .none) (v0 : vs[0]? = some (.ref t)) (v2 : vs[2]? = some c)
    (q : ∀ h'', FlyC X.prog X.w X.stack H s x ob.cls c (rawInt X.env.locals) H { s with heap := h'' } → Q () { s with heap := h'' }) : wpAny (model X.prog X.w) A (noteFrame (.ref x) X.env) Q E { s with heap := h' } := by
  obtain ⟨b1, b2, _, _⟩ := made_base O I kp
  have nb : (PySem.W.hideAll s.heap (frs X.stack)).get? x = none := by
    cases z : (PySem.W.hideAll s.heap (frs X.stack)).get? x with
    | none => rfl
    | some o => rw [PySem.W.of_hideAll _ z] at new; cases new
  refine note_first (s := { s with heap := h' }) (by rw [fr, I.ok.frames, O.stk]) b2 O.fr he b1 nb hd v1 v0 v2 fun h'' k u => q h'' ?_
  rw [← O.stk] at k
  have b3 : ∀ b o, s.heap.get? b = some o → H b = none → b ∉ frs X.stack → (PySem.W.hideAll s.heap (frs X.stack)).get? b = some o := fun b o e _ f => PySem.W.hideAll_get _ e f
  have b4 : ∀ b o, s.heap.get? b = some o → b ∉ frs X.stack → ∃ o', (PySem.W.hideAll s.heap (frs X.stack)).get? b = some o' := fun b o e f => ⟨o, PySem.W.hideAll_get _ e f⟩
  refine ⟨rfl, I.bare, (Un.refl (H := H)).fly (B := PySem.W.hideAll s.heap (frs X.stack)) (fun b o e => k.stays b o e) b3 b4 (fun b o hm e => ?_), _, t, k, b3, b4, hide_ok I.hok I.stkFree⟩
  obtain ⟨_, o', e', nf⟩ := I.stack.mem (b := b) hm
  rw [e] at e'
  cases e'
  exact u b o (kp b o e) nf
theorem FlyC.inv (I : Inv X pins σ H s) (F : FlyC X.prog X.w X.stack H s x cls c fl H' s') : Inv X pins σ H' s' := by
  obtain ⟨B, t, k, hb, ht, hok⟩ := F.fly
  exact I.call' (ch := []) F.os F.un (hok.kept fun b o e => k.stays b o e) F.bare fun b z => absurd z (by simp)
theorem FlyC.at (F : FlyC X.prog X.w X.stack H s x cls c fl H' s') : ∃ ob vs, s'.heap.get? x = some ob ∧ ob.cls = cls ∧ ob.data = .fields vs ∧ vs[2]? = some c := by
  obtain ⟨B, t, k, _⟩ := F.fly
  obtain ⟨ob, vs, T, ot, ts, ⟨h1, h2, h3⟩, ⟨v0, v2, v1⟩, _⟩ := k.trc
  exact ⟨ob, vs, h1, h2, h3, v2⟩
theorem FlyC.set (F : FlyC X.prog X.w X.stack H s x cls c fl H' s') {f : Option Addr} (q : ∀ h', FlyC X.prog X.w X.stack H s x cls c (f.elim .none fun b => rawInt b) H' { s' with heap := h' } → Q () { s' with heap := h' }) :
    wpAny (model X.prog X.w) A (setFlight (.ref x) f) Q E s' := by
  obtain ⟨B, t, k, hb, ht, hok⟩ := F.fly
  exact fly_set k fun h' k' u => q h' (fly_to F.os F.bare F.un k hb ht hok k' u)
theorem FlyC.note (O : Own X) (I : Inv X pins σ H s) (fr : A.frames = X.A.frames) (F : FlyC X.prog X.w X.stack H s x cls c fl H' s') (q : ∀ h', FlyC X.prog X.w X.stack H s x cls c (rawInt X.env.locals) H' { s' with heap := h' } → Q () { s' with heap := h' }) :
    wpAny (model X.prog X.w) A (noteFrame (.ref x) X.env) Q E s' := by
  obtain ⟨B, t, k, hb, ht, hok⟩ := F.fly
  have k0 : Trk B (X.env :: X.outer) x cls (.ref t) c fl s'.heap := by rw [← O.stk]; exact k
  refine note_at (by rw [fr, I.ok.frames, O.stk]) O.fr k0 fun h' k' u => q h' ?_
  rw [← O.stk] at k'
  exact fly_to F.os F.bare F.un k hb ht hok k' u
/-- more stands on the heap -/
theorem FlyC.more {h2 : Heap} {tk : Nat} (F : FlyC X.prog X.w X.stack H s x cls c fl H' s') (kp : ∀ b o, s'.heap.get? b = some o → h2.get? b = some o) : FlyC X.prog X.w X.stack H s x cls c fl H' { s' with heap := h2, toks := tk } := by
  obtain ⟨B, t, k, hb, ht, hok⟩ := F.fly
  obtain ⟨ob, vs, T, ot, ts, ⟨h1, h2', h3⟩, v, b, t1, t2, t3⟩ := k.trc
  have k' : Trk B X.stack x cls (.ref t) c fl h2 := ⟨fun b o e => kp b o (k.stays b o e), k.new, k.funs.of_keeps fun b o e _ => ⟨o, kp b o e, rfl⟩, ob, vs, T, ot, ts, ⟨kp _ _ h1, h2', h3⟩, v, b, kp _ _ t1, t2, t3⟩
  have F' := fly_to (h2 := h2) F.os F.bare F.un k hb ht hok k' (Heap.UpToSlots.of_keeps kp)
  exact ⟨F'.os, F'.bare, F'.un, F'.fly⟩
end
/-! ### a class made by a call, raised from None while h is handled -/
theorem entry_unchain : entryFor table "proto.unchain" = some Builtin.«proto.unchain» := entryFor_of_fast (by kernel_rfl)
section
variable {prog : Program} {w : World} {A : Around} {E : Value → Shared → Prop} {s : Shared} {env : Env}
theorem raiseNew_in {α : Type} {x h : Addr} {o oh : Obj} {xv hv : Array Value} {Q : α → Shared → Prop} (hh : A.handled = some (.ref h)) (ne : h ≠ x) (hx : s.heap.get? x = some o) (hd : o.data = .fields xv) (sz : 2 < xv.size)
    (ho : s.heap.get? h = some oh) (hod : oh.data = .fields hv) (h2 : hv[2]? = some .none)
    (q : E (.ref x) { s with heap := s.heap.update x (Obj.mapFields (·.setIfInBounds 2 (.ref h))) }) : wpAny (model prog w) A (raiseNew (.ref x) : Sem α) Q E s := by
  unfold raiseNew
  refine wpAny_bind (wpAny_handled ?_)
  rw [hh]
  dsimp only
  rw [if_pos (show ((Value.ref h) != Value.ref x) = true by simp [ne])]
  refine wpAny_bind (wpAny_holding (wpAny_runValue (codeAny_builtin entry_unchain ?_)))
  unfold Builtin.«proto.unchain»
  dsimp only
  refine wpAny_bind (wpAny_field ho hod h2 ?_)
  rw [if_pos (show (Value.none == Value.none) = true by decide)]
  refine wpAny_bind (wpAny_pure (wpAny_pure ?_))
  dsimp only
  simp only [updateField]
  refine wpAny_bind (wpAny_bind (wpAny_load hx ?_))
  rw [hd]
  dsimp only
  rw [if_pos sz]
  exact wpAny_update hx (wpAny_throw q)
end
section
variable {prog : Program} {w : World} {A : Around} {E : Value → Shared → Prop} {s : Shared} {env : Env}
variable {nm q : Str} {C N : Addr} {bs bm : List Value} {hdct : Bool} {sn : List Str} {sub : List Value} {ab : Bool} {col : Option Bool} {dd : Option Addr} {k0 k1 k2 k3 k5 : Option Value} {newId : String}
theorem made_as {e : Addr} {vs : Array Value} {msg : String} {hp : Heap} {g : Array GenState} {d : Drawn} {tk : Nat} {os : OsState} {Q : Value → Shared → Prop} (hb : bm.contains (.type "BaseException") = true) (hC : hp.get? C = some (excClassObj nm q C N bs bm hdct sn sub ab col dd k0 k1 k2 k3 k5 newId))
    (he : hp.get? e = some { cls := .ref C, data := .fields vs }) (k : Q (.ref e) ⟨hp, g, d, tk, os⟩) : wpAny (model prog w) A (excFromValue (.ref e) msg) Q E ⟨hp, g, d, tk, os⟩ := by
  have hcB : (Value.ref C :: bm).contains (.type "BaseException") = true := by rw [List.contains_cons, hb, Bool.or_true]
  unfold excFromValue
  repeat (first | with_reducible refine wpAny_loadPart_at he ?_ | with_reducible refine wpAny_loadPart_at hC ?_ | (with_reducible refine wpAny_isSubtype_exc hC ?_; rw [hcB]) | wp_step)
  exact k
theorem made_no {e : Addr} {vs : Array Value} {hp : Heap} {g : Array GenState} {d : Drawn} {tk : Nat} {os : OsState} {Q : Bool → Shared → Prop} (he : hp.get? e = some { cls := .ref C, data := .fields vs }) (k : Q false ⟨hp, g, d, tk, os⟩) :
    wpAny (model prog w) A (isType (.ref e)) Q E ⟨hp, g, d, tk, os⟩ := by
  unfold isType
  repeat (first | with_reducible refine wpAny_loadPart_at he ?_ | wp_step)
  exact k
theorem made_in {e : Addr} {vs : Array Value} {hp : Heap} {g : Array GenState} {d : Drawn} {tk : Nat} {os : OsState} {Q : Value → Shared → Prop} (hC : hp.get? C = some (excClassObj nm q C N bs bm hdct sn sub ab col dd k0 k1 k2 k3 k5 newId))
    (he : hp.get? e = some { cls := .ref C, data := .fields vs }) (k : Q (.ref e) ⟨hp, g, d, tk, os⟩) : wpAny (model prog w) A (raisedInstance (.ref e)) Q E ⟨hp, g, d, tk, os⟩ := by
  unfold raisedInstance
  repeat (first | with_reducible refine wpAny_loadPart_at he ?_ | with_reducible refine wpAny_loadPart_at hC ?_ | wp_step)
  exact k
theorem raiseStmt_from {x : Sem Value} {h : Addr} {j : Nat} {cp pos : Pos} {Q : Flow → Shared → Prop} (hb : bm.contains (.type "BaseException") = true) (hh : A.handled = some (.ref h))
    (k : wpAny (model prog w) A x (fun v s1 => ∃ e t oh hv, v = .ref e ∧ h ≠ e ∧ e ≠ C ∧ s1.heap.get? C = some (excClassObj nm q C N bs bm hdct sn sub ab col dd k0 k1 k2 k3 k5 newId) ∧
      s1.heap.get? e = some { cls := .ref C, data := .fields #[.ref t, .none, .none, .none, .bool false, .none] } ∧ (s1.heap.get? h = some oh ∧ oh.data = .fields hv ∧ hv[2]? = some .none) ∧
      ∀ h', (∀ b, b ≠ e → h'.get? b = s1.heap.get? b) → h'.get? e = some { cls := .ref C, data := .fields #[.ref t, .none, .ref h, .none, .bool true, .none] } → E (.ref e) { s1 with heap := h' }) E s) :
    wpAny (model prog w) A (raiseStmt env (some x) (some (eval (.Constant .none j cp) env >>= fun v => standAt pos >>= fun _ => pure v))) Q E s := by
  unfold raiseStmt
  refine wpAny_bind (wpAny_mono k (fun v s1 h1 => ?_) fun _ _ x => x)
  obtain ⟨e, t, oh, hv, rfl, ne, neC, hC, he, ⟨o1, o2, o3⟩, hE⟩ := h1
  dsimp only
  refine wpAny_bind (wpAny_holding (wpAny_bind (Constant_none (wpAny_bind (wpAny_standAt (wpAny_pure ?_))))))
  refine wpAny_bind (wpAny_pure ?_)
  obtain ⟨hp, g, d, tk, os⟩ := s1
  refine wpAny_bind (wpAny_holding (made_as hb hC he ?_))
  dsimp only
  rw [if_pos (show (Value.none == Value.none) = true by decide)]
  refine wpAny_bind (wpAny_pure ?_)
  refine wpAny_bind (wpAny_setField he rfl (by simp) ?_)
  have e1 := Heap.get?_update_self (Obj.mapFields (·.setIfInBounds 3 Value.none)) he rfl
  refine wpAny_bind (wpAny_setField e1 rfl (by simp) ?_)
  have e2 := Heap.get?_update_self (Obj.mapFields (·.setIfInBounds 4 (Value.bool true))) e1 rfl
  have oth : ∀ b, b ≠ e → ((hp.update e (Obj.mapFields (·.setIfInBounds 3 Value.none))).update e (Obj.mapFields (·.setIfInBounds 4 (Value.bool true)))).get? b = hp.get? b := fun b hbe =>
    (Heap.get?_update_other _ _ (Ne.symm hbe)).trans (Heap.get?_update_other _ _ (Ne.symm hbe))
  refine wpAny_bind (made_no e2 ?_)
  rw [if_neg Bool.false_ne_true]
  refine wpAny_bind (made_in ((oth C (Ne.symm neC)).trans hC) e2 ?_)
  unfold setFlight
  refine wpAny_bind (wpAny_bind (wpAny_field (x := Value.none) e2 rfl (by simp) ?_))
  rw [if_neg (show ¬ ((Value.none != Value.none) = true) by decide)]
  refine wpAny_pure ?_
  refine raiseNew_in hh ne e2 rfl (by simp) ((oth h ne).trans o1) o2 o3 (hE _ (fun b hbe => ?_) ?_)
  · exact (Heap.get?_update_other _ _ (Ne.symm hbe)).trans (oth b hbe)
  · exact Heap.get?_update_self (Obj.mapFields (·.setIfInBounds 2 (Value.ref h))) e2 rfl
end
end L2
/-! A TRY WHOSE HANDLER RAISES ANOTHER ERROR, from None. -/
namespace L2
open PySem PySem.Spec PyProof.Rows
/-- what a handler of X hands on: an own error, chained to the one that is handled -/
def RaiseOkC (X : Cx) (E : XK) : Prop := ∀ (pins : List (Addr × Obj)) (σ : St) (H : Hp) (s : Shared) (x C t h : Addr) (h' : Heap), Inv X pins σ H s → (∀ b o, s.heap.get? b = some o → h'.get? b = some o) → s.heap.get? x = none →
  h'.get? x = some { cls := .ref C, data := .fields #[.ref t, .none, .ref h, .none, .bool true, .none] } → E (.ref C) none H → X.xe (.ref x) { s with heap := h' }
/-- the handled exception: it has no context -/
def excN (h : Addr) : HO := .ext fun hp => ∃ o vs, hp.get? h = some o ∧ o.data = .fields vs ∧ vs[2]? = some .none
section
variable {X : Cx} {pins : List (Addr × Obj)} {σ : St} {H H' : Hp} {s s' : Shared} {C h : Addr} {cls c fl : Value} {E : XK}
theorem raise_here {x : Str} {e : Expr} {es : List Expr} {t : TA} {np cpos pos cp : Pos} {j : Nat} {Q : Flow → Shared → Prop} {Ex : Value → Shared → Prop} (I : Inv (X.held h) pins σ H s)
    (Z : XCls X.K x C) (hm : X.mg x = some (.ref C)) (hg : Gl X x) (ha : PA (X.held h) (e :: es) t)
    (ht : t σ H fun vs H1 => H1 h = some (excN h) ∧ vs.length ≤ sizeLine ∧ E (.ref C) none H1)
    (hE : ∀ H1 s1 x' t h', Inv (X.held h) pins σ H1 s1 → (∀ b o, s1.heap.get? b = some o → h'.get? b = some o) → s1.heap.get? x' = none → h'.get? x' = some { cls := .ref C, data := .fields #[.ref t, .none, .ref h, .none, .bool true, .none] } → E (.ref C) none H1 → Ex (.ref x') { s1 with heap := h' })
    (hdb : (x == ("__debug__" : Str)) = false := by decide) (he : starEach (e :: es) X.env = (false, eval e X.env) :: starEach es X.env := by rfl) (hpl : (backTo cpos (starEach es X.env)).any (·.1) = false := by rfl) :
    wpAny (model X.prog X.w) (X.A.mark (some (.ref h))) (exec (.Raise (some (.Call (.Name x np) (e :: es) [] cpos)) (some (.Constant .none j cp)) pos) X.env) Q Ex s := by
  obtain ⟨tl, N, nm, qn, bs, hdct, sn, sub, ab, col, dd, k0, k1, k2, k3, k5, mN, hC, hN, hni, T⟩ := (Z.own I.mod).obj
  have pl : (backTo cpos (starEach (e :: es) X.env)).any (·.1) = false := by
    rw [he]
    show (false || (backTo cpos (starEach es X.env)).any (·.1)) = false
    rw [hpl]
    rfl
  have hb : tl.contains (.type "BaseException") = true := T.hasType F.excBase_ValueError.hasBase
  rw [arm_exec_Raise]
  refine wpAny_bind (wpAny_standAt (raiseStmt_from (C := C) (nm := nm) (q := qn) (N := N) (bs := bs) (bm := tl) (hdct := hdct) (sn := sn) (sub := sub) (ab := ab) (col := col) (dd := dd) (k0 := k0) (k1 := k1) (k2 := k2) (k3 := k3) (k5 := k5) (newId := "ValueError.__new__") hb rfl ?_))
  refine wpAny_bind (wpAny_mono (wpAny_Call_ofName (ld_glob (X := X.held h) I hg hm ?_ hdb)) (fun v s3 h3 => wpAny_bind (wpAny_standAt (wpAny_pure h3))) fun _ _ x => x)
  unfold callWith
  have h1 : wpAny (model X.prog X.w) (X.A.mark (some (.ref h))) (spliced (backTo cpos (starEach (e :: es) X.env))) (AP (X.held h) pins σ fun vs H1 => H1 h = some (excN h) ∧ vs.length ≤ sizeLine ∧ E (.ref C) none H1) (fun _ _ => False) s := ha cpos pins s σ H _ I ht
  have fin : ∀ (us : List Value) (s1 : Shared), AP (X.held h) pins σ (fun vs H1 => H1 h = some (excN h) ∧ vs.length ≤ sizeLine ∧ E (.ref C) none H1) us s1 → s1.heap.get? C = some (excClassObj nm qn C N bs tl hdct sn sub ab col dd k0 k1 k2 k3 k5 "ValueError.__new__") ∧ wpAny (model X.prog X.w) (X.A.mark (some (.ref h))) (call (.ref C) us) (fun v s3 => ∃ e t oh hv, v = .ref e ∧ h ≠ e ∧ e ≠ C ∧ s3.heap.get? C = some (excClassObj nm qn C N bs tl hdct sn sub ab col dd k0 k1 k2 k3 k5 "ValueError.__new__") ∧
      s3.heap.get? e = some { cls := .ref C, data := .fields #[.ref t, .none, .none, .none, .bool false, .none] } ∧ (s3.heap.get? h = some oh ∧ oh.data = .fields hv ∧ hv[2]? = some .none) ∧
      ∀ h', (∀ b, b ≠ e → h'.get? b = s3.heap.get? b) → h'.get? e = some { cls := .ref C, data := .fields #[.ref t, .none, .ref h, .none, .bool true, .none] } → Ex (.ref e) { s3 with heap := h' }) Ex s1 := fun us s1 hq => by
    obtain ⟨vs, H1, I1, rv, hh, hz, q⟩ := hq
    refine ⟨I1.bk _ _ hC, ?_⟩
    obtain ⟨⟨oh, hv, o1, o2, o3⟩, _⟩ := I1.hok h _ hh
    obtain ⟨hp, g, d, tk, os⟩ := s1
    refine wpAny_call_exc_subT (hrest := by rw [← rv.length]; exact hz) F.excBase_ValueError (T.keeps I1.bk) (I1.bk _ _ hC) (hN.keeps I1.bk) hni fun h' e m => ?_
    obtain ⟨t, ht', htn, htt⟩ := m.there
    have neh : h ≠ e := fun z => by have := m.new; rw [← z, o1] at this; cases this
    have neC : e ≠ C := fun z => by have := m.new; rw [z, I1.bk _ _ hC] at this; cases this
    refine ⟨e, t, oh, hv, rfl, neh, neC, m.keeps _ _ (I1.bk _ _ hC), ht', ⟨m.keeps _ _ o1, o2, o3⟩, fun h2 k2 e2 => ?_⟩
    exact hE H1 ⟨hp, g, d, tk, os⟩ e t h2 I1 (fun b o q' => by rw [k2 b fun z => by rw [z, m.new] at q'; cases q']; exact m.keeps b o q') m.new e2 q
  rw [he] at h1 pl ⊢
  refine wpAny_bind (wpAny_holding (Calls.evalArgs_plain (wpAny_mono h1 (fun us s1 hq => ?_) fun _ _ z => z.elim)))
  obtain ⟨hC1, hcall⟩ := fin us s1 hq
  refine wpAny_bind (wpAny_standAt ?_)
  simp only [pl, List.any_nil, Bool.or_false]
  obtain ⟨hp, g, d, tk, os⟩ := s1
  refine wpAny_bind (wpAny_keeperOf_exc hC1 ?_)
  exact wpAny_bind (wpAny_mono hcall (fun r s2 q => wpAny_bind (wpAny_holding (wpAny_point (wpAny_pure q)))) fun _ _ x => x)
end
end L2
/-! AN EXCEPTION IN FLIGHT, seen from the entry of the def that it leaves. -/
namespace L2
open PySem PySem.Spec PyProof.Rows
theorem Un.thru {fs fs' ex : List Addr} {H0 H H' : Hp} {h0 h h' : Heap} (u : Un fs [] H0 H h0 h) (v : Un fs' ex H H' h h') (hsub : ∀ b ∈ fs, b ∈ fs') (hex : ∀ b o, h0.get? b = some o → b ∉ ex) : Un fs' [] H0 H' h0 h' where
  keep := fun b o q n f x => v.keep b o (u.keep b o q n (fun z => f (hsub b z)) x) (u.free b o q n x) f (hex b o q)
  slot := fun b o q n f x => by
    obtain ⟨sl, e⟩ := u.any q n x
    obtain ⟨sl', e'⟩ := v.any e (u.free b o q n x) (hex b o q)
    exact ⟨sl', e'⟩
  free := fun b o q n x => by
    obtain ⟨sl, e⟩ := u.any q n x
    exact v.free b _ e (u.free b o q n x) (hex b o q)
  there := fun b o q x => by
    obtain ⟨o', e⟩ := u.there b o q x
    exact v.there b o' e (hex b o q)
  tups := fun b xs e => v.tups b xs (u.tups b xs e)
  frzs := fun b o w e => v.frzs b o w (u.frzs b o w e)
  tbls := fun b ps e => by
    obtain ⟨m1, e1⟩ := u.tbls b ps e
    obtain ⟨m2, e2⟩ := v.tbls b _ e1
    exact ⟨m1 ++ m2, by rw [← Array.append_assoc]; exact e2⟩
theorem funs_less {h h2 B B' : Heap} : ∀ {l : List Env}, h.FunFrames B l → (∀ b ∈ frs l, ∀ o, h.get? b = some o → h2.get? b = some o) → (∀ b, B.get? b = none → B'.get? b = none) → h2.FunFrames B' l
  | [], _, _, _ => trivial
  | env :: r, ⟨hk, ⟨L, o, hf, hn, ho, hd⟩, hr⟩, k, l => by
    have e : frs (env :: r) = L :: frs r := by
      show (env :: r).filterMap (·.frame) = _
      rw [List.filterMap_cons, hf]
      rfl
    exact ⟨hk, ⟨L, o, hf, l L hn, k L (by rw [e]; exact List.mem_cons_self) o ho, hd⟩, funs_less hr (fun b hb => k b (by rw [e]; exact List.mem_cons_of_mem _ hb)) l⟩
section
variable {P : Program} {w : World} {l : List Env} {H0 H H' : Hp} {s0 s s' : Shared} {x C : Addr} {cls c fl : Value}
theorem FlyC.after (F : FlyC P w l H s x cls c fl H' s') (u : Un (frs l) [] H0 H s0.heap s.heap) (os : s.os = s0.os) : FlyC P w l H0 s0 x cls c fl H' s' := by
  obtain ⟨B, t, k, hb, ht, hok⟩ := F.fly
  refine ⟨F.os.trans os, F.bare, u.trans F.un, B, t, k, fun b o e n f => hb b o (u.keep b o e n f (by simp)) (u.free b o e n (by simp)) f, fun b o e f => ?_, hok⟩
  obtain ⟨o', e'⟩ := u.there b o e (by simp)
  exact ht b o' e' f
/-- an own namespace goes: nothing is said of it any more -/
theorem FlyC.hide {h2 : Heap} (F : FlyC P w l H s x cls c fl H' s') (sb : Heap.SameBut C s'.heap h2) (hC : ∃ m, s'.heap.Ns C m) (nC : s.heap.get? C = none) (fC : H' C = none) (lC : C ∉ frs l) : FlyC P w l H s x cls c fl H' { s' with heap := h2 } := by
  obtain ⟨B, t, k, hb, ht, hok⟩ := F.fly
  obtain ⟨m, oC, es, ep, eC, dC, _⟩ := hC
  have hid : ∀ {b : Addr} {o : Obj}, (PySem.W.hideAll B [C]).get? b = some o → B.get? b = some o ∧ b ≠ C := fun {b o} e => ⟨PySem.W.of_hideAll _ e, fun z => by
    rw [z, PySem.W.hideAll_none [C] List.mem_cons_self] at e
    cases e⟩
  have less : ∀ b, B.get? b = none → (PySem.W.hideAll B [C]).get? b = none := fun b n => by
    cases e : (PySem.W.hideAll B [C]).get? b with
    | none => rfl
    | some o => rw [(hid e).1] at n; cases n
  have sC : ∀ b o, s.heap.get? b = some o → b ≠ C := fun b o e z => by rw [z, nC] at e; cases e
  obtain ⟨ob, vs, T, ot, ts, ⟨h1, h2', h3⟩, v, ⟨b1, b2⟩, t1, t2, t3⟩ := k.trc
  have xC : x ≠ C := fun z => by rw [z, eC] at h1; cases h1; rw [dC] at h3; cases h3
  have TC : T ≠ C := fun z => by rw [z, eC] at t1; cases t1; rw [dC] at t2; cases t2
  have k' : Trk (PySem.W.hideAll B [C]) l x cls (.ref t) c fl h2 := ⟨fun b o e => (sb.2 b (hid e).2).trans (k.stays b o (hid e).1), less x k.new, funs_less k.funs (fun b hb o e => (sb.2 b fun z => lC (by rw [← z]; exact hb)).trans e) less,
    ob, vs, T, ot, ts, ⟨(sb.2 x xC).trans h1, h2', h3⟩, v, ⟨less T b1, b2⟩, (sb.2 T TC).trans t1, t2, t3⟩
  refine ⟨F.os, F.bare, ⟨fun b o e n f z => (sb.2 b (sC b o e)).trans (F.un.keep b o e n f z), fun b o e n f z => ?_, F.un.free, fun b o e z => ?_, F.un.tups, F.un.frzs, F.un.tbls⟩, _, t, k',
    fun b o e n f => PySem.W.hideAll_get _ (hb b o e n f) (by simpa using sC b o e), fun b o e f => ?_, hide_ok hok fun b hb => by rw [List.mem_singleton.mp hb]; exact fC⟩
  · obtain ⟨sl, e1⟩ := F.un.slot b o e n f z
    exact ⟨sl, (sb.2 b (sC b o e)).trans e1⟩
  · obtain ⟨o', e1⟩ := F.un.there b o e z
    exact ⟨o', (sb.2 b (sC b o e)).trans e1⟩
  · obtain ⟨o', e1⟩ := ht b o e f
    exact ⟨o', PySem.W.hideAll_get _ e1 (by simpa using sC b o e)⟩
end
section
variable {X : Cx} {pins : List (Addr × Obj)} {σ : St} {H H' : Hp} {s s' : Shared} {x C : Addr} {cls c fl : Value} {Q : Unit → Shared → Prop} {E : Value → Shared → Prop} {A : Around}
theorem FlyC.base (O : Own X) (I : Inv X pins σ H s) (F : FlyC X.prog X.w X.stack H s x cls c fl H' s') : FlyC X.prog X.w X.stack X.H₀ X.s₀ x cls c fl H' s' := by
  have un0 : Un (frs X.outer) [] X.H₀ H X.s₀.heap s.heap := by have := I.base; rw [O.ex] at this; exact this
  exact F.after (un0.mono (fun b hb => by rw [O.frs]; exact List.mem_cons_of_mem _ hb) fun _ z => z) I.os
theorem note_frame {v : Value} {e1 e2 : Env} (h : e1.frame = e2.frame) : noteFrame v e1 = noteFrame v e2 := by
  unfold noteFrame PySem.frameOf
  rw [h]
theorem FlyC.note0 (O : Own X) (fr : A.frames = some (X.env :: X.outer)) (F : FlyC X.prog X.w X.stack H s x cls c fl H' s') (q : ∀ h', FlyC X.prog X.w X.stack H s x cls c (rawInt X.env.locals) H' { s' with heap := h' } → s'.heap.UpToSlots h' → Q () { s' with heap := h' }) :
    wpAny (model X.prog X.w) A (noteFrame (.ref x) X.env) Q E s' := by
  obtain ⟨B, t, k, hb, ht, hok⟩ := F.fly
  have k0 : Trk B (X.env :: X.outer) x cls (.ref t) c fl s'.heap := by rw [← O.stk]; exact k
  refine note_at fr O.fr k0 fun h' k' u => q h' ?_ u
  rw [← O.stk] at k'
  exact fly_to F.os F.bare F.un k hb ht hok k' u
theorem FlyC.one (F : FlyC X.prog X.w X.stack H s x cls c fl H' s') {Q' : Value → Shared → Prop} (q : ∀ T, Q' (.ref T) s') : wpAny (model X.prog X.w) A (field (.ref x) 1) Q' E s' := by
  obtain ⟨B, t, k, _⟩ := F.fly
  obtain ⟨ob, vs, T, ot, ts, ⟨h1, h2, h3⟩, ⟨v0, v2, v1⟩, _⟩ := k.trc
  exact wpAny_field h1 h3 v1 (q T)
theorem FlyC.leave0 (O : Own X) (ab : X.s₀.heap.objs.size ≤ X.env.locals) (fr : A.frames = some (X.env :: X.outer)) (F : FlyC X.prog X.w X.stack X.H₀ X.s₀ x cls c fl H' s')
    (q : ∀ h', FlyC X.prog X.w X.outer X.H₀ X.s₀ x cls c .none H' { s' with heap := h' } → Q () { s' with heap := h' }) : wpAny (model X.prog X.w) A (leaving X.env (.ref x)) Q E s' := by
  obtain ⟨B, t, k, hb, ht, hok⟩ := F.fly
  have k0 : Trk B (X.env :: X.outer) x cls (.ref t) c fl s'.heap := by rw [← O.stk]; exact k
  have out : ∀ b o, X.s₀.heap.get? b = some o → b ∈ frs X.stack → b ∈ frs X.outer := fun b o e hm => by
    rw [O.frs] at hm
    rcases List.mem_cons.mp hm with z | z
    · exact absurd (Nat.lt_of_lt_of_le (Heap.lt_size e) (by rw [z]; exact ab)) (Nat.lt_irrefl _)
    · exact z
  have un1 : Un (frs X.outer) [] X.H₀ H' X.s₀.heap s'.heap := ⟨fun b o e n f z => F.un.keep b o e n (fun y => f (out b o e y)) z, fun b o e n f z => F.un.any e n z, F.un.free, F.un.there, F.un.tups, F.un.frzs, F.un.tbls⟩
  exact leave_at fr O.fr k0 fun h' k' u => q h' (fly_to F.os F.bare un1 k0.out (fun b o e n f => hb b o e n fun z => f (out b o e z)) (fun b o e f => ht b o e fun z => f (out b o e z)) hok k' u)
end
/-! ### what a call hands on -/
/-- an exception with some context -/
def CXF (P : Program) (w : World) : CXT := fun outer H s E e s' => ∃ (x C : Addr) (c : Value) (H' : Hp), e = .ref x ∧ FlyC P w outer H s x (.ref C) c .none H' s' ∧ E (.ref C) none H'
/-- one without -/
def CXP (P : Program) (w : World) : CXT := fun outer H s E e s' => ∃ (x C : Addr) (H' : Hp), e = .ref x ∧ FlyC P w outer H s x (.ref C) .none .none H' s' ∧ E (.ref C) none H'
section
variable {P : Program} {w : World} {K : PySem.W.Frag} {mg : Str → Option Value} {base : Heap} {N : List Str} {qual : Str} {scope : Scope} {f : Addr} {cd : Value} {A : Around} {outer : List Env} {s : Shared} {H : Hp} {E : XK}
theorem CXF.toE {e : Value} {s' : Shared} (h : CXF P w outer H s E e s') : CXE P w outer H s E e s' := by
  obtain ⟨x, C, c, H', e, F, q⟩ := h
  exact ⟨x, C, H', e, F.x, q⟩
/-- what a def's frame hands on of an exception that flies over it -/
def LeaveF (X : Cx) (E : XK) : Prop := ∀ (x C : Addr) (c fl : Value) (H' : Hp) (s' : Shared), X.Ok → FlyC X.prog X.w X.stack X.H₀ X.s₀ x (.ref C) c fl H' s' → E (.ref C) none H' → X.xe (.ref x) s'
theorem leaveF : LeaveF (cxOf (CXF P w) P w K mg base N qual scope f cd A outer s H E) E := fun x C c fl H' s' ok F q =>
  F.leave0 own_cx ok.above ok.frames fun h'' F' => ⟨x, C, c, H', rfl, F', q⟩
theorem passF : Passes (CXF P w) (cxOf (CXF P w) P w K mg base N qual scope f cd A outer s H E) E := fun pins σ H1 s1 e s' I h => by
  obtain ⟨x, C, c, H', rfl, F, q⟩ := h
  exact leaveF x C c _ H' s' I.ok (F.base own_cx I) q
theorem raiseP : RaiseOk (cxOf (CXP P w) P w K mg base N qual scope f cd A outer s H E) E := fun pins σ H1 s1 x C h' vs I m q => by
  obtain ⟨t, he, _⟩ := m.there
  exact leave_madeC own_cx I rfl m.keeps m.new he rfl rfl rfl rfl fun h'' F => ⟨x, C, H1, rfl, F, q⟩
theorem raiseF : RaiseOk (cxOf (CXF P w) P w K mg base N qual scope f cd A outer s H E) E := fun pins σ H1 s1 x C h' vs I m q => by
  obtain ⟨t, he, _⟩ := m.there
  exact leave_madeC own_cx I rfl m.keeps m.new he rfl rfl rfl rfl fun h'' F => ⟨x, C, _, H1, rfl, F, q⟩
theorem raiseCF : RaiseOkC (cxOf (CXF P w) P w K mg base N qual scope f cd A outer s H E) E := fun pins σ H1 s1 x C t h h' I kp new he q =>
  leave_madeC own_cx I rfl kp new he rfl rfl rfl rfl fun h'' F => ⟨x, C, _, H1, rfl, F, q⟩
theorem Fun.okX {CX : CXT} {x qual : Str} {st : Stmt} {f : Addr} {fd : FuncData} {N ps : List Str} {k : Nat} {sp : Sp} (F : Fun K x qual st f fd) (S : FnScope N ps (defScope st)) (len : ∀ vs H Q E, sp vs H Q E → vs.length = ps.length)
    (hbody : ∀ (cdv : Value) (A : Around) (outer : List Env) (s : Shared) (H : Hp) (vs : List V) (Q : VK) (E : XK), Room k (A.deeper (envOfC qual (defScope st) s.heap.objs.size f cdv)) → sp vs H Q E →
      ∃ t, PSs (cxOf CX P w K mg base N qual (defScope st) f cdv A outer s H E) (defBody st) t ∧ t { nx := fun _ H' => Q .non H', rt := Q } (start N vs) H) : FnOk P w K mg base CX (k + 1) f fd ps sp := by
  obtain ⟨oc, od, kV, doc, pm, an, cdv, ct, osl, rfl, lk, hcd⟩ := F.ex
  exact fn_of lk hcd S len fun A outer s H vs Q E hr hsp => hbody cdv A outer s H vs Q E hr hsp
end
end L2
namespace L2
open PySem PySem.Spec PyProof.Rows
/-- a handler's test: it takes an exception whose class is cls, and leaves what stands -/
def Tst (X : Cx) (te : Expr) (cls : Value) : Prop := ∀ (h : Addr) (pins : List (Addr × Obj)) (σ : St) (H : Hp) (s : Shared) (ob : Obj) (Q : Shared → Prop) (E : Value → Shared → Prop), Inv (X.held h) pins σ H s → s.heap.get? h = some ob → ob.cls = cls →
  (∀ h' tk, (∀ b o, s.heap.get? b = some o → h'.get? b = some o) → Q { s with heap := h', toks := tk }) →
  wpAny (model X.prog X.w) (X.A.mark (some (.ref h))) (eval te X.env) (fun v s1 => wpAny (model X.prog X.w) (X.A.mark (some (.ref h))) (excMatches (.ref h) v) (fun b s2 => b = true ∧ Q s2) E s1) E s
section
variable {X : Cx}
theorem tst_name {cn : Str} {Cr C : Addr} {np : Pos} (Z : HCls X.K Cr) (hm : X.mg cn = some (.ref Cr)) (hg : Gl X cn) (hs : PySem.W.subIn X.K (.ref C) (.ref Cr) = some true) (hdb : (cn == ("__debug__" : Str)) = false := by decide) : Tst X (.Name cn np) (.ref C) := by
  intro h pins σ H s ob Q E I ho hc q
  refine ld_glob (X := X.held h) I hg hm ?_ hdb
  exact exc_matches I.kIn Z ho hc hs ⟨rfl, q s.heap s.toks fun _ _ e => e⟩
theorem tst_tup2 {c1 c2 : Str} {a b C : Addr} {p1 p2 tp : Pos} {kk : Nat} (m1 : X.mg c1 = some (.ref a)) (g1 : Gl X c1) (m2 : X.mg c2 = some (.ref b)) (g2 : Gl X c2) (he : PySem.W.exmAny X.K (.ref C) [.ref a, .ref b] = some true)
    (d1 : (c1 == ("__debug__" : Str)) = false := by decide) (d2 : (c2 == ("__debug__" : Str)) = false := by decide) : Tst X (.Tuple [.Name c1 p1, .Name c2 p2] kk tp) (.ref C) := by
  intro h pins σ H s ob Q E I ho hc q
  refine wpAny_Tuple ?_
  refine wpAny_items_cons (ld_glob (X := X.held h) I g1 m1 ?_ d1)
  refine wpAny_items_cons (ld_glob (X := X.held h) I g2 m2 ?_ d2)
  refine wpAny_items_nil ⟨by size_fits, ?_⟩
  have kp : ∀ q o, s.heap.get? q = some o → (s.heap.push { cls := .type "tuple", data := .seq [Value.ref a, Value.ref b].toArray }).get? q = some o := fun _ _ z => Heap.get?_push_of_some _ z
  have LT : PySem.W.Looks (model X.prog X.w) s.heap (typeOf (.ref h)) (.ref C) := hc ▸ (PySem.W.Looks.ld ho).andThen .now
  exact (PySem.W.exm_tup2 (I.kIn.keeps kp) (LT.keeps kp) (Heap.get?_push_size s.heap rfl) he).here ⟨rfl, q _ s.toks kp⟩
theorem ve_base : isSubtype (.type "ValueError") (.type "BaseException") = pure true := by rw [isSubtype_type]; kernel_rfl
theorem ve_self : isSubtype (.type "ValueError") (.type "ValueError") = pure true := by rw [isSubtype_type]; kernel_rfl
theorem ve_tup : isSubtype (.type ((Manifest.find? "ValueError").elim "type" fun x => x.metatype)) (.type "tuple") = pure false := by rw [isSubtype_type]; kernel_rfl
theorem boot_VE : bootBuiltins (Str.ofString "ValueError") = some (.type "ValueError") := by kernel_rfl
theorem tst_ve {np : Pos} (hm : X.mg "ValueError" = none) (hg : Gl X "ValueError") : Tst X (.Name "ValueError" np) (.type "ValueError") := by
  intro h pins σ H s ob Q E I ho hc q
  refine ld_blt (X := X.held h) I hg hm boot_VE ?_
  exact wpAny_excMatches_type (X := "ValueError") ⟨ob, ho, hc⟩ ve_base ve_tup ve_self ⟨rfl, q s.heap s.toks fun _ _ e => e⟩
end
section
variable {X : Cx} {pins : List (Addr × Obj)} {σ : St} {H H' : Hp} {s s' : Shared} {h C : Addr} {cls c fl : Value} {E : XK}
theorem FlyC.new (F : FlyC X.prog X.w X.stack H s h cls c fl H' s') : s.heap.get? h = none := by
  obtain ⟨B, t, k, hb, ht, hok⟩ := F.fly
  cases e : s.heap.get? h with
  | none => rfl
  | some o =>
    exfalso
    by_cases hm : h ∈ frs X.stack
    · obtain ⟨_, o', e', nf⟩ := k.funs.mem hm
      obtain ⟨ob, vs, T, ot, ts, ⟨h1, h2, h3⟩, _⟩ := k.trc
      rw [e'] at h1
      cases h1
      exact nf vs h3
    · obtain ⟨o', e'⟩ := ht h o e hm
      rw [k.new] at e'
      cases e'
theorem FlyC.none (F : FlyC X.prog X.w X.stack H s h cls c fl H' s') : H' h = none := by
  obtain ⟨B, t, k, hb, ht, hok⟩ := F.fly
  cases e : H' h with
  | none => rfl
  | some u =>
    obtain ⟨o, e2⟩ := (hok h u e).there
    rw [k.new] at e2
    cases e2
theorem handled_raise {te e : Expr} {x : Str} {es : List Expr} {t : TA} {np cpos pos cp hpos : Pos} {j : Nat} {Q : Flow → Shared → Prop} (O : Own X) (R : RaiseOkC X E) (PO : ∀ h, PassesOwnAt (model X.prog X.w) (X.A.mark (some (.ref h))) X.A X.env X.xe) (T : Tst X te cls)
    (Z : XCls X.K x C) (hm : X.mg x = some (.ref C)) (hg : Gl X x) (ha : ∀ h, PA (X.held h) (e :: es) t) (I : Inv X pins σ H s) (F : FlyC X.prog X.w X.stack H s h cls .none .none H' s')
    (ht : ∀ h, H' h = none → t σ (upd H' h (excN h)) fun vs H1 => H1 h = some (excN h) ∧ vs.length ≤ sizeLine ∧ E (.ref C) none H1)
    (hdb : (x == ("__debug__" : Str)) = false := by decide) (he : starEach (e :: es) X.env = (false, eval e X.env) :: starEach es X.env := by rfl) (hpl : (backTo cpos (starEach es X.env)).any (·.1) = false := by rfl) :
    wpAny (model X.prog X.w) X.A (handleBy (.ref h) X.env [.ExceptHandler (some te) none [.Raise (some (.Call (.Name x np) (e :: es) [] cpos)) (some (.Constant .none j cp)) pos] hpos]) Q X.xe s' := by
  have J1 := F.inv I
  obtain ⟨ob, vs, ho, hc, hd, v2⟩ := F.at
  refine wpAny_handleBy_cons (codeAny_handlers_test (thn (T h pins σ H' s' ob (fun s2 => ∃ h' tk, s2 = { s' with heap := h', toks := tk } ∧ ∀ b o, s'.heap.get? b = some o → h'.get? b = some o) _ (J1.held h) ho hc fun h' tk kp => ⟨h', tk, rfl, kp⟩) fun v s2 q => thn q fun b s3 q3 => ?_)) (by intro z; cases z)
  obtain ⟨rfl, h', tk, rfl, kp⟩ := q3
  show codeAny _ _ _ _ _
  refine codeAny_handlers_suite ?_
  have F2 := F.more (h2 := h') (tk := tk) kp
  refine F2.set (f := none) fun h5 F5 => ?_
  have J5 := F5.inv I
  have new := F.new
  have hx0 := F.none
  obtain ⟨ob5, vs5, ho5, hc5, hd5, v5⟩ := F5.at
  have J7 : Inv X pins σ (upd H' h (excN h)) { s' with heap := h5, toks := tk } := by
    refine J5.track hx0 ?_ (fun z => ?_) (fun y c e z => ?_) (fun p hp z => ?_) ?_
    · cases e : X.s₀.heap.get? h with
      | none => rfl
      | some o =>
        obtain ⟨o', e'⟩ := I.base.there h o e (by rw [O.ex]; simp)
        rw [new] at e'
        cases e'
    · obtain ⟨m, ⟨o, _, _, e, _⟩, _⟩ := I.loc
      rw [← z, new] at e
      cases e
    · obtain ⟨w', o, e', _⟩ := I.cell y c e
      rw [z, new] at e'
      cases e'
    · have := (I.pin p hp).1
      rw [z, new] at this
      cases this
    · exact ⟨⟨ob5, vs5, ho5, hd5, v5⟩, ⟨ob5, ho5⟩, fun h1 h2 ⟨o, ws, q1, q2, q3⟩ k => ⟨o, ws, k o q1, q2, q3⟩⟩
  refine wpAny_execs_cons (wpAny_passesOwnAt (PO h) (raise_here (J7.held h) Z hm hg (ha h) (ht h hx0) (fun H1 s3 x' t' h'' I3 kp3 new he q => R pins σ H1 s3 x' C t' h h'' (I3.unheld I.ok) kp3 new he q) hdb he hpl))
/-! ### a try's body whose exceptions bear no context -/
def LandP (X : Cx) (pins : List (Addr × Obj)) (S : St → XK) : Value → Shared → Prop := fun e s' => ∃ (σ : St) (H : Hp) (s : Shared) (x C : Addr) (H' : Hp), e = .ref x ∧ Inv X pins σ H s ∧ FlyC X.prog X.w X.stack H s x (.ref C) .none .none H' s' ∧ S σ (.ref C) none H'
def Cx.triedP (X : Cx) (pins : List (Addr × Obj)) (S : St → XK) : Cx := { X with pn := X.pn ++ pins, xe := LandP X pins S }
theorem Inv.triedP (I : Inv X pins σ H s) (S : St → XK) : Inv (X.triedP pins S) [] σ H s := let J := I.tried (fun _ _ _ _ => False); ⟨⟨J.ok.mod, J.ok.kind, J.ok.glob, J.ok.blt, J.ok.above, J.ok.inj, J.ok.has, J.ok.cab, J.ok.hd, J.ok.frames, J.ok.stk, J.ok.exf, J.ok.bs, J.ok.bsz, J.ok.noex, J.ok.exfs, J.ok.funs, J.ok.frf⟩, J.os, J.bare, J.base, J.loc, J.cell, J.free, J.freeC, J.pin, J.hok, J.len⟩
theorem Inv.untriedP {S : St → XK} {pins' : List (Addr × Obj)} (I : Inv (X.triedP pins S) pins' σ H s) : Inv X pins σ H s :=
  ⟨⟨I.ok.mod, I.ok.kind, I.ok.glob, I.ok.blt, I.ok.above, I.ok.inj, I.ok.has, I.ok.cab, I.ok.hd, I.ok.frames, I.ok.stk, I.ok.exf, I.ok.bs, I.ok.bsz, I.ok.noex, I.ok.exfs, I.ok.funs, I.ok.frf⟩, I.os, I.bare, I.base, I.loc, I.cell, I.free, I.freeC, fun p hp => I.pin p (List.mem_append_left _ hp), I.hok, I.len⟩
theorem SP.untriedP {S : St → XK} {D : Ends} {f : Flow} {s' : Shared} (h : SP (X.triedP pins S) [] D f s') : SP X pins D f s' := by
  cases f with
  | next => obtain ⟨σ', H', I, q⟩ := h; exact ⟨σ', H', I.untriedP, q⟩
  | brk => obtain ⟨σ', H', I, q⟩ := h; exact ⟨σ', H', I.untriedP, q⟩
  | cont => obtain ⟨σ', H', I, q⟩ := h; exact ⟨σ', H', I.untriedP, q⟩
  | ret u => obtain ⟨v, σ', H', I, r, q⟩ := h; exact ⟨v, σ', H', I.untriedP, r, q⟩
end
theorem pe_fnP {X : Cx} {pins0 : List (Addr × Obj)} {S : St → XK} {k : Nat} {ps : List Str} {sp : Sp} {x : Str} {p pos : Pos} {e : Expr} {es : List Expr} {t : TA} (D : Def X.prog X.w X.K X.mg X.base (CXP X.prog X.w) x ps k sp) (hr : Room k X.A) (hg : Gl X x) (ha : PA (X.triedP pins0 S) (e :: es) t)
    (hdb : (x == ("__debug__" : Str)) = false := by decide) (he : starEach (e :: es) X.env = (false, eval e X.env) :: starEach es X.env := by rfl) (hpl : (backTo pos (starEach es X.env)).any (·.1) = false := by rfl) :
    PE (X.triedP pins0 S) (.Call (.Name x p) (e :: es) [] pos) (tCallS sp S t) := by
  obtain ⟨f, fd, F, hb, hk, hm⟩ := D.ex
  intro pins s σ H Q I h
  refine wpAny_Call_Name_kw (ld_glob (X := X.triedP pins0 S) I hg hm ?_ hdb)
  refine PySem.W.callWith_K (h₀ := X.base) I.ok.mod.kin hk (thn (ha pos pins s σ H _ I h) fun us s1 ⟨vs, H1, I1, r, q⟩ => ⟨I1.kIn, ?_⟩) he hpl
  have hl : (us ++ []).length = ps.length := by rw [List.append_nil, ← r.length]; exact F.len _ _ _ _ q
  refine wpAny_call (codeAny_mono (F.run X.A X.stack s1 H1 ⟨us, []⟩ us vs Q (S σ) hr I1.untriedP.env0 (by have := hb s1 us I1.kIn hl; rw [List.append_nil] at this; exact this) r q) fun res s' hq => ?_)
  cases res with
  | error e =>
    obtain ⟨x', C, H', rfl, Fx, hS⟩ := hq
    exact ⟨σ, H1, s1, x', C, H', rfl, I1.untriedP, Fx, hS⟩
  | ok fl =>
    cases fl with
    | ret u => exact I1.after hq
    | next => exact False.elim hq
    | brk => exact False.elim hq
    | cont => exact False.elim hq
/-- a try whose handler raises an own error from None -/
def tTryR (C : Addr) (E : XK) (tk : Addr → Prop) (tb : (St → XK) → TS) (t : TA) : TS := fun D σ H =>
  tb (fun σ1 c _ H1 => ∃ C0, c = .ref C0 ∧ tk C0 ∧ ∀ h, H1 h = none → t σ1 (upd H1 h (excN h)) fun vs H2 => H2 h = some (excN h) ∧ vs.length ≤ sizeLine ∧ E (.ref C) none H2) D σ H
theorem ps_tryR {X : Cx} {E : XK} {C : Addr} {tk : Addr → Prop} {body : List Stmt} {tb : (St → XK) → TS} {te e : Expr} {x : Str} {es : List Expr} {t : TA} {np cpos rpos cp hpos pos : Pos} {j : Nat} (O : Own X) (R : RaiseOkC X E) (PO : ∀ h, PassesOwnAt (model X.prog X.w) (X.A.mark (some (.ref h))) X.A X.env X.xe)
    (T : ∀ C0, tk C0 → Tst X te (.ref C0)) (Z : XCls X.K x C) (hm : X.mg x = some (.ref C)) (hg : Gl X x) (hb : ∀ pins S, PSs (X.triedP pins S) body (tb S)) (ha : ∀ h, PA (X.held h) (e :: es) t)
    (hdb : (x == ("__debug__" : Str)) = false := by decide) (he : starEach (e :: es) X.env = (false, eval e X.env) :: starEach es X.env := by rfl) (hpl : (backTo cpos (starEach es X.env)).any (·.1) = false := by rfl) :
    PS X (.Try body [.ExceptHandler (some te) none [.Raise (some (.Call (.Name x np) (e :: es) [] cpos)) (some (.Constant .none j cp)) rpos] hpos] [] [] pos) (tTryR C E tk tb t) := by
  intro pins s σ H D I h
  refine wpAny_Try_except (wpAny_mono (hb pins _ [] s σ H D (I.triedP _) h) (fun f s1 q => ?_) fun e s1 q => ?_)
  · have q' := q.untriedP
    cases f with
    | next => exact wpAny_execs_nil q'
    | brk => exact q'
    | cont => exact q'
    | ret u => exact q'
  · obtain ⟨σ1, H1, s0, h, C0, H', rfl, I1, F, C', eC, htk, hth⟩ := q
    cases eC
    refine F.note O I1 rfl fun h4 F4 => F4.set (f := none) fun h5 F5 => ?_
    exact handled_raise O R PO (T C0 htk) Z hm hg ha I1 F5 hth hdb he hpl
end L2
/-! THE LAYER'S RULES beneath the claim's caller, for what lies on the way to a refused int(text). -/
namespace L2
open PySem PySem.Spec PyProof.Rows
def PEc (X : Cx) (e : Expr) (t : TE) : Prop :=
  ∀ (pins : List (Addr × Obj)) (s : Shared) (σ : St) (H : Hp) (Q : VK), Inv X pins σ H s → t σ H Q → wpC (model X.prog X.w) X.A (eval e X.env) (EP X pins σ Q) X.xe s
def PSc (X : Cx) (st : Stmt) (t : TS) : Prop :=
  ∀ (pins : List (Addr × Obj)) (s : Shared) (σ : St) (H : Hp) (D : Ends), Inv X pins σ H s → t D σ H → wpC (model X.prog X.w) X.A (exec st X.env) (SP X pins D) X.xe s
def PSsc (X : Cx) (st : List Stmt) (t : TS) : Prop :=
  ∀ (pins : List (Addr × Obj)) (s : Shared) (σ : St) (H : Hp) (D : Ends), Inv X pins σ H s → t D σ H → wpC (model X.prog X.w) X.A (execs st X.env) (SP X pins D) X.xe s
section
variable {X : Cx} {e : Expr} {st : Stmt} {sts rest : List Stmt} {te : TE} {t u : TS} {pos : Pos}
theorem PS.c (h : PS X st t) : PSc X st t := fun pins s σ H D I q => .any (h pins s σ H D I q)
theorem PSs.c (h : PSs X sts t) : PSsc X sts t := fun pins s σ H D I q => .any (h pins s σ H D I q)
theorem pssc_cons (h1 : PSc X st t) (h2 : PSsc X rest u) : PSsc X (st :: rest) (tSeq t u) := by
  intro pins s σ H D I h
  refine .execs ((h1 pins s σ H { D with nx := u D } I h).thn fun f s1 q => ?_)
  cases f with
  | next =>
    obtain ⟨σ', H', I', q⟩ := q
    exact h2 pins s1 σ' H' D I' q
  | ret v => exact q
  | brk => exact q
  | cont => exact q
theorem pssc_one (h1 : PSc X st t) : PSsc X [st] t := by
  intro pins s σ H D I h
  refine .execs ((h1 pins s σ H D I h).thn fun f s1 q => ?_)
  cases f with
  | next => exact .any (wpAny_execs_nil q)
  | ret v => exact q
  | brk => exact q
  | cont => exact q
theorem psc_set {i : Nat} {x : Str} {pos' : Pos} (hN : X.N.Nodup) (hi : X.N[i]? = some x) (hx : Loc X.env.scope x) (he : PEc X e te) (hs : swapsWith e (some (.Name x pos')) pos.line X.env = pure false := by rfl) (hf : X.fn x = true ∨ X.env.scope.names.lookup x = some .local := by first | exact .inl rfl | exact .inr rfl | assumption) :
    PSc X (.Assign [.Name x pos'] e pos) (tAsg te (gName i)) := by
  intro pins s σ H D I h
  refine .assign ((he pins s σ H _ I h).thn fun v s1 ⟨y, H1, I1, r1, q1⟩ => ?_) hs
  exact store_ok I1 hN hi hx r1 (fun s2 I2 => ⟨_, H1, I2, q1⟩) hf
theorem psc_ret (he : PEc X e te) : PSc X (.Return (some e) pos) (tRet te) := by
  intro pins s σ H D I h
  exact .ret ((he pins s σ H _ I h).thn fun v s1 ⟨x, H1, I1, r1, q1⟩ => ⟨x, σ, H1, I1, r1, q1⟩)
theorem psc_if {c : Expr} {a b : List Stmt} {tc : TT} (hc : PT X c tc) (ha : PSsc X a t) (hb : PSsc X b u) : PSc X (.If c a b pos) (tIfS tc t u) := by
  intro pins s σ H D I h
  refine .ite (thn (hc pins s σ H _ I h) fun d s1 ⟨H1, I1, q1⟩ => ?_)
  cases d with
  | true => exact ha pins s1 σ H1 D I1 q1
  | false => exact hb pins s1 σ H1 D I1 q1
theorem psc_for {tg iter : Expr} {body : List Stmt} {wi : TI} {g : TG} {tb : TS} (hx : X.xe = fun _ _ => False) (hc : X.calm = true) (hi : PI X tg iter wi) (hg : PG X tg g) (hb : PSsc X body tb)
    (hs : ∀ x, foldedSetIterable iter X.env x = pure x := by intro _; rfl) : PSc X (.For tg iter body [] pos) (tFor wi g tb) := by
  intro pins s σ H D I h
  refine .for_ (thn (hi pins s σ H _ I h) fun v s1 h1 => thn h1 fun itv s2 h2 => ?_) hs
  obtain ⟨it, fp, tn, J, H2, e, I2, T, st2, f2, W, ⟨m0, w0⟩, turn⟩ := h2
  subst e
  have stat : ∀ {H' : Hp}, (∀ b ∈ fp, H' b = none) → ∀ b ∈ fp, FpOk X pins H' b := fun hn b hb => ⟨hn b hb, (f2 b hb).2⟩
  refine codeC.forLoop (fun n s' => ∃ i σ' H', Inv X pins σ' H' s' ∧ tn i s'.heap ∧ (∀ b ∈ fp, H' b = none) ∧ W i n σ' H') ?_ m0 ⟨0, σ, H2, I2, st2, fun b hb => (f2 b hb).1, w0⟩
  rintro n s3 ⟨i, σ3, H3, I3, st3, fr3, w3⟩
  rcases turn i n σ3 H3 w3 with ⟨stop, qn⟩ | ⟨go, N, hN, step⟩
  · refine thn (T.done X rfl rfl rfl hc i pins s3 σ3 H3 _ I3 (stat fr3) st3 stop) fun r s4 ⟨hr, I4⟩ => ?_
    subst hr
    exact ⟨σ3, H3, I4, qn⟩
  · refine thn (T.item X rfl rfl rfl hc i pins s3 σ3 H3 _ I3 (stat fr3) st3 go) fun r s4 ⟨u, hr, h4⟩ => ?_
    subst hr
    refine thn h4 fun _ s5 ⟨x, H5, I5, r5, y5, st5, fr5⟩ => ?_
    have I5' := I5.pinned (stat fr5) (T.obj _ _ st5)
    have qg := hg _ s5 σ3 H5 x u _ I5' r5 (step x H5 y5)
    rw [hx] at qg
    refine thn qg fun _ s6 ⟨σ6, H6, I6, q6⟩ => ?_
    have qb := hb _ s6 σ6 H6 _ I6 q6
    rw [hx] at qb
    refine qb.thn fun f s7 q7 => ?_
    have again : ∀ {σ7 : St} {H7 : Hp}, Inv X (pins ++ pinsAt fp s5.heap) σ7 H7 s7 → N σ7 H7 → ∃ m, m < n ∧ ∃ i σ' H', Inv X pins σ' H' s7 ∧ tn i s7.heap ∧ (∀ b ∈ fp, H' b = none) ∧ W i m σ' H' := fun {σ7 H7} I7 n7 => by
      obtain ⟨m', hm, w7⟩ := hN σ7 H7 n7
      refine ⟨m', hm, i + 1, σ7, H7, I7.unpinned, T.keep _ _ _ st5 fun b hb o e => (I7.pin (b, o) (List.mem_append_right _ (List.mem_append_right _ (mem_pinsAt hb e)))).1, fun b hb => ?_, w7⟩
      obtain ⟨o, e, d⟩ := T.obj _ _ st5 b hb
      exact (I7.pin (b, o) (List.mem_append_right _ (List.mem_append_right _ (mem_pinsAt hb e)))).2.1
    cases f with
    | next => obtain ⟨σ7, H7, I7, n7⟩ := q7; exact again I7 n7
    | cont => obtain ⟨σ7, H7, I7, n7⟩ := q7; exact again I7 n7
    | brk => obtain ⟨σ7, H7, I7, q7⟩ := q7; exact ⟨σ7, H7, I7.unpinned, q7⟩
    | ret v => obtain ⟨x7, σ7, H7, I7, r7, q7⟩ := q7; exact ⟨x7, σ7, H7, I7.unpinned, r7, q7⟩
end
/-! ### defs -/
structure FnK (P : Program) (w : World) (K : PySem.W.Frag) (mg : Str → Option Value) (base : Heap) (CX : CXT) (k : Nat) (f : Addr) (fd : FuncData) (ps : List Str) (sp : Sp) : Prop where
  len : ∀ vs H Q E, sp vs H Q E → vs.length = ps.length
  run : ∀ (A : Around) (outer : List Env) (s : Shared) (H : Hp) (args : Args) (us : List Value) (vs : List V) (Q : VK) (E : XK), Room k A → Env0 P w K mg base A outer s H → BindsTo s fd args (ps.zip us) → Vals vs us → sp vs H Q E →
    codeC (model P w) A (.call (.ref f) args) (CR CX outer P w H s Q E) s
structure DefK (P : Program) (w : World) (K : PySem.W.Frag) (mg : Str → Option Value) (base : Heap) (CX : CXT) (x : Str) (ps : List Str) (k : Nat) (sp : Sp) : Prop where
  ex : ∃ (f : Addr) (fd : FuncData), FnK P w K mg base CX k f fd ps sp ∧ Binds K fd ps [] ∧ PySem.W.keepIn K (.ref f) = true ∧ mg x = some (.ref f)
section
variable {P : Program} {w : World} {K : PySem.W.Frag} {mg : Str → Option Value} {base : Heap}
theorem Fun.okK {CX : CXT} {x qual : Str} {st : Stmt} {f : Addr} {fd : FuncData} {N ps : List Str} {k : Nat} {sp : Sp} (F : Fun K x qual st f fd) (S : FnScope N ps (defScope st)) (len : ∀ vs H Q E, sp vs H Q E → vs.length = ps.length)
    (hbody : ∀ (cdv : Value) (A : Around) (outer : List Env) (s : Shared) (H : Hp) (vs : List V) (Q : VK) (E : XK), Room k (A.deeper (envOfC qual (defScope st) s.heap.objs.size f cdv)) → sp vs H Q E →
      ∃ t, PSsc (cxOf CX P w K mg base N qual (defScope st) f cdv A outer s H E) (defBody st) t ∧ t { nx := fun _ H' => Q .non H', rt := Q } (start N vs) H) : FnK P w K mg base CX (k + 1) f fd ps sp := by
  obtain ⟨oc, od, kV, doc, pm, an, cdv, ct, osl, rfl, lk, hcd⟩ := F.ex
  refine ⟨len, fun A outer s H args us vs Q E hr e0 hb r hsp => ?_⟩
  have hl := len _ _ _ _ hsp
  have KX : K.In s.heap := e0.mod.kin.keeps fun b o e => (e0.bs b o e).1
  have lim : s.heap.NoLimit := e0.mod.nolimit.keeps fun b o e => (e0.bs b o e).1
  have hkind : ∀ y ∈ ps.zip us, (defScope st).names.lookup y.1 = some .local ∨ ((defScope st).names.lookup y.1 = some .cell ∧ ((cellsFrom (s.heap.objs.size + 1) (defScope st).names []).lookup y.1).isSome = true) := fun ⟨n, v⟩ hy => by
    rcases S.par n (List.of_mem_zip hy).1 with q | q
    · exact .inl q
    · exact .inr ⟨q, PySem.W.cellsFrom_some _ _ _ (.inl q)⟩
  refine codeC.call_function hr.depth (KX _ _ lk) rfl S.co S.gen rfl (PySem.W.codeRec_of KX hcd) (hb _ _ _ _ ?_)
  refine wpAny_newFunctionEnv_cells S.kind hkind fun env he s1 x => ?_
  subst he
  refine ⟨lim.keeps x.toInCall.keep, codeC.func ?_⟩
  obtain ⟨t, ht, hq⟩ := hbody cdv A outer s H vs Q E (hr.deeper _) hsp
  have I : Inv (cxOf CX P w K mg base N qual (defScope st) f cdv A outer s H E) [] (start N vs) H s1 := inv_start S hr.hd e0 hl r x
  refine (ht [] s1 (start N vs) H _ I hq).mono (fun fl s' hs => ?_) fun e s' hs => hs
  have fin : ∀ {σ' : St} {H' : Hp} {v : V} {u : Value}, Inv (cxOf CX P w K mg base N qual (defScope st) f cdv A outer s H E) [] σ' H' s' → RelV v u → Q v H' → CE outer P w H s Q u s' := fun {σ' H' v u} J rv q => ⟨v, H', J.os, J.bare, J.base, J.hok, rv, q⟩
  cases fl with
  | ret u =>
    obtain ⟨v, σ', H', J, rv, q⟩ := hs
    exact fin J rv q
  | next =>
    obtain ⟨σ', H', J, q⟩ := hs
    exact fin (v := V.non) (u := Value.none) J rfl q
  | brk =>
    obtain ⟨_, _, _, q⟩ := hs
    exact False.elim q
  | cont =>
    obtain ⟨_, _, _, q⟩ := hs
    exact False.elim q
/-- no exception leaves -/
theorem Fun.okK0 {x qual : Str} {st : Stmt} {f : Addr} {fd : FuncData} {N ps : List Str} {k : Nat} {sp : Sp} (F : Fun K x qual st f fd) (S : FnScope N ps (defScope st)) (len : ∀ vs H Q E, sp vs H Q E → vs.length = ps.length)
    (hbody : ∀ (cdv : Value) (A : Around) (outer : List Env) (s : Shared) (H : Hp) (vs : List V) (Q : VK) (E : XK), Room k (A.deeper (envOfC qual (defScope st) s.heap.objs.size f cdv)) → sp vs H Q E →
      ∃ t, PSsc (cxOf CX0 P w K mg base N qual (defScope st) f cdv A outer s H E).nox (defBody st) t ∧ t { nx := fun _ H' => Q .non H', rt := Q } (start N vs) H) : FnK P w K mg base CX0 (k + 1) f fd ps sp := by
  refine F.okK S len fun cdv A outer s H vs Q E hr hsp => ?_
  obtain ⟨t, h, q⟩ := hbody cdv A outer s H vs Q E hr hsp
  exact ⟨t, fun pins s σ H D I hw => (h pins s σ H D (I.wish _) hw).mono (fun _ _ q => q.unwish) fun _ _ z => False.elim z, q⟩
end
/-! ### calls -/
theorem wpC.callWithK {M : Model} {A : Around} {E : Value → Shared → Prop} {s : Shared} {K : PySem.W.Frag} {env : Env} {pos : Pos} {f : Value} {Q : Value → Shared → Prop} {e : Expr} {rest : List Expr} (hk : PySem.W.keepIn K f = true)
    (h : wpAny M A (spliced (backTo pos (starEach (e :: rest) env))) (fun vs z => K.In z.heap ∧ wpC M A (PySem.call f vs) Q E z) E s)
    (he : starEach (e :: rest) env = (false, eval e env) :: starEach rest env := by rfl) (hpl : (backTo pos (starEach rest env)).any (·.1) = false := by rfl) : wpC M A (callWith pos f [] (backTo pos (starEach (e :: rest) env)) []) Q E s := by
  rw [he] at h ⊢
  have pl : ((backTo pos ((false, eval e env) :: starEach rest env)).any (·.1) || ([] : List (Option Str × Sem Value)).any (·.1.isNone)) = false := by
    show ((false || (backTo pos (starEach rest env)).any (·.1)) || false) = false
    rw [hpl]
    rfl
  unfold callWith
  refine .step (wpAny_holding (Calls.evalArgs_plain (L2.thn h fun vs z q => ?_)))
  refine .step (wpAny_standAt ?_)
  obtain ⟨kp, hkp, L⟩ := PySem.W.keeps_K (M := M) hk z.heap q.1
  simp only [pl]
  refine .step (L.here ?_)
  have tail : ∀ {t : Sem Value}, wpC M A t Q E z → wpC M A (t >>= fun r => PySem.holding [r] point >>= fun _ => pure r) Q E z := fun ht => .bind (ht.thn fun r z2 q2 => .any (wpAny_bind (wpAny_holding (wpAny_point (wpAny_pure q2)))))
  have marked : ∀ mk : Value, wpC M A (callMarked mk f ([] ++ vs) []) Q E z := fun mk => by
    unfold callMarked
    exact .keep q.2
  rcases hkp with rfl | rfl | rfl <;> dsimp only <;> first | exact tail q.2 | (split <;> first | exact tail q.2 | exact tail (marked _))
section
variable {X : Cx}
/-- f(e, ..) whose exceptions the def around hands on -/
theorem pec_fn {CX : CXT} {E : XK} {k : Nat} {ps : List Str} {sp : Sp} {x : Str} {p pos : Pos} {e : Expr} {es : List Expr} {t : TA} (D : DefK X.prog X.w X.K X.mg X.base CX x ps k sp) (hr : Room k X.A) (hx : Passes CX X E) (hg : Gl X x) (ha : PA X (e :: es) t)
    (hdb : (x == ("__debug__" : Str)) = false := by decide) (he : starEach (e :: es) X.env = (false, eval e X.env) :: starEach es X.env := by rfl) (hpl : (backTo pos (starEach es X.env)).any (·.1) = false := by rfl) :
    PEc X (.Call (.Name x p) (e :: es) [] pos) (tCall sp [] E t) := by
  obtain ⟨f, fd, F, hb, hk, hm⟩ := D.ex
  intro pins s σ H Q I h
  refine .callName (ld_glob I hg hm ?_ hdb)
  refine .callWithK hk (thn (ha pos pins s σ H _ I h) fun us s1 ⟨vs, H1, I1, r, q⟩ => ⟨I1.kIn, ?_⟩) he hpl
  have q : sp (vs ++ []) H1 Q E := q
  rw [List.append_nil] at q
  have hl : (us ++ []).length = ps.length := by rw [List.append_nil, ← r.length]; exact F.len _ _ _ _ q
  refine .call ((F.run X.A X.stack s1 H1 ⟨us, []⟩ us vs Q E hr I1.env0 (by have := hb s1 us I1.kIn hl; rw [List.append_nil] at this; exact this) r q).mono fun res s' hq => ?_)
  cases res with
  | error e => exact hx pins σ H1 s1 e s' I1 hq
  | ok fl =>
    cases fl with
    | ret u => exact I1.after hq
    | next => exact False.elim hq
    | brk => exact False.elim hq
    | cont => exact False.elim hq
/-- .. within a try's body (the handler binds the exception) -/
theorem pec_fnS {pins0 : List (Addr × Obj)} {S : St → XK} {k : Nat} {ps : List Str} {sp : Sp} {x : Str} {p pos : Pos} {e : Expr} {es : List Expr} {t : TA} (D : DefK X.prog X.w X.K X.mg X.base (CXF X.prog X.w) x ps k sp) (hr : Room k X.A) (hg : Gl X x) (ha : PA (X.tried pins0 S) (e :: es) t)
    (hdb : (x == ("__debug__" : Str)) = false := by decide) (he : starEach (e :: es) X.env = (false, eval e X.env) :: starEach es X.env := by rfl) (hpl : (backTo pos (starEach es X.env)).any (·.1) = false := by rfl) :
    PEc (X.tried pins0 S) (.Call (.Name x p) (e :: es) [] pos) (tCallS sp S t) := by
  obtain ⟨f, fd, F, hb, hk, hm⟩ := D.ex
  intro pins s σ H Q I h
  refine .callName (ld_glob (X := X.tried pins0 S) I hg hm ?_ hdb)
  refine .callWithK hk (thn (ha pos pins s σ H _ I h) fun us s1 ⟨vs, H1, I1, r, q⟩ => ⟨I1.kIn, ?_⟩) he hpl
  have hl : (us ++ []).length = ps.length := by rw [List.append_nil, ← r.length]; exact F.len _ _ _ _ q
  refine .call ((F.run X.A X.stack s1 H1 ⟨us, []⟩ us vs Q (S σ) hr I1.untried.env0 (by have := hb s1 us I1.kIn hl; rw [List.append_nil] at this; exact this) r q).mono fun res s' hq => ?_)
  cases res with
  | error e =>
    obtain ⟨x', C, H', rfl, Fx, hS⟩ := CXF.toE hq
    exact ⟨σ, H1, s1, x', C, H', rfl, I1.untried, Fx, hS⟩
  | ok fl =>
    cases fl with
    | ret u => exact I1.after hq
    | next => exact False.elim hq
    | brk => exact False.elim hq
    | cont => exact False.elim hq
theorem psc_try {j : Nat} {n cn : Str} {Cr : Addr} {body suite : List Stmt} {b₀ : Stmt} {tb : (St → XK) → TS} {th : TS} {np hpos pos : Pos} (O : Own X) (hN : X.N.Nodup) (hj : X.N[j]? = some n) (hn : X.env.scope.names.lookup n = some .local)
    (Z : HCls X.K Cr) (hm : X.mg cn = some (.ref Cr)) (hg : Gl X cn) (hb : ∀ pins S, PSsc (X.tried pins S) body (tb S)) (hh : ∀ x, PSs (X.held x) (b₀ :: suite) th) (hdb : (cn == ("__debug__" : Str)) = false := by decide) :
    PSc X (.Try body [.ExceptHandler (some (.Name cn np)) (some n) (b₀ :: suite) hpos] [] [] pos) (tTry X.K j Cr tb th) := by
  intro pins s σ H D I h
  refine .try_ ((hb pins _ [] s σ H D (I.tried _) h).mono (fun f s1 q => q.untried) fun e s1 q => ?_)
  obtain ⟨σ1, H1, s0, x, C, H', rfl, I1, F, C', eC, hs, hth⟩ := q
  cases eC
  obtain ⟨B, t, fl, kb, kt, hok⟩ := F.fly
  have fr : X.A.frames = some (X.env :: X.outer) := by rw [I1.ok.frames, O.stk]
  have fl' : Heap.FlyingW B (X.env :: X.outer) x (.ref C) (.ref t) s1.heap := by rw [← O.stk]; exact fl
  refine wpAny_looks_onW fr O.fr fl' fun h4 held4 sm4 => wpAny_landsW held4 fun h5 fl5 sm5 => ?_
  have J5 := land_inv I1 F fl kb kt hok fl5.1 (sm4.trans sm5)
  refine wpAny_handleBy_cons (codeAny_handlers_test (ld_glob (X := X.held x) (J5.held x) hg hm ?_ hdb)) (by intro z; cases z)
  obtain ⟨ox, ex, hcx⟩ := fl5.there
  refine exc_matches (s := { s1 with heap := h5 }) J5.kIn Z ex hcx hs (codeAny_handlers_suite_as (lands_againW (s := { s1 with heap := h5 }) fl5 fun h6 fl6 sm6 => ?_))
  have J6 := land_inv I1 F fl kb kt hok fl6.1 ((sm4.trans sm5).trans sm6)
  have new := land_new fl kt
  have hx0 : H' x = none := by
    cases e : H' x with
    | none => rfl
    | some u =>
      obtain ⟨o, e2⟩ := (hok x u e).there
      rw [fl.2.1] at e2
      cases e2
  have J7 : Inv X pins σ1 (upd H' x (excO x C)) { s1 with heap := h6 } := by
    refine J6.track hx0 ?_ (fun z => ?_) (fun y c e z => ?_) (fun p hp z => ?_) ?_
    · cases e : X.s₀.heap.get? x with
      | none => rfl
      | some o =>
        obtain ⟨o', e'⟩ := I1.base.there x o e (by rw [O.ex]; simp)
        rw [new] at e'
        cases e'
    · obtain ⟨m, ⟨o, _, _, e, _⟩, _⟩ := I1.loc
      rw [← z, new] at e
      cases e
    · obtain ⟨w', o, e', _⟩ := I1.cell y c e
      rw [z, new] at e'
      cases e'
    · have := (I1.pin p hp).1
      rw [z, new] at this
      cases this
    · obtain ⟨oe, vs, e2, c2, d2, _⟩ := fl6.first
      refine ⟨⟨oe, vs, e2, c2, d2⟩, ⟨oe, e2⟩, fun h1 h2 ⟨o, ws, q1, q2, q3⟩ k => ⟨o, ws, k o q1, q2, q3⟩⟩
  refine store_ok J7 hN hj (.inl hn) (v := .ref x) rfl (fun s7 J8 => ?_) (.inr hn)
  refine wpAny_mono (hh x pins s7 _ _ _ (J8.held x) (hth x hx0)) (fun f s8 q8 => ?_) fun _ _ z => z.elim
  exact unbound J6.ok hN hj hn q8 (fun _ _ z => z) (fun _ _ z => z) (fun _ _ z => z) fun _ _ z => z
/-- try: n = int(x) except ValueError: raise C(..) from None -/
def tTryInt (i : Nat) (C : Addr) (E : XK) (ta : TA) (t : TA) : TS := fun D σ H => ta σ H fun vs H1 => ∃ x : Str, vs = [.str x] ∧ x.length ≤ 640 ∧ (reprText x).length + 300 ≤ sizeLine ∧ (∀ n, PySem.intText? x = some n → D.nx (σ.set i (some (.int n))) H1) ∧
  (PySem.intText? x = none → ∀ h, H1 h = none → t σ (upd H1 h (excN h)) fun us H2 => H2 h = some (excN h) ∧ us.length ≤ sizeLine ∧ E (.ref C) none H2)
theorem psc_tryInt {E : XK} {C : Addr} {i : Nat} {y : Str} {a e : Expr} {x : Str} {es : List Expr} {ta t : TA} {vp np cpos rpos cp hpos pos yp ip ipos apos : Pos} {j : Nat} (O : Own X) (hc : X.calm = true) (R : RaiseOkC X E) (PO : ∀ h, PassesOwnAt (model X.prog X.w) (X.A.mark (some (.ref h))) X.A X.env X.xe)
    (hN : X.N.Nodup) (hi : X.N[i]? = some y) (hy : Loc X.env.scope y) (nI : X.mg "int" = none) (gI : Gl X "int") (nV : X.mg "ValueError" = none) (gV : Gl X "ValueError") (hta : PA X.nox [a] ta) (Z : XCls X.K x C) (hm : X.mg x = some (.ref C)) (hg : Gl X x) (ha : ∀ h, PA (X.held h) (e :: es) t)
    (hs : swapsWith (.Call (.Name "int" ip) [a] [] ipos) (some (.Name y yp)) apos.line X.env = pure false := by rfl) (hf : X.fn y = true ∨ X.env.scope.names.lookup y = some .local := by first | exact .inl rfl | exact .inr rfl | assumption)
    (hdb : (x == ("__debug__" : Str)) = false := by decide) (he : starEach (e :: es) X.env = (false, eval e X.env) :: starEach es X.env := by rfl) (hpl : (backTo cpos (starEach es X.env)).any (·.1) = false := by rfl)
    (he1 : starEach [a] X.env = [(false, eval a X.env)] := by rfl) :
    PSc X (.Try [.Assign [.Name y yp] (.Call (.Name "int" ip) [a] [] ipos) apos] [.ExceptHandler (some (.Name "ValueError" vp)) none [.Raise (some (.Call (.Name x np) (e :: es) [] cpos)) (some (.Constant .none j cp)) rpos] hpos] [] [] pos) (tTryInt i C E ta t) := by
  intro pins s σ H D I h
  refine .try_ (.execs (.assign (.callName (ld_blt I gI nI PyProof.Rows.Boot.«int» ?_)) hs))
  have h1 := hta ipos pins s σ H _ (I.wish _) h
  have hplain : (backTo ipos (starEach [a] X.env)).any (·.1) = false := by rw [he1]; rfl
  refine .callWithT hplain ?_
  rw [show starEach [a] X.nox.env = [(false, eval a X.env)] from he1] at h1
  rw [he1]
  refine Calls.evalArgs_plain (wpAny_mono h1 (fun us s1 hq => ?_) fun _ _ z => z.elim)
  obtain ⟨vs, H1, I1', rv, x0, rfl, hl, hz, hgood, hbad⟩ := hq
  have I1 : Inv X pins σ H1 s1 := I1'.unwish
  obtain ⟨u, rfl, ru⟩ := rv.one
  obtain ⟨tu, rfl⟩ := (show ∃ tu, u = Value.str x0 tu from ru)
  cases hn : PySem.intText? x0 with
  | some n =>
    refine .any (PySem.W.KIN.call_text hn hl ?_)
    refine store_ok (I1.tok _) hN hi hy (v := .int n) ⟨_, rfl⟩ (fun s2 I2 => ?_) hf
    exact .any (wpAny_execs_nil ⟨_, H1, I2, hgood n hn⟩)
  | none =>
    refine refused_call (I1.ok.hd hc) hz hl hn fun h' e m tk me => ?_
    obtain ⟨t0, me1, _⟩ := me.there
    refine note_madeC (s := { s1 with toks := tk }) O (I1.tok tk) rfl me.keeps me.new me1 rfl rfl rfl rfl fun h4 F4 => F4.set (f := none) fun h5 F5 => ?_
    exact handled_raise O R PO (tst_ve nV gV) Z hm hg ha (I1.tok tk) F5 (hbad hn) hdb he hpl
end
end L2
namespace L2
open PySem PySem.Spec PyProof.Rows
/-! ### {x!r} of a text -/
def tFmtR (te : TE) : TE := fun σ H Q => te σ H fun v H1 => ∃ x, v = .str x ∧ (reprText x).length ≤ sizeLine ∧ Q (.str (reprText x)) H1
theorem pe_fmtR {X : Cx} {e : Expr} {te : TE} {pos : Pos} (he : PE X e te) : PE X (.FormattedValue e 114 none pos) (tFmtR te) := by
  intro pins s σ H Q I h
  refine wpAny_FormattedValue_repr (thn (he pins s σ H _ I h) fun u s1 ⟨v, H1, I1, r, x, ev, hz, q⟩ => ?_)
  subst ev
  obtain ⟨tk, rfl⟩ := (show ∃ tk, u = Value.str x tk from r)
  exact wpAny_pyReprObj_str (formatField_str (fun t' tk' => ⟨.str (reprText x), H1, I1.tok _, ⟨_, rfl⟩, q⟩) hz) hz
/-! ### an exception leaves a comprehension's block -/
section
variable {X : Cx} {pins : List (Addr × Obj)} {σ : St} {H : Hp} {s : Shared}
def LandF (X : Cx) (pins : List (Addr × Obj)) (S : St → XK) : Value → Shared → Prop := fun e s' => ∃ (σ : St) (H : Hp) (s : Shared) (x C : Addr) (c : Value) (H' : Hp), e = .ref x ∧ Inv X pins σ H s ∧ FlyC X.prog X.w X.stack H s x (.ref C) c .none H' s' ∧ S σ (.ref C) none H'
def Cx.triedF (X : Cx) (pins : List (Addr × Obj)) (S : St → XK) : Cx := { X with pn := X.pn ++ pins, xe := LandF X pins S }
theorem Inv.triedF (I : Inv X pins σ H s) (S : St → XK) : Inv (X.triedF pins S) [] σ H s := let J := I.tried (fun _ _ _ _ => False); ⟨⟨J.ok.mod, J.ok.kind, J.ok.glob, J.ok.blt, J.ok.above, J.ok.inj, J.ok.has, J.ok.cab, J.ok.hd, J.ok.frames, J.ok.stk, J.ok.exf, J.ok.bs, J.ok.bsz, J.ok.noex, J.ok.exfs, J.ok.funs, J.ok.frf⟩, J.os, J.bare, J.base, J.loc, J.cell, J.free, J.freeC, J.pin, J.hok, J.len⟩
theorem Inv.untriedF {S : St → XK} {pins' : List (Addr × Obj)} (I : Inv (X.triedF pins S) pins' σ H s) : Inv X pins σ H s :=
  ⟨⟨I.ok.mod, I.ok.kind, I.ok.glob, I.ok.blt, I.ok.above, I.ok.inj, I.ok.has, I.ok.cab, I.ok.hd, I.ok.frames, I.ok.stk, I.ok.exf, I.ok.bs, I.ok.bsz, I.ok.noex, I.ok.exfs, I.ok.funs, I.ok.frf⟩, I.os, I.bare, I.base, I.loc, I.cell, I.free, I.freeC, fun p hp => I.pin p (List.mem_append_left _ hp), I.hok, I.len⟩
theorem pec_fnF {pins0 : List (Addr × Obj)} {S : St → XK} {k : Nat} {ps : List Str} {sp : Sp} {x : Str} {p pos : Pos} {e : Expr} {es : List Expr} {t : TA} (D : DefK X.prog X.w X.K X.mg X.base (CXF X.prog X.w) x ps k sp) (hr : Room k X.A) (hg : Gl X x) (ha : PA (X.triedF pins0 S) (e :: es) t)
    (hdb : (x == ("__debug__" : Str)) = false := by decide) (he : starEach (e :: es) X.env = (false, eval e X.env) :: starEach es X.env := by rfl) (hpl : (backTo pos (starEach es X.env)).any (·.1) = false := by rfl) :
    PEc (X.triedF pins0 S) (.Call (.Name x p) (e :: es) [] pos) (tCallS sp S t) := by
  obtain ⟨f, fd, F, hb, hk, hm⟩ := D.ex
  intro pins s σ H Q I h
  refine .callName (ld_glob (X := X.triedF pins0 S) I hg hm ?_ hdb)
  refine .callWithK hk (thn (ha pos pins s σ H _ I h) fun us s1 ⟨vs, H1, I1, r, q⟩ => ⟨I1.kIn, ?_⟩) he hpl
  have hl : (us ++ []).length = ps.length := by rw [List.append_nil, ← r.length]; exact F.len _ _ _ _ q
  refine .call ((F.run X.A X.stack s1 H1 ⟨us, []⟩ us vs Q (S σ) hr I1.untriedF.env0 (by have := hb s1 us I1.kIn hl; rw [List.append_nil] at this; exact this) r q).mono fun res s' hq => ?_)
  cases res with
  | error e =>
    obtain ⟨x', C, c, H', rfl, Fx, hS⟩ := hq
    exact ⟨σ, H1, s1, x', C, c, H', rfl, I1.untriedF, Fx, hS⟩
  | ok fl =>
    cases fl with
    | ret u => exact I1.after hq
    | next => exact False.elim hq
    | brk => exact False.elim hq
    | cont => exact False.elim hq
end
section
variable {X : Cx} {tg iter elt : Expr} {scope osc : Scope} {pos : Pos} {own : List Str} {M : List (Str × Nat)} {wi : TI} {g : TG} {te : (St → XK) → TE} {E : XK}
/-- what is wanted of an exception that left the block's element -/
theorem comp_out {pins : List (Addr × Obj)} {σ σ4 : St} {H3 H4 H' : Hp} {s3 s4 z : Shared} {N : List Str} {fp : List Addr} {pins4 : List (Addr × Obj)} {x C : Addr} {c : Value} {Q : Value → Shared → Prop} {acc : Value} (O : Own X) (LF : LeaveF X E) (I3 : Inv X pins σ H3 s3) (ffp : ∀ b ∈ fp, FpOk X pins H3 b)
    (I4 : Inv (X.comp scope N s3 H3 fp) pins4 σ4 H4 s4) (F : FlyC X.prog X.w X.stack H4 s4 x (.ref C) c .none H' z) (hE : E (.ref C) none H') :
    wpAny (model X.prog X.w) X.A (noteFrame (.ref x) (X.comp scope N s3 H3 fp).env) (fun _ z' => compPost (model X.prog X.w) X.A X.xe none Q acc (X.comp scope N s3 H3 fp).env.locals (.error (.ref x)) z') (fun e z' => compPost (model X.prog X.w) X.A X.xe none Q acc (X.comp scope N s3 H3 fp).env.locals (.error e) z') z := by
  have fr : X.A.frames = some (X.env :: X.outer) := by rw [I3.ok.frames, O.stk]
  have u0 : Un (frs X.outer) [] X.H₀ H3 X.s₀.heap s3.heap := by have := I3.base; rw [O.ex] at this; exact this
  have u4 : Un (frs X.stack) fp H3 H4 s3.heap s4.heap := I4.base
  have u : Un (frs X.stack) [] X.H₀ H4 X.s₀.heap s4.heap := u0.thru u4 (fun b hb => by rw [O.frs]; exact List.mem_cons_of_mem _ hb) fun b o e hb => by
    rcases (ffp b hb).2.2.2.1 with q | q
    · rw [O.ex] at q; exact absurd q (by simp)
    · exact absurd (Nat.lt_of_lt_of_le (Heap.lt_size e) q) (Nat.lt_irrefl _)
  have G : FlyC X.prog X.w X.stack X.H₀ X.s₀ x (.ref C) c .none H' z := F.after u (I4.os.trans I3.os)
  have hC : (X.comp scope N s3 H3 fp).env.locals = s3.heap.objs.size := rfl
  have J : Inv (X.comp scope N s3 H3 fp) pins4 σ4 H' z := FlyC.inv (X := X.comp scope N s3 H3 fp) I4 F
  obtain ⟨m, ⟨oC, es, ep, eC, dC, rC⟩, _⟩ := J.loc
  rw [show noteFrame (.ref x) (X.comp scope N s3 H3 fp).env = noteFrame (.ref x) X.env from note_frame rfl]
  refine G.note0 O fr fun h1 G1 u1 => ?_
  obtain ⟨sl, e1⟩ := u1 _ oC eC fun vs q => by rw [dC] at q; cases q
  have ns1 : h1.Ns (X.comp scope N s3 H3 fp).env.locals m := ⟨_, es, ep, e1, dC, rC⟩
  refine ⟨m, ns1, fun h2 sb cenv _ => ?_⟩
  have G2 := G1.hide sb ⟨m, ns1⟩ (Heap.get?_none_of_le (by rw [hC]; exact I3.sz)) J.free fun hm => by
    obtain ⟨_, o, ho, _⟩ := I3.stack.mem (b := (X.comp scope N s3 H3 fp).env.locals) hm
    exact absurd (Heap.lt_size ho) (by rw [hC]; exact Nat.lt_irrefl _)
  unfold PySem.passOn
  refine wpAny_bind (G2.one fun T => ?_)
  rw [if_neg (show ¬ ((Value.ref T == Value.none) = true) by simp)]
  refine wpAny_bind (G2.set fun h3 G3 => wpAny_throw (LF x C c _ H' _ I3.ok G3 hE))
end
end L2
namespace L2
open PySem PySem.Spec PyProof.Rows
section
variable {X : Cx} {tg iter elt : Expr} {scope osc : Scope} {pos : Pos} {M : List (Str × Nat)} {wi : TI} {g : TG} {te : (St → XK) → TE} {E : XK}
/-- [elt for tg in iter], the element may raise -/
theorem pec_comp {N : List Str} (own : List Str) (M : List (Str × Nat)) (O : Own X) (hc : X.calm = true) (LF : LeaveF X E) (hi : PI X tg iter wi) (S : CompSc scope osc M N)
    (hg : ∀ s H ex, PG (X.comp scope (own ++ M.map (·.1)) s H ex) tg g) (he : ∀ s H ex pins Sx, PEc ((X.comp scope (own ++ M.map (·.1)) s H ex).triedF pins Sx) elt (te Sx))
    (hsc : X.env.scope = osc := by rfl) (hN : X.N = N := by rfl) (hs : ∀ x, foldedSetIterable iter X.env x = pure x := by intro _; rfl) : PEc X (.ListComp elt [⟨tg, iter, [], 0⟩] scope pos) (tComp own.length M wi g tYes (te fun _ c n H' => E c n H')) := by
  subst hsc
  subst hN
  intro pins s σ H Q I h
  rw [eval_ListComp]
  refine wpC.comp rfl hs (comp_closure I S) S.kind S.loc (thn (hi pins s σ H _ I h) fun v s1 h1 => thn h1 fun itv s2 h2 => ?_)
  obtain ⟨it, fp, tn, J, H2, e, I2, T, st2, f2, hw⟩ := h2
  subst e
  refine wpAny_newObj_type (wpAny_newFunctionEnv S.nocell (by intro y hy; simp at hy) (fun h₁ hns₁ hsb₁ => ?_) S.kind)
  dsimp only at hns₁ hsb₁ ⊢
  obtain ⟨D, hD⟩ : ∃ D, D = s2.heap.objs.size := ⟨_, rfl⟩
  have fD : H2 D = none := I2.hok.fresh (Nat.le_of_eq hD.symm)
  have I3 : Inv X pins σ (upd H2 D (.lst [])) { s2 with heap := s2.heap.push { cls := .type "list", dict := none, data := .seq ([] : List Value).toArray } } :=
    I2.laid (t' := s2.toks) (fun b u e => Heap.get?_push_of_some _ e) (Nat.le_of_eq hD.symm) ⟨Nat.zero_le _, [], 0, .nil, by rw [hD]; exact Heap.get?_push_size _ rfl⟩
  obtain ⟨s3, hs3⟩ : ∃ s3 : Shared, s3 = { s2 with heap := s2.heap.push { cls := .type "list", dict := none, data := .seq ([] : List Value).toArray } } := ⟨_, rfl⟩
  rw [← hs3] at I3
  have hns₁' : h₁.Ns s3.heap.objs.size (fun _ => none) := by rw [hs3]; exact hns₁
  have hsb₁' : Heap.SameBut s3.heap.objs.size (s3.heap.push { cls := .type "dict", data := .dict #[] }) h₁ := by rw [hs3]; exact hsb₁
  have hk3 : ∀ b o, s3.heap.get? b = some o → h₁.get? b = some o := fun b o e => (hsb₁'.2 b (Nat.ne_of_lt (Heap.lt_size e))).trans (Heap.get?_push_of_some _ e)
  have tn3 : tn 0 s3.heap := T.keep _ _ _ st2 fun b hb o e => by rw [hs3]; exact Heap.get?_push_of_some _ e
  have hlt3 : ∀ b ∈ fp, b < s3.heap.objs.size := fun b hb => by
    obtain ⟨o, e, _⟩ := T.obj _ _ tn3 b hb
    exact Heap.lt_size e
  have neD : ∀ b ∈ fp, b ≠ D := fun b hb z => by
    obtain ⟨o, e, _⟩ := T.obj _ _ st2 b hb
    rw [z, hD] at e
    exact absurd (Heap.lt_size e) (Nat.lt_irrefl _)
  have f3 : ∀ b ∈ fp, FpOk X pins (upd H2 D (.lst [])) b := fun b hb => ⟨by rw [upd_ne (neD b hb)]; exact (f2 b hb).1, (f2 b hb).2⟩
  obtain ⟨Y, hY⟩ : ∃ Y : Cx, Y = X.comp scope (own ++ M.map (·.1)) s3 (upd H2 D (.lst [])) fp := ⟨_, rfl⟩
  have IY : Inv Y [] (List.replicate own.length none ++ impS M σ) (upd H2 D (.lst [])) { s3 with heap := h₁, toks := s2.toks + 0 } := by
    rw [hY]
    exact inv_comp I3 S (fun b hb => ⟨f3 b hb, hlt3 b hb⟩) hns₁' hk3
  have fpY : ∀ {H' : Hp}, (∀ b ∈ fp, H' b = none) → ∀ b ∈ fp, FpOk Y [] H' b := fun {H'} hn b hb => by
    refine ⟨hn b hb, ?_, ?_, .inl ?_, fun x c e => ?_, fun p hp => ?_⟩
    · rw [hY]; exact Nat.ne_of_lt (hlt3 b hb)
    · rw [hY]
      intro hfs
      rcases List.mem_cons.mp (I3.stkSub b hfs) with z | z
      · exact (f2 b hb).2.1 z
      · exact (f2 b hb).2.2.1 z
    · rw [hY]; exact hb
    · rw [hY] at e
      exact (f2 b hb).2.2.2.2.1 x c (closeL_lookup e)
    · rw [hY] at hp
      exact absurd (show p ∈ ([] : List (Addr × Obj)) from hp) (by simp)
  obtain ⟨W, ⟨m0, w0⟩, turn⟩ := hw D fD
  have back : ∀ {σ' : St} {H' : Hp} {s' : Shared} {h'' : Heap}, Inv Y [] σ' H' s' → Heap.SameBut s3.heap.objs.size s'.heap h'' → Inv X pins σ H' { s' with heap := h'' } := fun {σ' H' s' h''} K hs => by
    have u : Un (frs X.stack) fp (upd H2 D (.lst [])) H' s3.heap s'.heap := by
      have := K.base
      rw [hY] at this
      exact this
    have ho : s'.os = s3.os := by
      have := K.os
      rw [hY] at this
      exact this
    have fC : H' s3.heap.objs.size = none := by
      have := K.free
      rw [hY] at this
      exact this
    have hok : HOk X.prog X.w H' s'.heap := by
      have := K.hok
      rw [hY] at this
      exact this
    refine I3.call' (s' := { s' with heap := h'' }) (ch := fp) ho (u.sameBut hs (Heap.get?_none_of_le (Nat.le_refl _))) (hok.sameBut hs fC) K.bare fun b hb => ?_
    obtain ⟨_, b1, _, b3, b4, b5⟩ := f2 b hb
    exact ⟨b3, b1, b4, b5⟩
  have envY : Y.env = compEnvC scope (closeL X.env scope.names []) s3.heap.objs.size X.env := by rw [hY]; rfl
  have eP : Y.prog = X.prog := by rw [hY]; rfl
  have eW : Y.w = X.w := by rw [hY]; rfl
  have eK : Y.K = X.K := by rw [hY]; rfl
  have eA : Y.A = X.A := by rw [hY]; rfl
  have eE : Y.xe = fun _ _ => False := by rw [hY]; rfl
  have hcY : Y.calm = true := by rw [hY]; exact hc
  have key : codeC (model X.prog X.w) X.A (.compLoop (.ListComp elt [⟨tg, iter, [], 0⟩] scope pos) 0 (.ref it) (.ref D) Y.env) (compPost (model X.prog X.w) X.A X.xe none (EP X pins σ Q) (.ref D) s3.heap.objs.size) { s3 with heap := h₁, toks := s2.toks + 0 } := by
    refine codeC.compLoop (fun n s' => ∃ i H', Inv Y [] (List.replicate own.length none ++ impS M σ) H' s' ∧ tn i s'.heap ∧ (∀ b ∈ fp, H' b = none) ∧ W i n H') ?_ m0
      ⟨0, _, IY, T.keep _ _ _ tn3 fun b hb o e => hk3 b o e, fun b hb => (f3 b hb).1, w0⟩
    rintro n s4 ⟨i, H4, I4, st4, fr4, w4⟩
    rcases turn i n H4 w4 with ⟨stop, qn⟩ | ⟨go, step⟩
    · have q := T.done Y eP eW eK hcY i [] s4 _ H4 (fun _ _ => False) I4 (fpY fr4) st4 stop
      rw [eA] at q
      refine thn q fun r s5 ⟨hr, I5⟩ => ?_
      subst hr
      obtain ⟨m, hn, _⟩ := I5.loc
      rw [envY] at hn
      exact ⟨m, hn, fun h'' hs'' => ⟨.ref D, H4, back I5 hs'', rfl, qn⟩⟩
    · have q := T.item Y eP eW eK hcY i [] s4 _ H4 (fun _ _ => False) I4 (fpY fr4) st4 go
      rw [eA] at q
      refine thn q fun r s5 ⟨u, hr, h5⟩ => ?_
      subst hr
      refine thn h5 fun _ s6 ⟨x, H6, I6, r6, y6, st6, fr6⟩ => ?_
      have I6' := I6.pinned (fpY fr6) (T.obj _ _ st6)
      have again : ∀ {σ7 : St} {H7 : Hp} {s7 : Shared}, (∀ (i : Nat) v, (List.replicate own.length none ++ impS M σ)[i]? = some (some v) → σ7[i]? = some (some v)) → Inv Y ([] ++ pinsAt fp s6.heap) σ7 H7 s7 →
          (∃ m', m' < n ∧ W (i + 1) m' H7) → ∃ m, m < n ∧ ∃ i H', Inv Y [] (List.replicate own.length none ++ impS M σ) H' s7 ∧ tn i s7.heap ∧ (∀ b ∈ fp, H' b = none) ∧ W i m H' := fun {σ7 H7 s7} kp I7 w7 => by
        obtain ⟨m', hm, w7⟩ := w7
        refine ⟨m', hm, i + 1, H7, I7.unpinned.weak (by rw [I6.len, I7.len]) kp, T.keep _ _ _ st6 fun b hb o e => (I7.pin (b, o) (List.mem_append_right _ (List.mem_append_right _ (mem_pinsAt hb e)))).1, fun b hb => ?_, w7⟩
        obtain ⟨o, e, d⟩ := T.obj _ _ st6 b hb
        exact (I7.pin (b, o) (List.mem_append_right _ (List.mem_append_right _ (mem_pinsAt hb e)))).2.1
      have qg := hg s3 (upd H2 D (.lst [])) fp _ s6 _ H6 x u _ (by rw [← hY]; exact I6') r6 (step x H6 y6)
      rw [← hY] at qg
      rw [eP, eW, eA, eE] at qg
      refine thn qg fun _ s7 ⟨σ7, H7, I7, k7, q7⟩ => ?_
      have q8 : te (fun _ c n H' => E c n H') σ7 H7 fun v H6 => ∃ ys, H6 D = some (.lst ys) ∧ ys.length < sizeLine ∧ ∃ m', m' < n ∧ W (i + 1) m' (upd H6 D (.lst (ys ++ [v]))) := q7
      have qe := he s3 (upd H2 D (.lst [])) fp ([] ++ pinsAt fp s6.heap) (fun _ c n H' => E c n H') [] s7 σ7 H7 _ (by rw [← hY]; exact I7.triedF _) q8
      have eV : Y.env = (X.comp scope (own ++ M.map (·.1)) s3 (upd H2 D (.lst [])) fp).env := by rw [hY]
      rw [eV]
      refine wpC.mono qe (fun v s9 q => ?_) fun e z q => ?_
      · obtain ⟨xv, H9, I9', r9, ys, hys, hz, q9⟩ := q
        have I9 : Inv Y ([] ++ pinsAt fp s6.heap) σ7 H9 s9 := by rw [hY]; exact I9'.untriedF
        have qa := mt_append (X := Y) _ s9 σ7 H9 (.ref D) [xv] (.ref D) [v] (fun _ H10 => ∃ m', m' < n ∧ W (i + 1) m' H10) I9 rfl (.cons r9 .nil) ⟨D, ys, xv, rfl, rfl, hys, hz, q9⟩
        rw [eP, eW, eA, eE] at qa
        exact thn qa fun _ s10 ⟨_, H10, I10, _, q10⟩ => again k7 I10 q10
      · obtain ⟨σ8, H8, s8, x8, C8, c8, H', rfl, I8, F8, hE8⟩ := q
        exact comp_out O LF I3 f3 I8 F8 hE8
  have hst : codeC (model X.prog X.w) X.A (.compStart (.ListComp elt [⟨tg, iter, [], 0⟩] scope pos) 0 (.ref it) (.ref D) Y.env) (compPost (model X.prog X.w) X.A X.xe none (EP X pins σ Q) (.ref D) s3.heap.objs.size) { s3 with heap := h₁, toks := s2.toks + 0 } :=
    codeC.compStart key (T.self _ 0 _ _ _ (T.keep _ _ _ tn3 fun b hb o e => hk3 b o e) key)
  rw [envY] at hst
  subst hs3
  subst hD
  exact hst
end
end L2
/-! THE HEAD beneath the claim's caller. -/
namespace L2
open PySem PySem.W PySem.Calls PyProof.Rows
open Sem (wp)
/-- where a claim's call starts -/
def topC : Ctx := ⟨.builtin "claim.caller" {}, none, none, [], none⟩
theorem done_C {M : Model} {t : Sem Fin} {R : Result → Shared → Prop} {s : Shared} (h : wpC M callerA t (fun fin z => ∃ f, fin = .done f ∧ R (.ok f) z) (fun e z => R (.error e) z) s) (p : Pos) : wp M topC t (Sem.finPost M topC R) (fun e _ z => R (.error e) z) p s := by
  refine Sem.wp_mono M topC t (fun fin p' z q => ?_) (fun _ _ _ q => q) p s (h topC p caller_in (.inl rfl))
  obtain ⟨f, rfl, hf⟩ := q
  exact hf
/-- one call, from what stands behind the top -/
theorem callFrom_C {c : ClaimW} {tree : List Value → Sem Fin} {w : World} {s : Shared} {free : Addr → Prop} {gens : Prop} {kept : Heap → Prop} (zz : s.asleep) (gg : s.gens = #[])
    (spec : ∀ args, c.pre args = true → WData.layableAll args = true → ∀ ord : List DictEntry → List DictEntry, (∀ l, (ord l).Perm l) → ∃ vs z1, layAllW c.records (classAt s.heap) w.params ord args s = some (vs, z1) ∧
        wpC (model c.prog w) callerA (tree vs) (fun fin z => ∃ f, fin = .done f ∧ (c.Ends s args vs z1 (.ok f) z ∧ z.os = s.os ∧ AllBare z.gens ∧ kept z.heap)) (fun e z => c.Ends s args vs z1 (.error e) z ∧ z.os = s.os ∧ AllBare z.gens ∧ kept z.heap) z1) :
    c.CallFrom (fun vs => ⟨tree vs, .builtin "claim.caller" {}, default, []⟩) w free gens kept s := by
  intro args h1 h2 ord h3
  obtain ⟨vs, z1, lay, run⟩ := spec args h1 h2 ord h3
  have rest := layAllW_rest _ _ _ lay
  have run2 := run.mono (E' := fun e z => (c.Ends s args vs z1 (.error e) z ∧ z.os = s.os ∧ kept z.heap) ∧ leftWithCleanup z.gens = false) (Q' := fun fin z => ∃ f, fin = .done f ∧ ((c.Ends s args vs z1 (.ok f) z ∧ z.os = s.os ∧ kept z.heap) ∧ leftWithCleanup z.gens = false))
    (fun fin z ⟨f, e, a, b, d, k⟩ => ⟨f, e, ⟨a, b, k⟩, leftWithCleanup_false_of_bare d⟩) fun e z ⟨a, b, d, k⟩ => ⟨⟨a, b, k⟩, leftWithCleanup_false_of_bare d⟩
  obtain ⟨n, r, z2, z3, hs, hn, hfo, ends, os, kp⟩ := wp_halts_full (M := model c.prog w) (R := fun r z => c.Ends s args vs z1 r z ∧ z.os = s.os ∧ kept z.heap) (Shared.asleep_of_life rest.2.2.2 zz)
    (done_C (R := fun r z => (c.Ends s args vs z1 r z ∧ z.os = s.os ∧ kept z.heap) ∧ leftWithCleanup z.gens = false) run2 default)
  obtain ⟨eh, _, _, eo, _⟩ := Shared.forget_eq hfo
  have ends' := ends.congr eh
  have kp' : kept z3.heap := by rw [eh]; exact kp
  have os' : z3.os = s.os := eo.trans os
  have life : z3.heap.life = s.heap.life := (runN_life _ _ _ hn).trans rest.2.2.2
  refine ⟨vs, z1, lay, n, _, z3, hs, ?_, (fun _ i x hx => absurd hx (by rw [gg]; simp)), kp', by rw [life], Shared.rest_eq os'⟩
  rcases ends' with ⟨v, rfl, a1, a2, a3, a4, a5⟩ | ⟨e, ob, cls, rfl, a1, a2, a3, a4, a5⟩
  · exact .inl ⟨v, rfl, a1, a2, a3, (fun b o y _ => a4 b o y), a5⟩
  · exact .inr ⟨e, ob, cls, rfl, a1, a2, a3, a4, (fun b o y _ => a5 b o y)⟩
section
variable {q : Program} {loose : List Str} {Xt : Shared → Bool} {XP : (Str → Option Value) → Heap → Prop} {α : Type} {Yf : Shared → α} {Ya : World → α} {YP : World → Heap → Prop} {N : Nat}
theorem open_C {r : RowW} {run : Value → List Value → Sem Value} {tree : List Value → Sem Fin} {defs kps : List Str} {writes : Bool} (left : LeftO r.prog q loose Xt Yf Ya N)
    (hY : ∀ w s, Yf s = Ya w → YP w s.heap) (hYk : ∀ w h h', YP w h → (∀ b o, h.get? b = some o → h'.get? b = some o) → YP w h')
    (hX : ∀ s, Xt s = true → XP (s.heap.nsMap mainGlobals) s.heap) (hXk : ∀ mg h h', XP mg h → (∀ b o, h.get? b = some o → h'.get? b = some o) → XP mg h')
    (hRf : ∀ s, Xt s = true → RecFacts r.records s.heap) (hwr : (!writes || r.records.isEmpty) = true)
    (ok : (chainsOk q && opensWell r.prog && (frees r && r.within.isEmpty)) = true) (hb : r.prog.bare) (hw : r.promised)
    (ht : ∀ vs (w : World) (s : Shared) mg f (Q : Fin → Shared → Prop) (E : Value → Shared → Prop), s.heap.Ns mainGlobals mg → mg r.name = some f → wpC (model r.prog w) callerA (run f vs) (fun v z => Q (.done (.ret v)) z) E s → wpC (model r.prog w) callerA (tree vs) Q E s)
    (pin : ∀ w s, s.heap.isNs mainGlobals = true → Ground q loose [] XP w s (s.heap.nsMap mainGlobals) (s.heap.nsMap builtinsNs) s.heap → ∀ n ∈ defs, isTheDefsW r.prog s.heap n)
    (call : ∀ (w : World) (s₀ z1 : Shared) (mg mb : Str → Option Value), Ground q loose r.records XP w s₀ mg mb z1.heap → YP w z1.heap → ∀ (args : List WData) (vs : List Value) (as : List Addr), r.claim.pre args = true → WData.layableAll args = true →
      Laid r.records w s₀ z1 args vs as → sysModules < s₀.heap.objs.size → ∃ f, mg r.name = some f ∧ wpC (model r.prog w) callerA (run f vs) (fun v z => GoodWG r.claim (classAt s₀.heap) (ExcName.means s₀.heap) args z1 (.ok (.ret v)) z)
          (fun e z => GoodWG r.claim (classAt s₀.heap) (ExcName.means s₀.heap) args z1 (.error e) z) z1) : r.claim.HoldsOpenBy (fun vs => ⟨tree vs, .builtin "claim.caller" {}, default, []⟩) defs kps writes := by
  obtain ⟨ok1, ok2⟩ := Bool.and_eq_true_iff.mp ok
  obtain ⟨c1, c2⟩ := Bool.and_eq_true_iff.mp ok1
  obtain ⟨c3, c4⟩ := Bool.and_eq_true_iff.mp ok2
  obtain ⟨e1, e2, e3, e4, e5⟩ := frees_parts c3
  refine ⟨⟨hb, c2, by show r.makers.map _ = []; rw [e5]; rfl⟩, hw.witness, fun w => ⟨(left.behind hX c1 w).1, fun t ht' => ?_⟩⟩
  obtain ⟨s₀, a1, a2, s, a3, a4, a5, a6, GG, y⟩ := (left.behind (XP := fun mg h => XP mg h ∧ RecFacts r.records h) (fun s hs => ⟨hX s hs, hRf s hs⟩) c1 w).2 t ht'
  have G0 : Ground q loose [] XP w s (s.heap.nsMap mainGlobals) (s.heap.nsMap builtinsNs) s.heap := ⟨GG.T, GG.B, GG.D, GG.TE, GG.TD, GG.W, GG.X.1, GG.cls, GG.has, GG.apart, GG.once, GG.K⟩
  obtain ⟨f1, f2, f3⟩ := id GG.X.2
  refine ⟨s₀, a1, a2, s, a3, pin w s a6 G0, f1, f2, ?_⟩
  have gg : s.gens = #[] := Array.eq_empty_of_size_eq_zero (beq_iff_eq.mp a5)
  have G := RecFacts.ground GG.X.2 G0
  refine callFrom_C (c := r.claim) a4 gg fun args h1 h2 ord h3 => ?_
  obtain ⟨⟨vs, z1⟩, lay⟩ := Option.isSome_iff_exists.mp (layAllW_isSome (P := w.params) (ord := ord) G.has args r.args s (pre_splitW h1).1)
  have kp := layAllW_keeps _ _ _ lay
  have rest := layAllW_rest _ _ _ lay
  obtain ⟨as, rd, inn, old⟩ := reads_layAllW h3 _ _ _ lay h2 z1.heap (fun _ _ e => e)
  have LL : Laid r.records w s z1 args vs as := ⟨⟨ord, h3, lay⟩, rd, inn, old, kp, rest.1.trans gg, rest.2.2.1⟩
  have G1 := G.keeps hXk kp
  obtain ⟨f, hf, h⟩ := call w s z1 _ _ G1 (hYk _ _ _ (hY w s y) kp) args vs as h1 h2 LL G.low
  have wi : r.claim.within = [] := List.isEmpty_iff.mp c4
  refine ⟨vs, z1, lay, ht vs w z1 _ f _ _ G1.T.g hf (h.mono (fun v z g => ⟨_, rfl, ?_⟩) fun e z g => ?_)⟩
  · have u := g.laid (c := r.claim) e1 wi (ident_freeW e2 e3 e4) LL
    exact ⟨u.1, u.2.1, u.2.2, fun q => ⟨namesKept_of a3 a6 kps kp g.2.1.old, noTable hwr q⟩⟩
  · have u := g.laid (c := r.claim) e1 wi (ident_freeW e2 e3 e4) LL
    exact ⟨u.1, u.2.1, u.2.2, fun q => ⟨namesKept_of a3 a6 kps kp g.2.1.old, noTable hwr q⟩⟩
/-- the promise of a law's call, beneath the caller -/
abbrev WalkC (q : Program) (loose : List Str) (XP : (Str → Option Value) → Heap → Prop) (YP : World → Heap → Prop) (r : RowW) (d : DefRec) (kwd : List (Str × Expr)) : Prop :=
  ∀ (w : World) (s₀ z1 : Shared) (mg mb : Str → Option Value), Ground q loose r.records XP w s₀ mg mb z1.heap → YP w z1.heap → ∀ (a : Addr) (o : Obj) (pm cd doc dV kV : Value), z1.heap.get? a = some o →
    o.data = .func { docDef d.name d.params d.body d.scope pm cd doc with defaults := dV, kwdefaults := kV } → z1.heap.CodeRec cd d.name → Dflts mg z1.heap d.params kwd dV kV → mg d.name = some (.ref a) → z1.gens = #[] →
    ∀ (args : List WData) (vals : List Value) (as : List Addr), r.claim.pre args = true → WData.layableAll args = true → ReadsAllW r.records (classAt s₀.heap) z1.heap vals args as → WellAll w.params z1.heap vals args → (∀ a ∈ as, (a == sysModules) = false) →
      wpC (model r.prog w) callerA (PySem.call (.ref a) vals) (fun v z => GoodWG r.claim (classAt s₀.heap) (ExcName.means s₀.heap) args z1 (.ok (.ret v)) z) (fun e z => GoodWG r.claim (classAt s₀.heap) (ExcName.means s₀.heap) args z1 (.error e) z) z1
end
end L2
namespace L2
open PySem PySem.Spec PySem.W PyProof.Rows
/-- the law's call, at the heap behind the top, beneath the caller -/
theorem law_callC {P : Program} {w : World} {K : PySem.W.Frag} {mg mb : Str → Option Value} {k : Nat} {fa a : Addr} {fd : FuncData} {x : Str} {sp : Sp} {z1 : Shared} {vs : List Value} {ns : List Int} (KX : K.In z1.heap) (hns : z1.heap.Ns mainGlobals mg)
    (hb : z1.heap.Ns builtinsNs mb) (hbb : ∀ x : Str, x ≠ "__name__" → mb x = bootBuiltins x) (hlim : z1.heap.NoLimit) (hg : z1.gens = #[]) (ha : z1.heap.get? a = some { cls := .type "list", data := .seq vs.toArray }) (hi : IntsAre vs ns)
    (hl : ns.length ≤ sizeLine) (hr : Room k callerA) (F : ∀ base : Heap, K.In base → base.Ns mainGlobals mg → FnK P w K mg base CX0 k fa fd [x] sp) (hbind : ∀ (s : Shared) (u : Value), BindsTo s fd ⟨[u], []⟩ [(x, u)])
    (hsp : ∀ H : Hp, Only H → SqL K H a (ns.map V.int) → sp [.ref a] H (fun v _ => v = .bl true) fun _ _ _ => False) :
    codeC (model P w) callerA (.call (.ref fa) ⟨[.ref a], []⟩) (fun r s' => r = .ok (.ret (.bool true)) ∧ OldK z1.heap s'.heap ∧ s'.os = z1.os ∧ AllBare s'.gens) z1 := by
  have rv := vals_ints hi
  have lenV := hi.length
  have core : ∀ H : Hp, Only H → SqL K H a (ns.map V.int) → HOk P w H z1.heap → (∀ b, H b ≠ none → b = a) → (H a ≠ none → K.lookup a = none) →
      codeC (model P w) callerA (.call (.ref fa) ⟨[.ref a], []⟩) (fun r s' => r = .ok (.ret (.bool true)) ∧ OldK z1.heap s'.heap ∧ s'.os = z1.os ∧ AllBare s'.gens) z1 := by
    intro H hO hS hok hA hK
    have isA : ∀ {b : Addr} {u : HO}, H b = some u → b = a := fun {b u} q => hA b (by rw [q]; simp)
    have noA : ∀ {b : Addr} {o : Obj} {es : Array DictEntry} {ep : Nat}, z1.heap.get? b = some o → o.data = .dict es ep → H b = none := fun {b o es ep} e d => by
      cases q : H b with
      | none => rfl
      | some u =>
        have e' := isA q
        subst e'
        rw [ha] at e
        cases e
        cases (show Data.seq vs.toArray _ = Data.dict es ep from d)
    have nsK : ∀ {b : Addr} {m : Str → Option Value}, z1.heap.Ns b m → (hidT z1.heap H).Ns b m := fun {b m} ⟨o, es, ep, e, d, r⟩ => ⟨o, es, ep, hidT_get e (noA e d), d, r⟩
    have hKb : K.In (hidT z1.heap H) := fun b o e => hidT_get (KX b o e) (by
      cases q : H b with
      | none => rfl
      | some u =>
        have e' := isA q
        subst e'
        rw [hK (by rw [q]; simp)] at e
        cases e)
    have hM : Mod K mg (hidT z1.heap H) := ⟨hKb, nsK hns, ⟨mb, nsK hb, hbb⟩, let ⟨mc, h1, h2⟩ := hlim; ⟨mc, nsK h1, h2⟩⟩
    have e0 : Env0 P w K mg (hidT z1.heap H) callerA [] z1 H := ⟨rfl, hM, fun b o e => of_hidT e, Nat.le_of_eq (hidT_size _ _), trivial, fun b hb => absurd (show b ∈ ([] : List Addr) from hb) (by simp), hok, .of_eq hg⟩
    refine ((F _ hKb (nsK hns)).run callerA [] z1 H ⟨[.ref a], []⟩ [.ref a] [.ref a] _ _ hr e0 (hbind z1 (.ref a)) (.cons rfl .nil) (hsp H hO hS)).mono fun r s' h => ?_
    cases r with
    | error e => exact False.elim h
    | ok fl =>
      cases fl with
      | next => exact False.elim h
      | brk => exact False.elim h
      | cont => exact False.elim h
      | ret u =>
        obtain ⟨v, H', os, bare, un, hok', r', q⟩ := h
        cases (show v = .bl true from q)
        obtain rfl : u = Value.bool true := r'
        refine ⟨rfl, OldK.of_keep fun b o e => ?_, os, bare⟩
        rcases hO b with z | ⟨ob, xs, z⟩
        · exact un.keep b o e z (fun y => absurd (show b ∈ ([] : List Addr) from y) (by simp)) (by simp)
        · obtain ⟨e1, _⟩ := hok b _ z
          obtain ⟨e2, _⟩ := hok' b _ (un.frzs b ob _ z)
          rw [e] at e1
          cases e1
          exact e2
  cases hk : K.lookup a with
  | some o =>
    have e := KX a o hk
    rw [ha] at e
    cases e
    exact core (fun _ => none) (fun _ => .inl rfl) (.inr ⟨_, vs.toArray, _, hk, rfl, rfl, rfl, by rw [List.size_toArray, lenV]; exact hl, by simpa using rv⟩) (fun b u z => by cases (show (none : Option HO) = some u from z)) (fun b z => absurd rfl z) fun z => absurd rfl z
  | none =>
    refine core (fun b => if b = a then some (.frz { cls := .type "list", data := .seq vs.toArray } (.lst (ns.map V.int))) else none) (fun b => ?_) (.inl (.inr ⟨{ cls := .type "list", data := .seq vs.toArray }, if_pos rfl⟩)) (fun b u z => ?_) (fun b z => ?_) fun _ => hk
    · by_cases hb : b = a
      · exact .inr ⟨_, _, if_pos hb⟩
      · exact .inl (if_neg hb)
    · by_cases hb : b = a
      · cases (if_pos hb).symm.trans z
        subst hb
        exact ⟨ha, by rw [List.length_map]; exact hl, vs, _, rv, ha⟩
      · cases (if_neg hb).symm.trans z
    · by_cases hb : b = a
      · exact hb
      · exact absurd (if_neg hb) z
theorem walkC_of {l : PySem.W.OpenLaw} {n k : Nat} {q : Program} {loose : List Str} {XP : (Str → Option Value) → Heap → Prop} {YP : World → Heap → Prop} {d : DefRec} {K : Params → PySem.W.Frag} {sp : World → Sp} {x : Str} (hn : l.most = some n) (hn2 : n ≤ sizeLine)
    (hdf : d.params.defaults = []) (hr : Room k callerA) (hY : ∀ (w : World) (h : Heap), YP w h → (K w.params).In h)
    (F : ∀ (w : World) (mg : Str → Option Value) (fa : Addr) (h : Heap), (K w.params).In h → h.Ns mainGlobals mg → mg d.name = some (.ref fa) → ∃ fd : FuncData, (∀ (s : Shared) (u : Value), BindsTo s fd ⟨[u], []⟩ [(x, u)]) ∧
        ∀ base : Heap, (K w.params).In base → base.Ns mainGlobals mg → FnK l.prog w (K w.params) mg base CX0 k fa fd [x] (sp w))
    (hsp : ∀ (w : World) (H : Hp) (a : Addr) (ns : List Int), ns.length ≤ n → Only H → SqL (K w.params) H a (ns.map V.int) → sp w [.ref a] H (fun v _ => v = .bl true) fun _ _ _ => False) : WalkC q loose XP YP l.row.toRowW d [] := by
  intro w s₀ z1 mg mb G Y fa o pm cd doc dV kV ho hd hcd hD hmg hg args vals as hpre hlay hrd hwl hlo
  obtain rfl : dV = .none := Dflts.none hD hdf
  obtain rfl : kV = .none := Dflts.noKw hD
  obtain ⟨a, vs, ns, rfl, rfl, hobj, hints, hlen⟩ := Att.script_of hn hpre hwl
  have KX := hY w _ Y
  obtain ⟨fd, hb, hF⟩ := F w mg fa _ KX G.T.g hmg
  refine wpC.call ((law_callC KX G.T.g G.T.b G.T.builtins G.T.nolimit hg hobj hints (Nat.le_trans hlen hn2) hr hF hb fun H hO hS => hsp w H a ns hlen hO hS).mono fun r s' hq => ?_)
  obtain ⟨rfl, h2, h3, h4⟩ := hq
  exact ⟨.inl ⟨.bool true, .bool true, [], rfl, fun _ => rfl, .bool true, Att.post_true l _, fun _ => ⟨List.Pairwise.nil, fun _ hm => (nomatch hm)⟩⟩, h2, h3, h4⟩
end L2
/-- the head's own name within this namespace: the walk is asked beneath the caller alone -/
theorem RdTop.PySem.W.holds_open {r : PySem.W.OpenRow} {q : PySem.Program} {loose : List PySem.Str} {Xt : PySem.Shared → Bool} {XP : (PySem.Str → Option PySem.Value) → PySem.Heap → Prop} {α : Type} {Yf : PySem.Shared → α} {Ya : PySem.World → α} {YP : PySem.World → PySem.Heap → Prop} {d : PySem.DefRec} {kwd : List (PySem.Str × PySem.Expr)} {N : Nat}
    (left : PySem.W.LeftO r.prog q loose Xt Yf Ya N) (hY : ∀ w s, Yf s = Ya w → YP w s.heap) (hYk : ∀ w h h', YP w h → (∀ b o, h.get? b = some o → h'.get? b = some o) → YP w h') (hX : ∀ s, Xt s = true → XP (s.heap.nsMap PySem.mainGlobals) s.heap)
    (hXk : ∀ mg h h', XP mg h → (∀ b o, h.get? b = some o → h'.get? b = some o) → XP mg h') (hdef : PySem.W.defOf q r.name = some (d, kwd)) (hp : r.prog.theDef r.name = some (d.params, d.body, d.scope)) (hk : PySem.W.kwWritten? d.params.kwonlyargs d.params.kw_defaults = some kwd)
    (hRf : ∀ s, Xt s = true → PySem.W.RecFacts r.records s.heap) (hwr : (!r.writes || r.records.isEmpty) = true) (k1 : r.wellSaid = true) (ok : (PySem.W.chainsOk q && PySem.W.opensWell r.prog && (PySem.W.frees r.toRowW && r.within.isEmpty)) = true) (hb : r.prog.bare) (hw : r.toRowW.promised)
    (walk : L2.WalkC q loose XP YP r.toRowW d kwd) : r.Holds := by
  refine ⟨k1, hw, L2.open_C (r := r.toRowW) (run := fun f vs => _root_.PySem.call f vs) left hY hYk hX hXk hRf hwr ok hb hw (fun vs w s mg f Q E hg hf h => ?_) (fun w s hg G n hn => ?_) fun w s₀ z1 mg mb G Y args vs as hpre hlay L low => ?_⟩
  · refine L2.wpC.step (PySem.wpAny_nsGet hg ?_)
    rw [hf]
    exact L2.wpC.bind (h.thn fun _ _ x => L2.wpC.any (PySem.wpAny_pure x))
  · obtain rfl : n = r.name := by split at hn <;> simp_all
    exact PySem.W.pinned_of_view hg G hdef hp hk
  · obtain ⟨a, o, pm, cd, doc, dV, kV, h1, h2, h3, h4, h5⟩ := G.fn hdef
    exact ⟨.ref a, h1, walk w s₀ z1 mg mb G Y a o pm cd doc dV kV h2 h3 h4 h5 (PySem.W.defOf_name hdef ▸ h1) L.gens args vs as hpre hlay L.reads L.well (L.low low)⟩
/-! TEXTS: join, split. -/
namespace L2
open PySem PySem.Spec PyProof.Rows
theorem strs_vals : ∀ {ts : List Str} {vs : List Value}, Vals (ts.map V.str) vs → ∃ l : List (Str × Tok), vs = strValues l ∧ l.map (·.1) = ts
  | [], _, .nil => ⟨[], rfl, rfl⟩
  | x :: ts, _, .cons ⟨t, e⟩ r => by
    obtain ⟨l, e1, e2⟩ := strs_vals r
    exact ⟨(x, t) :: l, by rw [e1, e]; rfl, by rw [List.map_cons, e2]⟩
theorem vals_strs : ∀ l : List (Str × Tok), Vals ((l.map (·.1)).map V.str) (strValues l)
  | [] => .nil
  | (x, t) :: l => .cons ⟨t, rfl⟩ (vals_strs l)
section
variable {X : Cx}
def rJoin (K : PySem.W.Frag) : V → List V → Hp → VK → Prop := fun x xs H Q => ∃ (sep : Str) (p : Addr) (ts : List Str), x = .str sep ∧ xs = [.ref p] ∧ SqL K H p (ts.map V.str) ∧ JoinOk sep ts = true ∧ Q (.str (Txt.join sep ts)) H
theorem mt_join : MtR X "str.join" (rJoin X.K) := by
  intro pins s σ H x xs v us Q I rx r h
  obtain ⟨sep, p, ts, rfl, rfl, hp, ok, q⟩ := h
  obtain ⟨tk, rfl⟩ := (show ∃ tk, v = Value.str sep tk from rx)
  obtain ⟨u, rfl, ru⟩ := r.one
  cases (show u = Value.ref p from ru)
  obtain ⟨its, rv, pl, hz⟩ := I.list hp
  obtain ⟨l, e1, e2⟩ := strs_vals rv
  subst e1
  exact SC.join (l := l) pl.isList e2 ok fun t' k => ⟨.str _, H, I.tok _, ⟨t', rfl⟩, q⟩
/-- split at a text that is not empty -/
def rSplit : V → List V → Hp → VK → Prop := fun x xs H Q => ∃ (t sep : Str), x = .str t ∧ xs = [.str sep] ∧ (sep.length == 0) = false ∧ t.length ≤ sizeLine ∧ (Txt.split t sep).length ≤ sizeLine ∧ ∀ l, H l = none → Q (.ref l) (upd H l (.lst ((Txt.split t sep).map V.str)))
theorem mt_split : MtR X "str.split" rSplit := by
  intro pins s σ H x xs v us Q I rx r h
  obtain ⟨t, sep, rfl, rfl, hy, hz, hp, q⟩ := h
  obtain ⟨tk, rfl⟩ := (show ∃ tk, v = Value.str t tk from rx)
  obtain ⟨u, rfl, ru⟩ := r.one
  obtain ⟨tu, rfl⟩ := (show ∃ tu, u = Value.str sep tu from ru)
  have fin : ∀ (l : List (Str × Tok)) (k : Nat), l.map (·.1) = Txt.split t sep → EP X pins σ Q (.ref s.heap.objs.size) { s with heap := s.heap.push { cls := .type "list", data := .seq (strValues l).toArray }, toks := k } := fun l k e => by
    have fr : H s.heap.objs.size = none := I.hok.fresh (Nat.le_refl _)
    refine ⟨.ref s.heap.objs.size, _, I.laid (t' := k) (o := .lst ((Txt.split t sep).map V.str)) (fun b o e => Heap.get?_push_of_some _ e) (Nat.le_refl _) ⟨by rw [List.length_map]; exact hp, strValues l, 0, ?_, Heap.get?_push_size _ rfl⟩, rfl, q _ fr⟩
    rw [← e]; exact vals_strs l
  cases h1 : (decide (t.length < sep.length) || decide (Builtin.Str.strKind t < Builtin.Str.strKind sep))
  · cases hf : (Builtin.Str.occurrences t sep 0 t.length (t.length + 1)).isEmpty
    · have es : Txt.split t sep = Builtin.Str.partsBetween t (Builtin.Str.occurrences t sep 0 t.length (t.length + 1)) sep.length := (if_neg (ne_true_of_eq_false h1)).trans (if_neg (ne_true_of_eq_false hf))
      refine call_meets F.slot_str_split (typeIs_str _ _ _) F.entry_str_split (F.args_str_split_2 _ _) (meets_str_split_sep t sep tk tu h1 hy hf hz (by rw [← es]; exact hp)) ?_
      show wants _ _ _ { s with toks := _, heap := s.heap.push { cls := .type "list", data := .seq (strsFrom s.toks (Builtin.Str.partsBetween t (Builtin.Str.occurrences t sep 0 t.length (t.length + 1)) sep.length)).toArray } }
      rw [strsFrom_eq]
      exact fin (numbered s.toks _) _ ((numbered_texts _ _).trans es.symm)
    · exact call_meets F.slot_str_split (typeIs_str _ _ _) F.entry_str_split (F.args_str_split_2 _ _) (meets_str_split_not_found t sep tk tu h1 hy hf) (fin [(t, tk)] _ ((if_neg (ne_true_of_eq_false h1)).trans (if_pos hf)).symm)
  · exact call_meets F.slot_str_split (typeIs_str _ _ _) F.entry_str_split (F.args_str_split_2 _ _) (meets_str_split_cannot_occur t sep tk tu h1) (fin [(t, tk)] _ (if_pos h1).symm)
/-- int of a text that writes a number -/
theorem call_intS : CallR X (.type "int") (fun xs H Q => ∃ (x : Str) (n : Int), xs = [.str x] ∧ PySem.intText? x = some n ∧ x.length ≤ 640 ∧ Q (.int n) H) := by
  intro pins s σ H xs us Q I r h
  obtain ⟨x, n, rfl, hn, hl, q⟩ := h
  obtain ⟨u, rfl, ru⟩ := r.one
  obtain ⟨tu, rfl⟩ := (show ∃ tu, u = Value.str x tu from ru)
  exact PySem.W.KIN.call_text hn hl ⟨.int n, H, I.tok _, ⟨_, rfl⟩, q⟩
end
/-! ### parts without the sign between them -/
def jn (c : Nat) : List (List Nat) → List Nat
  | [] => []
  | [x] => x
  | x :: y :: r => x ++ c :: jn c (y :: r)
theorem jn_cons (c : Nat) (x : List Nat) (r : List (List Nat)) (h : r ≠ []) : jn c (x :: r) = x ++ c :: jn c r := by
  cases r with
  | nil => exact absurd rfl h
  | cons y r => rfl
theorem join_jn (c : Nat) : ∀ l : List Str, (Str.join ⟨#[c]⟩ l).cps.toList = jn c (l.map fun x => x.cps.toList)
  | [] => rfl
  | [x] => rfl
  | x :: y :: r => by
    have ih := join_jn c (y :: r)
    show (x ++ (⟨#[c]⟩ : Str) ++ Str.join ⟨#[c]⟩ (y :: r)).cps.toList = _
    rw [List.map_cons, jn_cons c _ _ (by simp), ← ih]
    show ((x.cps ++ #[c]) ++ (Str.join ⟨#[c]⟩ (y :: r)).cps).toList = _
    simp
end L2
/-! NUMBERS AS TEXTS: what int(text) gives, what is written just so. -/
namespace Tx
open PySem PySem.NumText
theorem step_digits {base : Nat} {p q : Array Nat × Bool} {c : Nat} (h : step base p c = some q) (hp : ∀ d ∈ p.1.toList, d < base) : ∀ d ∈ q.1.toList, d < base := by
  unfold NumText.step at h
  split at h
  · split at h
    · cases h; exact hp
    · cases h
  · split at h
    · split at h
      · rename_i d _ hd
        cases h
        intro e he
        rw [Array.toList_push, List.mem_append] at he
        rcases he with he | he
        · exact hp e he
        · rw [List.mem_singleton.mp he]; exact hd
      · cases h
    · cases h
theorem fold_digits {base : Nat} : ∀ (cs : List Nat) {p q : Array Nat × Bool}, cs.foldlM (step base) p = some q → (∀ d ∈ p.1.toList, d < base) → ∀ d ∈ q.1.toList, d < base
  | [], p, q, h, hp => by
    rw [List.foldlM_nil] at h
    cases h
    exact hp
  | c :: r, p, q, h, hp => by
    rw [List.foldlM_cons] at h
    cases e : step base p c with
    | none => rw [e] at h; cases h
    | some p' =>
      rw [e] at h
      exact fold_digits r (show r.foldlM (step base) p' = some q from h) (step_digits e hp)
theorem fold_lt : ∀ (l : List Nat) (a : Nat), (∀ d ∈ l, d < 10) → l.foldl (fun acc d => acc * 10 + d) a < (a + 1) * 10 ^ l.length
  | [], a, _ => by simp
  | d :: l, a, h => by
    have hd := h d (by simp)
    have ih := fold_lt l (a * 10 + d) fun e he => h e (List.mem_cons_of_mem _ he)
    rw [List.foldl_cons, List.length_cons, Nat.pow_succ]
    refine Nat.lt_of_lt_of_le ih ?_
    calc (a * 10 + d + 1) * 10 ^ l.length ≤ ((a + 1) * 10) * 10 ^ l.length := Nat.mul_le_mul_right _ (by omega)
      _ = (a + 1) * (10 ^ l.length * 10) := by rw [Nat.mul_assoc, Nat.mul_comm 10]
theorem int_small {x : Str} {n : Int} (h : intText? x = some n) (hl : x.length ≤ 500) : n.natAbs < 10 ^ 500 := by
  unfold intText? at h
  split at h
  · split at h
    · rename_i ds hds
      split at h
      · cases h
        have hsz := digits_size hds
        have h1 : ds.size ≤ 500 := Nat.le_trans hsz (Nat.le_trans (core_length _) (Nat.le_trans (seen_length x) hl))
        have hdig : ∀ d ∈ ds.toList, d < 10 := by
          unfold digits? at hds
          cases e : (core (numSeenOf x)).foldlM (step 10) ((#[] : Array Nat), false) with
          | none => rw [e] at hds; cases hds
          | some p =>
            rw [e] at hds
            have hp := fold_digits _ e (by simp)
            have hds' : (if p.2 then some p.1 else none) = some ds := hds
            split at hds'
            · cases hds'; exact hp
            · cases hds'
        have h2 : ds.foldl (fun acc d => acc * 10 + d) 0 < 10 ^ 500 := by
          have := fold_lt ds.toList 0 hdig
          rw [Array.foldl_toList, Array.length_toList, Nat.zero_add, Nat.one_mul] at this
          exact Nat.lt_of_lt_of_le this (Nat.pow_le_pow_right (by decide) h1)
        unfold worth
        split
        · rw [Int.natAbs_neg]; exact h2
        · exact h2
      · cases h
    · cases h
  · cases h
theorem log_of {n : Nat} (h : n < 10 ^ 500) : n.log2 < 1920 := by
  have h2 : (10 : Nat) ^ 500 ≤ 2 ^ 1900 := by decide +kernel
  by_cases z : n = 0
  · rw [z]; decide
  · have := (Nat.log2_lt z).mpr (Nat.lt_of_lt_of_le h h2)
    omega
/-- the number that is written just so -/
def numOf (x : Str) : Option Int := (intText? x).bind fun n => if (Str.ofString (toString n)) = x then some n else none
theorem numOf_some {x : Str} {n : Int} : numOf x = some n ↔ intText? x = some n ∧ Str.ofString (toString n) = x := by
  unfold numOf
  cases h : intText? x with
  | none => simp
  | some m =>
    show (if _ then _ else _) = _ ↔ _
    by_cases e : Str.ofString (toString m) = x
    · rw [if_pos e]
      constructor
      · intro q; cases q; exact ⟨rfl, e⟩
      · intro q; exact q.1
    · rw [if_neg e]
      constructor
      · intro q; cases q
      · rintro ⟨q, e'⟩; cases q; exact absurd e' e
def dig (c : Nat) : Bool := decide (48 ≤ c) && decide (c ≤ 57)
/-- the law's own reading -/
def lawNum (x : Str) : Option Int := if x.length = 0 ∨ 4 < x.length ∨ (x.cps.toList.head? = some 48 ∧ x.length ≠ 1) then none else if x.cps.toList.all dig then intText? x else none
def ck (m : Nat) : Bool := let l := (Str.ofString (toString (m : Int))).cps.toList; !l.isEmpty && decide (l.length ≤ 4) && (l.head? != some 48 || l.length == 1) && l.all dig
theorem ck_all : (List.range 10000).all ck = true := by decide +kernel
theorem ofNat_digit : ∀ c : Nat, 48 ≤ c ∧ c ≤ 57 → (Char.ofNat c).toNat = c := by
  intro c ⟨h1, h2⟩
  have : ∀ d : Fin 10, (Char.ofNat (48 + d.val)).toNat = 48 + d.val := by decide
  have := this ⟨c - 48, by omega⟩
  rw [show 48 + (c - 48) = c by omega] at this
  exact this
theorem val_lt : ∀ (cs : List Nat) (a : Nat), AllDigits cs → cs.foldl (fun acc c => acc * 10 + (c - 48)) a < (a + 1) * 10 ^ cs.length
  | [], a, _ => by simp
  | d :: l, a, h => by
    have hd := h d (by simp)
    have ih := val_lt l (a * 10 + (d - 48)) fun e he => h e (List.mem_cons_of_mem _ he)
    rw [List.foldl_cons, List.length_cons, Nat.pow_succ]
    refine Nat.lt_of_lt_of_le ih ?_
    calc (a * 10 + (d - 48) + 1) * 10 ^ l.length ≤ ((a + 1) * 10) * 10 ^ l.length := Nat.mul_le_mul_right _ (by omega)
      _ = (a + 1) * (10 ^ l.length * 10) := by rw [Nat.mul_assoc, Nat.mul_comm 10]
theorem str_ext {x y : Str} (h : x.cps.toList = y.cps.toList) : x = y := by
  have := Array.toList_inj.mp h
  cases x; cases y
  simp at this
  rw [this]
theorem law_num {x : Str} {n : Int} : lawNum x = some n ↔ numOf x = some n ∧ 0 ≤ n ∧ n ≤ 9999 := by
  have len : x.cps.toList.length = x.length := Array.length_toList
  constructor
  · intro h
    unfold lawNum at h
    split at h
    · cases h
    rename_i hc
    by_cases hd : x.cps.toList.all dig = true
    rotate_left
    · rw [if_neg hd] at h
      cases h
    rw [if_pos hd] at h
    have hdig : AllDigits x.cps.toList := fun c hcm => by
      have := List.all_eq_true.mp hd c hcm
      unfold dig at this
      rw [Bool.and_eq_true] at this
      exact ⟨of_decide_eq_true this.1, of_decide_eq_true this.2⟩
    have hc1 : x.length ≠ 0 := fun z => hc (.inl z)
    have hc2 : x.length ≤ 4 := Nat.le_of_not_lt fun z => hc (.inr (.inl z))
    have hne : x.cps.toList ≠ [] := fun z => by rw [z] at len; exact hc1 len.symm
    have e := intText_digits hdig hne (by omega)
    have e0 := e
    rw [h] at e
    have en : n = ((digitsVal x.cps.toList : Nat) : Int) := Option.some.inj e
    have hlt : digitsVal x.cps.toList < 10 ^ 4 := by
      have := val_lt x.cps.toList 0 hdig
      rw [Nat.zero_add, Nat.one_mul] at this
      exact Nat.lt_of_lt_of_le this (Nat.pow_le_pow_right (by decide) (by omega))
    refine ⟨numOf_some.mpr ⟨h, ?_⟩, by omega, by omega⟩
    rw [en]
    refine str_ext ?_
    rw [PySem.W.KIN.signs_num]
    have hh : x.cps.toList.length - 1 = 0 ∨ ∃ c r, x.cps.toList = c :: r ∧ 49 ≤ c := by
      by_cases z : x.length = 1
      · exact .inl (by omega)
      · right
        cases q : x.cps.toList with
        | nil => exact absurd q hne
        | cons c r =>
          refine ⟨c, r, rfl, ?_⟩
          have h1 := hdig c (by rw [q]; simp)
          have h2 : c ≠ 48 := fun e48 => hc (.inr (.inr ⟨by rw [q, e48]; rfl, z⟩))
          omega
    rw [toDigits_digitsVal (x.cps.toList.length - 1) x.cps.toList (by omega) hdig hh, List.map_map]
    conv => rhs; rw [← List.map_id x.cps.toList]
    refine List.map_congr_left fun c hcm => ?_
    exact ofNat_digit c (hdig c hcm)
  · rintro ⟨h, h0, h1⟩
    obtain ⟨h2, h3⟩ := numOf_some.mp h
    have c := List.all_eq_true.mp ck_all n.toNat (List.mem_range.mpr (by omega))
    have en : ((n.toNat : Nat) : Int) = n := by omega
    unfold ck at c
    rw [en, h3] at c
    simp only [Bool.and_eq_true] at c
    obtain ⟨⟨⟨c1, c2⟩, c3⟩, c4⟩ := c
    have c2' := of_decide_eq_true c2
    unfold lawNum
    rw [if_neg, if_pos c4]
    · exact h2
    · rintro (z | z | ⟨z1, z2⟩)
      · rw [← len] at z
        rw [List.length_eq_zero_iff.mp z] at c1
        cases c1
      · omega
      · rw [z1] at c3
        rw [← len] at z2
        simp at c3
        exact z2 c3
/-! ### all of the parts -/
def allOf (f : Str → Option Int) : List Str → Option (List Int)
  | [] => some []
  | x :: r => match f x with
    | none => none
    | some n => (allOf f r).map (n :: ·)
theorem allOf_some {f : Str → Option Int} : ∀ {xs : List Str} {ns : List Int}, allOf f xs = some ns ↔ xs.map f = ns.map some
  | [], ns => by cases ns <;> simp [allOf]
  | x :: r, ns => by
    unfold allOf
    cases h : f x with
    | none => cases ns <;> simp [h]
    | some n =>
      cases ns with
      | nil => simp
      | cons m ms =>
        have ih := @allOf_some f r ms
        rw [List.map_cons, List.map_cons, h]
        constructor
        · intro q
          cases e : allOf f r with
          | none => rw [e] at q; cases q
          | some l =>
            rw [e] at q
            cases q
            rw [ih.mp e]
        · intro q
          injection q with q1 q2
          cases q1
          show (allOf f r).map (n :: ·) = _
          rw [ih.mpr q2]
          rfl
theorem allOf_none {f : Str → Option Int} {xs : List Str} : allOf f xs = none ↔ ∃ x ∈ xs, f x = none := by
  induction xs with
  | nil => simp [allOf]
  | cons x r ih =>
    unfold allOf
    cases h : f x with
    | none => simp [h]
    | some n =>
      show (allOf f r).map (n :: ·) = none ↔ _
      rw [Option.map_eq_none_iff, ih]
      simp [h]
theorem all_law {xs : List Str} {ns : List Int} : allOf lawNum xs = some ns ↔ allOf numOf xs = some ns ∧ ∀ n ∈ ns, 0 ≤ n ∧ n ≤ 9999 := by
  induction xs generalizing ns with
  | nil =>
    cases ns with
    | nil => simp [allOf]
    | cons => simp [allOf]
  | cons x r ih =>
    rw [allOf_some, allOf_some]
    cases ns with
    | nil => simp
    | cons m ms =>
      rw [List.map_cons, List.map_cons, List.map_cons]
      have ih' := @ih ms
      rw [allOf_some, allOf_some] at ih'
      constructor
      · intro q
        injection q with q1 q2
        obtain ⟨a1, a2⟩ := law_num.mp q1
        obtain ⟨b1, b2⟩ := ih'.mp q2
        exact ⟨by rw [a1, b1], fun n hn => by
          rcases List.mem_cons.mp hn with z | z
          · rw [z]; exact a2
          · exact b2 n z⟩
      · rintro ⟨q, hb⟩
        injection q with q1 q2
        rw [law_num.mpr ⟨q1, hb m (by simp)⟩, ih'.mpr ⟨q2, fun n hn => hb n (List.mem_cons_of_mem _ hn)⟩]
end Tx
namespace Rg
open PySem
/-! THE TABLE OF A SET THAT ONLY GROWS: its places rise, nothing was taken out. -/
theorem below_go {xs : Array Nat} {j : Nat} (hs : xs.toList.Pairwise (· < ·)) : ∀ (fuel lo hi : Nat), lo ≤ hi → hi ≤ xs.size → hi - lo ≤ fuel → (∀ i, i < lo → xs.getD i 0 < j) → (∀ i, hi ≤ i → i < xs.size → j ≤ xs.getD i 0) →
    (∀ i, i < SetTable.below.go xs j fuel lo hi → xs.getD i 0 < j) ∧ (∀ i, SetTable.below.go xs j fuel lo hi ≤ i → i < xs.size → j ≤ xs.getD i 0) ∧ SetTable.below.go xs j fuel lo hi ≤ xs.size
  | 0, lo, hi, h1, h2, h3, h4, h5 => by
    have e : lo = hi := by omega
    subst e
    exact ⟨h4, h5, h2⟩
  | fuel + 1, lo, hi, h1, h2, h3, h4, h5 => by
    unfold SetTable.below.go
    by_cases hlt : lo < hi
    · rw [if_pos hlt]
      have hm : (lo + hi) / 2 < xs.size := by omega
      have eD : xs.getD ((lo + hi) / 2) j = xs.getD ((lo + hi) / 2) 0 := by simp [Array.getD, hm]
      have mono : ∀ a b, a ≤ b → b < xs.size → xs.getD a 0 ≤ xs.getD b 0 := fun a b hab hb => by
        rcases Nat.lt_or_eq_of_le hab with z | z
        · have := List.pairwise_iff_getElem.mp hs a b (by simp; omega) (by simpa using hb) z
          simp [Array.getD, hb, show a < xs.size by omega] at this ⊢
          omega
        · subst z; exact Nat.le_refl _
      dsimp only
      rw [eD]
      by_cases hc : xs.getD ((lo + hi) / 2) 0 < j
      · rw [if_pos hc]
        refine below_go hs fuel ((lo + hi) / 2 + 1) hi (by omega) h2 (by omega) (fun i hi' => ?_) h5
        exact Nat.lt_of_le_of_lt (mono i ((lo + hi) / 2) (by omega) hm) hc
      · rw [if_neg hc]
        refine below_go hs fuel lo ((lo + hi) / 2) (by omega) (by omega) (by omega) h4 (fun i hi' hs' => ?_)
        have := mono ((lo + hi) / 2) i hi' hs'
        omega
    · rw [if_neg hlt]
      have e : lo = hi := by omega
      subst e
      exact ⟨h4, h5, h2⟩
theorem below_spec {xs : Array Nat} (j : Nat) (hs : xs.toList.Pairwise (· < ·)) : (∀ i, i < SetTable.below xs j → xs.getD i 0 < j) ∧ (∀ i, SetTable.below xs j ≤ i → i < xs.size → j ≤ xs.getD i 0) ∧ SetTable.below xs j ≤ xs.size :=
  below_go hs xs.size 0 xs.size (Nat.zero_le _) (Nat.le_refl _) (by omega) (fun i hi => absurd hi (Nat.not_lt_zero _)) (fun i h1 h2 => absurd h1 (by omega))
/-- what is kept of the table -/
structure Tb (led : Bool) (t : SetTable) : Prop where
  dum : t.dummies = #[]
  up : t.place.toList.Pairwise (· < ·)
  led : t.led = led
theorem Tb.fresh (led : Bool) (f m : Nat) : Tb led (.fresh f m led) := ⟨rfl, List.Pairwise.nil, rfl⟩
theorem range_up (n : Nat) : (Array.range n).toList.Pairwise (· < ·) := by
  rw [Array.toList_range]; exact List.pairwise_lt_range
theorem Tb.standIn {led : Bool} {t : SetTable} (h : Tb led t) (n : Nat) : Tb led (t.standIn n) := ⟨rfl, range_up n, h.led⟩
theorem Tb.orStandIn {led : Bool} {t : SetTable} (h : Tb led t) (n : Nat) : Tb led (t.orStandIn n) := by
  unfold SetTable.orStandIn
  split
  · exact h
  · exact h.standIn n
theorem has_nil (j : Nat) : SetTable.has #[] j = false := by rfl
theorem slot_live {t : SetTable} (hd : t.dummies = #[]) (j : Nat) : t.slot j = .empty ∨ ∃ i, t.slot j = .live i := by
  unfold SetTable.slot
  dsimp only
  split
  · exact .inr ⟨_, rfl⟩
  · rw [hd, has_nil]
    exact .inl rfl
theorem slot_empty {t : SetTable} {j : Nat} (h : t.slot j = .empty) : t.place[SetTable.below t.place j]? ≠ some j := fun e => by
  unfold SetTable.slot at h
  dsimp only at h
  rw [if_pos (by rw [e]; exact beq_self_eq_true _)] at h
  cases h
theorem probe_go {t : SetTable} {f : Nat → Int} {h : Int} (hd : t.dummies = #[]) : ∀ (fuel : Nat) (p : SetTable.Probe), p.dummy = none → ∀ j d, SetTable.probe.go t f h fuel p = some (.empty j d) → d = none ∧ t.slot j = .empty
  | 0, p, _, j, d, e => by unfold SetTable.probe.go at e; cases e
  | fuel + 1, p, hp, j, d, e => by
    unfold SetTable.probe.go at e
    have adv : (t.advance p).dummy = none := by
      unfold SetTable.advance
      split
      · exact hp
      · exact hp
    rcases slot_live hd p.j with z | ⟨i, z⟩
    · rw [z] at e
      cases e
      exact ⟨hp, z⟩
    · rw [z] at e
      dsimp only at e
      split at e
      · cases e
      · exact probe_go hd fuel (t.advance p) adv j d e
theorem freeSlot_empty {t : SetTable} {h : Int} {j : Nat} {b : Bool} (hd : t.dummies = #[]) (e : t.freeSlot h = some (j, b)) : t.slot j = .empty ∧ b = false := by
  unfold SetTable.freeSlot at e
  split at e
  · rename_i j' d' q
    cases e
    obtain ⟨rfl, z⟩ := probe_go hd _ _ rfl _ _ q
    exact ⟨z, rfl⟩
  · cases e
theorem insert_up {xs : Array Nat} {j : Nat} (hs : xs.toList.Pairwise (· < ·)) (hn : xs[SetTable.below xs j]? ≠ some j) : (SetTable.insertAt xs (SetTable.below xs j) j).toList.Pairwise (· < ·) := by
  obtain ⟨b1, b2, b3⟩ := below_spec j hs
  generalize SetTable.below xs j = p at *
  have e : (SetTable.insertAt xs p j).toList = xs.toList.take p ++ j :: xs.toList.drop p := by
    unfold SetTable.insertAt
    simp [Array.toList_extract, List.extract]
    exact List.take_of_length_le (by simp)
  rw [e, List.pairwise_append, List.pairwise_cons]
  have g : ∀ i (hi : i < xs.size), xs.toList[i]'(by simpa using hi) = xs.getD i 0 := fun i hi => by simp [Array.getD, hi]
  refine ⟨hs.sublist (List.take_sublist _ _), ⟨fun x hx => ?_, hs.sublist (List.drop_sublist _ _)⟩, fun x hx y hy => ?_⟩
  · obtain ⟨i, hi, rfl⟩ := List.mem_iff_getElem.mp hx
    rw [List.getElem_drop, g (p + i) (by simp at hi; omega)]
    have hi' : p + i < xs.size := by simp at hi; omega
    have h1 := b2 (p + i) (by omega) hi'
    have h2 : j ≤ xs.getD p 0 := b2 p (Nat.le_refl _) (by omega)
    have h3 : xs.getD p 0 ≠ j := fun z => hn (by rw [← z]; simp [Array.getD, show p < xs.size by omega])
    rcases Nat.eq_zero_or_pos i with z | z
    · subst z; rw [Nat.add_zero] at h1 ⊢; omega
    · have := List.pairwise_iff_getElem.mp hs p (p + i) (by simp; omega) (by simpa using hi') (by omega)
      rw [g _ hi', g p (by omega)] at this
      omega
  · have hxj : x < j := by
      obtain ⟨i, hi, rfl⟩ := List.mem_iff_getElem.mp hx
      have hi' : i < p ∧ i < xs.size := by simp at hi; omega
      rw [List.getElem_take, g i hi'.2]
      exact b1 i hi'.1
    rcases List.mem_cons.mp hy with z | z
    · omega
    · obtain ⟨i, hi, rfl⟩ := List.mem_iff_getElem.mp z
      have hi' : p + i < xs.size := by simp at hi; omega
      rw [List.getElem_drop, g (p + i) hi']
      have := b2 (p + i) (by omega) hi'
      omega
theorem Tb.put {led : Bool} {t : SetTable} (h : Tb led t) {j : Nat} (he : t.slot j = .empty) : Tb led (t.put j).1 := by
  refine ⟨?_, insert_up h.up (slot_empty he), h.led⟩
  show (if SetTable.has t.dummies j = true then _ else t.dummies) = #[]
  rw [h.dum, has_nil]
  rfl
theorem Tb.layNew {led : Bool} {t : SetTable} (h : Tb led t) (es : Array (Int × Value)) (hash : Int) (x : Value) : Tb led (PySem.layNew t es hash x).2.1 := by
  unfold PySem.layNew
  split
  · rename_i slot b e
    exact (h.put (freeSlot_empty h.dum e).1).orStandIn _
  · exact h.standIn _
theorem Tb.relaid {led : Bool} {t t' : SetTable} (h : Tb led t) {hs : Array Int} {n : Nat} {o : Array Nat} (e : t.relaid hs n = some (t', o)) : Tb led t' := by
  unfold SetTable.relaid SetTable.laid at e
  cases q : SetTable.layClean (SetTable.sizeAbove n - 1) hs with
  | none => rw [q] at e; cases e
  | some owner =>
    rw [q] at e
    cases e
    refine ⟨rfl, ?_, h.led⟩
    show ((List.filterMap (fun j => (owner.getD j none).map (j, ·)) (List.range (SetTable.sizeAbove n - 1 + 1))).map (·.1)).Pairwise (· < ·)
    refine List.Pairwise.sublist ?_ (List.pairwise_lt_range (n := SetTable.sizeAbove n - 1 + 1))
    generalize List.range (SetTable.sizeAbove n - 1 + 1) = l
    induction l with
    | nil => exact List.Sublist.slnil
    | cons a l ih =>
      rw [List.filterMap_cons]
      cases owner.getD a none with
      | none => exact ih.cons _
      | some b => exact ih.cons₂ _
theorem Tb.relayAll {led : Bool} {t : SetTable} (h : Tb led t) (es : Array (Int × Value)) (n : Nat) : Tb led (PySem.relayAll t es n).2.1 := by
  unfold PySem.relayAll
  split
  · rename_i t' o e
    dsimp only
    split
    · exact h.relaid e
    · exact h.standIn _
  · exact h.standIn _
end Rg
namespace Rg
open PySem PyProof.Rows
/-- are the sets of this world walked by the text's order -/
def byText (w : World) : Bool := w.params.followText "set-order"
/-- a set of ints that only grew, with its table -/
structure SetT (w : World) (h : Heap) (a : Addr) (vals : List Int) (es : Array (Int × Value)) (ep : Nat) (t : SetTable) : Prop where
  get : h.get? a = some { cls := .type "set", dict := none, data := .set es ep t }
  els : ∀ e ∈ es.toList, ∃ k tk, e = (hashInt k, Value.int k tk)
  pm : (es.toList.map fun e => numOf e.2).Perm vals
  few : es.size < scanBound
  fits : t.fits es.size = true
  tb : Tb (!byText w) t
section
variable {prog : Program} {w : World} {A : Around} {E : Value → Shared → Prop} {s : Shared} {a : Addr} {vals : List Int} {es : Array (Int × Value)} {ep : Nat} {t : SetTable}
theorem SetT.elems {h : Heap} (T : SetT w h a vals es ep t) : ElemsOf (intKind prog w) es.toList := fun e he => by
  obtain ⟨k, tk, rfl⟩ := T.els e he
  exact ⟨⟨k, by simp [intKind, Value.isInt], rfl⟩, rfl⟩
theorem SetT.at {h h' : Heap} (T : SetT w h a vals es ep t) (k : ∀ o, h.get? a = some o → h'.get? a = some o) : SetT w h' a vals es ep t := ⟨k _ T.get, T.els, T.pm, T.few, T.fits, T.tb⟩
theorem SetT.mem {h : Heap} (T : SetT w h a vals es ep t) (k : Int) : k ∈ vals ↔ ∃ e ∈ es.toList, (intKind prog w).is k e.2 = true := by
  rw [← T.pm.mem_iff, List.mem_map]
  constructor
  · rintro ⟨e, he, q⟩
    obtain ⟨k', tk, rfl⟩ := T.els e he
    have : k' = k := q
    subst this
    exact ⟨_, he, by simp [intKind, Value.isInt]⟩
  · rintro ⟨e, he, q⟩
    obtain ⟨k', tk, rfl⟩ := T.els e he
    refine ⟨_, he, ?_⟩
    have q' : (k' == k) = true := by simpa [intKind, Value.isInt] using q
    exact eq_of_beq q'
theorem SetT.size {h : Heap} (T : SetT w h a vals es ep t) : es.size = vals.length := by
  have := T.pm.length_eq
  simpa using this
/-- what a store makes -/
theorem SetT.store {h : Heap} (T : SetT w h a vals es ep t) {vals' : List Int} {es' : Array (Int × Value)} {t' : SetTable} (e1 : ∀ e ∈ es'.toList, ∃ k tk, e = (hashInt k, Value.int k tk)) (e2 : (es'.toList.map fun e => numOf e.2).Perm vals') (e3 : es'.size < scanBound) (e4 : t'.fits es'.size = true) (e5 : Tb (!byText w) t') :
    SetT w (h.update a (Obj.putSet es' t')) a vals' es' (ep + 1) t' := by
  refine ⟨?_, e1, e2, e3, e4, e5⟩
  have := Heap.get?_update_self (Obj.putSet es' t') T.get (by rfl)
  exact this
theorem set_add {k : Int} {tk : Tok} {Q : Bool → Shared → Prop} (T : SetT w s.heap a vals es ep t) (room : vals.length + 1 < scanBound)
    (h : ∀ b h' es' ep' t', Heap.SameBut a s.heap h' → SetT w h' a (if k ∈ vals then vals else vals ++ [k]) es' ep' t' → Q b { s with heap := h' }) : wpAny (model prog w) A (setAddHashed a (.int k tk) (hashInt k)) Q E s := by
  have hkey : (intKind prog w).is k (.int k tk) = true := by simp [intKind, Value.isInt]
  have hsc : (Value.int k tk).scannable = true := rfl
  have gw : ∀ (b : Bool) (s1 : Shared) (Q' : Unit → Shared → Prop), Q' () s1 → wpAny (model prog w) A (match b with | true => rule "set.scan.the-table-gave-way" | false => pure ()) Q' E s1 := fun b s1 Q' q => by
    cases b
    · exact wpAny_pure q
    · exact wpAny_rule q
  unfold setAddHashed
  unfold setAddHashedIn
  refine wpAny_holding (wpAny_bind (wpAny_setState_of T.get rfl T.fits ?_))
  dsimp only
  rw [if_pos (byScan_of hsc T.few (T.elems (prog := prog)))]
  unfold setAddByScan
  refine wpAny_bind (wpAny_bind (wpAny_rule (wpAny_bind (wpAny_setScan_of (knd := intKind prog w) (k := k) hkey T.get rfl T.fits T.elems ?_))))
  cases hr : List.findIdx? (fun e => (intKind prog w).is k e.2) es.toList with
  | some j =>
    dsimp only
    obtain ⟨hj, hpj, _⟩ := List.findIdx?_eq_some_iff_getElem.mp hr
    have hm : k ∈ vals := (T.mem (prog := prog) k).mpr ⟨_, List.getElem_mem hj, hpj⟩
    refine wpAny_pure (wpAny_pure ?_)
    exact h _ s.heap es ep t (Heap.SameBut.refl a s.heap) (by rw [if_pos hm]; exact T)
  | none =>
    dsimp only
    have hm : ¬ k ∈ vals := fun z => by
      obtain ⟨e, he, q⟩ := (T.mem (prog := prog) k).mp z
      have := List.findIdx?_eq_none_iff.mp hr e he
      rw [q] at this
      cases this
    have p1 := layNew_perm t es (hashInt k) (.int k tk)
    have p2 := layNew_fits t es (hashInt k) (.int k tk)
    have p3 := T.tb.layNew es (hashInt k) (.int k tk)
    generalize layNew t es (hashInt k) (.int k tk) = L at p1 p2 p3 ⊢
    obtain ⟨es1, t1, wd, gave⟩ := L
    dsimp only at p1 p2 p3 ⊢
    rw [Array.toList_push] at p1
    have q1 : ∀ e ∈ es1.toList, ∃ k tk, e = (hashInt k, Value.int k tk) := fun e he => by
      rcases List.mem_append.mp (p1.mem_iff.mp he) with z | z
      · exact T.els e z
      · have : e = (hashInt k, Value.int k tk) := by simpa using z
        exact ⟨k, tk, this⟩
    have q2 : (es1.toList.map fun e => numOf e.2).Perm (vals ++ [k]) := by
      refine (p1.map _).trans ?_
      rw [List.map_append]
      exact T.pm.append_right _
    have sz : es1.size = vals.length + 1 := by have := q2.length_eq; simpa using this
    have q3 : es1.size < scanBound := by omega
    have fin : ∀ b h' es' ep' t', Heap.SameBut a s.heap h' → SetT w h' a (vals ++ [k]) es' ep' t' → Q b { s with heap := h' } := fun b h' es' ep' t' z1 z2 => h b h' es' ep' t' z1 (by rw [if_neg hm]; exact z2)
    refine wpAny_bind (gw gave _ _ ?_)
    have tail : ∀ {R : Option Bool → Shared → Prop}, (∀ b h' es' ep' t', Heap.SameBut a s.heap h' → SetT w h' a (vals ++ [k]) es' ep' t' → R (some b) { s with heap := h' }) → wpAny (model prog w) A (do
        storeSet a es1 t1
        if (!wd && t1.tooFull) = true then do
            (match (relayAll t1 es1 (SetTable.grown es1.size)).2.2 with | true => rule "set.scan.the-table-gave-way" | false => pure ())
            storeSet a (relayAll t1 es1 (SetTable.grown es1.size)).1 (relayAll t1 es1 (SetTable.grown es1.size)).2.1
            pure (some true)
          else pure (some true)) R E s := fun {R} hR => by
      have T1 := T.store q1 q2 q3 p2 p3
      have sb1 := Heap.SameBut.update s.heap a (Obj.putSet es1 t1)
      refine wpAny_bind (wpAny_storeSet_of T.get rfl ?_ (fits_of_scanBound q3))
      by_cases hc : (!wd && t1.tooFull) = true
      · rw [if_pos hc]
        have r1 := relayAll_perm t1 es1 (SetTable.grown es1.size)
        have r2 := relayAll_fits t1 es1 (SetTable.grown es1.size)
        have r3 := p3.relayAll es1 (SetTable.grown es1.size)
        generalize relayAll t1 es1 (SetTable.grown es1.size) = L2 at r1 r2 r3 ⊢
        obtain ⟨es2, t2, gave2⟩ := L2
        dsimp only at r1 r2 r3 ⊢
        have sz2 : es2.size = es1.size := by have := r1.length_eq; simpa using this
        refine wpAny_bind (gw gave2 _ _ (wpAny_bind (wpAny_storeSet_of T1.get rfl ?_ (fits_of_scanBound (by omega)))))
        exact wpAny_pure (hR _ _ _ _ _ (sb1.trans (Heap.SameBut.update _ a _)) (T1.store (fun e he => q1 e (r1.mem_iff.mp he)) ((r1.map _).trans q2) (by omega) r2 r3))
      · rw [if_neg hc]
        exact wpAny_pure (hR _ _ _ _ _ sb1 T1)
    by_cases hp : t1.plain = true
    · rw [if_pos hp]
      refine wpAny_bind ?_
      rw [hashByValue_scannable 8 hsc]
      refine wpAny_pure ?_
      exact tail fun b h' es' ep' t' z1 z2 => wpAny_pure (fin _ h' es' ep' t' z1 z2)
    · rw [if_neg hp]
      refine wpAny_bind (wpAny_pure ?_)
      exact tail fun b h' es' ep' t' z1 z2 => wpAny_pure (fin _ h' es' ep' t' z1 z2)
end
/-! ### the loop that fills it -/
def dds : List Int → List Int → List Int
  | acc, [] => acc
  | acc, x :: r => dds (if x ∈ acc then acc else acc ++ [x]) r
theorem dds_len : ∀ (l acc : List Int), (dds acc l).length ≤ acc.length + l.length
  | [], acc => Nat.le_refl _
  | x :: r, acc => by
    refine Nat.le_trans (dds_len r _) ?_
    split
    · simp <;> omega
    · simp <;> omega
theorem dds_append (l : List Int) (x : Int) : ∀ acc, dds acc (l ++ [x]) = if x ∈ dds acc l then dds acc l else dds acc l ++ [x] := by
  induction l with
  | nil => intro acc; rfl
  | cons y r ih => intro acc; exact ih _
theorem dds_nodup : ∀ (l acc : List Int), acc.Nodup → (dds acc l).Nodup
  | [], acc, h => h
  | y :: r, acc, h => by
    rw [dds]
    refine dds_nodup r _ ?_
    split
    · exact h
    · rename_i hn
      rw [List.nodup_append]
      refine ⟨h, by simp, fun a ha b hb => ?_⟩
      have : b = y := by simpa using hb
      subst this
      exact fun z => hn (z ▸ ha)
section
variable {prog : Program} {w : World} {A : Around} {R : Result → Shared → Prop} {I : Addr} {fp wr : List Addr} {n : Nat} {P : Nat → Value → Prop} {St : Nat → Heap → Prop}
theorem set_loop {ns : List Int} (W : Walks prog w A.in1 I fp wr n P St) (hval : ∀ i v, P i v → ∃ tk, v = .int (ns.getD i 0) tk) (hn : n = ns.length) (hb : n + 1 < scanBound) (S : Addr) (hSf : S ∉ fp) :
    ∀ (k i : Nat) (s : Shared) es ep t, n - i = k → i ≤ n → St i s.heap → SetT w s.heap S (dds [] (ns.take i)) es ep t →
    (∀ h' tk es' ep' t', SetT w h' S (dds [] ns) es' ep' t' → (∀ b o, b ∉ wr → b ≠ S → s.heap.get? b = some o → h'.get? b = some o) → R (.ok (.ret .none)) { s with heap := h', toks := tk }) →
    codeAny (model prog w) A (.builtin "set.update.loop" ⟨[.ref S, .ref I], []⟩) R s := by
  have hSw : S ∉ wr := fun h => hSf (W.sub _ h)
  intro k
  induction k with
  | zero =>
    intro i s es ep t hk hi hst T hR
    have hin : i = n := by omega
    subst hin
    refine codeAny_builtin PyProof.Rows.F.entry_set_update_loop ?_
    rw [Around.under_plainId PyProof.Rows.F.plain_set_update_loop _]
    show wpAny _ A.in1 (pyNext (.ref I) >>= _) _ _ s
    refine wpAny_bind (W.done s _ _ hst fun h' tk hk' => ?_)
    show wpAny _ A.in1 (ret Value.none) _ _ _
    refine wpAny_pure (hR h' tk es ep t ?_ fun b o z _ e => hk' b o z e)
    have := T.at (h' := h') fun o e => hk' S o hSw e
    rw [hn, List.take_length] at this
    exact this
  | succ k ih =>
    intro i s es ep t hk hi hst T hR
    refine codeAny_builtin PyProof.Rows.F.entry_set_update_loop ?_
    rw [Around.under_plainId PyProof.Rows.F.plain_set_update_loop _]
    show wpAny _ A.in1 (pyNext (.ref I) >>= _) _ _ s
    refine wpAny_bind (W.item i s _ _ (by omega) hst fun v h' tk hP hst' hk' => ?_)
    obtain ⟨tv, rfl⟩ := hval i v hP
    have T1 := T.at (h' := h') fun o e => hk' S o hSw e
    show wpAny _ A.in1 (holding [Value.int (ns.getD i 0) tv] (setAdd S (.int (ns.getD i 0) tv)) >>= _) _ _ _
    refine wpAny_bind (wpAny_holding ?_)
    unfold setAdd
    refine wpAny_holding (wpAny_bind ((intKind prog w).pyHash (k := ns.getD i 0) (by simp [intKind, Value.isInt]) ?_))
    have hlen := dds_len (ns.take i) []
    have hlt : (ns.take i).length ≤ i := by rw [List.length_take]; omega
    refine set_add (s := { s with heap := h', toks := tk + 1 }) T1 (by simp at hlen; omega) fun b h'' es' ep' t' sb T2 => ?_
    have gi : ns[i]? = some (ns.getD i 0) := by simp [List.getD_eq_getElem?_getD, show i < ns.length by omega]
    have et : ns.take (i + 1) = ns.take i ++ [ns.getD i 0] := by rw [List.take_succ, gi]; rfl
    rw [← dds_append, ← et] at T2
    refine wpAny_pure ⟨plainId_quiet PyProof.Rows.F.plain_set_update_loop _, ih (i + 1) { s with heap := h'', toks := tk + 1 } es' ep' t' (by omega) (by omega) (W.frame _ _ _ hst' fun b hb o e => (sb.2 b (fun z => hSf (z ▸ hb))).trans e) T2 fun h3 tk3 es3 ep3 t3 T3 k3 => ?_⟩
    exact hR h3 tk3 es3 ep3 t3 T3 fun b o z1 z2 e => k3 b o z1 z2 ((sb.2 b z2).trans (hk' b o z1 e))
end
end Rg
set_option maxHeartbeats 8000000
namespace Rg
open PySem PyProof.Rows
abbrev newS (w : World) : Obj := { cls := .type "set", dict := none, data := .set #[] 0 (.fresh 0 0 (!byText w)) }
section
variable {prog : Program} {w : World} {A : Around} {E : Value → Shared → Prop} {s : Shared}
theorem set_new (x : Value) {Q : Value → Shared → Prop} (h : Q (.ref s.heap.objs.size) { s with heap := s.heap.push (newS w) }) : codeAny (model prog w) A (.call (.builtin "set.__new__") ⟨[.type "set", x], []⟩) (wants Q E) s := by
  have sub1 := sub_set_self
  refine codeAny_of_tree (show wpAny _ A.in1 (do checkBuiltinCall "set.__new__" ⟨[.type "set", x], []⟩; again (.builtin "set.__new__" ⟨[.type "set", x], []⟩)) _ _ s from wpAny_bind (wpAny_of_eq (F.newCall_set_1 x) (wpAny_pure ⟨plainId_quiet F.plain_set_new _, codeAny_builtin F.entry_set_new ?new⟩)))
  case new =>
    rw [Around.under_plainId F.plain_set_new _]
    unfold Builtin.«set.__new__»
    unfold Builtin.Frozenset.newClass
    obtain ⟨hp, g, d, tk, os⟩ := s
    dsimp only
    wp_walk
    refine wpAny_askSetting (wpAny_pure ?_)
    dsimp only
    simp only [newObj]
    exact wpAny_bind (wpAny_alloc (wpAny_pure (wpAny_pure h)))
theorem set_init {l S : Addr} {items : Array Value} {ns : List Int} {Q : Value → Shared → Prop} (hh : A.handled = none) (hl : s.heap.IsList l items) (hi : IntsAre items.toList ns) (hb : items.size + 1 < scanBound) (hS : s.heap.get? S = some (newS w)) (hlS : l ≠ S)
    (h : ∀ h' tk es ep t, SetT w h' S (dds [] ns) es ep t → (∀ b o, b ≠ S → s.heap.get? b = some o → h'.get? b = some o) → Q .none { s with heap := h', toks := tk }) :
    codeAny (model prog w) A (.call (.builtin "set.__init__") ⟨[.ref S, .ref l], []⟩) (wants Q E) s := by
  have hT : s.TypeIs (.ref S) "set" := ⟨_, hS, rfl⟩
  refine codeAny_call_builtin F.called_set.init.plain F.entry_set_init (check_set_init_1 hT ?_)
  obtain ⟨ol, hol, hcl, nl, hdl⟩ := id hl
  obtain ⟨c1, c2, c3, c4⟩ := ol
  dsimp only at hcl hdl
  subst hcl hdl
  have n1 := F.sub_list_set
  have n2 := F.sub_list_frozenset
  have n3 : (Value.type "list" == Value.type "dict") = false := by decide
  unfold Builtin.«set.__init__»
  unfold noKeywords
  unfold Builtin.Frozenset.updateFrom
  generalize hPI : pyIter = PI
  wp_walk
  subst hPI
  refine wpAny_pyIter_list hl (wpAny_bind (wpAny_runValue ?_))
  have hval : ∀ (i : Nat) (v : Value), items[i]? = some v → ∃ t, v = .int (ns.getD i 0) t := fun i v hv => PyProof.Rows.IntsAre.int_at hi i v (by rw [Array.getElem?_toList]; exact hv)
  have lI : l ≠ s.heap.objs.size := Nat.ne_of_lt (Heap.lt_size hol)
  have SI : S ≠ s.heap.objs.size := Nat.ne_of_lt (Heap.lt_size hS)
  have hlen : items.size = ns.length := by have := hi.length; simpa using this
  have W := Walks.list (prog := prog) (w := w) (A := A.in1.in1) (show A.in1.in1.handled = none from hh) s.heap.objs.size l lI items
  have T0 : SetT w (s.heap.push { cls := .type "list_iterator", data := .fields #[.ref l, .int 0 0] }) S (dds [] (ns.take 0)) #[] 0 (.fresh 0 0 (!byText w)) :=
    ⟨Heap.get?_push_of_some _ hS, fun e he => by simp at he, by simp [dds], by decide, rfl, Tb.fresh _ _ _⟩
  refine set_loop (ns := ns) W hval hlen hb S (by simp [SI, Ne.symm hlS]) (items.size - 0) 0 _ _ _ _ rfl (Nat.zero_le _) ⟨⟨_, Heap.get?_push_size _ rfl, rfl, rfl⟩, hl.push _⟩ T0 fun h' tk es ep t T k => ?_
  refine wpAny_pure (wpAny_pure (h h' tk es ep t T fun b o hb' e => ?_))
  exact k b o (by simp; exact Nat.ne_of_lt (Heap.lt_size e)) hb' (Heap.get?_push_of_some _ e)
theorem set_call {l : Addr} {items : Array Value} {ns : List Int} {Q : Value → Shared → Prop} (hh : A.handled = none) (hl : s.heap.IsList l items) (hi : IntsAre items.toList ns) (hb : items.size + 1 < scanBound)
    (h : ∀ h' tk es ep t, SetT w h' s.heap.objs.size (dds [] ns) es ep t → (∀ b o, s.heap.get? b = some o → h'.get? b = some o) → Q (.ref s.heap.objs.size) { s with heap := h', toks := tk }) :
    wpAny (model prog w) A (call (.type "set") [.ref l]) Q E s := by
  have f1 := F.called_set.notType
  have f2 := F.called_set.canCreate
  have f3 := F.called_set.made
  have f4 := F.called_set.sub
  have f5 := F.typeCall_set_1 (.ref l)
  obtain ⟨c, tl, f6⟩ := F.called_set.mro
  refine wpAny_call (codeAny_of_tree (show wpAny _ _ (callAny (.type "set") _) _ _ _ from wpAny_pure ⟨Code.quiet_builtin _ (by decide +kernel), codeAny_builtin F.entry_type_call ?tc⟩))
  case tc =>
    rw [Around.under_plain (weight_type_call_type "set" [.ref l] []) rfl]
    repeat (any_goals (first | wp_step | assumption))
    refine codeAny_mono (set_new (.ref l) (E := E) (Q := fun obj s1 => obj = .ref s.heap.objs.size ∧ s1 = { s with heap := s.heap.push (newS w) }) ⟨rfl, rfl⟩) fun r s1 hr => ?_
    cases r with
    | error e => exact hr
    | ok fl =>
      cases fl with
      | ret obj =>
        obtain ⟨rfl, rfl⟩ := hr
        have hS : (s.heap.push (newS w)).get? s.heap.objs.size = some (newS w) := Heap.get?_push_size _ rfl
        have hT : Shared.TypeIs { s with heap := s.heap.push (newS w) } (.ref s.heap.objs.size) "set" := ⟨_, hS, rfl⟩
        refine wpAny_bind (wpAny_isInstance hT sub_set_self ?_)
        simp only [Bool.not_true, Bool.false_eq_true, if_false]
        obtain ⟨ol, hol, _⟩ := id hl
        refine wpAny_bind (wpAny_holding (wpAny_callSpecial?_slot (name := Str.ofString "__init__") hT F.called_set.init ?_))
        refine wpAny_call (codeAny_mono (set_init (E := E) (Q := fun r s2 => r = .none ∧ Q (.ref s.heap.objs.size) s2) (s := { s with heap := s.heap.push (newS w) }) (show A.in1.handled = none from hh) (hl.push _) hi hb hS (Nat.ne_of_lt (Heap.lt_size hol)) fun h' tk es ep t T k => ⟨rfl, h h' tk es ep t T fun b o e => k b o (Nat.ne_of_lt (Heap.lt_size e)) (Heap.get?_push_of_some _ e)⟩) fun r2 s2 hr2 => ?_)
        cases r2 with
        | error e => exact hr2
        | ok fl2 =>
          cases fl2 with
          | ret r3 =>
            obtain ⟨rfl, q⟩ := hr2
            exact wpAny_pure q
          | _ => exact hr2.elim
      | _ => exact hr.elim
end
end Rg
set_option maxHeartbeats 8000000
namespace Rg
open PySem PyProof.Rows
/-! ### orders -/
theorem erase_perm {α : Type} : ∀ {l : List α} {i : Nat} {x : α}, l[i]? = some x → (x :: l.eraseIdx i).Perm l
  | [], i, x, h => by simp at h
  | y :: r, 0, x, h => by
    have : y = x := by simpa using h
    subst this
    exact List.Perm.refl _
  | y :: r, i + 1, x, h => by
    have ih := erase_perm (l := r) (i := i) (x := x) (by simpa using h)
    rw [List.eraseIdx_cons_succ]
    exact (List.Perm.swap y x _).trans (ih.cons y)
theorem pick_go {α : Type} (next : Nat → Nat) : ∀ (fuel k : Nat) (left : List α) (out : Array α), left.length ≤ fuel → (pickOrder.go next fuel k left out).toList.Perm (out.toList ++ left)
  | 0, k, left, out, h => by
    have : left = [] := List.length_eq_zero_iff.mp (by omega)
    subst this
    unfold pickOrder.go
    simp
  | fuel + 1, k, left, out, h => by
    unfold pickOrder.go
    cases left with
    | nil => simp
    | cons y r =>
      have hi : next k % (y :: r).length < (y :: r).length := Nat.mod_lt _ (by simp)
      generalize next k % (y :: r).length = i at hi
      have e : (y :: r)[i]? = some (y :: r)[i] := List.getElem?_eq_getElem hi
      rw [e]
      dsimp only
      have ih := pick_go next fuel (k + 1) ((y :: r).eraseIdx i) (out.push (y :: r)[i]) (by rw [List.length_eraseIdx]; split <;> simp at * <;> omega)
      refine ih.trans ?_
      rw [Array.toList_push, List.append_assoc]
      exact (erase_perm e).append_left _
theorem pick_perm {α : Type} (next : Nat → Nat) (xs : Array α) : (pickOrder next xs).toList.Perm xs.toList := by
  have := pick_go next xs.size 0 xs.toList #[] (by simp)
  simpa [pickOrder] using this
section
variable {M : Model} {A : Around} {E : Value → Shared → Prop} {s : Shared}
theorem choose_any {src : Source} {n : Nat} {Q : Nat → Shared → Prop} (hn : n ≠ 0) (h : ∀ i d, i < n → Q i { s with drawn := d }) : wpAny M A (choose src n) Q E s := fun _ _ _ =>
  ⟨hn, h _ _ (Nat.mod_lt _ (Nat.pos_of_ne_zero hn))⟩
theorem draw_any {α : Type} : ∀ (n : Nat) (xs : List α) (s : Shared) (Q : List α → Shared → Prop), xs.length ≤ n → (∀ ys d, ys.Perm xs → Q ys { s with drawn := d }) → wpAny M A (drawOrder n xs) Q E s
  | 0, xs, s, Q, hl, h => by
    have : xs = [] := List.length_eq_zero_iff.mp (by omega)
    subst this
    unfold drawOrder
    exact wpAny_pure (h [] s.drawn (List.Perm.refl _))
  | n + 1, [], s, Q, hl, h => by
    unfold drawOrder
    exact wpAny_pure (h [] s.drawn (List.Perm.refl _))
  | n + 1, y :: r, s, Q, hl, h => by
    unfold drawOrder
    refine wpAny_bind (choose_any (by simp) fun i d hi => ?_)
    have e : (y :: r)[i]? = some (y :: r)[i] := List.getElem?_eq_getElem hi
    rw [e]
    dsimp only
    refine wpAny_bind (draw_any n ((y :: r).eraseIdx i) _ _ (by rw [List.length_eraseIdx]; split <;> simp at * <;> omega) fun ys d' p => wpAny_pure ?_)
    exact h _ d' ((p.cons _).trans (erase_perm e))
end
end Rg
set_option maxHeartbeats 8000000
namespace Rg
open PySem PyProof.Rows
/-! ### a set's iterator -/
theorem slot_si : Slot "set_iterator" "__next__" "set_iterator.__next__" :=
  .of (n := "__next__") (owner := "set_iterator") (by rw [typeLookup_type, builtinLookup_eq_fast]; kernel_rfl) (by decide +kernel) (by decide +kernel) (by decide +kernel) (by first | exact .inl (by decide +kernel) | exact .inr (by decide +kernel)) (by rw [isSubtype_type]; kernel_rfl)
theorem entry_si : entryFor table "set_iterator.__next__" = some Builtin.«set_iterator.__next__» := entryFor_of_tree (by kernel_rfl)
theorem args_si (a : Value) : argsOk "set_iterator.__next__" ⟨[a], []⟩ := by unfold argsOk; kernel_rfl
theorem entry_sit : entryFor table "set.__iter__" = some Builtin.«frozenset.__iter__» := entryFor_alias (id' := "frozenset.__iter__") (by kernel_rfl) rfl (by decide +kernel) (by kernel_rfl)
theorem stop_sub : isSubtype (.type "StopIteration") (.type "StopIteration") = pure true := by rw [isSubtype_type]; kernel_rfl
def itObj (first : Value) (i : Int) (S : Addr) (n ep : Nat) : Obj := { cls := .type "set_iterator", data := .fields #[first, rawInt i, .ref S, rawInt n, rawInt ep] }
section
variable {prog : Program} {w : World} {A : Around} {E : Value → Shared → Prop} {s : Shared} {I S : Addr} {vals : List Int} {es : Array (Int × Value)} {ep : Nat} {t : SetTable}
/-- what the iterator asks of the set -/
theorem setNext_any {slot given : Nat} {Q : Option (Value × Nat) → Shared → Prop} (T : SetT w s.heap S vals es ep t) (hd : byText w = false → (!t.plain && decide (es.size > 1)) = false)
    (h1 : byText w = true → Q (((pickOrder (w.params.setOrder S ep) es)[given]?).map fun e => (e.2, slot)) s)
    (h2 : byText w = false → Q (match es[SetTable.below t.place slot]?, t.place[SetTable.below t.place slot]? with | some (_, x), some j => some (x, j + 1) | _, _ => none) s) :
    wpAny (model prog w) A (setNext S slot given ep) Q E s := by
  have ask : ∀ {Q' : Bool → Shared → Prop}, Q' (byText w) s → wpAny (model prog w) A setsByText Q' E s := fun q => by
    unfold setsByText
    exact wpAny_bind (wpAny_askSetting (wpAny_pure q))
  unfold setNext
  refine wpAny_bind (wpAny_setState_of T.get rfl T.fits ?_)
  dsimp only
  refine wpAny_bind (ask ?_)
  cases hb : byText w with
  | true =>
    simp only [if_true]
    rw [if_neg (by simp)]
    refine wpAny_bind ?_
    unfold setWalk
    refine wpAny_bind (wpAny_setState_of T.get rfl T.fits ?_)
    dsimp only
    refine wpAny_bind (ask ?_)
    rw [hb]
    simp only [if_true]
    exact wpAny_bind (wpAny_askSetting (wpAny_pure (wpAny_pure (h1 hb))))
  | false =>
    have led : t.led = true := by rw [T.tb.led, hb]; rfl
    simp only [Bool.false_eq_true, if_false]
    show wpAny _ _ (if (!t.plain && decide (es.size > 1)) = true then _ else _) _ _ _
    rw [if_neg (by rw [hd hb]; exact Bool.false_ne_true)]
    refine wpAny_bind (show wpAny _ _ (if (!t.led && !es.isEmpty) = true then unsupported _ else pure ()) _ _ _ from ?_)
    rw [led]
    rw [if_neg (by simp)]
    exact wpAny_pure (wpAny_pure (h2 hb))
/-- the next one by a slot, or the end -/
theorem next_slot {slot i : Nat} {Q : Option Value → Shared → Prop} (hh : A.handled = none) (hI : s.heap.get? I = some (itObj (rawInt slot) i S es.size ep)) (T : SetT w s.heap S vals es ep t) (hd : byText w = false → (!t.plain && decide (es.size > 1)) = false)
    (r : Option (Value × Nat)) (h1 : byText w = true → r = ((pickOrder (w.params.setOrder S ep) es)[i]?).map fun e => (e.2, slot)) (h2 : byText w = false → r = match es[SetTable.below t.place slot]?, t.place[SetTable.below t.place slot]? with | some (_, x), some j => some (x, j + 1) | _, _ => none)
    (hs : ∀ x nx h', r = some (x, nx) → h'.get? I = some (itObj (rawInt nx) ((i : Int) + 1) S es.size ep) → (∀ b o, b ≠ I → s.heap.get? b = some o → h'.get? b = some o) → Q (some x) { s with heap := h' })
    (hn : ∀ h', r = none → (∀ b o, b ≠ I → s.heap.get? b = some o → h'.get? b = some o) → Q none { s with heap := h' }) : wpAny (model prog w) A (pyNext (.ref I)) Q E s := by
  have ty : s.TypeIs (.ref I) "set_iterator" := ⟨_, hI, rfl⟩
  unfold pyNext
  refine wpAny_bind (wpAny_attempt (wpAny_callSpecial?_slot (name := Str.ofString "__next__") ty slot_si (wpAny_call_entry slot_si ty entry_si ?_ (args_si _))))
  unfold Builtin.«set_iterator.__next__»
  refine wpAny_bind (wpAny_of_eq (a := (Value.ref I, [])) rfl ?_)
  refine wpAny_bind (wpAny_fieldsOf hI rfl ?_)
  dsimp only
  show wpAny _ _ (setEntries S >>= _) _ _ _
  refine wpAny_bind (wpAny_setEntries_of T.get rfl T.fits ?_)
  rw [if_neg (by simp)]
  show wpAny _ _ (setNext S ((slot : Nat) : Int).toNat ((i : Nat) : Int).toNat ((ep : Nat) : Int).toNat >>= _) _ _ _
  simp only [Int.toNat_natCast]
  have go : ∀ (r' : Option (Value × Nat)), r' = r → wpAny (model prog w) A.in1 (match r' with
      | some (x, next) => do
        setField (Value.ref I) 0 (rawInt (next : Int))
        setField (Value.ref I) 1 (rawInt ((i : Int) + 1))
        ret x
      | none => do
        setField (Value.ref I) 2 Value.none
        let e ← newExc (Value.type "StopIteration") []
        raiseNew e) (fun fin s' => ∃ r, fin = Fin.done (Flow.ret r) ∧ wpAny (model prog w) A (match (Except.ok (some r) : Except Value (Option Value)) with
          | Except.ok (some v) => pure (some v)
          | Except.ok none => unsupported "iter:the-iterator's-class-has-lost-its-__next__-amid-the-walk"
          | Except.error e => do if ← isInstance e (Value.type "StopIteration") then pure none else throw e) Q E s')
      (fun e s' => wpAny (model prog w) A (match (Except.error e : Except Value (Option Value)) with
          | Except.ok (some v) => pure (some v)
          | Except.ok none => unsupported "iter:the-iterator's-class-has-lost-its-__next__-amid-the-walk"
          | Except.error e => do if ← isInstance e (Value.type "StopIteration") then pure none else throw e) Q E s') s := fun r' er => by
    have other : ∀ (h1 : Heap) (f : Obj → Obj) b o, b ≠ I → h1.get? b = some o → (h1.update I f).get? b = some o := fun h1 f b o hb e => (Heap.get?_update_other _ _ (Ne.symm hb)).trans e
    cases r' with
    | some xn =>
      obtain ⟨x, nx⟩ := xn
      dsimp only
      have hd0 : (itObj (rawInt slot) i S es.size ep).data = .fields #[rawInt slot, rawInt i, .ref S, rawInt es.size, rawInt ep] := rfl
      refine wpAny_bind (wpAny_setField hI hd0 (by simp) ?_)
      have g1 := Heap.get?_update_self (Obj.mapFields (·.setIfInBounds 0 (rawInt (nx : Int)))) hI (by rfl)
      refine wpAny_bind (wpAny_setField g1 rfl (by simp) ?_)
      refine wpAny_pure ⟨x, rfl, wpAny_pure (hs x nx _ er.symm ?_ fun b o hb e => other _ _ b o hb (other _ _ b o hb e))⟩
      exact Heap.get?_update_self _ g1 (by rfl)
    | none =>
      dsimp only
      refine wpAny_bind (wpAny_setField hI rfl (by simp) ?_)
      refine wpAny_bind ?_
      unfold newExc
      unfold newTuple
      refine wpAny_bind (wpAny_newObj_type ?_ (by size_fits))
      refine wpAny_bind (m := firstArgMember _ _) (wpAny_of_eq (a := Value.none) (by first | rfl | (simp only [firstArgMember]; rfl)) (wpAny_newObj_type ?_ (by size_fits)))
      refine wpAny_raiseNew_none (show A.in1.handled = none from hh) ?_
      refine wpAny_bind (wpAny_isInstance (T := "StopIteration") (b := true) ⟨_, Heap.get?_push_size _ rfl, rfl⟩ stop_sub ?_)
      exact wpAny_pure (hn _ er.symm fun b o hb e => Heap.get?_push_of_some _ (Heap.get?_push_of_some _ (other _ _ b o hb e)))
  refine wpAny_bind (setNext_any T hd (fun z => go _ (h1 z).symm) (fun z => go _ (h2 z).symm))
end
end Rg
set_option maxHeartbeats 8000000
namespace Rg
open PySem PyProof.Rows
def plObj (ps : List Nat) : Obj := { cls := .type "tuple", data := .seq (ps.map fun p : Nat => rawInt (p : Int)).toArray }
theorem slot_sii : Slot "set_iterator" "__iter__" "set_iterator.__iter__" :=
  .of (n := "__iter__") (owner := "set_iterator") (by rw [typeLookup_type, builtinLookup_eq_fast]; kernel_rfl) (by decide +kernel) (by decide +kernel) (by decide +kernel) (by first | exact .inl (by decide +kernel) | exact .inr (by decide +kernel)) (by rw [isSubtype_type]; kernel_rfl)
theorem entry_sii : entryFor table "set_iterator.__iter__" = some Builtin.«dict_keyiterator.__iter__» := entryFor_alias (id' := "dict_keyiterator.__iter__") (by kernel_rfl) (by first | rfl | decide +kernel) (by decide +kernel) (by kernel_rfl)
theorem args_sii (a : Value) : argsOk "set_iterator.__iter__" ⟨[a], []⟩ := by unfold argsOk; kernel_rfl
section
variable {prog : Program} {w : World} {A : Around} {E : Value → Shared → Prop} {s : Shared} {I S Tp : Addr} {vals : List Int} {es : Array (Int × Value)} {ep : Nat} {t : SetTable}
theorem it_self {first : Value} {i : Int} {n : Nat} {Q : Value → Shared → Prop} (hI : s.heap.get? I = some (itObj first i S n ep)) (q : Q (.ref I) s) : wpAny (model prog w) A (pyIter (.ref I)) Q E s := by
  have ty : s.TypeIs (.ref I) "set_iterator" := ⟨_, hI, rfl⟩
  refine wpAny_pyIter_slot ty slot_sii (wpAny_call_entry slot_sii ty entry_sii ?_ (args_sii _))
  show wpAny _ _ (ret (.ref I)) _ _ s
  exact wpAny_pure ⟨_, rfl, "set_iterator", _, ty, slot_si.lookup, q⟩
theorem next_drawn {ps : List Nat} {i : Nat} {Q : Option Value → Shared → Prop} (hh : A.handled = none) (hI : s.heap.get? I = some (itObj (.ref Tp) i S es.size ep)) (hP : s.heap.get? Tp = some (plObj ps)) (T : SetT w s.heap S vals es ep t) (hps : ∀ p ∈ ps, p < es.size)
    (hs : ∀ p h', ps[i]? = some p → h'.get? I = some (itObj (.ref Tp) ((i : Int) + 1) S es.size ep) → (∀ b o, b ≠ I → s.heap.get? b = some o → h'.get? b = some o) → Q (some ((es.toList.map fun e => e.2).getD p .none)) { s with heap := h' })
    (hn : ∀ h', ps[i]? = none → (∀ b o, b ≠ I → s.heap.get? b = some o → h'.get? b = some o) → Q none { s with heap := h' }) : wpAny (model prog w) A (pyNext (.ref I)) Q E s := by
  have ty : s.TypeIs (.ref I) "set_iterator" := ⟨_, hI, rfl⟩
  have other : ∀ (h1 : Heap) (f : Obj → Obj) b o, b ≠ I → h1.get? b = some o → (h1.update I f).get? b = some o := fun h1 f b o hb e => (Heap.get?_update_other _ _ (Ne.symm hb)).trans e
  unfold pyNext
  refine wpAny_bind (wpAny_attempt (wpAny_callSpecial?_slot (name := Str.ofString "__next__") ty slot_si (wpAny_call_entry slot_si ty entry_si ?_ (args_si _))))
  unfold Builtin.«set_iterator.__next__»
  refine wpAny_bind (wpAny_of_eq (a := (Value.ref I, [])) rfl ?_)
  refine wpAny_bind (wpAny_fieldsOf hI rfl ?_)
  dsimp only
  show wpAny _ _ (setEntries S >>= _) _ _ _
  refine wpAny_bind (wpAny_setEntries_of T.get rfl T.fits ?_)
  rw [if_neg (by simp)]
  show wpAny _ _ (seqItems? (.ref Tp) >>= _) _ _ _
  refine wpAny_bind (wpAny_seqItems hP rfl ?_)
  dsimp only
  have ea : ((ps.map fun p : Nat => rawInt (p : Int)).toArray)[((i : Nat) : Int).toNat]? = (ps[i]?).map fun p : Nat => rawInt (p : Int) := by simp
  rw [ea]
  cases hp : ps[i]? with
  | some p =>
    have hlt := hps p (List.mem_of_getElem? hp)
    show wpAny _ _ (setNextDrawn S ((p : Nat) : Int).toNat ((ep : Nat) : Int).toNat >>= _) _ _ _
    simp only [Int.toNat_natCast]
    refine wpAny_bind ?_
    unfold setNextDrawn
    refine wpAny_bind (wpAny_setState_of T.get rfl T.fits ?_)
    dsimp only
    rw [if_neg (by simp)]
    have ex : es[p]? = some es[p] := Array.getElem?_eq_getElem hlt
    rw [ex]
    refine wpAny_pure ?_
    refine wpAny_bind (wpAny_setField hI rfl (by simp) ?_)
    have ev : (es.toList.get ⟨p, hlt⟩).2 = (es.toList.map fun e => e.2).getD p .none := by simp [List.getD_eq_getElem?_getD, hlt]
    refine wpAny_pure ⟨_, rfl, wpAny_pure ?_⟩
    show Q (some (es.toList.get ⟨p, hlt⟩).2) _
    rw [ev]
    exact hs p _ hp (Heap.get?_update_self _ hI (by rfl)) fun b o hb e => other _ _ b o hb e
  | none =>
    show wpAny _ _ (setField (Value.ref I) 0 (rawInt 0) >>= _) _ _ _
    refine wpAny_bind (wpAny_setField hI rfl (by simp) ?_)
    have g1 := Heap.get?_update_self (Obj.mapFields (·.setIfInBounds 0 (rawInt 0))) hI (by rfl)
    refine wpAny_bind (wpAny_setField g1 rfl (by simp) ?_)
    refine wpAny_bind ?_
    unfold newExc
    unfold newTuple
    refine wpAny_bind (wpAny_newObj_type ?_ (by size_fits))
    refine wpAny_bind (m := firstArgMember _ _) (wpAny_of_eq (a := Value.none) (by first | rfl | (simp only [firstArgMember]; rfl)) (wpAny_newObj_type ?_ (by size_fits)))
    refine wpAny_raiseNew_none (show A.in1.handled = none from hh) ?_
    refine wpAny_bind (wpAny_isInstance (T := "StopIteration") (b := true) ⟨_, Heap.get?_push_size _ rfl, rfl⟩ stop_sub ?_)
    exact wpAny_pure (hn _ hp fun b o hb e => Heap.get?_push_of_some _ (Heap.get?_push_of_some _ (other _ _ b o hb (other _ _ b o hb e))))
/-- a set, walked: its things in some order -/
def Ord (es : Array (Int × Value)) (vs : List Value) : Prop := vs.Perm (es.toList.map fun e => e.2)
theorem text_ord : Ord es ((pickOrder (w.params.setOrder S ep) es).toList.map (fun e : Int × Value => e.2)) := (pick_perm (w.params.setOrder S ep) es).map _
theorem walk_text (hh : A.handled = none) (hb : byText w = true) (hne : S ≠ I) : Walks prog w A I [I, S] [I] es.size (fun i v => ((pickOrder (w.params.setOrder S ep) es).toList.map (fun e : Int × Value => e.2))[i]? = some v) (fun i h => h.get? I = some (itObj (rawInt ((0 : Nat) : Int)) i S es.size ep) ∧ SetT w h S vals es ep t) := by
  have pp := pick_perm (w.params.setOrder S ep) es
  obtain ⟨os, hos⟩ : ∃ os, os = pickOrder (w.params.setOrder S ep) es := ⟨_, rfl⟩
  rw [← hos] at pp ⊢
  have sz : os.size = es.size := by have := pp.length_eq; simpa using this
  refine ⟨fun b hb => by simp at hb; simp [hb], fun i h h' st k => ⟨k I (by simp) _ st.1, st.2.at fun o e => k S (by simp) o e⟩, fun i s Q E hi st hQ => ?_, fun s Q E st hQ => ?_, fun i s Q E st hQ => ?_⟩
  · have eo : os[i]? = some os[i] := Array.getElem?_eq_getElem (by omega)
    refine next_slot hh st.1 st.2 (fun z => by rw [hb] at z; cases z) (some (os[i].2, 0)) (fun _ => by rw [← hos, eo]; rfl) (fun z => by rw [hb] at z; cases z) (fun x nx h' er e k => ?_) (fun h' er _ => nomatch er)
    cases er
    refine hQ _ h' s.toks (by simp [show i < os.size by omega]) ⟨e, st.2.at fun o e => k S o hne e⟩ fun b o hb' e => k b o (fun z => hb' (by simp [z])) e
  · have eo : os[es.size]? = none := Array.getElem?_eq_none (by omega)
    refine next_slot hh st.1 st.2 (fun z => by rw [hb] at z; cases z) none (fun _ => by rw [← hos, eo]; rfl) (fun z => by rw [hb] at z; cases z) (fun x nx h' er _ _ => nomatch er) (fun h' _ k => ?_)
    exact hQ h' s.toks fun b o hb' e => k b o (fun z => hb' (by simp [z])) e
  · exact it_self st.1 hQ
theorem walk_plain (hh : A.handled = none) (hb : byText w = false) (hd : (!t.plain && decide (es.size > 1)) = false) (hne : S ≠ I) (hT : SetT w s.heap S vals es ep t) :
    Walks prog w A I [I, S] [I] es.size (fun i v => (es.toList.map (fun e : Int × Value => e.2))[i]? = some v) (fun i h => (∃ slot : Nat, SetTable.below t.place slot = i ∧ h.get? I = some (itObj (rawInt (slot : Int)) i S es.size ep)) ∧ SetT w h S vals es ep t) := by
  have psz : t.place.size = es.size := by
    have := hT.fits
    unfold SetTable.fits at this
    rw [Bool.and_eq_true] at this
    exact eq_of_beq this.1
  have up := hT.tb.up
  have nxt : ∀ i, (hi : i < es.size) → SetTable.below t.place (t.place[i]'(by omega) + 1) = i + 1 := fun i hi => by
    obtain ⟨b1, b2, b3⟩ := below_spec (t.place[i]'(by omega) + 1) up
    have gD : ∀ j, (hj : j < t.place.size) → t.place.getD j 0 = t.place[j] := fun j hj => by simp [Array.getD, hj]
    have mono : ∀ a b, a < b → (hb : b < t.place.size) → t.place.getD a 0 < t.place.getD b 0 := fun a b hab hb => by
      have := List.pairwise_iff_getElem.mp up a b (by simp; omega) (by simpa using hb) hab
      rw [gD a (by omega), gD b hb]
      simpa using this
    generalize SetTable.below t.place (t.place[i]'(by omega) + 1) = p at *
    have hge : i + 1 ≤ p := by
      refine Nat.le_of_not_lt fun hlt => ?_
      have := b2 i (by omega) (by omega)
      rw [gD i (by omega)] at this
      omega
    have hle : p ≤ i + 1 := by
      refine Nat.le_of_not_lt fun hlt => ?_
      have := b1 (i + 1) hlt
      have h2 := mono i (i + 1) (by omega) (by omega)
      rw [gD i (by omega)] at h2
      omega
    omega
  refine ⟨fun b hb => by simp at hb; simp [hb], fun i h h' st k => ⟨?_, st.2.at fun o e => k S (by simp) o e⟩, fun i s Q E hi st hQ => ?_, fun s Q E st hQ => ?_, fun i s Q E st hQ => ?_⟩
  · obtain ⟨slot, e1, e2⟩ := st.1
    exact ⟨slot, e1, k I (by simp) _ e2⟩
  · obtain ⟨⟨slot, e1, e2⟩, T⟩ := st
    have eo : es[i]? = some es[i] := Array.getElem?_eq_getElem hi
    have ep' : t.place[i]? = some (t.place[i]'(by omega)) := Array.getElem?_eq_getElem (by omega)
    refine next_slot hh e2 T (fun _ => hd) (some (es[i].2, t.place[i]'(by omega) + 1)) (fun z => by rw [hb] at z; cases z) (fun _ => by rw [e1, eo, ep']) (fun x nx h' er e k => ?_) (fun h' er _ => nomatch er)
    cases er
    refine hQ _ h' s.toks (by simp [hi]) ⟨⟨_, nxt i hi, e⟩, T.at fun o e => k S o hne e⟩ fun b o hb' e => k b o (fun z => hb' (by simp [z])) e
  · obtain ⟨⟨slot, e1, e2⟩, T⟩ := st
    have eo : es[es.size]? = none := Array.getElem?_eq_none (Nat.le_refl _)
    refine next_slot hh e2 T (fun _ => hd) none (fun z => by rw [hb] at z; cases z) (fun _ => by rw [e1, eo]) (fun x nx h' er _ _ => nomatch er) (fun h' _ k => ?_)
    exact hQ h' s.toks fun b o hb' e => k b o (fun z => hb' (by simp [z])) e
  · obtain ⟨⟨slot, e1, e2⟩, T⟩ := st
    exact it_self e2 hQ
theorem walk_drawn {ps : List Nat} (hh : A.handled = none) (hne : S ≠ I) (hnt : Tp ≠ I) (hps : ps.Perm (List.range es.size)) :
    Walks prog w A I [I, S, Tp] [I] es.size (fun i v => (ps.map fun p => (es.toList.map (fun e : Int × Value => e.2)).getD p .none)[i]? = some v) (fun i h => h.get? I = some (itObj (.ref Tp) i S es.size ep) ∧ h.get? Tp = some (plObj ps) ∧ SetT w h S vals es ep t) := by
  have hlt : ∀ p ∈ ps, p < es.size := fun p hp => List.mem_range.mp (hps.mem_iff.mp hp)
  have hlen : ps.length = es.size := by have := hps.length_eq; simpa using this
  refine ⟨fun b hb => by simp at hb; simp [hb], fun i h h' st k => ⟨k I (by simp) _ st.1, k Tp (by simp) _ st.2.1, st.2.2.at fun o e => k S (by simp) o e⟩, fun i s Q E hi st hQ => ?_, fun s Q E st hQ => ?_, fun i s Q E st hQ => it_self st.1 hQ⟩
  · refine next_drawn hh st.1 st.2.1 st.2.2 hlt (fun p h' er e k => ?_) (fun h' er _ => ?_)
    · exact hQ _ h' s.toks (by rw [List.getElem?_map, er]; rfl) ⟨e, k Tp _ hnt st.2.1, st.2.2.at fun o e => k S o hne e⟩ fun b o hb' e => k b o (fun z => hb' (by simp [z])) e
    · rw [List.getElem?_eq_none_iff] at er
      omega
  · refine next_drawn hh st.1 st.2.1 st.2.2 hlt (fun p h' er _ _ => ?_) (fun h' er k => ?_)
    · have := (List.getElem?_eq_some_iff.mp er).1
      omega
    · exact hQ h' s.toks fun b o hb' e => k b o (fun z => hb' (by simp [z])) e
end
end Rg
set_option maxHeartbeats 8000000
namespace Rg
open PySem PyProof.Rows
section
variable {prog : Program} {w : World} {A : Around} {E : Value → Shared → Prop} {s : Shared} {S : Addr} {vals : List Int} {es : Array (Int × Value)} {ep : Nat} {t : SetTable}
theorem ask_text {Q : Bool → Shared → Prop} (q : Q (byText w) s) : wpAny (model prog w) A setsByText Q E s := by
  unfold setsByText
  exact wpAny_bind (wpAny_askSetting (wpAny_pure q))
theorem drawn_any {Q : Bool → Shared → Prop} (T : SetT w s.heap S vals es ep t) (q : Q (!byText w && (!t.plain && decide (es.size > 1))) s) : wpAny (model prog w) A (setDrawn S) Q E s := by
  unfold setDrawn
  refine wpAny_bind (wpAny_setState_of T.get rfl T.fits ?_)
  dsimp only
  exact wpAny_bind (ask_text (wpAny_pure q))
/-- the walk that a set's iterator gives -/
structure Way (prog : Program) (w : World) (es : Array (Int × Value)) (old : Heap) (S I : Addr) (h : Heap) : Prop where
  ex : ∃ (fp : List Addr) (vs : List Value) (St : Nat → Heap → Prop), Ord es vs ∧ (∀ A' : Around, A'.handled = none → Walks prog w A' I fp [I] es.size (fun i v => vs[i]? = some v) St) ∧ St 0 h ∧ (∀ b ∈ fp, b < h.objs.size) ∧ I ∈ fp ∧ ∀ b ∈ fp, b = S ∨ old.get? b = none
theorem iter_set {Q : Value → Shared → Prop} (T : SetT w s.heap S vals es ep t) (h : ∀ I d h', Way prog w es s.heap S I h' → s.heap.get? I = none → (∀ b o, s.heap.get? b = some o → h'.get? b = some o) → Q (.ref I) { s with heap := h', drawn := d }) :
    wpAny (model prog w) A (pyIter (.ref S)) Q E s := by
  have ty : s.TypeIs (.ref S) "set" := ⟨_, T.get, rfl⟩
  have lt := Heap.lt_size T.get
  refine wpAny_pyIter_slot ty F.slot_set_iter (wpAny_call_entry F.slot_set_iter ty entry_sit ?_ (F.args_set_iter_1 _))
  unfold Builtin.«frozenset.__iter__»
  refine wpAny_bind (wpAny_of_eq (a := S) rfl ?_)
  unfold Builtin.Frozenset.sizeOf
  refine wpAny_bind (wpAny_bind (wpAny_setEntries_of T.get rfl T.fits (wpAny_pure ?_)))
  refine wpAny_bind (drawn_any T ?_)
  dsimp only
  have fin : ∀ (first : Value) (s1 : Shared) (I : Addr), I = s1.heap.objs.size → SetT w s1.heap S vals es ep t → (Q (.ref I) { s1 with heap := s1.heap.push (itObj first 0 S es.size ep) }) →
      wpAny (model prog w) A.in1 (do
        let e ← setEpoch S
        let r ← newFields "set_iterator" [first, rawInt 0, Value.ref S, rawInt es.size, rawInt e]
        ret r) (fun fin s' => ∃ v, fin = Fin.done (Flow.ret v) ∧ ∃ T' r, s'.TypeIs v T' ∧ typeLookup (Value.type T') (Str.ofString "__next__") = pure (some r) ∧ Q v s') E s1 := fun first s1 I eI T1 q => by
    refine wpAny_bind (wpAny_setEpoch_of T1.get rfl T1.fits ?_)
    unfold newFields
    refine wpAny_bind (wpAny_newObj_type ?_ (by size_fits))
    subst eI
    exact wpAny_pure ⟨_, rfl, "set_iterator", _, ⟨_, Heap.get?_push_size _ rfl, rfl⟩, slot_si.lookup, q⟩
  by_cases hb : (!byText w && (!t.plain && decide (es.size > 1))) = true
  · rw [if_pos hb]
    refine wpAny_bind (draw_any es.size (List.range es.size) s _ (by simp) fun ps d pp => ?_)
    refine wpAny_bind ?_
    unfold newTuple
    have plen : ps.length = es.size := by have := pp.length_eq; simpa using this
    refine wpAny_newObj_type ?_ (by
      show ((ps.map fun i : Nat => rawInt (i : Int)).toArray).size ≤ sizeLine
      have := fits_of_scanBound T.few
      simp; omega)
    have T1 : SetT w (s.heap.push (plObj ps)) S vals es ep t := T.at fun o e => Heap.get?_push_of_some _ e
    have sz1 : (s.heap.push (plObj ps)).objs.size = s.heap.objs.size + 1 := Heap.size_push _ _
    refine fin _ { s with heap := s.heap.push (plObj ps), drawn := d } (s.heap.objs.size + 1) sz1.symm T1 ?_
    have g1 : ((s.heap.push (plObj ps)).push (itObj (.ref s.heap.objs.size) 0 S es.size ep)).get? (s.heap.objs.size + 1) = some (itObj (.ref s.heap.objs.size) 0 S es.size ep) := by rw [← sz1]; exact Heap.get?_push_size _ rfl
    have g2 : ((s.heap.push (plObj ps)).push (itObj (.ref s.heap.objs.size) 0 S es.size ep)).get? s.heap.objs.size = some (plObj ps) := Heap.get?_push_of_some _ (Heap.get?_push_size _ rfl)
    have T2 : SetT w ((s.heap.push (plObj ps)).push (itObj (.ref s.heap.objs.size) 0 S es.size ep)) S vals es ep t := T1.at fun o e => Heap.get?_push_of_some _ e
    refine h _ d _ ⟨[s.heap.objs.size + 1, S, s.heap.objs.size], _, _, ?_, fun A' hA => walk_drawn (vals := vals) (ep := ep) (t := t) hA (Nat.ne_of_lt (Nat.lt_succ_of_lt lt)) (Nat.ne_of_lt (Nat.lt_succ_self _)) pp, ⟨g1, g2, T2⟩, fun b hb' => ?_, by simp, fun b hb' => ?_⟩ (Heap.get?_none_of_le (Nat.le_succ _)) fun b o e => Heap.get?_push_of_some _ (Heap.get?_push_of_some _ e)
    · unfold Ord
      refine (pp.map _).trans ?_
      have e2 : (List.range es.size).map (fun p => (es.toList.map (fun e : Int × Value => e.2)).getD p .none) = es.toList.map (fun e : Int × Value => e.2) := by
        apply List.ext_getElem?
        intro i
        rw [List.getElem?_map]
        by_cases hi : i < es.size
        · rw [List.getElem?_range hi]; simp [List.getD_eq_getElem?_getD, hi]
        · rw [List.getElem?_eq_none (by simpa using hi), List.getElem?_eq_none (by simpa using hi)]; rfl
      rw [e2]
    · rw [Heap.size_push, sz1]
      have hb2 : b = s.heap.objs.size + 1 ∨ b = S ∨ b = s.heap.objs.size := by simpa using hb'
      rcases hb2 with z | z | z
      · rw [z]; exact Nat.lt_succ_self _
      · rw [z]; exact Nat.lt_succ_of_lt (Nat.lt_succ_of_lt lt)
      · rw [z]; exact Nat.lt_succ_of_lt (Nat.lt_succ_self _)
    · have hb2 : b = s.heap.objs.size + 1 ∨ b = S ∨ b = s.heap.objs.size := by simpa using hb'
      rcases hb2 with z | z | z
      · exact .inr (by rw [z]; exact Heap.get?_none_of_le (Nat.le_succ _))
      · exact .inl z
      · exact .inr (by rw [z]; exact Heap.get?_none_of_le (Nat.le_refl _))
  · rw [if_neg hb]
    refine wpAny_bind (wpAny_pure ?_)
    have T2 : SetT w (s.heap.push (itObj (rawInt 0) 0 S es.size ep)) S vals es ep t := T.at fun o e => Heap.get?_push_of_some _ e
    have g1 : (s.heap.push (itObj (rawInt 0) 0 S es.size ep)).get? s.heap.objs.size = some (itObj (rawInt 0) 0 S es.size ep) := Heap.get?_push_size _ rfl
    refine fin _ s s.heap.objs.size rfl T ?_
    have lt' : ∀ b ∈ [s.heap.objs.size, S], b < (s.heap.push (itObj (rawInt 0) 0 S es.size ep)).objs.size := fun b hb' => by
      rw [Heap.size_push]
      have hb2 : b = s.heap.objs.size ∨ b = S := by simpa using hb'
      rcases hb2 with z | z
      · rw [z]; exact Nat.lt_succ_self _
      · rw [z]; exact Nat.lt_succ_of_lt lt
    have old' : ∀ b ∈ [s.heap.objs.size, S], b = S ∨ s.heap.get? b = none := fun b hb' => by
      have hb2 : b = s.heap.objs.size ∨ b = S := by simpa using hb'
      rcases hb2 with z | z
      · exact .inr (by rw [z]; exact Heap.get?_none_of_le (Nat.le_refl _))
      · exact .inl z
    refine h _ s.drawn _ ?_ (Heap.get?_none_of_le (Nat.le_refl _)) fun b o e => Heap.get?_push_of_some _ e
    cases ht : byText w with
    | true =>
      exact ⟨[s.heap.objs.size, S], _, _, text_ord (w := w) (S := S) (ep := ep), fun A' hA => walk_text (vals := vals) (t := t) hA ht (Nat.ne_of_lt lt), ⟨g1, T2⟩, lt', by simp, old'⟩
    | false =>
      have hd : (!t.plain && decide (es.size > 1)) = false := by
        rw [ht] at hb
        simpa using hb
      refine ⟨[s.heap.objs.size, S], _, _, List.Perm.refl _, fun A' hA => walk_plain (vals := vals) (ep := ep) (t := t) (s := s) hA ht hd (Nat.ne_of_lt lt) T, ⟨⟨0, ?_, g1⟩, T2⟩, lt', by simp, old'⟩
      obtain ⟨b1, b2, b3⟩ := below_spec 0 T.tb.up
      refine Nat.eq_zero_of_not_pos fun hp => ?_
      have := b1 0 hp
      omega
end
end Rg
set_option maxHeartbeats 8000000
namespace Rg
open PySem PyProof.Rows
section
variable {prog : Program} {w : World} {A : Around} {E : Value → Shared → Prop} {s : Shared} {S : Addr} {vals : List Int} {es : Array (Int × Value)} {ep : Nat} {t : SetTable}
theorem hint_set {Q : Bool → Shared → Prop} (T : SetT w s.heap S vals es ep t) (q : Q false s) : wpAny (model prog w) A (Builtin.List.listLengthHint (.ref S)) Q E s := by
  have ty : s.TypeIs (.ref S) "set" := ⟨_, T.get, rfl⟩
  have sp : splitId "set.__len__" = some ("set", "__len__") := by decide +kernel
  unfold Builtin.List.listLengthHint
  refine wpAny_bind (wpAny_specialOf ty F.slot_set_len.lookup ?_)
  simp only [sp]
  refine wpAny_bind (wpAny_isInstance ty sub_set_self ?_)
  rw [if_neg (by decide)]
  rw [if_pos (by decide +kernel)]
  refine wpAny_bind (wpAny_typeOf ty ?_)
  exact wpAny_pure q
theorem collect_set {Q : List Value → Shared → Prop} (hh : A.handled = none) (T : SetT w s.heap S vals es ep t) (h : ∀ vs h' tk d, Ord es vs → (∀ b o, s.heap.get? b = some o → h'.get? b = some o) → s.heap.objs.size ≤ h'.objs.size → Q vs { s with heap := h', toks := tk, drawn := d }) :
    wpAny (model prog w) A (collect (.ref S)) Q E s := by
  have lt := Heap.lt_size T.get
  have ne : s.heap.objs.size ≠ S := Nat.ne_of_gt lt
  obtain ⟨L, hL⟩ : ∃ L, L = s.heap.objs.size := ⟨_, rfl⟩
  unfold collect
  refine wpAny_bind (wpAny_runValue (codeAny_builtin F.entry_proto_collect ?_))
  rw [Around.under_plainId F.plain_proto_collect _]
  show wpAny _ A.in1 (newList [] >>= fun l => again (.builtin "list.__iadd__" ⟨[l, .ref S], []⟩)) _ _ s
  refine wpAny_bind (wpAny_newObj_type (wpAny_pure ⟨plainId_quiet F.plain_list_iadd _, codeAny_builtin F.entry_list_iadd ?_⟩))
  rw [Around.under_plainId F.plain_list_iadd _]
  obtain ⟨s1, hs1⟩ : ∃ s1 : Shared, s1 = { s with heap := s.heap.push { cls := .type "list", data := .seq ([] : List Value).toArray } } := ⟨_, rfl⟩
  have T1 : SetT w s1.heap S vals es ep t := by rw [hs1]; exact T.at fun o e => Heap.get?_push_of_some _ e
  have gL : s1.heap.get? L = some { cls := .type "list", data := .seq ([] : List Value).toArray } := by rw [hs1, hL]; exact Heap.get?_push_size _ rfl
  have k1 : ∀ b o, s.heap.get? b = some o → s1.heap.get? b = some o := fun b o e => by rw [hs1]; exact Heap.get?_push_of_some _ e
  show wpAny _ A.in1 (Builtin.List.listExtendWith (.ref s.heap.objs.size) (.ref S) (.ref s.heap.objs.size)) _ _ { s with heap := s.heap.push { cls := .type "list", data := .seq ([] : List Value).toArray } }
  rw [← hs1, ← hL]
  have ty : s1.TypeIs (.ref S) "set" := ⟨_, T1.get, rfl⟩
  unfold Builtin.List.listExtendWith
  refine wpAny_bind (wpAny_typeOf ty ?_)
  have n1 : Builtin.List.listSameRef (.ref L) (.ref S) = false := by rw [hL]; simp [Builtin.List.listSameRef, ne]
  rw [if_neg (by rw [n1]; decide)]
  refine wpAny_bind (iter_set T1 fun I d h2 way nI k2 => ?_)
  have T2 : SetT w h2 S vals es ep t := T1.at fun o e => k2 S o e
  refine wpAny_bind (wpAny_holding (hint_set (s := { s1 with heap := h2, drawn := d }) T2 ?_))
  show wpAny _ A.in1 (rule "list.extend.makes-room" >>= fun _ => Builtin.List.listTouch (.ref L) >>= fun _ => again (.builtin "list.extend.loop" ⟨[.ref L, .ref I, .ref L], []⟩)) _ _ _
  refine wpAny_bind (wpAny_rule (wpAny_bind ?_))
  have g2 := k2 L _ gL
  show wpAny _ A.in1 (updateSeq L (·.push .none) >>= fun _ => updateSeq L (·.pop)) _ _ _
  refine wpAny_bind (wpAny_updateSeq g2 rfl ?_)
  have g3 := Heap.get?_update_self (Obj.mapSeq (·.push Value.none)) g2 rfl
  refine wpAny_updateSeq g3 rfl ?_
  have g4 := Heap.get?_update_self (Obj.mapSeq (·.pop)) g3 rfl
  obtain ⟨h4, hh4⟩ : ∃ h4, h4 = (h2.update L (Obj.mapSeq (·.push Value.none))).update L (Obj.mapSeq (·.pop)) := ⟨_, rfl⟩
  have k4 : ∀ b o, b ≠ L → h2.get? b = some o → h4.get? b = some o := fun b o hb e => by rw [hh4]; exact (Heap.get?_update_other _ _ (Ne.symm hb)).trans ((Heap.get?_update_other _ _ (Ne.symm hb)).trans e)
  obtain ⟨fp, vs, St, ho, W, st, fl, fI, fo⟩ := way.ex
  have Lf : L ∉ fp := fun hm => by
    rcases fo L hm with z | z
    · exact ne (hL ▸ z)
    · rw [gL] at z; cases z
  have WS := (W A.in1 hh).toS
  have vlen : vs.length = es.size := by have := ho.length_eq; simpa using this
  have st4 : St 0 h4 := (W A.in1 hh).frame 0 h2 h4 st fun b hb o e => k4 b o (fun z => Lf (z ▸ hb)) e
  have g5 : h4.get? L = some { cls := .type "list", dict := none, data := .seq #[] (0 + 1 + 1), slots := #[] } := by rw [hh4]; exact g4
  rw [← hh4]
  refine wpAny_pure ⟨plainId_quiet F.plain_extend_loop _, codeAny_extend_loopS WS (fits_of_scanBound T.few) L Lf (.ref L) es.size 0 _ #[] _ rfl (Nat.zero_le _) st4 g5 (ItemsOf.nil _) fun s' acc c' hm hS' hacc => ?_⟩
  show wpAny _ A (load L >>= _) _ _ s'
  refine wpAny_bind (wpAny_load hS' (wpAny_pure ?_))
  have ev : acc.toList = vs := by
    have hl : acc.toList.length = vs.length := by rw [vlen]; simpa using hacc.1
    apply List.ext_getElem?
    intro j
    by_cases hj : j < acc.size
    · have e1 : acc[j]? = some acc[j] := Array.getElem?_eq_getElem hj
      have e2 := hacc.2 j _ e1
      rw [Array.getElem?_toList, e1, e2]
    · rw [List.getElem?_eq_none (by simpa using hj), List.getElem?_eq_none (by rw [← hl]; simpa using hj)]
  have e3 : s' = { s with heap := s'.heap, toks := s'.toks, drawn := s'.drawn } := by
    obtain ⟨a1, a2, a3, a4, a5⟩ := s'
    have q1 := hm.gens
    have q2 := hm.os
    rw [hs1] at q1 q2
    dsimp only at q1 q2
    rw [q1, q2]
  show Q acc.toList s'
  rw [ev, e3]
  refine h vs _ _ _ ho (fun b o e => ?_) (by rw [← hL]; exact Nat.le_of_lt (Heap.lt_size hS'))
  have bL : b ≠ L := fun z => by rw [z, hL] at e; exact absurd (Heap.lt_size e) (Nat.lt_irrefl _)
  refine hm.heap b o (fun z => ?_) (k4 b o bL (k2 b o (k1 b o e)))
  have z2 : b = L ∨ b = I := by simpa using z
  rcases z2 with z | z
  · exact bL z
  · rw [z] at e
    have := k1 I o e
    rw [nI] at this
    cases this
theorem ord_ints {h : Heap} (T : SetT w h S vals es ep t) {vs : List Value} (ho : Ord es vs) : ∃ ns, IntsAre vs ns ∧ ns.Perm vals := by
  have h1 : ∀ v ∈ vs, ∃ k tk, v = Value.int k tk := fun v hv => by
    obtain ⟨e, he, rfl⟩ := List.mem_map.mp (ho.mem_iff.mp hv)
    obtain ⟨k, tk, rfl⟩ := T.els e he
    exact ⟨k, tk, rfl⟩
  have h2 : ∀ l : List Value, (∀ v ∈ l, ∃ k tk, v = Value.int k tk) → IntsAre l (l.map numOf) := fun l => by
    induction l with
    | nil => intro _; exact .nil
    | cons v r ih =>
      intro hv
      obtain ⟨k, tk, rfl⟩ := hv v List.mem_cons_self
      exact .cons k tk (ih fun x hx => hv x (List.mem_cons_of_mem _ hx))
  refine ⟨vs.map numOf, h2 vs h1, (ho.map _).trans ?_⟩
  rw [List.map_map]
  exact T.pm
theorem sorted_set {Q : Value → Shared → Prop} (hh : A.handled = none) (T : SetT w s.heap S vals es ep t) (h64 : vals.length < 64)
    (h : ∀ (r : Addr) (out : List Value) (ns : List Int) (c : Nat) (h' : Heap) (tk : Nat) (d : Drawn), IntsAre out ns → ns.Perm vals → ns.Pairwise (· ≤ ·) → s.heap.objs.size ≤ r → h'.get? r = some { cls := .type "list", data := .seq out.toArray c } → (∀ b o, s.heap.get? b = some o → h'.get? b = some o) → Q (.ref r) { s with heap := h', toks := tk, drawn := d }) :
    wpAny (model prog w) A (call (.builtin "sorted") [.ref S]) Q E s := by
  refine Calls.call_function_entry kind_sorted plain_sorted entry_sorted (args_sorted1 _) ?_
  unfold Builtin.«sorted»
  have hh1 : A.in1.handled = none := hh
  refine wpAny_bind (m := checkCount "sorted" 1 1 _) (wpAny_pure (wpAny_bind (collect_set hh1 T fun vs h1 tk d ho k1 le => ?_)))
  obtain ⟨ns, hi, hp⟩ := ord_ints T ho
  have hz : vs.length ≤ sizeLine := by
    have e1 := ho.length_eq
    have e2 := fits_of_scanBound T.few
    simp at e1
    omega
  refine wpAny_bind (wpAny_newList ?_ hz)
  have e2 : (h1.push (seqObj "list" vs.toArray 0)).get? h1.objs.size = some (seqObj "list" vs.toArray 0) := Heap.get?_push_size _ rfl
  refine wpAny_bind (wpAny_holding (wpAny_call_entry slot_list_sort ⟨_, e2, rfl⟩ entry_list_sort (sort_in_place e2 hi (by rw [hi.length, hp.length_eq]; exact h64) fun out ns' a1 a2 a3 => ⟨_, rfl, ?_⟩) (args_list_sort _)))
  refine wpAny_pure ⟨_, rfl, ?_⟩
  obtain ⟨c, hc⟩ := sortedHeap_at (out := out) (vs := vs) e2
  refine h h1.objs.size out.toList ns' c _ tk d a1 (a2.trans hp) a3 le ?_ fun b o e => ?_
  · rw [show out.toList.toArray = out by simp]; exact hc
  · have lt := Heap.lt_size (k1 b o e)
    rw [sortedHeap_old (Nat.ne_of_lt lt) (by rw [Heap.size_push]; exact Nat.lt_succ_of_lt lt)]
    exact Heap.get?_push_of_some _ (k1 b o e)
end
end Rg
namespace L2
open PySem PySem.Spec PyProof.Rows
/-! ### sets of ints, made and sorted -/
def setO (w : World) (a : Addr) (vals : List Int) : HO := .ext fun h => ∃ es ep t, Rg.SetT w h a vals es ep t
theorem setO_ok {P : Program} {w : World} {H : Hp} {h : Heap} {a : Addr} {vals : List Int} {es : Array (Int × Value)} {ep : Nat} {t : SetTable} (T : Rg.SetT w h a vals es ep t) : ObjOk P w H h a (setO w a vals) :=
  ⟨⟨es, ep, t, T⟩, ⟨_, T.get⟩, fun h1 h2 ⟨es, ep, t, T'⟩ k => ⟨es, ep, t, T'.at k⟩⟩
section
variable {X : Cx}
def rSetOf (w : World) (K : PySem.W.Frag) : List V → Hp → VK → Prop := fun xs H Q => ∃ (p : Addr) (ns : List Int), xs = [.ref p] ∧ SqL K H p (ns.map V.int) ∧ ns.length ≤ 4000 ∧ ∀ S, H S = none → Q (.ref S) (upd H S (setO w S (Rg.dds [] ns)))
theorem call_set_of (hc : X.calm = true) : CallR X (.type "set") (rSetOf X.w X.K) := by
  intro pins s σ H xs us Q I r h
  obtain ⟨p, ns, rfl, hp, hl, q⟩ := h
  obtain ⟨u, rfl, ru⟩ := r.one
  cases (show u = Value.ref p from ru)
  obtain ⟨its, rv, pl, hz⟩ := I.list hp
  have hi := ints_vals rv
  have hlen : its.length = ns.length := hi.length
  refine Rg.set_call (I.ok.hd hc) pl.isList (by simpa using hi) (by simp [hlen, scanBound]; omega) fun h' tk es ep t T k => ?_
  have fr : H s.heap.objs.size = none := I.hok.fresh (Nat.le_refl _)
  exact ⟨.ref s.heap.objs.size, _, I.laid (t' := tk) (o := setO X.w s.heap.objs.size (Rg.dds [] ns)) k (Nat.le_refl _) (setO_ok T), rfl, q _ fr⟩
def rSrtSet (w : World) : List V → Hp → VK → Prop := fun xs H Q => ∃ (S : Addr) (vals : List Int), xs = [.ref S] ∧ H S = some (setO w S vals) ∧ vals.length < 64 ∧ ∀ l, H l = none → Q (.ref l) (upd H l (.lst ((Rg.srt vals).map V.int)))
theorem call_srt_set (hc : X.calm = true) : CallR X (.builtin "sorted") (rSrtSet X.w) := by
  intro pins s σ H xs us Q I r h
  obtain ⟨S, vals, rfl, hS, h64, q⟩ := h
  obtain ⟨u, rfl, ru⟩ := r.one
  cases (show u = Value.ref S from ru)
  obtain ⟨⟨es, ep, t, T⟩, _⟩ := I.hok S _ hS
  refine Rg.sorted_set (I.ok.hd hc) T h64 fun l out ns c h' tk d a1 a2 a3 le g k => ?_
  have fr : H l = none := I.hok.fresh le
  have e3 : ns = Rg.srt vals := Rg.srt_unique a2 a3
  have hz : (ns.map V.int).length ≤ sizeLine := by
    rw [List.length_map, a2.length_eq, ← T.size]
    exact fits_of_scanBound T.few
  have new : ObjOk X.prog X.w (upd H l (.lst (ns.map V.int))) h' l (.lst (ns.map V.int)) := ⟨hz, out, c, vals_ints a1, g⟩
  refine ⟨.ref l, _, I.call' (s' := { s with heap := h', toks := tk, drawn := d }) (ch := []) rfl (Un.laid k le fr) (I.hok.laid k le new) I.bare (fun b z => absurd z (by simp)), rfl, ?_⟩
  rw [e3]
  exact q _ fr
end
end L2
namespace Rg
open PySem
section
variable {prog : Program} {w : World} {A : Around} {E : Value → Shared → Prop} {s : Shared} {I l S : Addr} {items : Array Value}
end
end Rg
namespace L2
open PySem PySem.Spec PyProof.Rows
section
variable {X : Cx}
end
end L2
namespace Rg
/-! ### rising lists -/
theorem rise_of_adj : ∀ {l : List Int}, (∀ i, i + 1 < l.length → l.getD i 0 < l.getD (i + 1) 0) → l.Pairwise (· < ·)
  | [], _ => .nil
  | [a], _ => List.pairwise_singleton _ _
  | a :: b :: r, h => by
    have ih : (b :: r).Pairwise (· < ·) := rise_of_adj fun i hi => by
      have := h (i + 1) (by simp at hi ⊢; omega)
      simpa using this
    have h0 : a < b := by
      have := h 0 (by simp)
      simpa using this
    refine List.pairwise_cons.mpr ⟨fun x hx => ?_, ih⟩
    rcases List.mem_cons.mp hx with z | z
    · omega
    · have := (List.pairwise_cons.mp ih).1 x z
      omega
theorem rise_le {l : List Int} (h : l.Pairwise (· < ·)) : l.Pairwise (· ≤ ·) := h.imp fun h => by omega
theorem rise_nodup {l : List Int} (h : l.Pairwise (· < ·)) : l.Nodup := h.imp fun h => by omega
theorem dds_id : ∀ (l acc : List Int), l.Nodup → (∀ x ∈ l, ¬ x ∈ acc) → dds acc l = acc ++ l
  | [], acc, _, _ => by simp [dds]
  | x :: r, acc, hn, hd => by
    rw [List.nodup_cons] at hn
    rw [dds, if_neg (hd x List.mem_cons_self), dds_id r _ hn.2 (fun y hy hm => ?_)]
    · simp
    · rcases List.mem_append.mp hm with z | z
      · exact hd y (List.mem_cons_of_mem _ hy) z
      · have : y = x := by simpa using z
        subst this
        exact hn.1 hy
theorem rise_set {l : List Int} : l = srt (dds [] l) ↔ l.Pairwise (· < ·) := by
  constructor
  · intro e
    have h1 : l.Pairwise (· ≤ ·) := by rw [e]; exact srt_sorted _
    have h2 : l.Nodup := by rw [e]; exact (srt_perm _).nodup_iff.mpr (dds_nodup l [] (by simp))
    have h3 := List.Pairwise.and h1 h2
    exact h3.imp fun ⟨a, b⟩ => by omega
  · intro h
    rw [dds_id l [] (rise_nodup h) (by simp), List.nil_append]
    exact (srt_of_sorted (rise_le h)).symm
/-- a rising list from nought: all between -/
theorem rise_between {l : List Int} (h : l.Pairwise (· < ·)) (h0 : l.getD 0 0 = 0) : ∀ p ∈ l, 0 ≤ p ∧ p ≤ l.getD (l.length - 1) 0 := fun p hp => by
  obtain ⟨i, hi, rfl⟩ := List.mem_iff_getElem.mp hp
  have g : ∀ j (hj : j < l.length), l.getD j 0 = l[j] := fun j hj => by simp [List.getD_eq_getElem?_getD, hj]
  constructor
  · rcases Nat.eq_zero_or_pos i with z | z
    · subst z; rw [← g 0 hi, h0]; exact Int.le_refl _
    · have := List.pairwise_iff_getElem.mp h 0 i (by omega) hi z
      rw [← g 0 (by omega), h0] at this
      omega
  · rw [g (l.length - 1) (by omega)]
    rcases Nat.lt_or_ge i (l.length - 1) with z | z
    · have := List.pairwise_iff_getElem.mp h i (l.length - 1) hi (by omega) z
      omega
    · have : i = l.length - 1 := by omega
      subst this
      exact Int.le_refl _
end Rg
namespace L2
open PySem PySem.Spec PyProof.Rows
section
variable {X : Cx}
end
end L2
namespace Rg
end Rg
/-! max(xs, default=d), min(xs, default=d) of a list of ints: the greatest, the least, or d. -/
namespace L2
open PySem PySem.Spec PyProof.Rows
section
variable {prog : Program} {w : World} {A : Around} {R : Result → Shared → Prop} {I : Addr} {fp wr : List Addr} {n : Nat} {P : Nat → Value → Prop} {St : Nat → Heap → Prop}
theorem maxLoop {d : Value} (W : Walks prog w A.in1 I fp wr n P St) (hint : ∀ i v, P i v → ∃ z t, v = .int z t) (hfun : ∀ i v v', P i v → P i v' → v = v') (S : Addr) (hSf : S ∉ fp) :
    ∀ (k j : Nat) (s : Shared) (old : List Value) (c : Nat), n - j = k → j ≤ n → St j s.heap → ((old = [] ∧ j = 0) ∨ ∃ v i, old = [v, v] ∧ P i v ∧ ∀ i' z' t', i' < j → P i' (.int z' t') → ∀ z t, v = .int z t → z' ≤ z) →
    s.heap.get? S = some { cls := .type "list", dict := none, data := .seq old.toArray c, slots := #[] } →
    (∀ v h' tk, ((v = d ∧ n = 0) ∨ ∃ i, P i v ∧ ∀ i' z' t', i' < n → P i' (.int z' t') → ∀ z t, v = .int z t → z' ≤ z) → (∀ b o, b ∉ wr → b ≠ S → s.heap.get? b = some o → h'.get? b = some o) → R (.ok (.ret v)) { s with heap := h', toks := tk }) →
    codeAny (model prog w) A (.builtin "max.loop" ⟨[.ref I, .none, .ref S], [("default", d)]⟩) R s := by
  have hSw : S ∉ wr := fun h => hSf (W.sub _ h)
  have hname : (toString "max" ++ toString ".loop" : String) = "max.loop" := by decide
  intro k
  induction k with
  | zero =>
    intro j s old c hk hj hst ho hS hR
    have hin : j = n := by omega
    refine codeAny_builtin F.entry_max_loop ?_
    rw [Around.under_plainId F.plain_max_loop _]
    show wpAny _ A.in1 (seqItems? (.ref S) >>= _) _ _ s
    refine wpAny_bind (wpAny_seqItems hS rfl ?_)
    show wpAny _ A.in1 (tryCatch (pyNext (.ref I)) _ >>= _) _ _ s
    refine wpAny_bind (wpAny_tryCatch (W.done s _ _ (hin ▸ hst) fun h' tk hk' => ?_))
    have hS' := hk' S _ hSw hS
    rcases ho with ⟨e1, e2⟩ | ⟨v, i, e1, hv, hm⟩
    · subst e1
      refine wpAny_bind (wpAny_rule (wpAny_pure ?_))
      exact hR d h' tk (.inl ⟨rfl, by omega⟩) fun b o hb _ e => hk' b o hb e
    · subst e1
      show wpAny _ A.in1 (updateSeq S (fun _ => #[]) >>= _) _ _ _
      refine wpAny_bind (wpAny_updateSeq hS' rfl (wpAny_bind (wpAny_letGo (wpAny_pure ?_))))
      exact hR v _ tk (.inr ⟨i, hv, fun i' z' t' hi' => hm i' z' t' (by omega)⟩) fun b o hbw hbS e => (Heap.get?_update_other _ _ (Ne.symm hbS)).trans (hk' b o hbw e)
  | succ k ih =>
    intro j s old c hk hj hst ho hS hR
    refine codeAny_builtin F.entry_max_loop ?_
    rw [Around.under_plainId F.plain_max_loop _]
    show wpAny _ A.in1 (seqItems? (.ref S) >>= _) _ _ s
    refine wpAny_bind (wpAny_seqItems hS rfl ?_)
    show wpAny _ A.in1 (tryCatch (pyNext (.ref I)) _ >>= _) _ _ s
    refine wpAny_bind (wpAny_tryCatch (W.item j s _ _ (by omega) hst fun v h' tk hP hst' hk' => ?_))
    have hS' := hk' S _ hSw hS
    have other : ∀ (xs : Array Value) b o, b ≠ S → h'.get? b = some o → (h'.update S (Obj.mapSeq fun _ => xs)).get? b = some o := fun xs b o hb e => (Heap.get?_update_other _ _ (Ne.symm hb)).trans e
    rcases ho with ⟨e1, e2⟩ | ⟨vb, i, e1, hv, hm⟩
    · subst e1
      show wpAny _ A.in1 (updateSeq S (fun _ => #[v, v]) >>= _) _ _ _
      refine wpAny_bind (wpAny_updateSeq hS' rfl ?_)
      rw [hname]
      refine wpAny_pure ⟨plainId_quiet F.plain_max_loop _, ih (j + 1) _ [v, v] _ (by omega) (by omega) (W.frame _ _ _ hst' fun b hbf o e => other _ b o (fun z => hSf (z ▸ hbf)) e) (.inr ⟨v, j, rfl, hP, fun i' z' t' hi' hp' z t e => by
        have : i' = j := by omega
        subst this
        have := hfun i' _ _ hp' hP
        rw [e] at this
        cases this
        exact Int.le_refl _⟩) (Heap.get?_update_self _ hS' rfl) fun v' h'' tk'' hP' hk'' => ?_⟩
      exact hR v' h'' tk'' hP' fun b o hbw hbS e => hk'' b o hbw hbS (other _ b o hbS (hk' b o hbw e))
    · subst e1
      obtain ⟨z, t, rfl⟩ := hint j v hP
      obtain ⟨zb, tb, rfl⟩ := hint i vb hv
      show wpAny _ A.in1 (tryCatch (holding [Value.int z t, Value.int z t] (richCompare .Gt (Value.int z t) (Value.int zb tb) >>= _)) _ >>= _) _ _ _
      refine wpAny_bind (wpAny_tryCatch (wpAny_holding (wpAny_bind (gt_int ?_))))
      refine wpAny_bind (wpAny_holding (wpAny_truthy_bool ?_))
      refine wpAny_bind (wpAny_letGo (wpAny_pure ?_))
      cases hb : decide (zb < z) with
      | true =>
        refine wpAny_bind (wpAny_updateSeq hS' rfl (wpAny_bind (wpAny_letGo ?_)))
        rw [hname]
        refine wpAny_pure ⟨plainId_quiet F.plain_max_loop _, ih (j + 1) _ [.int z t, .int z t] _ (by omega) (by omega) (W.frame _ _ _ hst' fun b hbf o e => other _ b o (fun z => hSf (z ▸ hbf)) e) (.inr ⟨_, j, rfl, hP, fun i' z' t' hi' hp' z2 t2 e => by
          cases e
          have hb' := of_decide_eq_true hb
          by_cases c : i' = j
          · subst c
            have := hfun i' _ _ hp' hP
            cases this
            exact Int.le_refl _
          · have := hm i' z' t' (by omega) hp' zb tb rfl
            omega⟩) (Heap.get?_update_self _ hS' rfl) fun v' h'' tk'' hP' hk'' => ?_⟩
        exact hR v' h'' tk'' hP' fun b o hbw hbS e => hk'' b o hbw hbS (other _ b o hbS (hk' b o hbw e))
      | false =>
        refine wpAny_bind (wpAny_letGo ?_)
        rw [hname]
        refine wpAny_pure ⟨plainId_quiet F.plain_max_loop _, ih (j + 1) _ [.int zb tb, .int zb tb] c (by omega) (by omega) hst' (.inr ⟨_, i, rfl, hv, fun i' z' t' hi' hp' z2 t2 e => by
          cases e
          have hb' := of_decide_eq_false hb
          by_cases c : i' = j
          · subst c
            have := hfun i' _ _ hp' hP
            cases this
            omega
          · exact hm i' z' t' (by omega) hp' zb tb rfl⟩) hS' fun v' h'' tk'' hP' hk'' => ?_⟩
        exact hR v' h'' tk'' hP' fun b o hbw hbS e => hk'' b o hbw hbS (hk' b o hbw e)
end
theorem argsMaxD (a d : Value) : argsOk "max" ⟨[a], [("default", d)]⟩ := by unfold argsOk; kernel_rfl
section
variable {X : Cx} {p pos kpos : Pos} {e d : Expr} {ta tk : TA}
def tMaxE (K : PySem.W.Frag) (ta tk : TA) : TE := fun σ H Q => ta σ H fun vs H1 => tk σ H1 fun zs H2 => ∃ (l : Addr) (ns : List Int) (z : Int), vs = [.ref l] ∧ zs = [.int z] ∧ SqL K H2 l (ns.map V.int) ∧ ∀ m : Int, (m = z ∧ ns = []) ∨ (m ∈ ns ∧ ∀ x ∈ ns, x ≤ m) → Q (.int m) H2
theorem maxRun {pins : List (Addr × Obj)} {σ : St} {H : Hp} {s : Shared} {l : Addr} {ns : List Int} {z : Int} {t : Tok} {Q : VK} (hc : X.calm = true) (I : Inv X pins σ H s) (hl : SqL X.K H l (ns.map V.int)) (q : ∀ m : Int, (m = z ∧ ns = []) ∨ (m ∈ ns ∧ ∀ x ∈ ns, x ≤ m) → Q (.int m) H) :
    wpAny (model X.prog X.w) X.A (call (.builtin "max") [.ref l] [("default", .int z t)]) (EP X pins σ Q) X.xe s := by
  have hname : (toString "max" ++ toString ".loop" : String) = "max.loop" := by decide
  obtain ⟨its, rv, pl, hz⟩ := I.list hl
  have hi := ints_vals rv
  refine wpAny_call (codeAny_call_builtin F.plain_max F.entry_max ?_)
  simp only [checkBuiltinCall, F.kind_max]
  have body : wpAny (model X.prog X.w) X.A.in1 (Builtin.«max» ⟨[.ref l], [("default", .int z t)]⟩) (fun fin s' => match fin with
      | .done f => (match (Except.ok f : Result) with | .ok (.ret v) => EP X pins σ Q v s' | .ok _ => False | .error e => X.xe e s')
      | .again c' => c'.quiet = true ∧ codeAny (model X.prog X.w) X.A c' (fun r s' => match r with | .ok (.ret v) => EP X pins σ Q v s' | .ok _ => False | .error e => X.xe e s') s') X.xe s := by
    show wpAny _ X.A.in1 (Builtin.Builtins.bindParams "max" ["key", "default"] 0 ⟨[], [("default", .int z t)]⟩ >>= _) _ _ s
    refine wpAny_bind (wpAny_of_eq (show Builtin.Builtins.bindParams "max" ["key", "default"] 0 ⟨[], [("default", .int z t)]⟩ = pure [none, some (.int z t)] from rfl) ?_)
    refine wpAny_bind (wpAny_pure (wpAny_bind (wpAny_pyIter_list pl.isList ?_)))
    have hne : l ≠ s.heap.objs.size := by
      obtain ⟨o, n, e, _⟩ := pl
      exact Nat.ne_of_lt (Heap.lt_size e)
    refine wpAny_bind (wpAny_newObj_type ?_)
    rw [hname]
    have W := Walks.list (prog := X.prog) (w := X.w) (A := X.A.in1) (show X.A.in1.handled = none from I.ok.hd hc) s.heap.objs.size l hne its.toArray
    refine wpAny_pure ⟨plainId_quiet F.plain_max_loop _, maxLoop (d := .int z t) W (fun i v hv => ?_) (fun i v v' h1 h2 => Option.some.inj (h1.symm.trans h2)) _ ?_ _ 0 _ [] 0 rfl (Nat.zero_le _) ⟨⟨_, Heap.get?_push_of_some _ (Heap.get?_push_size _ rfl), rfl, rfl⟩, ?_⟩ (.inl ⟨rfl, rfl⟩) (Heap.get?_push_size _ rfl) fun v h' tk hv hk => ?_⟩
    · obtain ⟨n, t', _, e⟩ := ints_at hi i v (by simpa using hv)
      exact ⟨n, t', e⟩
    · intro hm
      have hsz := Heap.size_push s.heap { cls := .type "list_iterator", data := .fields #[.ref l, .int 0 0] }
      have hm' : s.heap.objs.size + 1 ∈ [s.heap.objs.size, l] := by rw [← hsz]; exact hm
      rcases List.mem_cons.mp hm' with z' | z'
      · exact absurd z' (Nat.succ_ne_self _)
      · have z'' : s.heap.objs.size + 1 = l := by simpa using z'
        obtain ⟨o, n, e, _⟩ := pl
        have := Heap.lt_size e
        rw [← z''] at this
        exact absurd this (Nat.not_lt.mpr (Nat.le_succ _))
    · obtain ⟨o, n, e, c, dd, dt⟩ := pl
      exact ⟨o, Heap.get?_push_of_some _ (Heap.get?_push_of_some _ e), c, n, dt⟩
    · have I2 : Inv X pins σ H { s with heap := h', toks := tk } := I.kept (t' := tk) fun b o e => hk b o (by simp; exact Nat.ne_of_lt (Heap.lt_size e)) (Nat.ne_of_lt (Nat.lt_of_lt_of_le (Heap.lt_size e) (by rw [Heap.size_push]; exact Nat.le_succ _))) (Heap.get?_push_of_some _ (Heap.get?_push_of_some _ e))
      rcases hv with ⟨e1, e2⟩ | ⟨i, hv, hmx⟩
      · subst e1
        refine ⟨.int z, H, I2, ⟨t, rfl⟩, q z (.inl ⟨rfl, ?_⟩)⟩
        have e3 : its.length = 0 := by simpa using e2
        have := hi.length
        exact List.length_eq_zero_iff.mp (by omega)
      · obtain ⟨m, t', h1, e⟩ := ints_at hi i v (by simpa using hv)
        subst e
        refine ⟨.int m, H, I2, ⟨t', rfl⟩, q m (.inr ⟨List.mem_of_getElem? h1, fun x hx => ?_⟩)⟩
        obtain ⟨i', hi', ex⟩ := List.getElem_of_mem hx
        have hl' := hi.length
        have hi2 : i' < its.length := by omega
        obtain ⟨x', t2, h2, e2⟩ := ints_at hi i' its[i'] (by simp)
        have : x' = x := by rw [List.getElem?_eq_getElem hi'] at h2; rw [← ex]; exact (Option.some.inj h2).symm
        subst this
        exact hmx i' x' t2 (by simpa using hi2) (by show its.toArray[i']? = _; rw [← e2]; simp) m t' rfl
  cases hsig : Manifest.signature? "max" with
  | none => exact wpAny_pure body
  | some sig =>
    have ha' : Bind.checkArgs "max" sig ⟨[.ref l], [("default", .int z t)]⟩ = pure () := by simpa only [argsOk, hsig] using argsMaxD (.ref l) (.int z t)
    simp only [ha']
    exact wpAny_pure body
/-- max(e, default=d) -/
theorem pe_maxE (hc : X.calm = true) (hg : Gl X "max") (hm : X.mg "max" = none) (ha : PA X [e] ta) (hk : PK X [⟨some "default", d, kpos⟩] tk)
    (h1 : backTo pos (starEach [e] X.env) = (false, eval e X.env) :: backTo pos (starEach [] X.env) := by rfl) (h2 : (backTo pos (starEach [e] X.env)).any (·.1) = false := by rfl) : PE X (.Call (.Name "max" p) [e] [⟨some "default", d, kpos⟩] pos) (tMaxE X.K ta tk) := by
  intro pins s σ H Q I h
  refine wpAny_Call_Name_kw (ld_blt I hg hm boot_max ?_)
  refine callWith_kw (thn (ha pos pins s σ H _ I h) fun us s1 ⟨vs, H1, I1, r1, q1⟩ => thn (hk pos pins s1 σ H1 _ I1 q1) fun ws s2 ⟨zs, H2, I2, rz, l, ns, z, e1, e2, hl, q⟩ => ?_) h1 h2
  subst e1 e2
  obtain ⟨u, rfl, ru⟩ := r1.one
  obtain ⟨v, rfl, rv⟩ := rz.one
  cases (show u = Value.ref l from ru)
  obtain ⟨t, rfl⟩ := (show ∃ t, v = Value.int z t from rv)
  exact maxRun hc I2 hl q
end
section
variable {prog : Program} {w : World} {A : Around} {R : Result → Shared → Prop} {I : Addr} {fp wr : List Addr} {n : Nat} {P : Nat → Value → Prop} {St : Nat → Heap → Prop}
theorem minLoop {d : Value} (W : Walks prog w A.in1 I fp wr n P St) (hint : ∀ i v, P i v → ∃ z t, v = .int z t) (hfun : ∀ i v v', P i v → P i v' → v = v') (S : Addr) (hSf : S ∉ fp) :
    ∀ (k j : Nat) (s : Shared) (old : List Value) (c : Nat), n - j = k → j ≤ n → St j s.heap → ((old = [] ∧ j = 0) ∨ ∃ v i, old = [v, v] ∧ P i v ∧ ∀ i' z' t', i' < j → P i' (.int z' t') → ∀ z t, v = .int z t → z ≤ z') →
    s.heap.get? S = some { cls := .type "list", dict := none, data := .seq old.toArray c, slots := #[] } →
    (∀ v h' tk, ((v = d ∧ n = 0) ∨ ∃ i, P i v ∧ ∀ i' z' t', i' < n → P i' (.int z' t') → ∀ z t, v = .int z t → z ≤ z') → (∀ b o, b ∉ wr → b ≠ S → s.heap.get? b = some o → h'.get? b = some o) → R (.ok (.ret v)) { s with heap := h', toks := tk }) →
    codeAny (model prog w) A (.builtin "min.loop" ⟨[.ref I, .none, .ref S], [("default", d)]⟩) R s := by
  have hSw : S ∉ wr := fun h => hSf (W.sub _ h)
  have hname : (toString "min" ++ toString ".loop" : String) = "min.loop" := by decide
  intro k
  induction k with
  | zero =>
    intro j s old c hk hj hst ho hS hR
    have hin : j = n := by omega
    refine codeAny_builtin F.entry_min_loop ?_
    rw [Around.under_plainId F.plain_min_loop _]
    show wpAny _ A.in1 (seqItems? (.ref S) >>= _) _ _ s
    refine wpAny_bind (wpAny_seqItems hS rfl ?_)
    show wpAny _ A.in1 (tryCatch (pyNext (.ref I)) _ >>= _) _ _ s
    refine wpAny_bind (wpAny_tryCatch (W.done s _ _ (hin ▸ hst) fun h' tk hk' => ?_))
    have hS' := hk' S _ hSw hS
    rcases ho with ⟨e1, e2⟩ | ⟨v, i, e1, hv, hm⟩
    · subst e1
      refine wpAny_bind (wpAny_rule (wpAny_pure ?_))
      exact hR d h' tk (.inl ⟨rfl, by omega⟩) fun b o hb _ e => hk' b o hb e
    · subst e1
      show wpAny _ A.in1 (updateSeq S (fun _ => #[]) >>= _) _ _ _
      refine wpAny_bind (wpAny_updateSeq hS' rfl (wpAny_bind (wpAny_letGo (wpAny_pure ?_))))
      exact hR v _ tk (.inr ⟨i, hv, fun i' z' t' hi' => hm i' z' t' (by omega)⟩) fun b o hbw hbS e => (Heap.get?_update_other _ _ (Ne.symm hbS)).trans (hk' b o hbw e)
  | succ k ih =>
    intro j s old c hk hj hst ho hS hR
    refine codeAny_builtin F.entry_min_loop ?_
    rw [Around.under_plainId F.plain_min_loop _]
    show wpAny _ A.in1 (seqItems? (.ref S) >>= _) _ _ s
    refine wpAny_bind (wpAny_seqItems hS rfl ?_)
    show wpAny _ A.in1 (tryCatch (pyNext (.ref I)) _ >>= _) _ _ s
    refine wpAny_bind (wpAny_tryCatch (W.item j s _ _ (by omega) hst fun v h' tk hP hst' hk' => ?_))
    have hS' := hk' S _ hSw hS
    have other : ∀ (xs : Array Value) b o, b ≠ S → h'.get? b = some o → (h'.update S (Obj.mapSeq fun _ => xs)).get? b = some o := fun xs b o hb e => (Heap.get?_update_other _ _ (Ne.symm hb)).trans e
    rcases ho with ⟨e1, e2⟩ | ⟨vb, i, e1, hv, hm⟩
    · subst e1
      show wpAny _ A.in1 (updateSeq S (fun _ => #[v, v]) >>= _) _ _ _
      refine wpAny_bind (wpAny_updateSeq hS' rfl ?_)
      rw [hname]
      refine wpAny_pure ⟨plainId_quiet F.plain_min_loop _, ih (j + 1) _ [v, v] _ (by omega) (by omega) (W.frame _ _ _ hst' fun b hbf o e => other _ b o (fun z => hSf (z ▸ hbf)) e) (.inr ⟨v, j, rfl, hP, fun i' z' t' hi' hp' z t e => by
        have : i' = j := by omega
        subst this
        have := hfun i' _ _ hp' hP
        rw [e] at this
        cases this
        exact Int.le_refl _⟩) (Heap.get?_update_self _ hS' rfl) fun v' h'' tk'' hP' hk'' => ?_⟩
      exact hR v' h'' tk'' hP' fun b o hbw hbS e => hk'' b o hbw hbS (other _ b o hbS (hk' b o hbw e))
    · subst e1
      obtain ⟨z, t, rfl⟩ := hint j v hP
      obtain ⟨zb, tb, rfl⟩ := hint i vb hv
      show wpAny _ A.in1 (tryCatch (holding [Value.int z t, Value.int z t] (richCompare .Lt (Value.int z t) (Value.int zb tb) >>= _)) _ >>= _) _ _ _
      refine wpAny_bind (wpAny_tryCatch (wpAny_holding (wpAny_bind (lt_int ?_))))
      refine wpAny_bind (wpAny_holding (wpAny_truthy_bool ?_))
      refine wpAny_bind (wpAny_letGo (wpAny_pure ?_))
      cases hb : decide (z < zb) with
      | true =>
        refine wpAny_bind (wpAny_updateSeq hS' rfl (wpAny_bind (wpAny_letGo ?_)))
        rw [hname]
        refine wpAny_pure ⟨plainId_quiet F.plain_min_loop _, ih (j + 1) _ [.int z t, .int z t] _ (by omega) (by omega) (W.frame _ _ _ hst' fun b hbf o e => other _ b o (fun z => hSf (z ▸ hbf)) e) (.inr ⟨_, j, rfl, hP, fun i' z' t' hi' hp' z2 t2 e => by
          cases e
          have hb' := of_decide_eq_true hb
          by_cases c : i' = j
          · subst c
            have := hfun i' _ _ hp' hP
            cases this
            exact Int.le_refl _
          · have := hm i' z' t' (by omega) hp' zb tb rfl
            omega⟩) (Heap.get?_update_self _ hS' rfl) fun v' h'' tk'' hP' hk'' => ?_⟩
        exact hR v' h'' tk'' hP' fun b o hbw hbS e => hk'' b o hbw hbS (other _ b o hbS (hk' b o hbw e))
      | false =>
        refine wpAny_bind (wpAny_letGo ?_)
        rw [hname]
        refine wpAny_pure ⟨plainId_quiet F.plain_min_loop _, ih (j + 1) _ [.int zb tb, .int zb tb] c (by omega) (by omega) hst' (.inr ⟨_, i, rfl, hv, fun i' z' t' hi' hp' z2 t2 e => by
          cases e
          have hb' := of_decide_eq_false hb
          by_cases c : i' = j
          · subst c
            have := hfun i' _ _ hp' hP
            cases this
            omega
          · exact hm i' z' t' (by omega) hp' zb tb rfl⟩) hS' fun v' h'' tk'' hP' hk'' => ?_⟩
        exact hR v' h'' tk'' hP' fun b o hbw hbS e => hk'' b o hbw hbS (hk' b o hbw e)
end
theorem argsMinD (a d : Value) : argsOk "min" ⟨[a], [("default", d)]⟩ := by unfold argsOk; kernel_rfl
section
variable {X : Cx} {p pos kpos : Pos} {e d : Expr} {ta tk : TA}
def tMinE (K : PySem.W.Frag) (ta tk : TA) : TE := fun σ H Q => ta σ H fun vs H1 => tk σ H1 fun zs H2 => ∃ (l : Addr) (ns : List Int) (z : Int), vs = [.ref l] ∧ zs = [.int z] ∧ SqL K H2 l (ns.map V.int) ∧ ∀ m : Int, (m = z ∧ ns = []) ∨ (m ∈ ns ∧ ∀ x ∈ ns, m ≤ x) → Q (.int m) H2
theorem minRun {pins : List (Addr × Obj)} {σ : St} {H : Hp} {s : Shared} {l : Addr} {ns : List Int} {z : Int} {t : Tok} {Q : VK} (hc : X.calm = true) (I : Inv X pins σ H s) (hl : SqL X.K H l (ns.map V.int)) (q : ∀ m : Int, (m = z ∧ ns = []) ∨ (m ∈ ns ∧ ∀ x ∈ ns, m ≤ x) → Q (.int m) H) :
    wpAny (model X.prog X.w) X.A (call (.builtin "min") [.ref l] [("default", .int z t)]) (EP X pins σ Q) X.xe s := by
  have hname : (toString "min" ++ toString ".loop" : String) = "min.loop" := by decide
  obtain ⟨its, rv, pl, hz⟩ := I.list hl
  have hi := ints_vals rv
  refine wpAny_call (codeAny_call_builtin F.plain_min F.entry_min ?_)
  simp only [checkBuiltinCall, F.kind_min]
  have body : wpAny (model X.prog X.w) X.A.in1 (Builtin.«min» ⟨[.ref l], [("default", .int z t)]⟩) (fun fin s' => match fin with
      | .done f => (match (Except.ok f : Result) with | .ok (.ret v) => EP X pins σ Q v s' | .ok _ => False | .error e => X.xe e s')
      | .again c' => c'.quiet = true ∧ codeAny (model X.prog X.w) X.A c' (fun r s' => match r with | .ok (.ret v) => EP X pins σ Q v s' | .ok _ => False | .error e => X.xe e s') s') X.xe s := by
    show wpAny _ X.A.in1 (Builtin.Builtins.bindParams "min" ["key", "default"] 0 ⟨[], [("default", .int z t)]⟩ >>= _) _ _ s
    refine wpAny_bind (wpAny_of_eq (show Builtin.Builtins.bindParams "min" ["key", "default"] 0 ⟨[], [("default", .int z t)]⟩ = pure [none, some (.int z t)] from rfl) ?_)
    refine wpAny_bind (wpAny_pure (wpAny_bind (wpAny_pyIter_list pl.isList ?_)))
    have hne : l ≠ s.heap.objs.size := by
      obtain ⟨o, n, e, _⟩ := pl
      exact Nat.ne_of_lt (Heap.lt_size e)
    refine wpAny_bind (wpAny_newObj_type ?_)
    rw [hname]
    have W := Walks.list (prog := X.prog) (w := X.w) (A := X.A.in1) (show X.A.in1.handled = none from I.ok.hd hc) s.heap.objs.size l hne its.toArray
    refine wpAny_pure ⟨plainId_quiet F.plain_min_loop _, minLoop (d := .int z t) W (fun i v hv => ?_) (fun i v v' h1 h2 => Option.some.inj (h1.symm.trans h2)) _ ?_ _ 0 _ [] 0 rfl (Nat.zero_le _) ⟨⟨_, Heap.get?_push_of_some _ (Heap.get?_push_size _ rfl), rfl, rfl⟩, ?_⟩ (.inl ⟨rfl, rfl⟩) (Heap.get?_push_size _ rfl) fun v h' tk hv hk => ?_⟩
    · obtain ⟨n, t', _, e⟩ := ints_at hi i v (by simpa using hv)
      exact ⟨n, t', e⟩
    · intro hm
      have hsz := Heap.size_push s.heap { cls := .type "list_iterator", data := .fields #[.ref l, .int 0 0] }
      have hm' : s.heap.objs.size + 1 ∈ [s.heap.objs.size, l] := by rw [← hsz]; exact hm
      rcases List.mem_cons.mp hm' with z' | z'
      · exact absurd z' (Nat.succ_ne_self _)
      · have z'' : s.heap.objs.size + 1 = l := by simpa using z'
        obtain ⟨o, n, e, _⟩ := pl
        have := Heap.lt_size e
        rw [← z''] at this
        exact absurd this (Nat.not_lt.mpr (Nat.le_succ _))
    · obtain ⟨o, n, e, c, dd, dt⟩ := pl
      exact ⟨o, Heap.get?_push_of_some _ (Heap.get?_push_of_some _ e), c, n, dt⟩
    · have I2 : Inv X pins σ H { s with heap := h', toks := tk } := I.kept (t' := tk) fun b o e => hk b o (by simp; exact Nat.ne_of_lt (Heap.lt_size e)) (Nat.ne_of_lt (Nat.lt_of_lt_of_le (Heap.lt_size e) (by rw [Heap.size_push]; exact Nat.le_succ _))) (Heap.get?_push_of_some _ (Heap.get?_push_of_some _ e))
      rcases hv with ⟨e1, e2⟩ | ⟨i, hv, hmx⟩
      · subst e1
        refine ⟨.int z, H, I2, ⟨t, rfl⟩, q z (.inl ⟨rfl, ?_⟩)⟩
        have e3 : its.length = 0 := by simpa using e2
        have := hi.length
        exact List.length_eq_zero_iff.mp (by omega)
      · obtain ⟨m, t', h1, e⟩ := ints_at hi i v (by simpa using hv)
        subst e
        refine ⟨.int m, H, I2, ⟨t', rfl⟩, q m (.inr ⟨List.mem_of_getElem? h1, fun x hx => ?_⟩)⟩
        obtain ⟨i', hi', ex⟩ := List.getElem_of_mem hx
        have hl' := hi.length
        have hi2 : i' < its.length := by omega
        obtain ⟨x', t2, h2, e2⟩ := ints_at hi i' its[i'] (by simp)
        have : x' = x := by rw [List.getElem?_eq_getElem hi'] at h2; rw [← ex]; exact (Option.some.inj h2).symm
        subst this
        exact hmx i' x' t2 (by simpa using hi2) (by show its.toArray[i']? = _; rw [← e2]; simp) m t' rfl
  cases hsig : Manifest.signature? "min" with
  | none => exact wpAny_pure body
  | some sig =>
    have ha' : Bind.checkArgs "min" sig ⟨[.ref l], [("default", .int z t)]⟩ = pure () := by simpa only [argsOk, hsig] using argsMinD (.ref l) (.int z t)
    simp only [ha']
    exact wpAny_pure body
/-- min(e, default=d) -/
theorem pe_minE (hc : X.calm = true) (hg : Gl X "min") (hm : X.mg "min" = none) (ha : PA X [e] ta) (hk : PK X [⟨some "default", d, kpos⟩] tk)
    (h1 : backTo pos (starEach [e] X.env) = (false, eval e X.env) :: backTo pos (starEach [] X.env) := by rfl) (h2 : (backTo pos (starEach [e] X.env)).any (·.1) = false := by rfl) : PE X (.Call (.Name "min" p) [e] [⟨some "default", d, kpos⟩] pos) (tMinE X.K ta tk) := by
  intro pins s σ H Q I h
  refine wpAny_Call_Name_kw (ld_blt I hg hm boot_min ?_)
  refine callWith_kw (thn (ha pos pins s σ H _ I h) fun us s1 ⟨vs, H1, I1, r1, q1⟩ => thn (hk pos pins s1 σ H1 _ I1 q1) fun ws s2 ⟨zs, H2, I2, rz, l, ns, z, e1, e2, hl, q⟩ => ?_) h1 h2
  subst e1 e2
  obtain ⟨u, rfl, ru⟩ := r1.one
  obtain ⟨v, rfl, rv⟩ := rz.one
  cases (show u = Value.ref l from ru)
  obtain ⟨t, rfl⟩ := (show ∃ t, v = Value.int z t from rv)
  exact minRun hc I2 hl q
end
end L2
/-! max(xs) of a list of ints that is not empty. -/
namespace L2
open PySem PySem.Spec PyProof.Rows
section
variable {prog : Program} {w : World} {A : Around} {R : Result → Shared → Prop} {I : Addr} {fp wr : List Addr} {n : Nat} {P : Nat → Value → Prop} {St : Nat → Heap → Prop}
end
section
variable {X : Cx} {p pos kpos : Pos} {e d : Expr} {ta tk : TA}
end
end L2
/-! NEW DATA: trees of lists and tuples, each of whose nodes was not there before. -/
namespace L2
open PySem PySem.Spec PyProof.Rows
section
variable {K : PySem.W.Frag} {H0 H1 H H' : Hp}
end
end L2
/-! THE SEARCH: places are tried one by one, the greatest distance that is left over first; just the roads that fit are found. -/
namespace Rg
end Rg
namespace Rg
end Rg
/-! x in xs, x not in xs, where the items are data of any depth. -/
namespace L2
open PySem PySem.Spec PyProof.Rows
section
variable {X : Cx}
end
end L2
namespace Rd
open PySem L2
def top (i : Nat) : Stmt := PySem.Challenge.pw_roadgaps_k11_read.main.body.getD i (.Pass ⟨0, 0, 0, 0⟩)
abbrev sIsRoad : Stmt := top 10
abbrev sCheckRoad : Stmt := top 11
abbrev sCheckGaps : Stmt := top 14
abbrev dReadNumber : Stmt := top 18
abbrev dReadNumbers : Stmt := top 19
abbrev dReadRoad : Stmt := top 20
abbrev dReadGaps : Stmt := top 21
abbrev sCell : Stmt := top 23
abbrev sWhole : Stmt := top 24
abbrev sList : Stmt := top 25
abbrev sRoad : Stmt := top 27
abbrev sKind : Stmt := top 28
abbrev sTurned : Stmt := top 29
abbrev sNumber : Stmt := top 30
abbrev sDue : Stmt := top 31
abbrev sTried : Stmt := top 32
abbrev sLaw : Stmt := top 33
end Rd
namespace Rd
open PySem L2 PyProof.Rows
/-! ### the names of the module that stand for themselves -/
structure Mg (mg : Str → Option Value) : Prop where
  len : mg "len" = none
  range : mg "range" = none
  all : mg "all" = none
  sorted : mg "sorted" = none
  long : ∃ t, mg "LONGEST" = some (.int 4000 t)
structure MgP (mg : Str → Option Value) : Prop extends Mg mg where
  most : ∃ t, mg "MOST_PLACES" = some (.int 50 t)
theorem small {n : Nat} (h : n ≤ 1000) : n ≤ sizeLine := Nat.le_of_lt (small1000 h)
/-- is it a road -/
def adjs (ps : List Int) : List Bool := (List.range (ps.length - 1)).map fun i => decide (ps.getD i 0 < ps.getD (i + 1) 0)
def roadB (ps : List Int) : Bool := decide (1 ≤ ps.length ∧ ps.length ≤ 50) && !(decide (ps.getD 0 0 ≠ 0) || decide (4000 < ps.getD (ps.length - 1) 0)) && (adjs ps).all id
section
variable {P : Program} {w : World} {K : PySem.W.Frag} {mg : Str → Option Value} {base : Heap} {f g : Addr} {fd gd : FuncData}
def spIsRoad (K : PySem.W.Frag) : Sp := fun vs H Q _ => ∃ (a : Addr) (ps : List Int), vs = [.ref a] ∧ SqL K H a (ps.map V.int) ∧ ps.length ≤ 1000 ∧ ∀ H', Same H H' → Q (.bl (roadB ps)) H'
theorem scIsRoad : FnScope ["places"] ["places"] (defScope sIsRoad) := ⟨rfl, rfl, rfl, by decide +kernel, rfl, by decide +kernel, by decide +kernel⟩
theorem ok_isRoad (F : Fun K "is_road" "is_road" sIsRoad f fd) (m : mg "is_road" = some (.ref f)) (G : MgP mg) : Def P w K mg base CX0 "is_road" ["places"] 1 (spIsRoad K) := by
  refine ⟨f, fd, ?_, F.binds fun _ _ _ _ _ _ us hl => match us, hl with | [_], _ => rfl, F.kp, m⟩
  refine F.ok (k := 0) scIsRoad (fun vs H Q E h => ?_) (fun cdv A outer s H vs Q E hr h => ?_)
  · obtain ⟨a, ps, rfl, _⟩ := h
    rfl
  obtain ⟨a, ps, rfl, hS, h1, q⟩ := h
  obtain ⟨tm, hm⟩ := G.most
  obtain ⟨tl, hl⟩ := G.long
  refine ⟨_, pss_cons (ps_if (pt_not (pt_chain op_le op_le pe_int (pe_callB call_len_seq rfl G.len PySem.boot_len (pa_cons (pv 0) pa_nil)) (pe_glob (by rfl) hm (v := .int 50) ⟨_, rfl⟩))) (pss_one (ps_ret pe_bl)) pss_nil)
    (pss_cons (ps_if (pw_or (pt_cmpR op_ne (pe_ix ix_list (pv 0) pe_int (fun _ _ => rfl)) pe_int (nomark _)) (pw_or1 (pt_cmpR op_gt (pe_ix ix_list (pv 0) (pe_un un_neg pe_int) (fun _ _ => rfl)) (pe_glob (by rfl) hl (v := .int 4000) ⟨_, rfl⟩) (nomark _)))).pt (pss_one (ps_ret pe_bl)) pss_nil)
    (pss_one (ps_ret (pe_callB (call_all rfl) rfl G.all PyProof.Rows.Boot.«all» (pa_cons (pe_comp ["k"] [("places", 0)] rfl
      (pi_range2 rfl G.range (pa_cons pe_int (pa_cons (pe_callB call_len_seq rfl G.len PySem.boot_len (pa_cons (pv 0) pa_nil)) pa_nil)))
      (N := ["places"]) (osc := defScope sIsRoad) ⟨rfl, by decide +kernel, by decide +kernel, by decide +kernel, by decide +kernel⟩
      (fun _ _ _ => pg_name (i := 0) (show (["k", "places"] : List Str).Nodup by decide +kernel) rfl (Or.inl rfl)) (fun _ _ _ => pf_nil)
      (fun _ _ _ => pe_cmpR op_lt (pe_ix (ix_listK K) (pv 1) (pe_op op_sub (pv 0) pe_int) (fun _ _ => rfl)) (pe_ix (ix_listK K) (pv 1) (pv 0) (fun _ _ => rfl)) (nomark _))) pa_nil))))), ?_⟩
  have hlen := len_int ps
  have fls : roadB ps = false → Q (.bl false) H := fun e => by have := q H (Same.refl H); rw [e] at this; exact this
  refine ⟨_, rfl, a, _, rfl, .inl hS, _, _, rfl, rfl, _, rfl, ?_⟩
  rw [hlen]
  refine ite2 (fun c1 => ?_) (fun c1 => ?_)
  rotate_left
  · have c1' : ¬ (1 : Int) ≤ (ps.length : Nat) := by simpa using c1
    refine ⟨_, rfl, iteT (fls ?_)⟩
    unfold roadB
    rw [decide_eq_false (by omega)]
    rfl
  have c1' : (1 : Int) ≤ (ps.length : Nat) := by simpa using c1
  refine ⟨_, _, rfl, rfl, _, rfl, ?_⟩
  refine ite2 (fun c2 => ?_) (fun c2 => ?_)
  · have c2' : ¬ ((ps.length : Nat) : Int) ≤ 50 := by simpa using c2
    refine fls ?_
    unfold roadB
    rw [decide_eq_false (by omega)]
    rfl
  have c2' : ((ps.length : Nat) : Int) ≤ 50 := by simpa using c2
  have l1 : 1 ≤ ps.length := by omega
  have l2 : ps.length ≤ 50 := by omega
  have e0 : ps[0]? = some (ps.getD 0 0) := by simp [List.getD_eq_getElem?_getD, show 0 < ps.length by omega]
  have eL : ps.getLast? = some (ps.getD (ps.length - 1) 0) := by rw [List.getLast?_eq_getElem?]; simp [List.getD_eq_getElem?_getD, show ps.length - 1 < ps.length by omega]
  refine ⟨_, rfl, a, _, _, _, rfl, rfl, hS, atI_int (i := 0) e0, rfl, _, rfl, ?_⟩
  refine ite2 (fun c3 => ?_) (fun c3 => ?_)
  · refine fls ?_
    unfold roadB
    have c3' : ps.getD 0 0 ≠ 0 := by simpa using c3
    rw [decide_eq_true c3']
    simp
  have c3' : ps.getD 0 0 = 0 := by simpa using c3
  have aL : atI (ps.map V.int) (-1) = some (.int (ps.getD (ps.length - 1) 0)) := atI_back (by rw [List.getLast?_map, eL]; rfl)
  refine ⟨_, rfl, _, rfl, a, _, _, _, rfl, rfl, hS, aL, _, _, rfl, rfl, _, rfl, ?_⟩
  refine ite2 (fun c4 => ?_) (fun c4 => ?_)
  · refine fls ?_
    unfold roadB
    have c4' : 4000 < ps.getD (ps.length - 1) 0 := of_decide_eq_true c4
    rw [decide_eq_true c4']
    simp
  have c4' : ¬ 4000 < ps.getD (ps.length - 1) 0 := of_decide_eq_false (Bool.eq_false_iff.mpr c4)
  have eR : roadB ps = (adjs ps).all id := by
    unfold roadB
    rw [decide_eq_true ⟨l1, l2⟩, decide_eq_false (show ¬ ps.getD 0 0 ≠ 0 from fun z => z c3'), decide_eq_false c4']
    simp
  have eN : (((ps.map V.int).length : Int) - 1).toNat = ps.length - 1 := by rw [hlen]; omega
  refine ⟨_, rfl, a, _, rfl, .inl hS, _, _, rfl, ⟨by omega, by omega, by rw [hlen]; omega, by rw [hlen]; omega⟩, fun D hD => ?_⟩
  rw [eN]
  refine comp_range (lo := 1) (n := ps.length - 1) (fun i => .bl (decide (ps.getD i 0 < ps.getD (i + 1) 0))) (small (by omega)) (fun i ys Q' hi q' => ?_) ?_
  · have g1 : ps[i]? = some (ps.getD i 0) := by simp [List.getD_eq_getElem?_getD, show i < ps.length by omega]
    have g2 : ps[i + 1]? = some (ps.getD (i + 1) 0) := by simp [List.getD_eq_getElem?_getD, show i + 1 < ps.length by omega]
    have a1 : atI (ps.map V.int) (1 + (i : Int) - 1) = some (.int (ps.getD i 0)) := by rw [show 1 + (i : Int) - 1 = ((i : Nat) : Int) by omega]; exact atI_int g1
    have a2 : atI (ps.map V.int) (1 + (i : Int)) = some (.int (ps.getD (i + 1) 0)) := by rw [show 1 + (i : Int) = ((i + 1 : Nat) : Int) by omega]; exact atI_int g2
    exact ⟨_, rfl, _, rfl, _, _, rfl, rfl, a, _, _, _, rfl, rfl, sq_ne hS hD, a1, _, rfl, _, rfl, a, _, _, _, rfl, rfl, sq_ne hS hD, a2, _, _, rfl, rfl, q'⟩
  · refine ⟨D, adjs ps, rfl, SqL.of ?_, ?_⟩
    · rw [upd_same]
      unfold adjs
      rw [List.map_map]
      rfl
    · rw [← eR]; exact q _ (same_new hD _)
theorem scCheckRoad : FnScope ["places"] ["places"] (defScope sCheckRoad) := ⟨rfl, rfl, rfl, by decide +kernel, rfl, by decide +kernel, by decide +kernel⟩
theorem int_at {l : List Int} {i : Nat} {x : V} (h : (l.map V.int)[i]? = some x) : ∃ z, l[i]? = some z ∧ x = .int z := by
  rw [List.getElem?_map] at h
  cases e : l[i]? with
  | none => rw [e] at h; cases h
  | some z => rw [e] at h; exact ⟨z, rfl, (Option.some.inj h).symm⟩
end
end Rd
namespace Rd
open PySem L2 PyProof.Rows
theorem roadB_facts {ps : List Int} (h : roadB ps = true) : 1 ≤ ps.length ∧ ps.length ≤ 50 ∧ ps.getD 0 0 = 0 ∧ ps.getD (ps.length - 1) 0 ≤ 4000 ∧ ps.Pairwise (· < ·) := by
  unfold roadB at h
  rw [Bool.and_eq_true, Bool.and_eq_true] at h
  obtain ⟨⟨h1, h2⟩, h3⟩ := h
  have h1' := of_decide_eq_true h1
  have h2' : ¬ ps.getD 0 0 ≠ 0 ∧ ¬ 4000 < ps.getD (ps.length - 1) 0 := by
    rw [Bool.not_eq_true', Bool.or_eq_false_iff] at h2
    exact ⟨of_decide_eq_false h2.1, of_decide_eq_false h2.2⟩
  refine ⟨h1'.1, h1'.2, Decidable.of_not_not h2'.1, by omega, Rg.rise_of_adj fun i hi => ?_⟩
  have := List.all_eq_true.mp h3 (decide (ps.getD i 0 < ps.getD (i + 1) 0)) (by unfold adjs; exact List.mem_map.mpr ⟨i, List.mem_range.mpr (by omega), rfl⟩)
  exact of_decide_eq_true this
section
variable {P : Program} {w : World} {K : PySem.W.Frag} {mg : Str → Option Value} {base : Heap} {f g CN : Addr} {fd gd : FuncData}
def spCheckE (K : PySem.W.Frag) (C : Addr) : Sp := fun vs H Q E => ∃ (a : Addr) (ps : List Int), vs = [.ref a] ∧ SqL K H a (ps.map V.int) ∧ ps.length ≤ 1000 ∧ (roadB ps = true → ∀ H', Same H H' → Q .non H') ∧ (roadB ps = false → ∀ H', Same H H' → E (.ref C) none H')
end
end Rd
namespace Rd
open PySem L2 PyProof.Rows
structure MgG (mg : Str → Option Value) : Prop extends Mg mg where
  mostG : ∃ t, mg "MOST_GAPS" = some (.int 21 t)
  list : mg "list" = none
structure GapsOk (gs : List Int) : Prop where
  few : gs.length ≤ 21
  rise : gs.Pairwise (· ≤ ·)
  low : ∀ g ∈ gs, 1 ≤ g
  high : ∀ g ∈ gs, g ≤ 4000
section
variable {P : Program} {w : World} {K : PySem.W.Frag} {mg : Str → Option Value} {base : Heap} {f g : Addr} {fd gd : FuncData}
theorem scCheckGaps : FnScope ["gaps", "least", "gap"] ["gaps"] (defScope sCheckGaps) := ⟨rfl, rfl, rfl, by decide +kernel, rfl, by decide +kernel, by decide +kernel⟩
end
end Rd
namespace Rd
open PySem L2 PyProof.Rows
/-! ### the defs of the distances, which may refuse -/
section
variable {P : Program} {w : World} {K : PySem.W.Frag} {mg : Str → Option Value} {base : Heap} {f g CN CT CG : Addr} {fd gd : FuncData}
/-- a list of distances is looked at, or refused -/
def spGapsE (K : PySem.W.Frag) (CT CG : Addr) (ok : Addr → List Int → Hp → VK → Prop) : Sp := fun vs H Q E => ∃ (b : Addr) (gs : List Int), vs = [.ref b] ∧ SqL K H b (gs.map V.int) ∧ gs.length ≤ 1000 ∧
  (GapsOk gs → ok b gs H Q) ∧ (21 < gs.length → ∀ H', Same H H' → E (.ref CT) none H') ∧ (gs.length ≤ 21 → ¬ GapsOk gs → ∀ H', Same H H' → E (.ref CG) none H')
def okNone : Addr → List Int → Hp → VK → Prop := fun _ _ H Q => ∀ H', Same H H' → Q .non H'
end
end Rd
namespace Rd
open PySem L2 PyProof.Rows
structure MgL (mg : Str → Option Value) : Prop where
  len : mg "len" = none
  range : mg "range" = none
  sorted : mg "sorted" = none
  isinst : mg "isinstance" = none
  int : mg "int" = none
  bool : mg "bool" = none
  list : mg "list" = none
theorem kit_ii (K : PySem.W.Frag) : PySem.W.kitOne K (.type "int") (.type "int") = some true := by kernel_rfl
theorem kit_ib (K : PySem.W.Frag) : PySem.W.kitOne K (.type "int") (.type "bool") = some false := by kernel_rfl
theorem kit_ll (K : PySem.W.Frag) : PySem.W.kitOne K (.type "list") (.type "list") = some true := by kernel_rfl
section
variable {P : Program} {w : World} {K : PySem.W.Frag} {mg : Str → Option Value} {base : Heap} {f g : Addr} {fd gd : FuncData}
def spCell (K : PySem.W.Frag) : Sp := fun vs H Q _ => ∃ (a : Addr) (ns : List Int) (k : Int), vs = [.ref a, .int k] ∧ SqL K H a (ns.map V.int) ∧ 0 ≤ k ∧ ∀ i, Q (.int i) H
theorem scCell : FnScope ["script", "k"] ["script", "k"] (defScope sCell) := ⟨rfl, rfl, rfl, by decide +kernel, rfl, by decide +kernel, by decide +kernel⟩
theorem ok_cell (F : Fun K "_law_cell_at" "_law_cell_at" sCell f fd) (m : mg "_law_cell_at" = some (.ref f)) (G : MgL mg) : Def P w K mg base CX0 "_law_cell_at" ["script", "k"] 1 (spCell K) := by
  refine ⟨f, fd, ?_, F.binds fun _ _ _ _ _ _ us hl => match us, hl with | [_, _], _ => rfl, F.kp, m⟩
  refine F.ok (k := 0) scCell (fun vs H Q E h => ?_) (fun cdv A outer s H vs Q E hr h => ?_)
  · obtain ⟨a, ns, k, rfl, _⟩ := h
    rfl
  obtain ⟨a, ns, k, rfl, hS, hk, q⟩ := h
  refine ⟨_, pss_cons (ps_if (pt_cmpR op_lt (pv 1) (pe_callB call_len_seq rfl G.len PySem.boot_len (pa_cons (pv 0) pa_nil)) (nomark _)) (pss_one (ps_ret (pe_ix ix_list (pv 0) (pv 1) (fun _ _ => rfl)))) pss_nil) (pss_one (ps_ret pe_int)), ?_⟩
  refine ⟨_, rfl, _, rfl, a, _, rfl, .inl hS, _, _, rfl, rfl, _, rfl, ?_⟩
  refine ite2 (fun c => ?_) (fun c => q 0)
  have c' : k < (((ns.map V.int).length : Nat) : Int) := of_decide_eq_true c
  rw [len_int] at c'
  have g1 : ns[k.toNat]? = some (ns.getD k.toNat 0) := by simp [List.getD_eq_getElem?_getD, show k.toNat < ns.length by omega]
  have a1 : atI (ns.map V.int) k = some (.int (ns.getD k.toNat 0)) := by
    have := atI_int g1
    rw [show ((k.toNat : Nat) : Int) = k by omega] at this
    exact this
  exact ⟨_, rfl, _, rfl, a, _, _, _, rfl, rfl, hS, a1, q _⟩
def spWhole : Sp := fun vs H Q _ => ∃ i, vs = [.int i] ∧ Q (.bl true) H
theorem scWhole : FnScope ["found"] ["found"] (defScope sWhole) := ⟨rfl, rfl, rfl, by decide +kernel, rfl, by decide +kernel, by decide +kernel⟩
theorem ok_whole (F : Fun K "_law_whole" "_law_whole" sWhole f fd) (m : mg "_law_whole" = some (.ref f)) (G : MgL mg) : Def P w K mg base CX0 "_law_whole" ["found"] 1 spWhole := by
  refine ⟨f, fd, ?_, F.binds fun _ _ _ _ _ _ us hl => match us, hl with | [_], _ => rfl, F.kp, m⟩
  refine F.ok (k := 0) scWhole (fun vs H Q E h => ?_) (fun cdv A outer s H vs Q E hr h => ?_)
  · obtain ⟨i, rfl, _⟩ := h
    rfl
  obtain ⟨i, rfl, q⟩ := h
  refine ⟨_, pss_one (ps_ret (pe_and (pe_callB call_isT rfl G.isinst PyProof.Rows.Boot.«isinstance» (pa_cons (pv 0) (pa_cons (pe_bltn (by rfl) G.int PyProof.Rows.Boot.«int» (v := .ty "int") rfl) pa_nil)))
    (pe_one (pe_not (pe_callB call_isT rfl G.isinst PyProof.Rows.Boot.«isinstance» (pa_cons (pv 0) (pa_cons (pe_bltn (by rfl) G.bool PyProof.Rows.Boot.«bool» (v := .ty "bool") rfl) pa_nil))))))), ?_⟩
  exact ⟨_, rfl, _, "int", _, true, rfl, .int i, kit_ii K, true, rfl, _, rfl, _, "bool", _, false, rfl, .int i, kit_ib K, false, rfl, q⟩
/-- two lists of ints, one beside the other: is the first the second -/
def spList (K : PySem.W.Frag) : Sp := fun vs H Q _ => ∃ (a b : Addr) (xs ys : List Int), vs = [.ref a, .ref b] ∧ H a = some (.lst (xs.map V.int)) ∧ SqL K H b (ys.map V.int) ∧ xs.length ≤ 5000 ∧ ys.length ≤ 5000 ∧ Q (.bl (decide (xs = ys))) H
theorem scList : FnScope ["found", "due", "k"] ["found", "due"] (defScope sList) := ⟨rfl, rfl, rfl, by decide +kernel, rfl, by decide +kernel, by decide +kernel⟩
theorem ok_list (F : Fun K "_law_list" "_law_list" sList f fd) (m : mg "_law_list" = some (.ref f)) (G : MgL mg) (D1 : Def P w K mg base CX0 "_law_whole" ["found"] 1 spWhole) : Def P w K mg base CX0 "_law_list" ["found", "due"] 2 (spList K) := by
  refine ⟨f, fd, ?_, F.binds fun _ _ _ _ _ _ us hl => match us, hl with | [_, _], _ => rfl, F.kp, m⟩
  refine F.ok (k := 1) scList (fun vs H Q E h => ?_) (fun cdv A outer s H vs Q E hr h => ?_)
  · obtain ⟨a, b, xs, ys, rfl, _⟩ := h
    rfl
  obtain ⟨a, b, xs, ys, rfl, hA, hB, l1, l2, q⟩ := h
  refine ⟨_, pss_cons (ps_if (pw_or (pt_not (pt_val (pe_callB call_isT (by rfl) G.isinst PyProof.Rows.Boot.«isinstance» (pa_cons (pv 0) (pa_cons (pe_bltn (by rfl) G.list PyProof.Rows.Boot.«list» (v := .ty "list") rfl) pa_nil)))))
      (pw_or1 (pt_cmpR op_ne (pe_callB call_len_seq (by rfl) G.len PySem.boot_len (pa_cons (pv 0) pa_nil)) (pe_callB call_len_seq (by rfl) G.len PySem.boot_len (pa_cons (pv 1) pa_nil)) (nomark _)))).pt (pss_one (ps_ret pe_bl)) pss_nil)
    (pss_cons (ps_for PassesOwn.never rfl (pi_range1 rfl G.range (pa_cons (pe_callB call_len_seq rfl G.len PySem.boot_len (pa_cons (pv 1) pa_nil)) pa_nil)) (pg_name (i := 2) scList.nd rfl (Or.inl rfl))
      (pss_one (ps_if (pw_or (pt_not (pt_val (pe_fn D1 hr (by rfl) (pa_cons (pe_ix ix_list (pv 0) (pv 2) (fun _ _ => rfl)) pa_nil)))) (pw_or1 (pt_cmpR op_ne (pe_ix ix_list (pv 0) (pv 2) (fun _ _ => rfl)) (pe_ix ix_list (pv 1) (pv 2) (fun _ _ => rfl)) (nomark _)))).pt (pss_one (ps_ret pe_bl)) pss_nil)))
    (pss_one (ps_ret pe_bl))), ?_⟩
  refine ⟨_, rfl, _, "list", _, true, rfl, .lst hA, kit_ll K, true, rfl, ?_⟩
  refine ⟨_, rfl, a, _, rfl, .inl (SqL.of hA), _, rfl, b, _, rfl, .inl hB, rfl, _, rfl, ?_⟩
  rw [len_int, len_int]
  refine ite2 (fun c => ?_) (fun c => ?_)
  · have c0 : ((xs.length : Nat) : Int) ≠ (ys.length : Nat) := by simpa using c
    have c' : xs.length ≠ ys.length := by omega
    have e : decide (xs = ys) = false := decide_eq_false fun z => c' (by rw [z])
    rw [e] at q
    exact q
  have c0 : ((xs.length : Nat) : Int) = (ys.length : Nat) := by simpa using c
  have c' : xs.length = ys.length := by omega
  refine ⟨_, rfl, b, _, rfl, .inl hB, _, rfl, by rw [len_int]; omega, by rw [len_int]; omega, ?_⟩
  rw [len_int, Int.toNat_natCast]
  refine for_range (lo := 0) (n := ys.length) (fun i σ H' => H' = H ∧ (∃ o, σ = [some (.ref a), some (.ref b), o]) ∧ xs.take i = ys.take i) ⟨rfl, ⟨_, rfl⟩, rfl⟩ ?_ ?_
  · rintro i σ H' hi ⟨rfl, ⟨o, rfl⟩, ht⟩
    have gx : xs[i]? = some (xs.getD i 0) := by simp [List.getD_eq_getElem?_getD, show i < xs.length by omega]
    have gy : ys[i]? = some (ys.getD i 0) := by simp [List.getD_eq_getElem?_getD, hi]
    have ax : atI (xs.map V.int) (0 + (i : Int)) = some (.int (xs.getD i 0)) := by rw [show 0 + (i : Int) = ((i : Nat) : Int) by omega]; exact atI_int gx
    have ay : atI (ys.map V.int) (0 + (i : Int)) = some (.int (ys.getD i 0)) := by rw [show 0 + (i : Int) = ((i : Nat) : Int) by omega]; exact atI_int gy
    refine ⟨_, rfl, _, rfl, a, _, _, _, rfl, rfl, SqL.of hA, ax, _, rfl, true, rfl, ?_⟩
    refine ⟨_, rfl, _, rfl, a, _, _, _, rfl, rfl, SqL.of hA, ax, _, rfl, _, rfl, b, _, _, _, rfl, rfl, hB, ay, rfl, _, rfl, ?_⟩
    refine ite2 (fun c2 => ?_) (fun c2 => ?_)
    · have c2' : xs.getD i 0 ≠ ys.getD i 0 := by simpa using c2
      have e : decide (xs = ys) = false := decide_eq_false fun z => c2' (by rw [z])
      rw [e] at q
      exact q
    · have c2' : xs.getD i 0 = ys.getD i 0 := by simpa using c2
      refine ⟨rfl, ⟨_, rfl⟩, ?_⟩
      rw [Rg.take_succ gx, Rg.take_succ gy, ht, c2']
  · rintro σ H' ⟨rfl, _, ht⟩
    rw [List.take_length, List.take_of_length_le (by omega)] at ht
    rw [decide_eq_true ht] at q
    exact q
/-- a drawn road -/
structure Drawn (ps : List Int) (many : Nat) (top : Int) : Prop where
  len : ps.length = many
  zero : ps.getD 0 0 = 0
  rise : ps.Pairwise (· < ·)
  high : ∀ p ∈ ps, 0 ≤ p ∧ p ≤ top
def spRoad (K : PySem.W.Frag) : Sp := fun vs H Q _ => ∃ (a : Addr) (ns : List Int) (first many steps : Int), vs = [.ref a, .int first, .int many, .int steps] ∧ SqL K H a (ns.map V.int) ∧ 0 ≤ first ∧ 1 ≤ many ∧ many ≤ 60 ∧ 1 ≤ steps ∧
  ∀ r H' (ps : List Int), Same H H' → H r = none → H' r = some (.lst (ps.map V.int)) → Drawn ps many.toNat ((many - 1) * steps) → Q (.ref r) H'
theorem scRoad : FnScope ["script", "first", "many", "steps", "road", "k"] ["script", "first", "many", "steps"] (defScope sRoad) := ⟨rfl, rfl, rfl, by decide +kernel, rfl, by decide +kernel, by decide +kernel⟩
theorem ok_road (F : Fun K "_law_road" "_law_road" sRoad f fd) (m : mg "_law_road" = some (.ref f)) (G : MgL mg) (D1 : Def P w K mg base CX0 "_law_cell_at" ["script", "k"] 1 (spCell K)) : Def P w K mg base CX0 "_law_road" ["script", "first", "many", "steps"] 2 (spRoad K) := by
  refine ⟨f, fd, ?_, F.binds fun _ _ _ _ _ _ us hl => match us, hl with | [_, _, _, _], _ => rfl, F.kp, m⟩
  refine F.ok (k := 1) scRoad (fun vs H Q E h => ?_) (fun cdv A outer s H vs Q E hr h => ?_)
  · obtain ⟨a, ns, first, many, steps, rfl, _⟩ := h
    rfl
  obtain ⟨a, ns, first, many, steps, rfl, hS, h1, h2, h3, h4, q⟩ := h
  refine ⟨_, pss_cons (ps_set (i := 4) scRoad.nd rfl (Or.inl rfl) (pe_lst (pa_cons pe_int pa_nil)))
    (pss_cons (ps_for PassesOwn.never rfl (pi_range1 rfl G.range (pa_cons (pe_op op_sub (pv 2) pe_int) pa_nil)) (pg_name (i := 5) scRoad.nd rfl (Or.inl rfl))
      (pss_one (ps_expr (pe_bm PySem.F.plainAttrs_list PySem.F.slot_list_append PySem.F.type_list_append mt_append (pv 4) (pa_cons (pe_op op_add (pe_op op_add (pe_ix ix_list (pv 4) (pe_un un_neg pe_int) (fun _ _ => rfl)) pe_int)
        (pe_op op_mod (pe_fn D1 hr rfl (pa_cons (pv 0) (pa_cons (pe_op op_add (pv 1) (pv 5)) pa_nil))) (pv 3))) pa_nil)))))
    (pss_one (ps_ret (pv 4)))), ?_⟩
  refine ⟨(by show 1 ≤ sizeLine; decide), fun l hl => ?_⟩
  refine ⟨_, rfl, _, _, rfl, rfl, _, rfl, by omega, by omega, ?_⟩
  have mono : ∀ i : Nat, (i : Int) * steps ≤ ((i + 1 : Nat) : Int) * steps := fun i => by
    have : ((i + 1 : Nat) : Int) * steps = (i : Int) * steps + steps := by
      rw [Int.natCast_add, Int.add_mul]; simp
    omega
  refine for_range (lo := 0) (n := (many - 1).toNat) (fun i σ H' => (∃ o, σ = [some (.ref a), some (.int first), some (.int many), some (.int steps), some (.ref l), o]) ∧ Same H H' ∧ ∃ (ps : List Int) (z : Int), H' l = some (.lst ((ps ++ [z]).map V.int)) ∧ Drawn (ps ++ [z]) (i + 1) ((i : Int) * steps) ∧ z ≤ (i : Int) * steps ∧ ∀ p ∈ ps, p < z)
    ⟨⟨_, rfl⟩, same_new hl _, [], 0, upd_same, ⟨rfl, rfl, List.pairwise_singleton _ _, by simp⟩, by simp, by simp⟩ ?_ ?_
  · rintro i σ H' hi ⟨⟨o, rfl⟩, sm, ps, z, hL, hD, hz, hlt⟩
    have aL : atI ((ps ++ [z]).map V.int) (-1) = some (.int z) := atI_back (by rw [List.getLast?_map]; simp)
    refine ⟨_, rfl, .inl ⟨rfl, _, SqL.of hL⟩, _, rfl, _, rfl, l, _, _, _, rfl, rfl, SqL.of hL, aL, _, _, rfl, rfl, _, rfl, _, rfl, _, rfl, _, _, rfl, rfl, a, ns, _, rfl, sm.seq hS, by omega, fun c => ?_⟩
    have hs : (0 : Int) < steps := by omega
    have r0 := Int.emod_nonneg c (show steps ≠ 0 by omega)
    have r1 := Int.emod_lt_of_pos c hs
    have hlen := hD.len
    rw [List.length_append, List.length_singleton] at hlen
    refine ⟨_, rfl, _, _, rfl, rfl, hs, _, _, rfl, rfl, l, _, _, rfl, rfl, hL, ?_, ⟨_, rfl⟩, same_upd sm hl, ps ++ [z], z + 1 + c % steps, ?_, ⟨?_, ?_, ?_, ?_⟩, ?_, ?_⟩
    · rw [len_int, List.length_append, List.length_singleton]
      exact Nat.lt_of_le_of_lt (show ps.length + 1 ≤ 1000 by omega) (by decide)
    · rw [upd_same, List.map_append (l₁ := ps ++ [z])]; rfl
    · rw [List.length_append, List.length_append, List.length_singleton, List.length_singleton]; omega
    · have := hD.zero
      cases ps with
      | nil => simpa using this
      | cons p ps => simpa using this
    · rw [List.pairwise_append]
      refine ⟨hD.rise, List.pairwise_singleton _ _, fun x hx y hy => ?_⟩
      have hy' : y = z + 1 + c % steps := by simpa using hy
      rcases List.mem_append.mp hx with w' | w'
      · have := hlt x w'; omega
      · have : x = z := by simpa using w'
        omega
    · intro p hp
      have e : ((i + 1 : Nat) : Int) * steps = (i : Int) * steps + steps := by rw [Int.natCast_add, Int.add_mul]; simp
      rcases List.mem_append.mp hp with w' | w'
      · have := hD.high p w'
        omega
      · have hp' : p = z + 1 + c % steps := by simpa using w'
        have := hD.high z (by simp)
        omega
    · have e : ((i + 1 : Nat) : Int) * steps = (i : Int) * steps + steps := by rw [Int.natCast_add, Int.add_mul]; simp
      omega
    · intro p hp
      rcases List.mem_append.mp hp with w' | w'
      · have := hlt p w'; omega
      · have : p = z := by simpa using w'
        omega
  · rintro σ H' ⟨⟨o, rfl⟩, sm, ps, z, hL, hD, _⟩
    refine ⟨_, rfl, q l H' _ sm hl hL ?_⟩
    have e1 : (many - 1).toNat + 1 = many.toNat := by omega
    have e2 : (((many - 1).toNat : Nat) : Int) = many - 1 := by omega
    rw [e1, e2] at hD
    exact hD
end
end Rd
namespace Rd
open PySem L2 PyProof.Rows
/-! ### what the later laws share -/
theorem boot_set : bootBuiltins (Str.ofString "set") = some (.type "set") := by kernel_rfl
theorem boot_valueError : bootBuiltins (Str.ofString "ValueError") = some (.type "ValueError") := by kernel_rfl
structure MgA (mg : Str → Option Value) : Prop extends MgL mg where
  set : mg "set" = none
  max : mg "max" = none
  min : mg "min" = none
  reversed : mg "reversed" = none
  ValueError : mg "ValueError" = none
  tuple : mg "tuple" = none
  str : mg "str" = none
/-! ### the law's cell, told as it is -/
section
variable {P : Program} {w : World} {K : PySem.W.Frag} {mg : Str → Option Value} {base : Heap} {f : Addr} {fd : FuncData}
end
/-- the names of the error classes -/
structure KNames (mg : Str → Option Value) (CN CG CT CM CB : Addr) : Prop where
  mn : mg "NoRoad" = some (.ref CN)
  mG : mg "NoGaps" = some (.ref CG)
  mt : mg "TooMany" = some (.ref CT)
  mm : mg "Meets" = some (.ref CM)
  mb : mg "BadText" = some (.ref CB)
/-- what isinstance says of an error of class C -/
structure KindR (K : PySem.W.Frag) (CN CG CT CM CB C : Addr) (b1 b2 b3 b4 b5 : Bool) : Prop where
  xa : XAttr K C
  k1 : PySem.W.kitOne K (.ref C) (.ref CN) = some b1
  k2 : PySem.W.kitOne K (.ref C) (.ref CG) = some b2
  k3 : PySem.W.kitOne K (.ref C) (.ref CT) = some b3
  k4 : PySem.W.kitOne K (.ref C) (.ref CM) = some b4
  k5 : PySem.W.kitOne K (.ref C) (.ref CB) = some b5
  kv : PySem.W.kitOne K (.ref C) (.type "ValueError") = some true
section
variable {P : Program} {w : World} {K : PySem.W.Frag} {mg : Str → Option Value} {base : Heap} {f g CN CG CT CM CB CR : Addr} {fd gd : FuncData}
def kindsV (b1 b2 b3 b4 b5 : Bool) : List V := [.bl b1, .bl b2, .bl b3, .bl b4, .bl b5, .bl true]
def spKind (K : PySem.W.Frag) (CN CG CT CM CB : Addr) : Sp := fun vs H Q _ => ∃ (x C : Addr) (b1 b2 b3 b4 b5 : Bool), vs = [.ref x] ∧ KindR K CN CG CT CM CB C b1 b2 b3 b4 b5 ∧ H x = some (excO x C) ∧ ∀ r H', Same H H' → H r = none → H' r = some (.lst (kindsV b1 b2 b3 b4 b5)) → Q (.ref r) H'
theorem scKind : FnScope ["e", "kinds"] ["e"] (defScope sKind) := ⟨rfl, rfl, rfl, by decide +kernel, rfl, by decide +kernel, by decide +kernel⟩
theorem ok_kind (F : Fun K "_law_kind" "_law_kind" sKind f fd) (m : mg "_law_kind" = some (.ref f)) (G : MgA mg) (N : KNames mg CN CG CT CM CB) : DefC P w K mg base "_law_kind" ["e"] 1 (spKind K CN CG CT CM CB) := by
  refine ⟨f, fd, ?_, F.binds fun _ _ _ _ _ _ us hl => match us, hl with | [_], _ => rfl, F.kp, m⟩
  refine F.okC (k := 0) scKind (fun vs H Q E h => ?_) (fun cdv A outer s H vs Q hr h => ?_)
  · obtain ⟨x, C, b1, b2, b3, b4, b5, rfl, _⟩ := h
    rfl
  obtain ⟨x, C, b1, b2, b3, b4, b5, rfl, Z, hx, q⟩ := h
  have MNoRoad := N.mn
  have MNoGaps := N.mG
  have MTooMany := N.mt
  have MMeets := N.mm
  have MBadText := N.mb
  refine ⟨_, (pss_cons (ps_set (i := 1) scKind.nd rfl (Or.inl rfl) (pe_lst (pa_cons (pe_callB call_isX (by rfl) G.isinst PyProof.Rows.Boot.«isinstance» (pa_cons (pv 0) (pa_cons (pe_glob (by rfl) MNoRoad (v := .ref _) rfl) pa_nil))) (pa_cons (pe_callB call_isX (by rfl) G.isinst PyProof.Rows.Boot.«isinstance» (pa_cons (pv 0) (pa_cons (pe_glob (by rfl) MNoGaps (v := .ref _) rfl) pa_nil))) (pa_cons (pe_callB call_isX (by rfl) G.isinst PyProof.Rows.Boot.«isinstance» (pa_cons (pv 0) (pa_cons (pe_glob (by rfl) MTooMany (v := .ref _) rfl) pa_nil))) (pa_cons (pe_callB call_isX (by rfl) G.isinst PyProof.Rows.Boot.«isinstance» (pa_cons (pv 0) (pa_cons (pe_glob (by rfl) MMeets (v := .ref _) rfl) pa_nil))) pa_nil))))))
    (pss_one (ps_ret (pe_op op_cat (pv 1) (pe_lst (pa_cons (pe_callB call_isX (by rfl) G.isinst PyProof.Rows.Boot.«isinstance» (pa_cons (pv 0) (pa_cons (pe_glob (by rfl) MBadText (v := .ref _) rfl) pa_nil))) (pa_cons (pe_callB call_isX (by rfl) G.isinst PyProof.Rows.Boot.«isinstance» (pa_cons (pv 0) (pa_cons (pe_bltn (by rfl) G.ValueError boot_valueError (v := .ty "ValueError") rfl) pa_nil))) pa_nil))))))), ?_⟩
  refine ⟨_, rfl, x, C, _, _, b1, rfl, .inr ⟨_, rfl, rfl⟩, hx, Z.xa, Z.k1, ?_⟩
  refine ⟨_, rfl, x, C, _, _, b2, rfl, .inr ⟨_, rfl, rfl⟩, hx, Z.xa, Z.k2, ?_⟩
  refine ⟨_, rfl, x, C, _, _, b3, rfl, .inr ⟨_, rfl, rfl⟩, hx, Z.xa, Z.k3, ?_⟩
  refine ⟨_, rfl, x, C, _, _, b4, rfl, .inr ⟨_, rfl, rfl⟩, hx, Z.xa, Z.k4, ?_⟩
  refine ⟨(by show 4 ≤ sizeLine; decide), fun l hl => ?_⟩
  have hx1 : upd H l (.lst [V.bl b1, V.bl b2, V.bl b3, V.bl b4]) x = some (excO x C) := by rw [upd_ne (ne_of_none hx hl)]; exact hx
  refine ⟨_, rfl, _, rfl, x, C, _, _, b5, rfl, .inr ⟨_, rfl, rfl⟩, hx1, Z.xa, Z.k5, ?_⟩
  refine ⟨_, rfl, x, C, _, _, true, rfl, .inl ⟨_, rfl, rfl⟩, hx1, Z.xa, Z.kv, ?_⟩
  refine ⟨(by show 2 ≤ sizeLine; decide), fun l2 hl2 => ?_⟩
  refine ⟨l, l2, _, _, rfl, rfl, by rw [upd_ne (ne_of_none upd_same hl2)]; exact upd_same, upd_same, (by show 4 + 2 ≤ sizeLine; decide), fun r hr' => ?_⟩
  exact q r _ (same_upd (same_upd (same_new hl _) (upd_none hl2)) (upd_none (upd_none hr'))) (upd_none (upd_none hr')) upd_same
end
end Rd
namespace Rd
open PySem L2 PyProof.Rows
/-! ### texts that are read, or refused -/
theorem str_len (x y : Str) : (x ++ y).length = x.length + y.length := by
  show (x.cps ++ y.cps).size = x.cps.size + y.cps.size
  simp
theorem strOk_add {x y : Str} (hx : PyData.strOk x = true) (hy : PyData.strOk y = true) : PyData.strOk (x ++ y) = true := by
  have h1 : x.cps.all (· < 0x110000) = true := hx
  have h2 : y.cps.all (· < 0x110000) = true := hy
  show (x.cps ++ y.cps).all (· < 0x110000) = true
  rw [Array.all_append, h1, h2]
  rfl
/-! ### the parts of a text -/
def partsOf (t : Str) : List Str := Txt.split t (" " : Str)
def readOf (word t : Str) : Option (List Int) := match partsOf t with
  | [] => none
  | x :: ps => if x = word then Tx.allOf Tx.numOf ps else none
theorem jn_len (c : Nat) : ∀ (l : List (List Nat)) (p : List Nat), p ∈ l → p.length ≤ (jn c l).length ∧ ∀ d ∈ p, d ∈ jn c l
  | [], p, h => nomatch h
  | [x], p, h => by rw [List.mem_singleton.mp h]; exact ⟨Nat.le_refl _, fun d h => h⟩
  | x :: y :: r, p, h => by
    rw [jn_cons c x (y :: r) (by simp), List.length_append, List.length_cons]
    rcases List.mem_cons.mp h with z | z
    · rw [z]; exact ⟨by omega, fun d hd => List.mem_append_left _ hd⟩
    · obtain ⟨a, b⟩ := jn_len c (y :: r) p z
      exact ⟨by omega, fun d hd => List.mem_append_right _ (List.mem_cons_of_mem _ (b d hd))⟩
theorem jn_count (c : Nat) : ∀ l : List (List Nat), l.length ≤ (jn c l).length + 1
  | [] => by simp
  | [x] => by simp
  | x :: y :: r => by
    have := jn_count c (y :: r)
    rw [jn_cons c x (y :: r) (by simp), List.length_append]
    simp only [List.length_cons] at this ⊢
    omega
theorem blank_sep : (" " : Str) = ⟨#[32]⟩ := by decide +kernel
theorem parts_facts (t : Str) (ok : PyData.strOk t = true) : partsOf t ≠ [] ∧ (partsOf t).length ≤ t.length + 1 ∧ ∀ p ∈ partsOf t, p.length ≤ t.length ∧ PyData.strOk p = true := by
  have e := StrLaws.join_split t ⟨#[32]⟩
  have ej : jn 32 ((partsOf t).map fun x => x.cps.toList) = t.cps.toList := by
    rw [← join_jn]
    unfold partsOf
    rw [blank_sep, e]
  have len : t.cps.toList.length = t.length := Array.length_toList
  refine ⟨fun z => ?_, ?_, fun p hp => ?_⟩
  · have : t.cps.toList = [] := by rw [← ej, z]; rfl
    have hl : t.length = 0 := by rw [← len, this]; rfl
    have : partsOf t = [t] := by
      unfold partsOf
      refine if_pos ?_
      rw [show decide (t.length < (" " : Str).length) = true by rw [hl]; decide +kernel]
      rfl
    rw [this] at z
    cases z
  · have := jn_count 32 ((partsOf t).map fun x => x.cps.toList)
    rw [ej, len, List.length_map] at this
    exact this
  · obtain ⟨h1, h2⟩ := jn_len 32 ((partsOf t).map fun x => x.cps.toList) p.cps.toList (List.mem_map.mpr ⟨p, hp, rfl⟩)
    rw [ej] at h1 h2
    refine ⟨?_, ?_⟩
    · have lp : p.cps.toList.length = p.length := Array.length_toList
      omega
    have ok' : t.cps.all (· < 0x110000) = true := ok
    show p.cps.all (· < 0x110000) = true
    rw [Array.all_eq_true_iff_forall_mem] at ok' ⊢
    exact fun d hd => ok' d (by simpa using h2 d (by simpa using hd))
theorem words_len {x y : Str} (h : (reprText x).length ≤ 5002) (hy : y.length ≤ 100) : (Str.empty ++ reprText x ++ y).length ≤ sizeLine := by
  rw [str_len, str_len]
  have : Str.empty.length = 0 := rfl
  exact Nat.le_trans (show _ ≤ 9000 by omega) (by decide)
def strNum : V → Option V
  | .str x => (Tx.numOf x).map V.int
  | _ => none
theorem strNum_all : ∀ {ps : List Str} {vs : List V}, (ps.map V.str).map strNum = vs.map some → ∃ ns : List Int, vs = ns.map V.int ∧ Tx.allOf Tx.numOf ps = some ns
  | [], [], _ => ⟨[], rfl, rfl⟩
  | [], _ :: _, h => by simp at h
  | _ :: _, [], h => by simp at h
  | p :: ps, v :: vs, h => by
    rw [List.map_cons, List.map_cons, List.map_cons] at h
    injection h with h1 h2
    obtain ⟨ns, rfl, e⟩ := strNum_all h2
    have h1' : (Tx.numOf p).map V.int = some v := h1
    cases q : Tx.numOf p with
    | none => rw [q] at h1'; cases h1'
    | some n =>
      rw [q] at h1'
      cases h1'
      refine ⟨n :: ns, rfl, ?_⟩
      unfold Tx.allOf
      rw [q, e]
      rfl
/-- a comprehension whose element may raise -/
theorem comp_try {K : PySem.W.Frag} {a : Addr} {xs : List V} {imp : L2.St} {te : TE} {Q : VK} {H1 : Hp} {D : Addr} (f : V → Option V) (hD : H1 D = none) (hx : SqL K H1 a xs) (hz : xs.length ≤ sizeLine)
    (hel : ∀ (i : Nat) x ys (Q' : VK), xs[i]? = some x → (∀ v, f x = some v → Q' v (upd H1 D (.lst ys))) → te (some x :: imp) (upd H1 D (.lst ys)) Q')
    (hq : ∀ vs, xs.map f = vs.map some → Q (.ref D) (upd H1 D (.lst vs))) : CB (Itl K a) imp te Q H1 D := by
  have hx' : ∀ ys, SqL K (upd H1 D (.lst ys)) a xs := fun ys => sq_ne hx hD
  refine ⟨fun i m H2 => m = xs.length - i ∧ i ≤ xs.length ∧ ∃ vs, (xs.take i).map f = vs.map some ∧ H2 = upd H1 D (.lst vs), ⟨xs.length, rfl, Nat.zero_le _, [], rfl, rfl⟩, ?_⟩
  rintro i m H2 ⟨rfl, hi, vs, hv, rfl⟩
  have lv : vs.length = i := by
    have := congrArg List.length hv
    rw [List.length_map, List.length_map, List.length_take] at this
    omega
  by_cases hlt : i < xs.length
  · refine .inr ⟨⟨xs, xs[i], hx' vs, by simp [hlt]⟩, fun v H3 hy => ?_⟩
    obtain ⟨e1, e2⟩ := hy
    subst e1
    have ev := e2 xs (hx' vs)
    refine ⟨keep1, ?_⟩
    show te (some v :: imp) (upd H1 D (.lst vs)) _
    refine hel i v vs _ ev fun u hu => ⟨_, upd_same, by omega, xs.length - (i + 1), by omega, rfl, hlt, vs ++ [u], ?_, by rw [upd_upd]⟩
    rw [Rg.take_succ ev, List.map_append, List.map_append, hv]
    show _ ++ [f v] = _ ++ [some u]
    rw [hu]
  · have e : i = xs.length := by omega
    refine .inl ⟨⟨xs, hx' vs, by omega⟩, hq vs ?_⟩
    rw [e, List.take_length] at hv
    exact hv
section
variable {P : Program} {w : World} {K : PySem.W.Frag} {mg : Str → Option Value} {base : Heap} {f g CN CT CG CB : Addr} {fd gd : FuncData}
theorem ok_checkRoadP (F : Fun K "check_road" "check_road" sCheckRoad f fd) (m : mg "check_road" = some (.ref f)) (G : MgP mg) (ZNoRoad : XCls K "NoRoad" CN) (MNoRoad : mg "NoRoad" = some (.ref CN)) (Dis_road : Def P w K mg base CX0 "is_road" ["places"] 1 (spIsRoad K)) :
    Def P w K mg base (CXP P w) "check_road" ["places"] 2 (spCheckE K CN) := by
  refine ⟨f, fd, ?_, F.binds fun _ _ _ _ _ _ us hl => match us, hl with | [_], _ => rfl, F.kp, m⟩
  refine F.okX (k := 1) scCheckRoad (fun vs H Q E h => ?_) (fun cdv A outer s H vs Q E hr h => ?_)
  · obtain ⟨a, ps, rfl, _⟩ := h
    rfl
  obtain ⟨a, ps, rfl, hS, h1, q, qe⟩ := h
  obtain ⟨tm, hMOST_PLACES⟩ := G.most
  obtain ⟨tl, hLONGEST⟩ := G.long
  refine ⟨_, (pss_one (ps_if (pt_not (pt_val (pe_fn Dis_road hr (by rfl) (pa_cons (pv 0) pa_nil)))) (pss_one (ps_raise raiseP rfl ZNoRoad MNoRoad (by rfl) (pa_cons (pe_join (pj_cons pe_str (pj_cons (pe_fmt (pe_glob (by rfl) hMOST_PLACES (v := .int 50) ⟨_, rfl⟩)) (pj_cons pe_str (pj_cons (pe_fmt (pe_glob (by rfl) hLONGEST (v := .int 4000) ⟨_, rfl⟩)) pj_nil))))) pa_nil))) pss_nil)), ?_⟩
  refine ⟨_, rfl, a, ps, rfl, hS, h1, fun H' sm => ⟨_, rfl, ?_⟩⟩
  cases e : roadB ps with
  | true => exact q e H' sm
  | false => exact ⟨_, rfl, by decide +kernel, .inl ⟨_, rfl, by decide, _, rfl, by decide +kernel, _, rfl, by decide +kernel, .inl ⟨_, rfl, by decide, _, rfl, by decide +kernel, by decide +kernel, by decide, qe e H' sm⟩⟩⟩
theorem ok_checkGapsP (F : Fun K "check_gaps" "check_gaps" sCheckGaps f fd) (m : mg "check_gaps" = some (.ref f)) (G : MgG mg) (ZTooMany : XCls K "TooMany" CT) (MTooMany : mg "TooMany" = some (.ref CT)) (ZNoGaps : XCls K "NoGaps" CG) (MNoGaps : mg "NoGaps" = some (.ref CG)) :
    Def P w K mg base (CXP P w) "check_gaps" ["gaps"] 1 (spGapsE K CT CG okNone) := by
  refine ⟨f, fd, ?_, F.binds fun _ _ _ _ _ _ us hl => match us, hl with | [_], _ => rfl, F.kp, m⟩
  refine F.okX (k := 0) scCheckGaps (fun vs H Q E h => ?_) (fun cdv A outer s H vs Q E hr h => ?_)
  · obtain ⟨a, ps, rfl, _⟩ := h
    rfl
  obtain ⟨b, gs, rfl, hS, h1, q, qt, qg⟩ := h
  obtain ⟨tm, hMOST_GAPS⟩ := G.mostG
  obtain ⟨tl, hLONGEST⟩ := G.long
  refine ⟨_, (pss_cons (ps_if (pt_cmpR op_gt (pe_callB call_len_seq (by rfl) G.len PySem.boot_len (pa_cons (pv 0) pa_nil)) (pe_glob (by rfl) hMOST_GAPS (v := .int 21) ⟨_, rfl⟩) (nomark _)) (pss_one (ps_raise raiseP rfl ZTooMany MTooMany (by rfl) (pa_cons (pe_join (pj_cons pe_str (pj_cons (pe_fmt (pe_glob (by rfl) hMOST_GAPS (v := .int 21) ⟨_, rfl⟩)) (pj_cons pe_str pj_nil)))) pa_nil))) pss_nil)
    (pss_cons (ps_set (i := 1) scCheckGaps.nd rfl (Or.inl rfl) pe_int)
    (pss_one (ps_for PassesOwn.leaving rfl (pi_list (pv 0)) (pg_name (i := 2) scCheckGaps.nd rfl (Or.inl rfl))
      (pss_cons (ps_if (pt_not (pt_chain op_le op_le (pv 1) (pv 2) (pe_glob (by rfl) hLONGEST (v := .int 4000) ⟨_, rfl⟩))) (pss_one (ps_raise raiseP rfl ZNoGaps MNoGaps (by rfl) (pa_cons (pe_join (pj_cons pe_str (pj_cons (pe_fmt (pe_glob (by rfl) hLONGEST (v := .int 4000) ⟨_, rfl⟩)) pj_nil))) pa_nil))) pss_nil)
    (pss_one (ps_set (i := 1) scCheckGaps.nd rfl (Or.inl rfl) (pv 2)))))))), ?_⟩
  have hlen := len_int gs
  refine ⟨_, rfl, b, _, rfl, .inl hS, _, _, rfl, rfl, _, rfl, ?_⟩
  rw [hlen]
  refine ite2 (fun c => ?_) (fun c => ?_)
  · have c' : 21 < gs.length := by have := of_decide_eq_true c; omega
    exact ⟨_, rfl, by decide +kernel, .inl ⟨_, rfl, by decide, _, rfl, by decide +kernel, _, rfl, by decide +kernel, by decide +kernel, by decide, qt c' H (Same.refl H)⟩⟩
  have c' : gs.length ≤ 21 := by have := of_decide_eq_false (Bool.eq_false_iff.mpr c); omega
  refine ⟨_, rfl, b, rfl, ⟨_, hS⟩, for_list (xs := gs.map V.int) (fun i σ H' => H' = H ∧ ∃ z o, σ = [some (.ref b), some (.int z), o] ∧ 1 ≤ z ∧ (z = 1 ∨ z ∈ gs.take i) ∧ (∀ x ∈ gs.take i, 1 ≤ x ∧ x ≤ z ∧ x ≤ 4000) ∧ (gs.take i).Pairwise (· ≤ ·)) ⟨rfl, 1, none, rfl, by decide, .inl rfl, by simp, by simp⟩ ?_ ?_ ?_⟩
  · rintro i σ H' _ ⟨rfl, _⟩
    exact hS
  · rintro i x σ H' hx ⟨rfl, z, o, rfl, z1, z2, z3, z4⟩
    obtain ⟨y, hy, rfl⟩ := int_at hx
    have hym := List.mem_of_getElem? hy
    have tk : gs.take (i + 1) = gs.take i ++ [y] := Rg.take_succ hy
    have bad : ¬ (z ≤ y ∧ y ≤ 4000) → ¬ GapsOk gs := fun h hG => by
      apply h
      refine ⟨?_, hG.high y hym⟩
      rcases z2 with e | e
      · rw [e]; exact hG.low y hym
      · have := hG.rise.sublist (List.take_sublist (i + 1) gs)
        rw [tk, List.pairwise_append] at this
        exact this.2.2 z e y (by simp)
    have boom : ¬ GapsOk gs → E (.ref CG) none H' := fun h => qg c' h H' (Same.refl _)
    refine ⟨_, rfl, _, rfl, _, _, rfl, rfl, _, rfl, ?_⟩
    refine ite2 (fun u => ?_) (fun u => ?_)
    rotate_left
    · have u' : ¬ z ≤ y := of_decide_eq_false (Bool.eq_false_iff.mpr u)
      exact ⟨_, rfl, iteT ⟨_, rfl, by decide +kernel, .inl ⟨_, rfl, by decide, _, rfl, by decide +kernel, by decide +kernel, by decide, boom (bad fun t => u' t.1)⟩⟩⟩
    have u' : z ≤ y := of_decide_eq_true u
    refine ⟨_, _, rfl, rfl, _, rfl, ?_⟩
    refine ite2 (fun v => ?_) (fun v => ?_)
    · have v' : ¬ y ≤ 4000 := by simpa using v
      exact ⟨_, rfl, by decide +kernel, .inl ⟨_, rfl, by decide, _, rfl, by decide +kernel, by decide +kernel, by decide, boom (bad fun t => v' t.2)⟩⟩
    have v' : y ≤ 4000 := by simpa using v
    refine ⟨_, rfl, rfl, y, _, rfl, by omega, .inr (by rw [tk]; simp), fun x hx' => ?_, ?_⟩
    · rw [tk, List.mem_append] at hx'
      rcases hx' with e | e
      · have := z3 x e; omega
      · have : x = y := by simpa using e
        omega
    · rw [tk, List.pairwise_append]
      refine ⟨z4, by simp, fun p hp t ht => ?_⟩
      have : t = y := by simpa using ht
      have := z3 p hp
      omega
  · rintro σ H' ⟨rfl, z, o, rfl, z1, z2, z3, z4⟩
    rw [len_int, List.take_length] at z3 z4
    exact q ⟨c', z4, fun x hx => (z3 x hx).1, fun x hx => (z3 x hx).2.2⟩ H' (Same.refl _)
/-- one number -/
def spNumK (CB : Addr) : Sp := fun vs H Q E => ∃ x : Str, vs = [.str x] ∧ x.length ≤ 500 ∧ PyData.strOk x = true ∧ (∀ n, Tx.numOf x = some n → Q (.int n) H) ∧ (Tx.numOf x = none → ∀ H', Same H H' → E (.ref CB) none H')
theorem scNumber : FnScope ["part", "number"] ["part"] (defScope dReadNumber) := ⟨rfl, rfl, rfl, by decide +kernel, rfl, by decide +kernel, by decide +kernel⟩
theorem repr_small {x : Str} (h : x.length ≤ 500) (ok : PyData.strOk x = true) : (reprText x).length ≤ 5002 := by
  have := StrLaws.reprText_len x fun c hc => by
    have h1 : x.cps.all (· < 0x110000) = true := ok
    have h2 := Array.all_eq_true_iff_forall_mem.mp h1 c (by simpa using hc)
    have h3 := of_decide_eq_true h2
    exact Nat.lt_trans h3 (by decide)
  omega
theorem big_line {n : Nat} (h : n ≤ 9000) : n ≤ sizeLine := Nat.le_trans h (by decide)
theorem ok_numberK (F : Fun K "read_number" "read_number" dReadNumber f fd) (m : mg "read_number" = some (.ref f)) (G : MgA mg) (ZBadText : XCls K "BadText" CB) (MBadText : mg "BadText" = some (.ref CB)) : DefK P w K mg base (CXF P w) "read_number" ["part"] 1 (spNumK CB) := by
  refine ⟨f, fd, ?_, F.binds fun _ _ _ _ _ _ us hl => match us, hl with | [_], _ => rfl, F.kp, m⟩
  refine F.okK (k := 0) scNumber (fun vs H Q E h => ?_) (fun cdv A outer s H vs Q E hr h => ?_)
  · obtain ⟨x, rfl, _⟩ := h
    rfl
  obtain ⟨x, rfl, hl, ok, qn, qe⟩ := h
  refine ⟨_, (pssc_cons (psc_tryInt (i := 1) ⟨rfl, rfl, rfl⟩ rfl raiseCF (fun _ => PassesOwnAt.leaving) scNumber.nd rfl (Or.inl rfl) G.int (by rfl) G.ValueError (by rfl) (pa_cons (pv 0) pa_nil) ZBadText MBadText (by rfl) (fun _ => (pa_cons (pe_join (pj_cons (pe_fmtR (pv 0)) (pj_cons pe_str pj_nil))) pa_nil)))
    (PSs.c (pss_cons (ps_if (pt_cmpR op_ne (pe_callTy call_str_int (by rfl) G.str PyProof.Rows.Boot.«str» (pa_cons (pv 1) pa_nil)) (pv 0) (nomark _)) (pss_one (ps_raise raiseF rfl ZBadText MBadText (by rfl) (pa_cons (pe_join (pj_cons (pe_fmtR (pv 0)) (pj_cons pe_str pj_nil))) pa_nil))) pss_nil)
    (pss_one (ps_ret (pv 1)))))), ?_⟩
  have hz := repr_small hl ok
  have l1 : (Str.empty ++ reprText x).length ≤ 5002 := by rw [str_len]; exact Nat.le_trans (Nat.le_of_eq (Nat.zero_add _)) hz
  refine ⟨_, rfl, x, rfl, by omega, big_line (by omega), fun n hn => ?_, fun hn h hh => ?_⟩
  · refine ⟨_, rfl, n, rfl, Tx.log_of (Tx.int_small hn hl), _, rfl, rfl, ?_⟩
    by_cases e : (Str.ofString (toString n)) = x
    · refine ⟨false, by simp; exact e, ?_⟩
      exact ⟨_, rfl, qn n (Tx.numOf_some.mpr ⟨hn, e⟩)⟩
    · refine ⟨true, by simp; exact e, ?_⟩
      have nn : Tx.numOf x = none := by
        cases q : Tx.numOf x with
        | none => rfl
        | some k =>
          obtain ⟨q1, q2⟩ := Tx.numOf_some.mp q
          rw [hn] at q1
          cases q1
          exact absurd q2 e
      refine ⟨_, rfl, x, rfl, big_line (by omega), _, rfl, big_line (by omega), _, rfl, ?_, ?_, ?_⟩
      · exact words_len hz (by decide +kernel)
      · exact words_len hz (by decide +kernel)
      · exact ⟨(show 1 ≤ sizeLine by decide), qe nn H (Same.refl H)⟩
  · have nn : Tx.numOf x = none := by unfold Tx.numOf; rw [hn]; rfl
    refine ⟨_, rfl, x, rfl, big_line (by omega), _, rfl, big_line (by omega), _, rfl, ?_, ?_, ?_⟩
    · exact words_len hz (by decide +kernel)
    · exact words_len hz (by decide +kernel)
    · exact ⟨upd_same, (show 1 ≤ sizeLine by decide), qe nn _ (same_new hh _)⟩
def spNumsK (CB : Addr) : Sp := fun vs H Q E => ∃ (word t : Str), vs = [.str word, .str t] ∧ word.length ≤ 4 ∧ t.length ≤ 500 ∧ PyData.strOk t = true ∧ (∀ ns, readOf word t = some ns → ∀ r H', Same H H' → H r = none → H' r = some (.lst (ns.map V.int)) → Q (.ref r) H') ∧ (readOf word t = none → ∀ H', Same H H' → E (.ref CB) none H')
theorem scNumbers : FnScope ["word", "text", "parts"] ["word", "text"] (defScope dReadNumbers) := ⟨rfl, rfl, rfl, by decide +kernel, rfl, by decide +kernel, by decide +kernel⟩
theorem ok_numbersK (F : Fun K "read_numbers" "read_numbers" dReadNumbers f fd) (m : mg "read_numbers" = some (.ref f)) (ZBadText : XCls K "BadText" CB) (MBadText : mg "BadText" = some (.ref CB)) (Dread_number : DefK P w K mg base (CXF P w) "read_number" ["part"] 1 (spNumK CB)) : DefK P w K mg base (CXF P w) "read_numbers" ["word", "text"] 2 (spNumsK CB) := by
  refine ⟨f, fd, ?_, F.binds fun _ _ _ _ _ _ us hl => match us, hl with | [_, _], _ => rfl, F.kp, m⟩
  refine F.okK (k := 1) scNumbers (fun vs H Q E h => ?_) (fun cdv A outer s H vs Q E hr h => ?_)
  · obtain ⟨word, t, rfl, _⟩ := h
    rfl
  obtain ⟨word, t, rfl, w4, t5, tok, qn, qe⟩ := h
  refine ⟨_, (pssc_cons (PS.c (ps_set (i := 2) scNumbers.nd rfl (Or.inl rfl) (pe_bm PySem.F.plainAttrs_str PySem.F.slot_str_split PySem.F.type_str_split mt_split (pv 1) (pa_cons pe_str pa_nil))))
    (pssc_cons (PS.c (ps_if (pt_cmpR op_ne (pe_ix ix_list (pv 2) pe_int (fun _ _ => rfl)) (pv 0) (nomark _)) (pss_one (ps_raise raiseF rfl ZBadText MBadText (by rfl) (pa_cons (pe_join (pj_cons pe_str (pj_cons (pe_fmt (pv 0)) pj_nil))) pa_nil))) pss_nil))
    (pssc_one (psc_ret (pec_comp ["part"] [] ⟨rfl, rfl, rfl⟩ rfl leaveF (pi_list (pe_slice sl_list (pv 2) (po_some pe_int) po_none)) (N := ["word", "text", "parts"]) (osc := defScope dReadNumbers) ⟨rfl, by decide +kernel, by decide +kernel, by decide +kernel, by decide +kernel⟩
      (fun _ _ _ => pg_name (i := 0) (show (["part"] : List Str).Nodup by decide +kernel) rfl (Or.inl rfl)) (fun _ _ _ _ _ => (pec_fnF Dread_number hr (by rfl) (pa_cons (pv 0) pa_nil)))))))), ?_⟩
  have pf := parts_facts t tok
  obtain ⟨w0, ps, ep⟩ : ∃ w0 ps, partsOf t = w0 :: ps := by
    cases e : partsOf t with
    | nil => exact absurd e pf.1
    | cons a b => exact ⟨a, b, rfl⟩
  have lp : (partsOf t).length ≤ 501 := by have := pf.2.1; omega
  refine ⟨_, rfl, rfl, _, _, rfl, rfl, by decide +kernel, big_line (by omega), big_line (by show (partsOf t).length ≤ 9000; omega), fun l hl => ?_⟩
  rw [show Txt.split t (" " : Str) = w0 :: ps from ep]
  have s1 := same_new (o := .lst ((w0 :: ps).map V.str)) hl
  have a0 : atI ((w0 :: ps).map V.str) ((0 : Nat) : Int) = some (.str w0) := atI_nat rfl
  refine ⟨_, rfl, l, _, _, _, rfl, rfl, SqL.of upd_same, a0, _, rfl, rfl, ?_⟩
  by_cases e : w0 = word
  rotate_left
  · have rn : readOf word t = none := by unfold readOf; rw [ep]; exact if_neg e
    refine ⟨true, by simp [e], ?_⟩
    have l1 : (Str.empty ++ ("the text does not begin with the word " : Str) ++ word).length ≤ sizeLine := by
      rw [str_len]
      have : (Str.empty ++ ("the text does not begin with the word " : Str)).length ≤ 100 := by decide +kernel
      exact Nat.le_trans (show _ ≤ 9000 by omega) (by decide)
    exact ⟨_, rfl, by decide +kernel, _, rfl, .inr ⟨word, rfl, big_line (by omega), _, rfl, l1, l1, (show 1 ≤ sizeLine by decide), qe rn _ s1⟩⟩
  have rd : readOf word t = Tx.allOf Tx.numOf ps := by unfold readOf; rw [ep]; exact if_pos e
  rw [rd] at qn qe
  refine ⟨false, by simp [e], ?_⟩
  refine ⟨_, rfl, _, rfl, l, _, rfl, SqL.of upd_same, fun c hc => ?_⟩
  rw [cut_from (by decide)]
  have s2 := same_upd (o := .lst (ps.map V.str)) s1 (s1.free hc)
  have pl : ps.length ≤ 501 := by rw [ep, List.length_cons] at lp; omega
  refine ⟨c, rfl, ⟨_, SqL.of upd_same⟩, fun D hD => ?_⟩
  refine comp_try (xs := ps.map V.str) strNum hD (SqL.of upd_same) (by rw [List.length_map]; exact big_line (by omega)) (fun i x ys Q' hx q' => ?_) fun vs hv => ?_
  · obtain ⟨y, hy, rfl⟩ := List.mem_map.mp (List.mem_of_getElem? hx)
    have yf := pf.2.2 y (by rw [ep]; exact List.mem_cons_of_mem _ hy)
    refine ⟨_, rfl, y, rfl, by omega, yf.2, fun n hn => q' _ (by show (Tx.numOf y).map V.int = _; rw [hn]; rfl), fun hn H' sm => ?_⟩
    exact qe (Tx.allOf_none.mpr ⟨y, hy, hn⟩) H' ((same_upd s2 (s2.free hD)).trans sm)
  · obtain ⟨ns, rfl, e2⟩ := strNum_all hv
    exact qn ns e2 D _ (same_upd s2 (s2.free hD)) (s2.free hD) upd_same
/-- a text is read to a list that passes, or refused -/
def spReadK (word : Str) (B : List Int → Bool) (CB : Addr) : Sp := fun vs H Q E => ∃ t : Str, vs = [.str t] ∧ t.length ≤ 500 ∧ PyData.strOk t = true ∧ (∀ ns, readOf word t = some ns → B ns = true → ∀ r H', Same H H' → H r = none → H' r = some (.lst (ns.map V.int)) → Q (.ref r) H') ∧
  ((∀ ns, readOf word t = some ns → B ns = false) → ∀ H', Same H H' → E (.ref CB) none H')
theorem readOf_len {word t : Str} {ns : List Int} (ok : PyData.strOk t = true) (h : readOf word t = some ns) : ns.length ≤ t.length := by
  have pf := (parts_facts t ok).2.1
  unfold readOf at h
  split at h
  · cases h
  · rename_i x ps ep
    split at h
    · have := congrArg List.length (Tx.allOf_some.mp h)
      rw [List.length_map, List.length_map] at this
      rw [ep, List.length_cons] at pf
      omega
    · cases h
theorem scReadRoad : FnScope ["text", "places"] ["text"] (defScope dReadRoad) := ⟨rfl, rfl, rfl, by decide +kernel, rfl, by decide +kernel, by decide +kernel⟩
theorem ok_readRoadK {CHNoRoad : Addr} (F : Fun K "read_road" "read_road" dReadRoad f fd) (m : mg "read_road" = some (.ref f)) (hW : ∃ t, mg "ROAD_WORD" = some (.str "road" t)) (ZHNoRoad : HCls K CHNoRoad) (MNoRoad : mg "NoRoad" = some (.ref CHNoRoad)) (sub : PySem.W.subIn K (.ref CHNoRoad) (.ref CHNoRoad) = some true)
    (ZBadText : XCls K "BadText" CB) (MBadText : mg "BadText" = some (.ref CB)) (Dcheck_road : Def P w K mg base (CXP P w) "check_road" ["places"] 2 (spCheckE K CHNoRoad)) (Dread_numbers : DefK P w K mg base (CXF P w) "read_numbers" ["word", "text"] 2 (spNumsK CB)) : DefK P w K mg base (CXF P w) "read_road" ["text"] 3 (spReadK "road" roadB CB) := by
  refine ⟨f, fd, ?_, F.binds fun _ _ _ _ _ _ us hl => match us, hl with | [_], _ => rfl, F.kp, m⟩
  refine F.okK (k := 2) scReadRoad (fun vs H Q E h => ?_) (fun cdv A outer s H vs Q E hr h => ?_)
  · obtain ⟨t, rfl, _⟩ := h
    rfl
  obtain ⟨t, rfl, t5, tok, q, qe⟩ := h
  obtain ⟨tw, hROAD_WORD⟩ := hW
  refine ⟨_, (pssc_cons (psc_set (i := 1) scReadRoad.nd rfl (Or.inl rfl) (pec_fn Dread_numbers hr passF (by rfl) (pa_cons (pe_glob (by rfl) hROAD_WORD (v := .str "road") ⟨_, rfl⟩) (pa_cons (pv 0) pa_nil))))
    (PSs.c (pss_cons (ps_tryR (tk := fun C0 => PySem.W.subIn K (.ref C0) (.ref CHNoRoad) = some true) ⟨rfl, rfl, rfl⟩ raiseCF (fun _ => PassesOwnAt.leaving) (fun _ h => tst_name ZHNoRoad MNoRoad (by rfl) h) ZBadText MBadText (by rfl) (fun _ _ => (pss_one (ps_expr (pe_fnP Dcheck_road hr (by rfl) (pa_cons (pv 1) pa_nil))))) (fun _ => (pa_cons pe_str pa_nil)))
    (pss_one (ps_ret (pv 1)))))), ?_⟩
  refine ⟨_, rfl, _, t, rfl, by decide +kernel, t5, tok, fun ns hns r H1 s1 r0 r1 => ?_, fun hn H1 s1 => qe (fun ns z => by rw [hn] at z; cases z) H1 s1⟩
  have nl := readOf_len tok hns
  refine ⟨_, rfl, r, ns, rfl, SqL.of r1, by omega, fun e H2 s2 => ?_, fun e H2 s2 => ?_⟩
  · exact ⟨_, rfl, q ns hns e r H2 (s1.trans s2) r0 (s2 _ _ r1)⟩
  · refine ⟨_, rfl, sub, fun h hh => ⟨upd_same, (show 1 ≤ sizeLine by decide), qe (fun ms z => ?_) _ ((s1.trans s2).trans (same_new hh _))⟩⟩
    rw [hns] at z
    cases z
    exact e
noncomputable def gapsB (gs : List Int) : Bool := @decide (GapsOk gs) (Classical.propDecidable _)
theorem scReadGaps : FnScope ["text", "gaps"] ["text"] (defScope dReadGaps) := ⟨rfl, rfl, rfl, by decide +kernel, rfl, by decide +kernel, by decide +kernel⟩
theorem ok_readGapsK {CHTooMany CHNoGaps : Addr} (F : Fun K "read_gaps" "read_gaps" dReadGaps f fd) (m : mg "read_gaps" = some (.ref f)) (hW : ∃ t, mg "GAPS_WORD" = some (.str "gaps" t)) (MTooMany : mg "TooMany" = some (.ref CHTooMany)) (MNoGaps : mg "NoGaps" = some (.ref CHNoGaps))
    (x1 : PySem.W.exmAny K (.ref CHTooMany) [.ref CHTooMany, .ref CHNoGaps] = some true) (x2 : PySem.W.exmAny K (.ref CHNoGaps) [.ref CHTooMany, .ref CHNoGaps] = some true)
    (ZBadText : XCls K "BadText" CB) (MBadText : mg "BadText" = some (.ref CB)) (Dcheck_gaps : Def P w K mg base (CXP P w) "check_gaps" ["gaps"] 2 (spGapsE K CHTooMany CHNoGaps okNone)) (Dread_numbers : DefK P w K mg base (CXF P w) "read_numbers" ["word", "text"] 2 (spNumsK CB)) : DefK P w K mg base (CXF P w) "read_gaps" ["text"] 3 (spReadK "gaps" gapsB CB) := by
  refine ⟨f, fd, ?_, F.binds fun _ _ _ _ _ _ us hl => match us, hl with | [_], _ => rfl, F.kp, m⟩
  refine F.okK (k := 2) scReadGaps (fun vs H Q E h => ?_) (fun cdv A outer s H vs Q E hr h => ?_)
  · obtain ⟨t, rfl, _⟩ := h
    rfl
  obtain ⟨t, rfl, t5, tok, q, qe⟩ := h
  obtain ⟨tw, hGAPS_WORD⟩ := hW
  refine ⟨_, (pssc_cons (psc_set (i := 1) scReadGaps.nd rfl (Or.inl rfl) (pec_fn Dread_numbers hr passF (by rfl) (pa_cons (pe_glob (by rfl) hGAPS_WORD (v := .str "gaps") ⟨_, rfl⟩) (pa_cons (pv 0) pa_nil))))
    (PSs.c (pss_cons (ps_tryR (tk := fun C0 => PySem.W.exmAny K (.ref C0) [.ref CHTooMany, .ref CHNoGaps] = some true) ⟨rfl, rfl, rfl⟩ raiseCF (fun _ => PassesOwnAt.leaving) (fun _ h => tst_tup2 MTooMany (by rfl) MNoGaps (by rfl) h) ZBadText MBadText (by rfl) (fun _ _ => (pss_one (ps_expr (pe_fnP Dcheck_gaps hr (by rfl) (pa_cons (pv 1) pa_nil))))) (fun _ => (pa_cons pe_str pa_nil)))
    (pss_one (ps_ret (pv 1)))))), ?_⟩
  refine ⟨_, rfl, _, t, rfl, by decide +kernel, t5, tok, fun ns hns r H1 s1 r0 r1 => ?_, fun hn H1 s1 => qe (fun ns z => by rw [hn] at z; cases z) H1 s1⟩
  have nl := readOf_len tok hns
  have bad : ¬ GapsOk ns → ∀ H2, Same H1 H2 → E (.ref CB) none H2 := fun nb H2 s2 => qe (fun ms z => by
    rw [hns] at z
    cases z
    exact @decide_eq_false _ (Classical.propDecidable _) nb) H2 (s1.trans s2)
  refine ⟨_, rfl, r, ns, rfl, SqL.of r1, by omega, fun e H2 s2 => ?_, fun e H2 s2 => ?_, fun _ e H2 s2 => ?_⟩
  · exact ⟨_, rfl, q ns hns (@decide_eq_true _ (Classical.propDecidable _) e) r H2 (s1.trans s2) r0 (s2 _ _ r1)⟩
  · exact ⟨_, rfl, x1, fun h hh => ⟨upd_same, (show 1 ≤ sizeLine by decide), bad (fun z => by have := z.few; omega) _ (s2.trans (same_new hh _))⟩⟩
  · exact ⟨_, rfl, x2, fun h hh => ⟨upd_same, (show 1 ≤ sizeLine by decide), bad e _ (s2.trans (same_new hh _))⟩⟩
end
end Rd
/-! TEXTS: slices, walked sign by sign. -/
namespace L2
open PySem PySem.Spec PyProof.Rows
/-- the signs of a text -/
def Its (x : Str) : It := ⟨fun i _ => i < x.cps.size, fun i H v H' => H' = H ∧ ∃ c, x.cps[i]? = some c ∧ v = .str ⟨#[c]⟩, fun i _ => x.cps.size ≤ i⟩
theorem turn_str {P : Program} {w : World} {K : PySem.W.Frag} {tg : Expr} (it : Addr) (ty : String) (x : Str) (t : Tok) (hty : ty = "str_ascii_iterator" ∨ ty = "str_iterator") : Turn P w K tg (Its x) [it] it (fun i h => h.IsStrIter it ty x t i) where
  mem := by simp
  obj := fun i h st b hb => by
    have e : b = it := by simpa using hb
    subst e
    obtain ⟨o, e, c, d⟩ := st
    exact ⟨o, e, fun v z => by rw [d] at z; cases z⟩
  keep := fun i h h' st k => by
    obtain ⟨o, e, r⟩ := st
    exact ⟨o, k it (by simp) o e, r⟩
  item := by
    intro X hP hw hK hc i pins s σ H E I hf st hg
    subst hP hw hK
    obtain ⟨f0, f1, f2, f3, f4, f5⟩ := hf it (by simp)
    have hlt : i < x.cps.size := hg
    have hx : x.cps[i]? = some x.cps[i] := by simp [hlt]
    have go : ∀ h', h'.IsStrIter it ty x t (i + 1) → Heap.SameBut it s.heap h' → ∃ u, some (Value.str ⟨#[x.cps[i]]⟩ s.toks) = some u ∧ wpAny (model X.prog X.w) X.A (letOwnedTupleGo tg (.ref it) u) (fun _ s2 => ∃ y H', Inv X pins σ H' s2 ∧ RelV y u ∧ (Its x).yld i H y H' ∧ s2.heap.IsStrIter it ty x t (i + 1) ∧ ∀ b ∈ [it], H' b = none) E { s with heap := h', toks := s.toks + 1 } := fun h' st' sb => by
      have I1 : Inv X pins σ H { s with heap := h', toks := s.toks + 1 } := I.turned (t' := s.toks + 1) (fun b o hb e => (sb.2 b hb).trans e) f0 f1 f3 f4 f5
      obtain ⟨o, e, c, d⟩ := id st'
      exact ⟨_, rfl, go_of (s := { s with heap := h', toks := s.toks + 1 }) e c d (by rcases hty with z | z <;> rw [z] <;> decide) ⟨.str ⟨#[x.cps[i]]⟩, H, I1, ⟨_, rfl⟩, ⟨rfl, _, hx, rfl⟩, st', fun b hb => (hf b hb).1⟩⟩
    rcases hty with rfl | rfl
    · exact wpAny_pyNext_ascii_item st hx fun h' st' sb => go h' st' sb
    · exact wpAny_pyNext_wide_item st hx fun h' st' sb => go h' st' sb
  done := by
    intro X hP hw hK hc i pins s σ H E I hf st hg
    subst hP hw hK
    obtain ⟨f0, f1, f2, f3, f4, f5⟩ := hf it (by simp)
    have hge : x.cps.size ≤ i := hg
    have hx : x.cps[i]? = none := by simp [hge]
    rcases hty with rfl | rfl
    · exact wpAny_pyNext_ascii_end (I.ok.hd hc) st hx fun h' eb => ⟨rfl, I.turned (t' := s.toks) (fun b o hb e => eb b o hb e) f0 f1 f3 f4 f5⟩
    · exact wpAny_pyNext_wide_end (I.ok.hd hc) st hx fun h' eb => ⟨rfl, I.turned (t' := s.toks) (fun b o hb e => eb b o hb e) f0 f1 f3 f4 f5⟩
  self := fun _ _ _ _ _ st h => by
    rcases hty with rfl | rfl
    · exact wpAny_pyIter_striter_ascii st h
    · exact wpAny_pyIter_striter_wide st h
section
variable {X : Cx} {tg : Expr}
def iStr (tl : TE) : TI := fun σ H R => tl σ H fun v H1 => ∃ x, v = .str x ∧ R (Its x) H1
theorem pi_str {l : Expr} {tl : TE} (hl : PE X l tl) : PI X tg l (iStr tl) := by
  intro pins s σ H R I h
  refine thn (hl pins s σ H _ I h) fun v s1 ⟨y, H1, I1, r1, x, e, q⟩ => ?_
  subst e
  obtain ⟨t, rfl⟩ := (show ∃ t, v = Value.str x t from r1)
  have fin : ∀ ty, (ty = "str_ascii_iterator" ∨ ty = "str_iterator") → PIE X pins σ tg R (.ref s1.heap.objs.size) { s1 with heap := s1.heap.push { cls := .type ty, data := .fields #[.str x t, .int 0 0] } } := fun ty hty => by
    refine ⟨s1.heap.objs.size, [s1.heap.objs.size], _, _, H1, rfl, I1.kept (t' := s1.toks) fun b o e => Heap.get?_push_of_some _ e, turn_str _ ty x t hty, ⟨_, Heap.get?_push_size _ rfl, rfl, rfl⟩, fun b hb => ?_, q⟩
    have e : b = s1.heap.objs.size := by simpa using hb
    subst e
    exact I1.fpOk (Nat.le_refl _) (I1.hok.fresh (Nat.le_refl _))
  cases ha : x.cps.all (· < 128) with
  | true => exact wpAny_pyIter_ascii ha (fin _ (.inl rfl))
  | false => exact wpAny_pyIter_wide ha (fin _ (.inr rfl))
/-- over the signs of a text -/
theorem for_str {x : Str} {g : TG} {tb : TS} {D : Ends} {σ : St} {H : Hp} (Pv : Nat → St → Hp → Prop) (h0 : Pv 0 σ H)
    (hs : ∀ i c σ H, x.cps.toList[i]? = some c → Pv i σ H → g (.str ⟨#[c]⟩) σ H fun σ2 H2 => tb { D with nx := Pv (i + 1), ct := Pv (i + 1), bk := D.nx } σ2 H2) (hd : ∀ σ H, Pv x.cps.toList.length σ H → D.nx σ H) :
    ∃ W : Nat → Nat → St → Hp → Prop, (∃ m, W 0 m σ H) ∧ ∀ i m σ H, W i m σ H →
      ((Its x).stop i H ∧ D.nx σ H) ∨ ((Its x).go i H ∧ ∃ N : St → Hp → Prop, (∀ σ' H', N σ' H' → ∃ m', m' < m ∧ W (i + 1) m' σ' H') ∧ ∀ y H', (Its x).yld i H y H' → g y σ H' fun σ2 H2 => tb { D with nx := N, ct := N, bk := D.nx } σ2 H2) := by
  have len : x.cps.toList.length = x.cps.size := Array.length_toList
  refine ⟨fun i m σ H => m = x.cps.size - i ∧ i ≤ x.cps.size ∧ Pv i σ H, ⟨x.cps.size, by simp, Nat.zero_le _, h0⟩, ?_⟩
  rintro i m σ H ⟨rfl, hi, p⟩
  by_cases hlt : i < x.cps.size
  · refine .inr ⟨hlt, Pv (i + 1), fun σ' H' p' => ⟨x.cps.size - (i + 1), by omega, rfl, hlt, p'⟩, fun y H' hy => ?_⟩
    obtain ⟨e, c, hc, rfl⟩ := hy
    subst e
    exact hs i c σ _ (by simpa using hc) p
  · have e : i = x.cps.toList.length := by omega
    subst e
    exact .inl ⟨Nat.le_of_eq len.symm, hd σ H p⟩
/-- x[lo:hi] of a text -/
def rSlS : V → Option Int → Option Int → Hp → VK → Prop := fun x lo hi H Q => ∃ z, x = .str z ∧ z.length ≤ sizeLine ∧ Q (.str (Txt.slice z lo hi)) H
theorem sl_str : SlR X rSlS := by
  intro pins s σ H x v vl vu lo hi sl Q I rx hs pl pu h
  obtain ⟨z, rfl, hz, q⟩ := h
  obtain ⟨t, rfl⟩ := (show ∃ t, v = Value.str z t from rx)
  refine ⟨"str", _, F.slot_str_getitem.lookup, typeIs_str _ _ _, ?_⟩
  obtain ⟨l, el1, el2⟩ : ∃ l : Option (Int × Tok), partValue l = vl ∧ l.map (·.1) = lo := by
    cases pl with
    | none => exact ⟨none, rfl, rfl⟩
    | int i tk => exact ⟨some (i, tk), rfl, rfl⟩
  obtain ⟨u, eu1, eu2⟩ : ∃ u : Option (Int × Tok), partValue u = vu ∧ u.map (·.1) = hi := by
    cases pu with
    | none => exact ⟨none, rfl, rfl⟩
    | int i tk => exact ⟨some (i, tk), rfl, rfl⟩
  subst el1 eu1 el2 eu2
  refine wpAny_getItem_str_slice (l := l) (u := u) (st := none) hs rfl ?_
  exact post_val_or_str ⟨Nat.le_trans (Txt.slice_le z _ _) hz, fun t' k => ⟨.str _, H, I.tok _, ⟨t', rfl⟩, q⟩⟩
end
end L2
namespace Rd
open PySem L2 PyProof.Rows
section
variable {P : Program} {w : World} {K : PySem.W.Frag} {mg : Str → Option Value} {base : Heap} {f g CN CT CG CB : Addr} {fd gd : FuncData}
def lnV : Option Int → V
  | some n => .int n
  | none => .non
theorem digits_are : (Str.ofString "0123456789").cps.toList = [48, 49, 50, 51, 52, 53, 54, 55, 56, 57] := by decide +kernel
theorem not_dig (c : Nat) : (!!(Builtin.Str.occurrences (Str.ofString "0123456789") ⟨#[c]⟩ 0 (Str.ofString "0123456789").length 1).isEmpty) = !Tx.dig c := by
  rw [StrLaws.found_one, digits_are]
  congr 1
  unfold Tx.dig
  rw [Bool.eq_iff_iff]
  simp
  omega
def spLnum : Sp := fun vs H Q _ => ∃ x : Str, vs = [.str x] ∧ x.length ≤ 500 ∧ Q (lnV (Tx.lawNum x)) H
theorem scLnum : FnScope ["word", "sign"] ["word"] (defScope sNumber) := ⟨rfl, rfl, rfl, by decide +kernel, rfl, by decide +kernel, by decide +kernel⟩
theorem ok_lnum (F : Fun K "_law_number" "_law_number" sNumber f fd) (m : mg "_law_number" = some (.ref f)) (G : MgA mg) : Def P w K mg base CX0 "_law_number" ["word"] 1 spLnum := by
  refine ⟨f, fd, ?_, F.binds fun _ _ _ _ _ _ us hl => match us, hl with | [_], _ => rfl, F.kp, m⟩
  refine F.ok (k := 0) scLnum (fun vs H Q E h => ?_) (fun cdv A outer s H vs Q E hr h => ?_)
  · obtain ⟨x, rfl, _⟩ := h
    rfl
  obtain ⟨x, rfl, hl, q⟩ := h
  refine ⟨_, (pss_cons (ps_if (pw_or (pt_cmpR op_eq (pv 0) pe_str (nomark _)) (pw_or (pt_cmpR op_gt (pe_callB call_len_str (by rfl) G.len PySem.boot_len (pa_cons (pv 0) pa_nil)) pe_int (nomark _)) (pw_or1 (pw_and (pt_cmpR op_eq (pe_ix ix_str (pv 0) pe_int (fun _ _ => rfl)) pe_str (nomark _)) (pw_and1 (pt_cmpR op_ne (pv 0) pe_str (nomark _)))).pt))).pt (pss_one (ps_ret pe_non)) pss_nil)
    (pss_cons (ps_for PassesOwn.never rfl (pi_str (pv 0)) (pg_name (i := 1) scLnum.nd rfl (Or.inl rfl))
      (pss_one (ps_if (pt_cmpR op_notIn_str (pv 1) pe_str (by rfl)) (pss_one (ps_ret pe_non)) pss_nil)))
    (pss_one (ps_ret (pe_callTy call_intS (by rfl) G.int PyProof.Rows.Boot.«int» (pa_cons (pv 0) pa_nil)))))), ?_⟩
  have len : x.cps.toList.length = x.length := Array.length_toList
  have LN : (x.length = 0 ∨ 4 < x.length ∨ (x.cps.toList.head? = some 48 ∧ x.length ≠ 1)) → Q .non H := fun z => by
    have := q
    unfold Tx.lawNum at this
    rw [if_pos z] at this
    exact this
  refine ⟨_, rfl, rfl, _, rfl, ite2 (fun c => iteT (LN (.inl ?_))) fun c => ?_⟩
  · have e : x = Str.ofString "" := by simpa using c
    rw [e]; decide +kernel
  refine ⟨_, rfl, x, rfl, big_line (by omega), _, _, rfl, rfl, _, rfl, ite2 (fun c2 => iteT (LN (.inr (.inl ?_)))) fun c2 => ?_⟩
  · have := of_decide_eq_true c2
    omega
  have c2' : x.length ≤ 4 := by
    have := of_decide_eq_false (Bool.eq_false_iff.mpr c2)
    omega
  obtain ⟨c0, r0, e0⟩ : ∃ c0 r0, x.cps.toList = c0 :: r0 := by
    cases e : x.cps.toList with
    | nil =>
      exfalso
      apply c
      have : x = Str.ofString "" := Tx.str_ext (by rw [e]; decide +kernel)
      simp [this]
    | cons a b => exact ⟨a, b, rfl⟩
  have two : (Str.ofString "0").cps.toList = [48] := by decide +kernel
  have one0 : c0 = 48 ↔ (⟨#[c0]⟩ : Str) = Str.ofString "0" := by
    constructor
    · intro e; exact Tx.str_ext (by rw [two, e])
    · intro e
      have := congrArg (fun z : Str => z.cps.toList) e
      simp only [two] at this
      simpa using this
  have LN2 : ¬ (x.cps.toList.head? = some 48 ∧ x.length ≠ 1) → Q (lnV (if x.cps.toList.all Tx.dig then PySem.intText? x else none)) H := fun z => by
    have := q
    unfold Tx.lawNum at this
    rw [if_neg] at this
    · exact this
    · rintro (y | y | y)
      · rw [← len, e0] at y
        cases y
      · omega
      · exact z y
  refine ⟨_, rfl, x, _, c0, rfl, rfl, big_line (by omega), by rw [e0]; exact atI_nat (j := 0) rfl, rfl, _, rfl, ite2 (fun c3 => ⟨_, rfl, rfl, _, rfl, ite2 (fun c4 => LN (.inr (.inr ?_))) fun c4 => ?_⟩) fun c3 => iteF ?_⟩
  · have z1 : (⟨#[c0]⟩ : Str) = Str.ofString "0" := by simpa using c3
    have z2 : x ≠ Str.ofString "0" := by simpa using c4
    refine ⟨by rw [e0, one0.mpr z1]; rfl, fun z => z2 (Tx.str_ext ?_)⟩
    rw [two, e0, one0.mpr z1]
    rw [← len, e0, List.length_cons] at z
    rw [List.length_eq_zero_iff.mp (show r0.length = 0 by omega)]
  all_goals
    have go : Q (lnV (if x.cps.toList.all Tx.dig then PySem.intText? x else none)) H := LN2 (by
      first
        | (have z2 : x = Str.ofString "0" := by simpa using c4
           rintro ⟨_, y⟩
           exact y (by rw [z2]; decide +kernel))
        | (rintro ⟨y, _⟩
           rw [e0] at y
           have y' : c0 = 48 := by simpa using y
           exact c3 (by simp [one0.mp y'])))
    refine ⟨_, rfl, x, rfl, for_str (x := x) (fun i σ H' => H' = H ∧ (∃ o, σ = [some (.str x), o]) ∧ (x.cps.toList.take i).all Tx.dig = true) ⟨rfl, ⟨_, rfl⟩, rfl⟩ ?_ ?_⟩
    · rintro i d σ H' hd ⟨rfl, ⟨o, rfl⟩, ha⟩
      refine ⟨_, rfl, _, _, rfl, rfl, _, rfl, ?_⟩
      rw [not_dig]
      refine ite2 (fun u => ?_) fun u => ?_
      · rw [if_neg] at go
        · exact go
        · intro z
          have := List.all_eq_true.mp z d (List.mem_of_getElem? hd)
          rw [this] at u
          cases u
      · refine ⟨rfl, ⟨_, rfl⟩, ?_⟩
        rw [Rg.take_succ hd, List.all_append, ha]
        simp at u
        simp [u]
    · rintro σ H' ⟨rfl, ⟨o, rfl⟩, ha⟩
      rw [List.take_length] at ha
      rw [if_pos ha] at go
      have hdig : NumText.AllDigits x.cps.toList := fun c hcm => by
        have := List.all_eq_true.mp ha c hcm
        unfold Tx.dig at this
        rw [Bool.and_eq_true] at this
        exact ⟨of_decide_eq_true this.1, of_decide_eq_true this.2⟩
      have e := PySem.intText_digits hdig (by rw [e0]; simp) (by omega)
      rw [e] at go
      exact ⟨_, rfl, x, _, rfl, e, by omega, go⟩
end
end Rd
namespace Rd
open PySem L2 PyProof.Rows
def okOf (h : Str) (ns : List Int) : Prop := if h = Str.ofString "road" then roadB ns = true else GapsOk ns
theorem roadB_of {ps : List Int} (h1 : 1 ≤ ps.length) (h2 : ps.length ≤ 50) (h3 : ps.getD 0 0 = 0) (h4 : ps.getD (ps.length - 1) 0 ≤ 4000) (h5 : ps.Pairwise (· < ·)) : roadB ps = true := by
  unfold roadB
  rw [Bool.and_eq_true, Bool.and_eq_true]
  refine ⟨⟨decide_eq_true ⟨h1, h2⟩, ?_⟩, ?_⟩
  · rw [decide_eq_false (by omega), decide_eq_false (by omega)]; rfl
  · unfold adjs
    rw [List.all_map, List.all_eq_true]
    intro i hi
    have hi' := List.mem_range.mp hi
    refine decide_eq_true ?_
    have e1 : ps.getD i 0 = ps[i]'(by omega) := by rw [List.getD_eq_getElem?_getD, List.getElem?_eq_getElem (by omega)]; rfl
    have e2 : ps.getD (i + 1) 0 = ps[i + 1]'(by omega) := by rw [List.getD_eq_getElem?_getD, List.getElem?_eq_getElem (by omega)]; rfl
    rw [e1, e2]
    exact List.pairwise_iff_getElem.mp h5 i (i + 1) (by omega) (by omega) (by omega)
theorem at_upd {H : Hp} {a b : Addr} {o o' : HO} (h : H a = some o) (hb : H b = none) : upd H b o' a = some o := by rw [upd_ne (ne_of_none h hb)]; exact h
/-- what passes lies within four figures -/
theorem ok_small {h : Str} {ns : List Int} (ok : okOf h ns) : ∀ n ∈ ns, 0 ≤ n ∧ n ≤ 9999 := fun n hn => by
  unfold okOf at ok
  split at ok
  · obtain ⟨f1, f2, f3, f4, f5⟩ := roadB_facts ok
    have := Rg.rise_between f5 f3 n hn
    omega
  · have := ok.low n hn
    have := ok.high n hn
    omega
theorem inV_non : ∀ ps : List Str, inV .non (ps.map fun x => lnV (Tx.lawNum x)) = true ↔ Tx.allOf Tx.lawNum ps = none
  | ps => by
    rw [Tx.allOf_none]
    unfold inV
    rw [List.any_map, List.any_eq_true]
    constructor
    · rintro ⟨x, hx, e⟩
      refine ⟨x, hx, ?_⟩
      cases q : Tx.lawNum x with
      | none => rfl
      | some n =>
        have e' : eqV (lnV (Tx.lawNum x)) .non = true := e
        rw [q] at e'
        cases e'
    · rintro ⟨x, hx, e⟩
      refine ⟨x, hx, ?_⟩
      show eqV (lnV (Tx.lawNum x)) .non = true
      rw [e]
      rfl
theorem row_ints {ps : List Str} {ns : List Int} (h : Tx.allOf Tx.lawNum ps = some ns) : (ps.map fun x => lnV (Tx.lawNum x)) = ns.map V.int := by
  have := congrArg (List.map lnV) (Tx.allOf_some.mp h)
  rw [List.map_map, List.map_map] at this
  exact this
section
variable {P : Program} {w : World} {K : PySem.W.Frag} {mg : Str → Option Value} {base : Heap} {f g CN CT CG CB : Addr} {fd gd : FuncData}
def lnF : V → V
  | .str x => lnV (Tx.lawNum x)
  | v => v
def spDue : Sp := fun vs H Q _ => ∃ t h : Str, vs = [.str t, .str h] ∧ t.length ≤ 500 ∧ PyData.strOk t = true ∧ (h = Str.ofString "road" ∨ h = Str.ofString "gaps") ∧ (∀ ns, readOf h t = some ns → okOf h ns → ∀ r H', Same H H' → H r = none → H' r = some (.lst (ns.map V.int)) → Q (.ref r) H') ∧
  ((∀ ns, readOf h t = some ns → ¬ okOf h ns) → ∀ H', Same H H' → Q .non H')
theorem scDue : FnScope ["text", "head", "words", "row"] ["text", "head"] (defScope sDue) := ⟨rfl, rfl, rfl, by decide +kernel, rfl, by decide +kernel, by decide +kernel⟩
theorem ok_due (F : Fun K "_law_due" "_law_due" sDue f fd) (m : mg "_law_due" = some (.ref f)) (G : MgA mg) (D_law_number : Def P w K mg base CX0 "_law_number" ["word"] 1 spLnum) : Def P w K mg base CX0 "_law_due" ["text", "head"] 2 spDue := by
  refine ⟨f, fd, ?_, F.binds fun _ _ _ _ _ _ us hl => match us, hl with | [_, _], _ => rfl, F.kp, m⟩
  refine F.ok (k := 1) scDue (fun vs H Q E h => ?_) (fun cdv A outer s H vs Q E hr h => ?_)
  · obtain ⟨t, h, rfl, _⟩ := h
    rfl
  obtain ⟨t, hd, rfl, t5, tok, hh, qy, qn⟩ := h
  refine ⟨_, (pss_cons (ps_set (i := 2) scDue.nd rfl (Or.inl rfl) (pe_bm PySem.F.plainAttrs_str PySem.F.slot_str_split PySem.F.type_str_split mt_split (pv 0) (pa_cons pe_str pa_nil)))
    (pss_cons (ps_if (pt_cmpR op_ne (pe_ix ix_list (pv 2) pe_int (fun _ _ => rfl)) (pv 1) (nomark _)) (pss_one (ps_ret pe_non)) pss_nil)
    (pss_cons (ps_comp (i := 3) ["word"] [] scDue.nd rfl rfl rfl rfl (pi_list (pe_slice sl_list (pv 2) (po_some pe_int) po_none)) (N := ["text", "head", "words", "row"]) (osc := defScope sDue) ⟨rfl, by decide +kernel, by decide +kernel, by decide +kernel, by decide +kernel⟩
      (fun _ _ _ => pg_name (i := 0) (show (["word"] : List Str).Nodup by decide +kernel) rfl (Or.inl rfl)) (fun _ _ _ => pf_nil) (fun _ _ _ => (pe_fn D_law_number hr (by rfl) (pa_cons (pv 0) pa_nil))))
    (pss_cons (ps_if (pt_cmpR op_in_seq pe_non (pv 3) (by rfl)) (pss_one (ps_ret pe_non)) pss_nil)
    (pss_cons (ps_if (pt_cmpR op_eq (pv 1) pe_str (nomark _)) (pss_one (ps_if (pw_or (pt_not (pt_chain op_le op_le pe_int (pe_callB call_len_seq (by rfl) G.len PySem.boot_len (pa_cons (pv 3) pa_nil)) pe_int)) (pw_or (pt_cmpR op_ne (pe_ix ix_list (pv 3) pe_int (fun _ _ => rfl)) pe_int (nomark _)) (pw_or (pt_cmpR op_gt (pe_ix ix_list (pv 3) (pe_un un_neg pe_int) (fun _ _ => rfl)) pe_int (nomark _)) (pw_or1 (pt_cmpR (op_neD hr.units) (pv 3) (pe_callB (call_srt_set rfl) (by rfl) G.sorted boot_sorted (pa_cons (pe_callTy (call_set_of rfl) (by rfl) G.set boot_set (pa_cons (pv 3) pa_nil)) pa_nil)) (nomark _)))))).pt (pss_one (ps_ret pe_non)) pss_nil)) (pss_one (ps_if (pw_or (pt_cmpR op_gt (pe_callB call_len_seq (by rfl) G.len PySem.boot_len (pa_cons (pv 3) pa_nil)) pe_int (nomark _)) (pw_or (pt_cmpR (op_neD hr.units) (pv 3) (pe_callB call_srt (by rfl) G.sorted boot_sorted (pa_cons (pv 3) pa_nil)) (nomark _)) (pw_or (pt_cmpR op_lt (pe_minE rfl (by rfl) G.min (pa_cons (pv 3) pa_nil) (pk_cons pe_int pk_nil)) pe_int (nomark _)) (pw_or1 (pt_cmpR op_gt (pe_maxE rfl (by rfl) G.max (pa_cons (pv 3) pa_nil) (pk_cons pe_int pk_nil)) pe_int (nomark _)))))).pt (pss_one (ps_ret pe_non)) pss_nil)))
    (pss_one (ps_ret (pv 3)))))))), ?_⟩
  have pf := parts_facts t tok
  obtain ⟨w0, ps, ep⟩ : ∃ w0 ps, partsOf t = w0 :: ps := by
    cases e : partsOf t with
    | nil => exact absurd e pf.1
    | cons a b => exact ⟨a, b, rfl⟩
  have lp : (partsOf t).length ≤ 501 := by have := pf.2.1; omega
  refine ⟨_, rfl, rfl, _, _, rfl, rfl, by decide +kernel, big_line (by omega), big_line (by show (partsOf t).length ≤ 9000; omega), fun l hl => ?_⟩
  rw [show Txt.split t (" " : Str) = w0 :: ps from ep]
  have s1 := same_new (o := .lst ((w0 :: ps).map V.str)) hl
  have a0 : atI ((w0 :: ps).map V.str) ((0 : Nat) : Int) = some (.str w0) := atI_nat rfl
  refine ⟨_, rfl, l, _, _, _, rfl, rfl, SqL.of upd_same, a0, _, rfl, rfl, ?_⟩
  by_cases e : w0 = hd
  rotate_left
  · have rn : readOf hd t = none := by unfold readOf; rw [ep]; exact if_neg e
    exact ⟨true, by simp [e], qn (fun ns z => by rw [rn] at z; cases z) _ s1⟩
  have rd : readOf hd t = Tx.allOf Tx.numOf ps := by unfold readOf; rw [ep]; exact if_pos e
  rw [rd] at qy qn
  refine ⟨false, by simp [e], ?_⟩
  refine ⟨_, rfl, _, rfl, l, _, rfl, SqL.of upd_same, fun c hc => ?_⟩
  rw [cut_from (by decide)]
  have s2 := same_upd (o := .lst (ps.map V.str)) s1 (s1.free hc)
  have pl : ps.length ≤ 501 := by rw [ep, List.length_cons] at lp; omega
  refine ⟨c, rfl, ⟨_, SqL.of upd_same⟩, fun D hD => ?_⟩
  refine comp_map (xs := ps.map V.str) lnF hD (SqL.of upd_same) (by rw [List.length_map]; exact big_line (by omega)) (fun i x ys Q' hx q' => ?_) ?_
  · obtain ⟨y, hy, rfl⟩ := List.mem_map.mp (List.mem_of_getElem? hx)
    have yf := pf.2.2 y (by rw [ep]; exact List.mem_cons_of_mem _ hy)
    exact ⟨_, rfl, y, rfl, by omega, q'⟩
  have D0 := s2.free hD
  have s3 := same_upd (o := .lst (((ps.map V.str)).map lnF)) s2 D0
  have er : (ps.map V.str).map lnF = ps.map fun x => lnV (Tx.lawNum x) := by rw [List.map_map]; rfl
  rw [er] at s3 ⊢
  have flat : (ps.map fun x => lnV (Tx.lawNum x)).all flatV = true := by
    rw [List.all_map, List.all_eq_true]
    intro x _
    show flatV (lnV (Tx.lawNum x)) = true
    cases Tx.lawNum x <;> rfl
  refine ⟨_, rfl, D, _, rfl, .inl (SqL.of upd_same), rfl, flat, _, rfl, ite2 (fun u => ?_) fun u => ?_⟩
  · refine qn (fun ns hns ok => ?_) _ s3
    have := Tx.all_law.mpr ⟨hns, ok_small ok⟩
    rw [(inV_non ps).mp u] at this
    cases this
  cases hns : Tx.allOf Tx.lawNum ps with
  | none => exact absurd ((inV_non ps).mpr hns) u
  | some ns =>
  have hnum := (Tx.all_law.mp hns).1
  have nl : ns.length ≤ 501 := by
    have := congrArg List.length (Tx.allOf_some.mp hns)
    rw [List.length_map, List.length_map] at this
    omega
  have no : ¬ okOf hd ns → ∀ H', Same H H' → Q .non H' := fun z H' sm => qn (fun ms hms ok => by rw [hnum] at hms; cases hms; exact z ok) H' sm
  have rl : ∀ {H' : Hp}, H' D = some (.lst (ns.map V.int)) → okOf hd ns → Same H H' → Q (.ref D) H' := fun hD' ok sm => qy ns hnum ok D _ sm D0 hD'
  rw [row_ints hns] at s3 ⊢
  refine ⟨_, rfl, rfl, _, rfl, ite2 (fun r => ?_) fun r => ?_⟩
  · -- a road
    have er : hd = Str.ofString "road" := by simpa using r
    have okr : okOf hd ns ↔ roadB ns = true := by unfold okOf; rw [if_pos er]
    have none_ : roadB ns = false → ∀ H', Same H H' → Q .non H' := fun z H' sm => no (fun y => by rw [okr, z] at y; cases y) H' sm
    have hlen := len_int ns
    refine ⟨_, rfl, D, _, rfl, .inl (SqL.of upd_same), _, _, rfl, rfl, _, rfl, ?_⟩
    rw [hlen]
    refine ite2 (fun c1 => ?_) (fun c1 => ?_)
    rotate_left
    · have c1' : ¬ (1 : Int) ≤ (ns.length : Nat) := by simpa using c1
      refine ⟨_, rfl, iteT (iteT (none_ ?_ _ s3))⟩
      unfold roadB
      rw [decide_eq_false (by omega)]
      rfl
    have c1' : (1 : Int) ≤ (ns.length : Nat) := by simpa using c1
    refine ⟨_, _, rfl, rfl, _, rfl, ?_⟩
    refine ite2 (fun c2 => ?_) (fun c2 => ?_)
    · have c2' : ¬ ((ns.length : Nat) : Int) ≤ 50 := by simpa using c2
      refine iteT (none_ ?_ _ s3)
      unfold roadB
      rw [decide_eq_false (by omega)]
      rfl
    have c2' : ((ns.length : Nat) : Int) ≤ 50 := by simpa using c2
    have l1 : 1 ≤ ns.length := by omega
    have l2 : ns.length ≤ 50 := by omega
    have e0 : ns[0]? = some (ns.getD 0 0) := by simp [List.getD_eq_getElem?_getD, show 0 < ns.length by omega]
    have eL : ns.getLast? = some (ns.getD (ns.length - 1) 0) := by rw [List.getLast?_eq_getElem?]; simp [List.getD_eq_getElem?_getD, show ns.length - 1 < ns.length by omega]
    refine ⟨_, rfl, D, _, _, _, rfl, rfl, SqL.of upd_same, atI_int (i := 0) e0, rfl, _, rfl, ite2 (fun c3 => iteT (none_ ?_ _ s3)) (fun c3 => ?_)⟩
    · unfold roadB
      have c3' : ns.getD 0 0 ≠ 0 := by simpa using c3
      rw [decide_eq_true c3']
      simp
    have c3' : ns.getD 0 0 = 0 := by simpa using c3
    have aL : atI (ns.map V.int) (-1) = some (.int (ns.getD (ns.length - 1) 0)) := atI_back (by rw [List.getLast?_map, eL]; rfl)
    refine ⟨_, rfl, _, rfl, D, _, _, _, rfl, rfl, SqL.of upd_same, aL, _, _, rfl, rfl, _, rfl, ite2 (fun c4 => iteT (none_ ?_ _ s3)) (fun c4 => ?_)⟩
    · unfold roadB
      have c4' : 4000 < ns.getD (ns.length - 1) 0 := of_decide_eq_true c4
      rw [decide_eq_true c4']
      simp
    have c4' : ¬ 4000 < ns.getD (ns.length - 1) 0 := of_decide_eq_false (Bool.eq_false_iff.mpr c4)
    refine ⟨_, rfl, _, rfl, D, ns, rfl, SqL.of upd_same, by omega, fun S hS => ⟨S, _, rfl, upd_same, Nat.lt_of_le_of_lt (Rg.dds_len _ _) (by rw [List.length_nil]; omega), fun so hso => ?_⟩⟩
    have s5 := same_upd (o := .lst ((Rg.srt (Rg.dds [] ns)).map V.int)) (same_upd (o := setO w S (Rg.dds [] ns)) s3 (s3.free hS)) (s3.free (upd_none hso))
    have hD5 := sq_ne (K := K) (o := .lst ((Rg.srt (Rg.dds [] ns)).map V.int)) (sq_ne (K := K) (o := setO w S (Rg.dds [] ns)) (SqL.of upd_same) hS) hso
    refine ⟨_, _, .lst hD5 (dt_ints _), .lst (SqL.of upd_same) (dt_ints _), shaped_ints _, shaped_ints _, _, rfl, ?_⟩
    rw [eqv_ints]
    refine ite2 (fun c5 => none_ ?_ _ s5) fun c5 => ?_
    · have c5' : ns ≠ Rg.srt (Rg.dds [] ns) := by simpa using c5
      cases z : roadB ns with
      | false => rfl
      | true => exact absurd (Rg.rise_set.mpr (roadB_facts z).2.2.2.2) c5'
    · have c5' : ns = Rg.srt (Rg.dds [] ns) := by simpa using c5
      have ok : okOf hd ns := okr.mpr (roadB_of l1 l2 c3' (by omega) (Rg.rise_set.mp c5'))
      exact ⟨_, rfl, rl (at_upd (at_upd upd_same hS) hso) ok s5⟩
  · have er : ¬ hd = Str.ofString "road" := by simpa using r
    have okr : okOf hd ns ↔ GapsOk ns := by unfold okOf; rw [if_neg er]
    have none_ : ¬ GapsOk ns → ∀ H', Same H H' → Q .non H' := fun z H' sm => no (fun y => z (okr.mp y)) H' sm
    have hlen := len_int ns
    refine ⟨_, rfl, D, _, rfl, .inl (SqL.of upd_same), _, _, rfl, rfl, _, rfl, ?_⟩
    rw [hlen]
    refine ite2 (fun c1 => iteT (none_ (fun z => ?_) _ s3)) fun c1 => ?_
    · have c1' : (21 : Int) < (ns.length : Nat) := by simpa using c1
      have := z.few
      omega
    have c1' : ns.length ≤ 21 := by
      have : ¬ (21 : Int) < (ns.length : Nat) := by simpa using c1
      omega
    refine ⟨_, rfl, _, rfl, D, ns, rfl, SqL.of upd_same, by omega, fun so hso => ?_⟩
    have s5 := same_upd (o := .lst ((Rg.srt ns).map V.int)) s3 (s3.free hso)
    have hD5 := sq_ne (K := K) (o := .lst ((Rg.srt ns).map V.int)) (SqL.of upd_same) hso
    refine ⟨_, _, .lst hD5 (dt_ints _), .lst (SqL.of upd_same) (dt_ints _), shaped_ints _, shaped_ints _, _, rfl, ?_⟩
    rw [eqv_ints]
    refine ite2 (fun c2 => iteT (none_ (fun z => ?_) _ s5)) fun c2 => ?_
    · have c2' : ns ≠ Rg.srt ns := by simpa using c2
      exact c2' (Rg.srt_of_sorted z.rise).symm
    have c2' : ns = Rg.srt ns := by simpa using c2
    refine ⟨_, rfl, D, ns, 1, rfl, rfl, hD5, fun mn hmn => ⟨_, _, rfl, rfl, _, rfl, ite2 (fun c3 => iteT (none_ (fun z => ?_) _ s5)) fun c3 => ?_⟩⟩
    · have c3' : mn < 1 := by simpa using c3
      rcases hmn with ⟨e1, _⟩ | ⟨e1, _⟩
      · omega
      · have := z.low mn e1
        omega
    have c3' : 1 ≤ mn := by
      have : ¬ mn < 1 := by simpa using c3
      omega
    refine ⟨_, rfl, D, ns, 1, rfl, rfl, hD5, fun mx hmx => ⟨_, _, rfl, rfl, _, rfl, ite2 (fun c4 => none_ (fun z => ?_) _ s5) fun c4 => ?_⟩⟩
    · have c4' : 4000 < mx := by simpa using c4
      rcases hmx with ⟨e1, _⟩ | ⟨e1, _⟩
      · omega
      · have := z.high mx e1
        omega
    have c4' : mx ≤ 4000 := by
      have : ¬ 4000 < mx := by simpa using c4
      omega
    have ok : okOf hd ns := okr.mpr ⟨c1', by rw [c2']; exact Rg.srt_sorted _, fun g hg => by
      rcases hmn with ⟨_, e2⟩ | ⟨_, e2⟩
      · rw [e2] at hg; cases hg
      · have := e2 g hg
        omega, fun g hg => by
      rcases hmx with ⟨_, e2⟩ | ⟨_, e2⟩
      · rw [e2] at hg; cases hg
      · have := e2 g hg
        omega⟩
    exact ⟨_, rfl, rl (at_upd upd_same hso) ok s5⟩
end
end Rd
namespace Rd
open PySem L2 PyProof.Rows
/-! ### the law's turning of a text -/
theorem slice_ok {x : Str} {l u : Option Int} (ok : PyData.strOk x = true) : PyData.strOk (Txt.slice x l u) = true := by
  unfold Txt.slice
  split
  · exact ok
  · have ok' : x.cps.all (· < 0x110000) = true := ok
    rw [Array.all_eq_true_iff_forall_mem] at ok'
    show Array.all _ _ = true
    rw [Array.all_eq_true_iff_forall_mem]
    intro d hd
    obtain ⟨i, _, hi⟩ := List.mem_filterMap.mp (by simpa using hd)
    exact ok' d (Array.mem_of_getElem? hi)
def sumS (l : List Str) : Nat := (l.map fun x => x.length + 1).sum
theorem sumS_jn (c : Nat) : ∀ l : List Str, l ≠ [] → (jn c (l.map fun x => x.cps.toList)).length + 1 = sumS l
  | [], h => absurd rfl h
  | [x], _ => by
    have : x.cps.toList.length = x.length := Array.length_toList
    show x.cps.toList.length + 1 = x.length + 1 + 0
    omega
  | x :: y :: r, _ => by
    have ih := sumS_jn c (y :: r) (by simp)
    have : x.cps.toList.length = x.length := Array.length_toList
    rw [List.map_cons, jn_cons c _ _ (by simp), List.length_append, List.length_cons]
    have e : sumS (x :: y :: r) = x.length + 1 + sumS (y :: r) := rfl
    omega
theorem sumS_sub {l m : List Str} (h : l.Sublist m) : sumS l ≤ sumS m := by
  induction h with
  | slnil => exact Nat.le_refl _
  | cons a h ih => exact Nat.le_trans ih (Nat.le_add_left _ _)
  | cons_cons a h ih => exact Nat.add_le_add_left ih _
theorem sumS_app (l m : List Str) : sumS (l ++ m) = sumS l + sumS m := by
  unfold sumS
  rw [List.map_append, List.sum_append]
theorem sumS_len (l : List Str) : l.length ≤ sumS l := by
  induction l with
  | nil => exact Nat.le_refl _
  | cons x r ih =>
    have e : sumS (x :: r) = x.length + 1 + sumS r := rfl
    rw [List.length_cons, e]
    omega
theorem jn_mem (c : Nat) : ∀ (l : List (List Nat)) (d : Nat), d ∈ jn c l → d = c ∨ ∃ p ∈ l, d ∈ p
  | [], d, h => nomatch h
  | [x], d, h => .inr ⟨x, by simp, h⟩
  | x :: y :: r, d, h => by
    rw [jn_cons c x (y :: r) (by simp)] at h
    rcases List.mem_append.mp h with z | z
    · exact .inr ⟨x, by simp, z⟩
    · rcases List.mem_cons.mp z with e | e
      · exact .inl e
      · rcases jn_mem c (y :: r) d e with q | ⟨p, hp, q⟩
        · exact .inl q
        · exact .inr ⟨p, List.mem_cons_of_mem _ hp, q⟩
theorem sum_parts {t : Str} (ok : PyData.strOk t = true) : sumS (partsOf t) = t.length + 1 := by
  have e := StrLaws.join_split t ⟨#[32]⟩
  have ej : jn 32 ((partsOf t).map fun x => x.cps.toList) = t.cps.toList := by
    rw [← join_jn]
    unfold partsOf
    rw [blank_sep, e]
  rw [← sumS_jn 32 _ (parts_facts t ok).1, ej]
  have : t.cps.toList.length = t.length := Array.length_toList
  omega
/-- some of the parts, then some of the parts, joined -/
theorem joined {t : Str} {us vs : List Str} (ok : PyData.strOk t = true) (t2 : t.length ≤ 200) (h1 : us.Sublist (partsOf t)) (h2 : vs.Sublist (partsOf t)) : JoinOk (" " : Str) (us ++ vs) = true ∧ (Txt.join (" " : Str) (us ++ vs)).length ≤ 500 ∧ PyData.strOk (Txt.join (" " : Str) (us ++ vs)) = true := by
  have pf := parts_facts t ok
  have sp := sum_parts ok
  have s1 := sumS_sub h1
  have s2 := sumS_sub h2
  have sa := sumS_app us vs
  have sl := sumS_len (us ++ vs)
  have mem : ∀ y ∈ us ++ vs, y ∈ partsOf t := fun y hy => by
    rcases List.mem_append.mp hy with z | z
    · exact h1.subset z
    · exact h2.subset z
  have ej : Txt.join (" " : Str) (us ++ vs) = Str.join ⟨#[32]⟩ (us ++ vs) := by
    rw [blank_sep]
    exact StrLaws.glued_eq_join _ _
  refine ⟨?_, ?_, ?_⟩
  · unfold JoinOk
    rw [Bool.not_eq_true']
    refine StrLaws.joinFits (B := 200) (fun y hy => ?_) ?_
    · have := (pf.2.2 y (mem y hy)).1
      omega
    · have : (" " : Str).length = 1 := by decide +kernel
      rw [this]
      omega
  · rw [ej]
    have len : (Str.join ⟨#[32]⟩ (us ++ vs)).cps.toList.length = (Str.join ⟨#[32]⟩ (us ++ vs)).length := Array.length_toList
    rw [← len, join_jn]
    by_cases z : us ++ vs = []
    · rw [z]; decide
    · have := sumS_jn 32 _ z
      omega
  · rw [ej]
    show Array.all _ _ = true
    rw [Array.all_eq_true_iff_forall_mem]
    intro d hd
    have hd' : d ∈ (Str.join ⟨#[32]⟩ (us ++ vs)).cps.toList := by simpa using hd
    rw [join_jn] at hd'
    rcases jn_mem 32 _ d hd' with q | ⟨p, hp, q⟩
    · rw [q]; decide
    · obtain ⟨y, hy, rfl⟩ := List.mem_map.mp hp
      have oy : y.cps.all (· < 0x110000) = true := (pf.2.2 y (mem y hy)).2
      rw [Array.all_eq_true_iff_forall_mem] at oy
      exact oy d (by simpa using q)
theorem cut_strs (ts : List Str) (lo hi : Option Int) : ∃ us : List Str, cutV (ts.map V.str) lo hi = us.map V.str ∧ us.Sublist ts := by
  refine ⟨(ts.drop (HT.sIx (ts.map V.str).length 0 lo)).take (HT.sIx (ts.map V.str).length (ts.map V.str).length hi - HT.sIx (ts.map V.str).length 0 lo), ?_, (List.take_sublist _ _).trans (List.drop_sublist _ _)⟩
  unfold cutV
  rw [List.map_take, List.map_drop]
theorem signs_are : (Str.ofString "0123456789 -+_.\n\t").cps.toList.length = 17 ∧ (Str.ofString "0123456789 -+_.\n\t").cps.toList.all (fun c => decide (c < 200)) = true := by decide +kernel
section
variable {P : Program} {w : World} {K : PySem.W.Frag} {mg : Str → Option Value} {base : Heap} {f g CN CT CG CB : Addr} {fd gd : FuncData}
def spTurned : Sp := fun vs H Q _ => ∃ (t : Str) (m c : Int), vs = [.str t, .int m, .int c] ∧ t.length ≤ 200 ∧ PyData.strOk t = true ∧ ∀ t' H', t'.length ≤ 500 → PyData.strOk t' = true → Same H H' → Q (.str t') H'
theorem scTurned : FnScope ["text", "mode", "cell", "at", "sign", "words", "spot"] ["text", "mode", "cell"] (defScope sTurned) := ⟨rfl, rfl, rfl, by decide +kernel, rfl, by decide +kernel, by decide +kernel⟩
theorem ok_turned (F : Fun K "_law_turned" "_law_turned" sTurned f fd) (m : mg "_law_turned" = some (.ref f)) (G : MgA mg) : Def P w K mg base CX0 "_law_turned" ["text", "mode", "cell"] 1 spTurned := by
  refine ⟨f, fd, ?_, F.binds fun _ _ _ _ _ _ us hl => match us, hl with | [_, _, _], _ => rfl, F.kp, m⟩
  refine F.ok (k := 0) scTurned (fun vs H Q E h => ?_) (fun cdv A outer s H vs Q E hr h => ?_)
  · obtain ⟨t, m, c, rfl, _⟩ := h
    rfl
  obtain ⟨t, md, c, rfl, t2, tok, q⟩ := h
  refine ⟨_, (pss_cons (ps_set (i := 3) scTurned.nd rfl (Or.inl rfl) (pe_op op_mod (pv 2) (pe_op op_add (pe_callB call_len_str (by rfl) G.len PySem.boot_len (pa_cons (pv 0) pa_nil)) pe_int)))
    (pss_cons (ps_set (i := 4) scTurned.nd rfl (Or.inl rfl) (pe_ix ix_str pe_str (pe_op op_mod (pe_op op_fdiv (pv 2) pe_int) pe_int) (fun _ _ => rfl)))
    (pss_cons (ps_if (pt_cmpR op_eq (pv 1) pe_int (nomark _)) (pss_one (ps_ret (pe_op op_add_str (pe_op op_add_str (pe_slice sl_str (pv 0) po_none (po_some (pv 3))) (pv 4)) (pe_slice sl_str (pv 0) (po_some (pv 3)) po_none)))) pss_nil)
    (pss_cons (ps_if (pt_cmpR op_eq (pv 1) pe_int (nomark _)) (pss_one (ps_ret (pe_op op_add_str (pe_op op_add_str (pe_slice sl_str (pv 0) po_none (po_some (pv 3))) (pv 4)) (pe_slice sl_str (pv 0) (po_some (pe_op op_add (pv 3) pe_int)) po_none)))) pss_nil)
    (pss_cons (ps_if (pt_cmpR op_eq (pv 1) pe_int (nomark _)) (pss_one (ps_ret (pe_op op_add_str (pe_slice sl_str (pv 0) po_none (po_some (pv 3))) (pe_slice sl_str (pv 0) (po_some (pe_op op_add (pv 3) pe_int)) po_none)))) pss_nil)
    (pss_cons (ps_set (i := 5) scTurned.nd rfl (Or.inl rfl) (pe_bm PySem.F.plainAttrs_str PySem.F.slot_str_split PySem.F.type_str_split mt_split (pv 0) (pa_cons pe_str pa_nil)))
    (pss_cons (ps_set (i := 6) scTurned.nd rfl (Or.inl rfl) (pe_op op_mod (pe_op op_fdiv (pv 2) pe_int) (pe_callB call_len_seq (by rfl) G.len PySem.boot_len (pa_cons (pv 5) pa_nil))))
    (pss_cons (ps_if (pt_cmpR op_eq (pv 1) pe_int (nomark _)) (pss_one (ps_ret (pe_bm PySem.F.plainAttrs_str PySem.F.slot_str_join PySem.F.type_str_join mt_join pe_str (pa_cons (pe_op op_cat (pe_slice sl_list (pv 5) po_none (po_some (pv 6))) (pe_slice sl_list (pv 5) (po_some (pe_op op_add (pv 6) pe_int)) po_none)) pa_nil)))) pss_nil)
    (pss_cons (ps_if (pt_cmpR op_eq (pv 1) pe_int (nomark _)) (pss_one (ps_ret (pe_bm PySem.F.plainAttrs_str PySem.F.slot_str_join PySem.F.type_str_join mt_join pe_str (pa_cons (pe_op op_cat (pe_slice sl_list (pv 5) po_none (po_some (pe_op op_add (pv 6) pe_int))) (pe_slice sl_list (pv 5) (po_some (pv 6)) po_none)) pa_nil)))) pss_nil)
    (pss_one (ps_ret (pv 0)))))))))))), ?_⟩
  refine ⟨_, rfl, _, rfl, t, rfl, big_line (by omega), _, _, rfl, rfl, _, _, rfl, rfl, (show (0 : Int) < (t.length : Nat) + 1 by omega), ?_⟩
  have k0 : 0 ≤ c / 1009 % 17 := Int.emod_nonneg _ (by decide)
  have k1 : c / 1009 % 17 < 17 := Int.emod_lt_of_pos _ (by decide)
  obtain ⟨sl, sall⟩ := signs_are
  have hlt : (c / 1009 % 17).toNat < (Str.ofString "0123456789 -+_.\n\t").cps.toList.length := by rw [sl]; omega
  obtain ⟨sg, hsg⟩ : ∃ sg, (Str.ofString "0123456789 -+_.\n\t").cps.toList[(c / 1009 % 17).toNat]? = some sg := ⟨_, List.getElem?_eq_getElem hlt⟩
  have hat : atI (Str.ofString "0123456789 -+_.\n\t").cps.toList (c / 1009 % 17) = some sg := by
    have := atI_nat hsg
    rw [show (((c / 1009 % 17).toNat : Nat) : Int) = c / 1009 % 17 by omega] at this
    exact this
  have sgk : PyData.strOk (⟨#[sg]⟩ : Str) = true := by
    have := of_decide_eq_true (List.all_eq_true.mp sall sg (List.mem_of_getElem? hsg))
    show (#[sg] : Array Nat).all (· < 0x110000) = true
    simp
    omega
  refine ⟨_, rfl, _, _, rfl, rfl, ⟨by decide, by decide⟩, _, _, rfl, rfl, (show (0 : Int) < 17 by decide), _, _, sg, rfl, rfl, by decide +kernel, hat, ?_⟩
  have sll : ∀ lo hi, (Txt.slice t lo hi).length ≤ 200 := fun lo hi => Nat.le_trans (Txt.slice_le t lo hi) t2
  have one : (⟨#[sg]⟩ : Str).length = 1 := rfl
  refine ⟨_, rfl, rfl, _, rfl, ite2 (fun c1 => ?_) fun c1 => ?_⟩
  · refine ⟨_, rfl, _, rfl, _, rfl, t, rfl, big_line (by omega), _, rfl, _, _, rfl, rfl, ?_, _, rfl, _, rfl, _, rfl, t, rfl, big_line (by omega), _, _, rfl, rfl, ?_, q _ H ?_ (strOk_add (strOk_add (slice_ok tok) sgk) (slice_ok tok)) (Same.refl H)⟩
    all_goals
      have a1 := sll none (some (c % ((t.length : Nat) + 1)))
      have a2 := sll (some (c % ((t.length : Nat) + 1))) none
      try rw [str_len]
      try rw [str_len]
      first | exact big_line (by omega) | omega
  refine ⟨_, rfl, rfl, _, rfl, ite2 (fun c2 => ?_) fun c2 => ?_⟩
  · refine ⟨_, rfl, _, rfl, _, rfl, t, rfl, big_line (by omega), _, rfl, _, _, rfl, rfl, ?_, _, rfl, _, rfl, _, _, rfl, rfl, _, rfl, t, rfl, big_line (by omega), _, _, rfl, rfl, ?_, q _ H ?_ (strOk_add (strOk_add (slice_ok tok) sgk) (slice_ok tok)) (Same.refl H)⟩
    all_goals
      have a1 := sll none (some (c % ((t.length : Nat) + 1)))
      have a2 := sll (some (c % ((t.length : Nat) + 1) + 1)) none
      try rw [str_len]
      try rw [str_len]
      first | exact big_line (by omega) | omega
  refine ⟨_, rfl, rfl, _, rfl, ite2 (fun c3 => ?_) fun c3 => ?_⟩
  · refine ⟨_, rfl, _, rfl, _, rfl, t, rfl, big_line (by omega), _, rfl, _, rfl, _, _, rfl, rfl, _, rfl, t, rfl, big_line (by omega), _, _, rfl, rfl, ?_, q _ H ?_ (strOk_add (slice_ok tok) (slice_ok tok)) (Same.refl H)⟩
    all_goals
      have a1 := sll none (some (c % ((t.length : Nat) + 1)))
      have a2 := sll (some (c % ((t.length : Nat) + 1) + 1)) none
      try rw [str_len]
      first | exact big_line (by omega) | omega
  have pf := parts_facts t tok
  have lp : (partsOf t).length ≤ 201 := by have := pf.2.1; omega
  refine ⟨_, rfl, rfl, _, _, rfl, rfl, by decide +kernel, big_line (by omega), big_line (by show (partsOf t).length ≤ 9000; omega), fun l hl => ?_⟩
  rw [show Txt.split t (" " : Str) = partsOf t from rfl]
  have s1 := same_new (o := .lst ((partsOf t).map V.str)) hl
  have pl : 0 < (partsOf t).length := List.length_pos_iff.mpr pf.1
  refine ⟨_, rfl, _, _, rfl, rfl, ⟨by decide, by decide⟩, _, rfl, l, _, rfl, .inl (SqL.of upd_same), _, _, rfl, rfl, ?_, ?_⟩
  · show (0 : Int) < (((partsOf t).map V.str).length : Nat)
    rw [List.length_map]
    omega
  refine ⟨_, rfl, rfl, _, rfl, ite2 (fun c4 => ?_) fun c4 => ?_⟩
  · obtain ⟨us, eu, su⟩ := cut_strs (partsOf t) none (some (c / 14 % (((partsOf t).map V.str).length : Nat)))
    obtain ⟨vs, ev, sv⟩ := cut_strs (partsOf t) (some (c / 14 % (((partsOf t).map V.str).length : Nat) + 1)) none
    obtain ⟨j1, j2, j3⟩ := joined tok t2 su sv
    refine ⟨rfl, _, rfl, _, rfl, _, rfl, l, _, rfl, SqL.of upd_same, fun p1 h1 => ?_⟩
    rw [eu]
    refine ⟨_, rfl, _, rfl, _, _, rfl, rfl, _, rfl, l, _, rfl, sq_ne (SqL.of upd_same) h1, fun p2 h2 => ?_⟩
    rw [ev]
    refine ⟨p1, p2, _, _, rfl, rfl, at_upd upd_same h2, upd_same, ?_, fun p3 h3 => ?_⟩
    · rw [List.length_map, List.length_map]
      have := su.length_le
      have := sv.length_le
      exact big_line (by omega)
    rw [← List.map_append]
    exact ⟨_, p3, _, rfl, rfl, SqL.of upd_same, j1, q _ _ j2 j3 (same_upd (same_upd (same_upd s1 (s1.free h1)) (s1.free (upd_none h2))) (s1.free (upd_none (upd_none h3))))⟩
  refine ⟨_, rfl, rfl, _, rfl, ite2 (fun c5 => ?_) fun c5 => ?_⟩
  · obtain ⟨us, eu, su⟩ := cut_strs (partsOf t) none (some (c / 14 % (((partsOf t).map V.str).length : Nat) + 1))
    obtain ⟨vs, ev, sv⟩ := cut_strs (partsOf t) (some (c / 14 % (((partsOf t).map V.str).length : Nat))) none
    obtain ⟨j1, j2, j3⟩ := joined tok t2 su sv
    refine ⟨rfl, _, rfl, _, rfl, _, _, rfl, rfl, _, rfl, l, _, rfl, SqL.of upd_same, fun p1 h1 => ?_⟩
    rw [eu]
    refine ⟨_, rfl, _, rfl, _, rfl, l, _, rfl, sq_ne (SqL.of upd_same) h1, fun p2 h2 => ?_⟩
    rw [ev]
    refine ⟨p1, p2, _, _, rfl, rfl, at_upd upd_same h2, upd_same, ?_, fun p3 h3 => ?_⟩
    · rw [List.length_map, List.length_map]
      have := su.length_le
      have := sv.length_le
      exact big_line (by omega)
    rw [← List.map_append]
    exact ⟨_, p3, _, rfl, rfl, SqL.of upd_same, j1, q _ _ j2 j3 (same_upd (same_upd (same_upd s1 (s1.free h1)) (s1.free (upd_none h2))) (s1.free (upd_none (upd_none h3))))⟩
  exact ⟨_, rfl, q t _ (by omega) tok s1⟩
end
end Rd
namespace Rd
open PySem L2 PyProof.Rows
theorem exm_one {K : PySem.W.Frag} {t : Value} {a : Addr} {x : Bool} (ca : (PySem.W.clsIn K a).isSome = true) (ta : PySem.W.typeIn K (.ref a) = some (.type "type")) (ba : PySem.W.subIn K (.ref a) (.type "BaseException") = some true) (sa : PySem.W.subIn K t (.ref a) = some x) : PySem.W.exmOne K t (.ref a) = some x := by
  unfold PySem.W.exmOne PySem.W.kitCls
  rw [if_pos (by rw [ba]; rfl)]
  dsimp only
  rw [if_pos (by rw [ca, ta]; rfl)]
  exact sa
theorem exm_of {K : PySem.W.Frag} {t : Value} {a b : Addr} {x y : Bool} (ca : (PySem.W.clsIn K a).isSome = true) (ta : PySem.W.typeIn K (.ref a) = some (.type "type")) (ba : PySem.W.subIn K (.ref a) (.type "BaseException") = some true) (sa : PySem.W.subIn K t (.ref a) = some x)
    (cb : (PySem.W.clsIn K b).isSome = true) (tb : PySem.W.typeIn K (.ref b) = some (.type "type")) (bb : PySem.W.subIn K (.ref b) (.type "BaseException") = some true) (sb : PySem.W.subIn K t (.ref b) = some y) : PySem.W.exmAny K t [.ref a, .ref b] = some (x || (y || false)) := by
  simp only [PySem.W.exmAny, exm_one ca ta ba sa, exm_one cb tb bb sb]
section
variable {P : Program} {w : World} {K : PySem.W.Frag} {mg : Str → Option Value} {base : Heap} {f g CN CT CG CM CB CR : Addr} {fd gd : FuncData}
def spTried : Sp := fun vs H Q _ => ∃ t h : Str, vs = [.str t, .str h] ∧ t.length ≤ 500 ∧ PyData.strOk t = true ∧ (h = Str.ofString "road" ∨ h = Str.ofString "gaps") ∧
  (∀ ns, readOf h t = some ns → okOf h ns → ∀ T r k H', Same H H' → r ≠ k → H' r = some (.lst (ns.map V.int)) → H' k = some (.lst []) → H' T = some (.tup [.ref r, .ref k]) → Q (.ref T) H') ∧
  ((∀ ns, readOf h t = some ns → ¬ okOf h ns) → ∀ T k H', Same H H' → H' k = some (.lst (kindsV false false false false true)) → H' T = some (.tup [.non, .ref k]) → Q (.ref T) H')
theorem scTried : FnScope ["text", "head", "found", "kinds", "e"] ["text", "head"] (defScope sTried) := ⟨rfl, rfl, rfl, by decide +kernel, rfl, by decide +kernel, by decide +kernel⟩
theorem ok_tried {k : Nat} (F : Fun K "_law_tried" "_law_tried" sTried f fd) (m : mg "_law_tried" = some (.ref f)) (ZRoadError : HCls K CR) (MRoadError : mg "RoadError" = some (.ref CR)) (KB : KindR K CN CG CT CM CB CB false false false false true) (sB : PySem.W.subIn K (.ref CB) (.ref CR) = some true)
    (Dread_road : DefK P w K mg base (CXF P w) "read_road" ["text"] k (spReadK "road" roadB CB)) (Dread_gaps : DefK P w K mg base (CXF P w) "read_gaps" ["text"] k (spReadK "gaps" gapsB CB)) (D_law_kind : DefC P w K mg base "_law_kind" ["e"] k (spKind K CN CG CT CM CB)) : DefK P w K mg base CX0 "_law_tried" ["text", "head"] (k + 1) spTried := by
  refine ⟨f, fd, ?_, F.binds fun _ _ _ _ _ _ us hl => match us, hl with | [_, _], _ => rfl, F.kp, m⟩
  refine F.okK0 (k := k) scTried (fun vs H Q E h => ?_) (fun cdv A outer s H vs Q E hr h => ?_)
  · obtain ⟨t, h, rfl, _⟩ := h
    rfl
  obtain ⟨t, hd, rfl, t5, tok, hh, qy, qn⟩ := h
  refine ⟨_, (pssc_cons (PS.c (ps_set (i := 2) scTried.nd rfl (Or.inl rfl) pe_non))
    (pssc_cons (PS.c (ps_set (i := 3) scTried.nd rfl (Or.inl rfl) (pe_lst pa_nil)))
    (pssc_cons (psc_try (j := 4) ⟨rfl, rfl, rfl⟩ scTried.nd rfl rfl ZRoadError MRoadError (by rfl) (fun _ _ => (pssc_one (psc_if (pt_cmpR op_eq (pv 1) pe_str (nomark _)) (pssc_one (psc_set (i := 2) scTried.nd rfl (Or.inl rfl) (pec_fnS Dread_road hr (by rfl) (pa_cons (pv 0) pa_nil)))) (pssc_one (psc_set (i := 2) scTried.nd rfl (Or.inl rfl) (pec_fnS Dread_gaps hr (by rfl) (pa_cons (pv 0) pa_nil))))))) (fun _ => (pss_one (ps_set (i := 3) scTried.nd rfl (Or.inl rfl) (pe_fnC D_law_kind hr.mark (by rfl) (pa_cons (pv 4) pa_nil))))))
    (PSs.c (pss_one (ps_ret (pe_tup (pa_cons (pv 2) (pa_cons (pv 3) pa_nil))))))))), ?_⟩
  refine ⟨(by show 0 ≤ sizeLine; decide), fun l hl => ?_⟩
  have s0 := same_new (o := .lst []) hl
  refine ⟨_, rfl, rfl, _, rfl, ite2 (fun c => ?_) fun c => ?_⟩
  · have eh : hd = Str.ofString "road" := by simpa using c
    subst eh
    have okr : ∀ ns, okOf (Str.ofString "road") ns ↔ roadB ns = true := fun ns => by unfold okOf; rw [if_pos rfl]
    refine ⟨_, rfl, t, rfl, t5, tok, fun ns hns e r H1 s1 r0 r1 => ?_, fun hno H1 s1 => ?_⟩
    · have l1 : H1 l = some (.lst []) := s1 _ _ upd_same
      refine ⟨_, rfl, _, rfl, (by show 2 ≤ sizeLine; decide), fun T hT => ?_⟩
      have ne : r ≠ l := fun z => by rw [z, upd_same] at r0; cases r0
      exact qy ns hns ((okr ns).mpr e) T r l _ (same_upd (s0.trans s1) ((s0.trans s1).free hT)) ne (at_upd r1 hT) (at_upd l1 hT) upd_same
    · have s2 := s0.trans s1
      refine ⟨CB, rfl, sB, fun x hx => ⟨_, rfl, x, CB, false, false, false, false, true, rfl, KB, upd_same, fun k' H2 s3 k0 k1 => ⟨_, rfl, _, rfl, (by show 2 ≤ sizeLine; decide), fun T hT => ?_⟩⟩⟩
      have s4 := (same_upd s2 (s2.free hx)).trans s3
      exact qn (fun ns hns ok => by have := hno ns hns; rw [(okr ns).mp ok] at this; cases this) T k' _ (same_upd s4 (s4.free hT)) (at_upd k1 hT) upd_same
  · have ne : ¬ hd = Str.ofString "road" := by simpa using c
    have eh : hd = Str.ofString "gaps" := hh.resolve_left ne
    subst eh
    have okr : ∀ ns, okOf (Str.ofString "gaps") ns ↔ GapsOk ns := fun ns => by unfold okOf; rw [if_neg ne]
    refine ⟨_, rfl, t, rfl, t5, tok, fun ns hns e r H1 s1 r0 r1 => ?_, fun hno H1 s1 => ?_⟩
    · have l1 : H1 l = some (.lst []) := s1 _ _ upd_same
      refine ⟨_, rfl, _, rfl, (by show 2 ≤ sizeLine; decide), fun T hT => ?_⟩
      have ne : r ≠ l := fun z => by rw [z, upd_same] at r0; cases r0
      have e' : GapsOk ns := @of_decide_eq_true _ (Classical.propDecidable _) e
      exact qy ns hns ((okr ns).mpr e') T r l _ (same_upd (s0.trans s1) ((s0.trans s1).free hT)) ne (at_upd r1 hT) (at_upd l1 hT) upd_same
    · have s2 := s0.trans s1
      refine ⟨CB, rfl, sB, fun x hx => ⟨_, rfl, x, CB, false, false, false, false, true, rfl, KB, upd_same, fun k' H2 s3 k0 k1 => ⟨_, rfl, _, rfl, (by show 2 ≤ sizeLine; decide), fun T hT => ?_⟩⟩⟩
      have s4 := (same_upd s2 (s2.free hx)).trans s3
      refine qn (fun ns hns ok => ?_) T k' _ (same_upd s4 (s4.free hT)) (at_upd k1 hT) upd_same
      have e' := hno ns hns
      exact @of_decide_eq_false _ (Classical.propDecidable _) e' ((okr ns).mp ok)
end
end Rd
namespace L2
open PySem PySem.Spec PyProof.Rows
theorem pssc_mid {X : Cx} {st : Stmt} {rest : List Stmt} {t u : TS} (M : L2.St → Hp → Prop) (h1 : PSc X st t) (h2 : PSsc X rest u) : PSsc X (st :: rest) (tMid M t u) := by
  intro pins s σ H D I h
  refine .execs ((h1 pins s σ H { D with nx := M } I h.1).thn fun f s1 q => ?_)
  cases f with
  | next =>
    obtain ⟨σ', H', I', q⟩ := q
    exact h2 pins s1 σ' H' D I' (h.2 σ' H' q)
  | brk => exact q
  | cont => exact q
  | ret v => exact q
end L2
namespace Rd
open PySem L2 PyProof.Rows
/-! ### the law of what is read -/
theorem menuH (c : Int) : ∃ hd : Str, atI [V.str (Str.ofString "road"), V.str (Str.ofString "gaps")] (c % 2) = some (.str hd) ∧ (hd = Str.ofString "road" ∨ hd = Str.ofString "gaps") := by
  obtain h | h : c % 2 = 0 ∨ c % 2 = 1 := by omega
  · rw [h]; exact ⟨_, rfl, .inl rfl⟩
  · rw [h]; exact ⟨_, rfl, .inr rfl⟩
theorem menuS (c : Int) : ∃ st : Int, atI [V.int 3, V.int 9, V.int 300] (c % 3) = some (.int st) ∧ 1 ≤ st ∧ st ≤ 300 := by
  obtain h | h | h : c % 3 = 0 ∨ c % 3 = 1 ∨ c % 3 = 2 := by omega
  · rw [h]; exact ⟨3, rfl, by decide, by decide⟩
  · rw [h]; exact ⟨9, rfl, by decide, by decide⟩
  · rw [h]; exact ⟨300, rfl, by decide, by decide⟩
theorem num_four {p : Int} (h0 : 0 ≤ p) (h1 : p ≤ 9999) : (Str.ofString (toString p)).length ≤ 4 ∧ PyData.strOk (Str.ofString (toString p)) = true := by
  have c := List.all_eq_true.mp Tx.ck_all p.toNat (List.mem_range.mpr (by omega))
  unfold Tx.ck at c
  rw [show ((p.toNat : Nat) : Int) = p by omega] at c
  simp only [Bool.and_eq_true] at c
  obtain ⟨⟨⟨_, c2⟩, _⟩, c4⟩ := c
  have len : (Str.ofString (toString p)).cps.toList.length = (Str.ofString (toString p)).length := Array.length_toList
  refine ⟨by rw [← len]; exact of_decide_eq_true c2, ?_⟩
  show Array.all _ _ = true
  rw [Array.all_eq_true_iff_forall_mem]
  intro d hd
  have := List.all_eq_true.mp c4 d (by simpa using hd)
  unfold Tx.dig at this
  rw [Bool.and_eq_true] at this
  have := of_decide_eq_true this.2
  exact decide_eq_true (by omega)
def sV : V → V
  | .int n => .str (Str.ofString (toString n))
  | v => v
/-- a word and numbers, joined -/
theorem text_facts {hd : Str} {qs : List Int} (h4 : hd.length ≤ 4) (hk : PyData.strOk hd = true) (hq : ∀ p ∈ qs, 0 ≤ p ∧ p ≤ 9999) (hl : qs.length ≤ 24) :
    JoinOk (" " : Str) (hd :: qs.map fun p => Str.ofString (toString p)) = true ∧ (Txt.join (" " : Str) (hd :: qs.map fun p => Str.ofString (toString p))).length ≤ 200 ∧ PyData.strOk (Txt.join (" " : Str) (hd :: qs.map fun p => Str.ofString (toString p))) = true := by
  have mem : ∀ y ∈ hd :: qs.map fun p => Str.ofString (toString p), y.length ≤ 4 ∧ PyData.strOk y = true := fun y hy => by
    rcases List.mem_cons.mp hy with e | e
    · rw [e]; exact ⟨h4, hk⟩
    · obtain ⟨p, hp, rfl⟩ := List.mem_map.mp e
      exact num_four (hq p hp).1 (hq p hp).2
  have ll : (hd :: qs.map fun p => Str.ofString (toString p)).length ≤ 25 := by rw [List.length_cons, List.length_map]; omega
  have ej : Txt.join (" " : Str) (hd :: qs.map fun p => Str.ofString (toString p)) = Str.join ⟨#[32]⟩ (hd :: qs.map fun p => Str.ofString (toString p)) := by
    rw [blank_sep]
    exact StrLaws.glued_eq_join _ _
  have sum : ∀ l : List Str, (∀ y ∈ l, y.length ≤ 4) → sumS l ≤ 5 * l.length := fun l h => by
    induction l with
    | nil => exact Nat.le_refl _
    | cons x r ih =>
      have e : sumS (x :: r) = x.length + 1 + sumS r := rfl
      have := h x (by simp)
      have := ih fun y hy => h y (List.mem_cons_of_mem _ hy)
      rw [e, List.length_cons]
      omega
  refine ⟨?_, ?_, ?_⟩
  · unfold JoinOk
    rw [Bool.not_eq_true']
    refine StrLaws.joinFits (B := 4) (fun y hy => (mem y hy).1) ?_
    have : (" " : Str).length = 1 := by decide +kernel
    rw [this]
    omega
  · rw [ej]
    have len : (Str.join ⟨#[32]⟩ (hd :: qs.map fun p => Str.ofString (toString p))).cps.toList.length = (Str.join ⟨#[32]⟩ (hd :: qs.map fun p => Str.ofString (toString p))).length := Array.length_toList
    rw [← len, join_jn]
    have a1 := sumS_jn 32 (hd :: qs.map fun p => Str.ofString (toString p)) (by simp)
    have a2 := sum _ fun y hy => (mem y hy).1
    omega
  · rw [ej]
    show Array.all _ _ = true
    rw [Array.all_eq_true_iff_forall_mem]
    intro d hd'
    have hd2 : d ∈ (Str.join ⟨#[32]⟩ (hd :: qs.map fun p => Str.ofString (toString p))).cps.toList := by simpa using hd'
    rw [join_jn] at hd2
    rcases jn_mem 32 _ d hd2 with q | ⟨p, hp, q⟩
    · rw [q]; decide
    · obtain ⟨y, hy, rfl⟩ := List.mem_map.mp hp
      have oy : y.cps.all (· < 0x110000) = true := (mem y hy).2
      rw [Array.all_eq_true_iff_forall_mem] at oy
      exact oy d (by simpa using q)
section
variable {P : Program} {w : World} {K : PySem.W.Frag} {mg : Str → Option Value} {base : Heap} {f g CN CG CT CM CB CR : Addr} {fd gd : FuncData}
def MidA (H : Hp) (a : Addr) : L2.St → Hp → Prop := fun σ H' => ∃ (hd : Str) (st : Int) (rr : Addr) (qs : List Int), σ = [some (.ref a), some (.str hd), some (.int st), some (.ref rr), none, none, none, none] ∧ (hd = Str.ofString "road" ∨ hd = Str.ofString "gaps") ∧ Same H H' ∧ H' rr = some (.lst (qs.map V.int)) ∧ qs.length ≤ 24 ∧ ∀ p ∈ qs, 0 ≤ p ∧ p ≤ 9999
def MidB (H : Hp) (a : Addr) : L2.St → Hp → Prop := fun σ H' => ∃ (o1 o2 o3 : Option V) (t : Str), σ = [some (.ref a), o1, o2, o3, some (.str t), none, none, none] ∧ Same H H' ∧ t.length ≤ 500 ∧ PyData.strOk t = true
def spLaw (K : PySem.W.Frag) : Sp := fun vs H Q _ => ∃ (a : Addr) (ns : List Int), vs = [.ref a] ∧ SqL K H a (ns.map V.int) ∧ ns.length ≤ 63 ∧ ∀ H', Q (.bl true) H'
theorem scLaw : FnScope ["script", "head", "steps", "row", "text", "word", "due", "tried"] ["script"] (defScope sLaw) := ⟨rfl, rfl, rfl, by decide +kernel, rfl, by decide +kernel, by decide +kernel⟩
set_option maxHeartbeats 16000000
theorem ok_law {k : Nat} (F : Fun K "law" "law" sLaw f fd) (G : MgA mg) (D_law_cell_at : Def P w K mg base CX0 "_law_cell_at" ["script", "k"] k (spCell K)) (D_law_road : Def P w K mg base CX0 "_law_road" ["script", "first", "many", "steps"] k (spRoad K)) (D_law_list : Def P w K mg base CX0 "_law_list" ["found", "due"] k (spList K))
    (D_law_turned : Def P w K mg base CX0 "_law_turned" ["text", "mode", "cell"] k spTurned) (D_law_due : Def P w K mg base CX0 "_law_due" ["text", "head"] k spDue) (D_law_tried : DefK P w K mg base CX0 "_law_tried" ["text", "head"] k spTried) : FnK P w K mg base CX0 (k + 1) f fd ["script"] (spLaw K) := by
  refine F.okK0 (k := k) scLaw (fun vs H Q E h => ?_) (fun cdv A outer s H vs Q E hr h => ?_)
  · obtain ⟨a, ns, rfl, _⟩ := h
    rfl
  obtain ⟨a, ns, rfl, hS, h63, q⟩ := h
  refine ⟨_, (pssc_cons (PS.c (ps_set (i := 1) scLaw.nd rfl (Or.inl rfl) (pe_ix ix_list (pe_lst (pa_cons pe_str (pa_cons pe_str pa_nil))) (pe_op op_mod (pe_fn D_law_cell_at hr (by rfl) (pa_cons (pv 0) (pa_cons pe_int pa_nil))) pe_int) (fun _ _ => rfl))))
    (pssc_cons (PS.c (ps_set (i := 2) scLaw.nd rfl (Or.inl rfl) (pe_ix ix_list (pe_lst (pa_cons pe_int (pa_cons pe_int (pa_cons pe_int pa_nil)))) (pe_op op_mod (pe_op op_fdiv (pe_fn D_law_cell_at hr (by rfl) (pa_cons (pv 0) (pa_cons pe_int pa_nil))) pe_int) pe_int) (fun _ _ => rfl))))
    (pssc_cons (PS.c (ps_set (i := 3) scLaw.nd rfl (Or.inl rfl) (pe_fn D_law_road hr (by rfl) (pa_cons (pv 0) (pa_cons pe_int (pa_cons (pe_op op_add pe_int (pe_op op_mod (pe_op op_fdiv (pe_fn D_law_cell_at hr (by rfl) (pa_cons (pv 0) (pa_cons pe_int pa_nil))) pe_int) pe_int)) (pa_cons (pv 2) pa_nil)))))))
    (pssc_mid (MidA H a) (PS.c (ps_if (pt_cmpR op_eq (pv 1) pe_str (nomark _)) (pss_one (ps_set (i := 3) scLaw.nd rfl (Or.inl rfl) (pe_slice sl_list (pv 3) (po_some pe_int) po_none))) pss_nil))
    (pssc_cons (PS.c (ps_set (i := 4) scLaw.nd rfl (Or.inl rfl) (pe_bm PySem.F.plainAttrs_str PySem.F.slot_str_join PySem.F.type_str_join mt_join pe_str (pa_cons (pe_op op_cat (pe_lst (pa_cons (pv 1) pa_nil)) (pe_comp ["number"] [] rfl (pi_list (pv 3)) (N := ["script", "head", "steps", "row", "text", "word", "due", "tried"]) (osc := defScope sLaw) ⟨rfl, by decide +kernel, by decide +kernel, by decide +kernel, by decide +kernel⟩
      (fun _ _ _ => pg_name (i := 0) (show (["number"] : List Str).Nodup by decide +kernel) rfl (Or.inl rfl)) (fun _ _ _ => pf_nil) (fun _ _ _ => (pe_callTy call_str_int (by rfl) G.str PyProof.Rows.Boot.«str» (pa_cons (pv 0) pa_nil))))) pa_nil))))
    (pssc_mid (MidB H a) (PS.c (ps_set (i := 4) scLaw.nd rfl (Or.inl rfl) (pe_fn D_law_turned hr (by rfl) (pa_cons (pv 4) (pa_cons (pe_op op_mod (pe_fn D_law_cell_at hr (by rfl) (pa_cons (pv 0) (pa_cons pe_int pa_nil))) pe_int) (pa_cons (pe_fn D_law_cell_at hr (by rfl) (pa_cons (pv 0) (pa_cons pe_int pa_nil))) pa_nil))))))
    (pssc_cons (psc_for rfl rfl (pi_list (pe_lst (pa_cons pe_str (pa_cons pe_str pa_nil)))) (pg_name (i := 5) scLaw.nd rfl (Or.inl rfl))
      (pssc_cons (PS.c (ps_set (i := 6) scLaw.nd rfl (Or.inl rfl) (pe_fn D_law_due hr (by rfl) (pa_cons (pv 4) (pa_cons (pv 5) pa_nil)))))
    (pssc_cons (psc_set (i := 7) scLaw.nd rfl (Or.inl rfl) (pec_fn D_law_tried hr pass0 (by rfl) (pa_cons (pv 4) (pa_cons (pv 5) pa_nil))))
    (PSs.c (pss_one (ps_if (pt_cmp (pc_isN (pv 6))) (pss_one (ps_if (pt_cmpR (op_neD hr.units) (pv 7) (pe_tup (pa_cons pe_non (pa_cons (pe_lst (pa_cons pe_bl (pa_cons pe_bl (pa_cons pe_bl (pa_cons pe_bl (pa_cons pe_bl (pa_cons pe_bl pa_nil))))))) pa_nil))) (nomark _)) (pss_one (ps_ret pe_bl)) pss_nil)) (pss_one (ps_if (pw_or (pt_cmpR (op_neD hr.units) (pe_ix ix_tup (pv 7) pe_int (fun _ _ => rfl)) (pe_lst pa_nil) (nomark _)) (pw_or1 (pt_not (pt_val (pe_fn D_law_list hr (by rfl) (pa_cons (pe_ix ix_tup (pv 7) pe_int (fun _ _ => rfl)) (pa_cons (pv 6) pa_nil))))))).pt (pss_one (ps_ret pe_bl)) pss_nil))))))))
    (PSs.c (pss_one (ps_ret pe_bl)))))))))), ?_⟩
  refine ⟨(by show 2 ≤ sizeLine; decide), fun l hl => ?_⟩
  have s1 := same_new (o := .lst [V.str (Str.ofString "road"), V.str (Str.ofString "gaps")]) hl
  refine ⟨_, rfl, a, ns, 0, rfl, s1.seq hS, by omega, fun c0 => ?_⟩
  obtain ⟨hd, hhd, hd2⟩ := menuH c0
  refine ⟨_, _, rfl, rfl, (by show (0 : Int) < 2; decide), l, _, _, _, rfl, rfl, SqL.of upd_same, hhd, ?_⟩
  refine ⟨(by show 3 ≤ sizeLine; decide), fun l2 hl2 => ?_⟩
  have s2 := same_upd (o := .lst [V.int 3, V.int 9, V.int 300]) s1 (s1.free hl2)
  refine ⟨_, rfl, a, ns, 0, rfl, s2.seq hS, by omega, fun c1 => ?_⟩
  obtain ⟨st, hst, st1, st2⟩ := menuS (c1 / 48)
  refine ⟨_, _, rfl, rfl, ⟨by decide, by decide⟩, _, _, rfl, rfl, (by show (0 : Int) < 3; decide), l2, _, _, _, rfl, rfl, SqL.of upd_same, hst, ?_⟩
  refine ⟨_, rfl, _, rfl, a, ns, 0, rfl, s2.seq hS, by omega, fun c2 => ⟨_, _, rfl, rfl, ⟨by decide, by decide⟩, _, _, rfl, rfl, (by show (0 : Int) < 24; decide), _, _, rfl, rfl, _, rfl, a, ns, 3, _, st, rfl, s2.seq hS, by omega, by omega, by omega, st1, fun rd H2 ps s3 rd0 rd1 hD => ?_⟩⟩
  have s23 := s2.trans s3
  have top : (1 + c2 / 2 % 24 - 1) * st ≤ 23 * 300 := Int.mul_le_mul (show 1 + c2 / 2 % 24 - 1 ≤ 23 by omega) st2 (by omega) (show (0 : Int) ≤ 23 by decide)
  have pl : ps.length ≤ 24 := by have := hD.len; omega
  have ph : ∀ p ∈ ps, 0 ≤ p ∧ p ≤ 9999 := fun p hp => by have := hD.high p hp; omega
  refine ⟨?_, ?_⟩
  · -- a list of distances has no first nought
    refine ⟨_, rfl, rfl, _, rfl, ite2 (fun c => ?_) fun c => ?_⟩
    · refine ⟨_, rfl, _, rfl, rd, _, rfl, SqL.of rd1, fun r hr' => ?_⟩
      rw [cut_from (by decide)]
      have ed : (ps.map V.int).drop (1 : Int).toNat = (ps.drop 1).map V.int := by rw [List.map_drop]; rfl
      rw [ed]
      exact ⟨hd, st, r, ps.drop 1, rfl, hd2, same_upd s23 (s23.free hr'), upd_same, by rw [List.length_drop]; omega, fun p hp => ph p (List.mem_of_mem_drop hp)⟩
    · exact ⟨hd, st, rd, ps, rfl, hd2, s23, rd1, pl, ph⟩
  clear s23 s3 s2 s1 hhd hst hD top pl ph rd1 rd0
  rintro σ H3 ⟨hd, st, rr, qs, rfl, hd2, sA, rr1, ql, qh⟩
  have hd4 : hd.length ≤ 4 ∧ PyData.strOk hd = true := by rcases hd2 with e | e <;> rw [e] <;> decide +kernel
  obtain ⟨j1, j2, j3⟩ := text_facts hd4.1 hd4.2 qh ql
  refine ⟨rfl, _, rfl, (by show 1 ≤ sizeLine; decide), fun l3 hl3 => ?_⟩
  have rr2 := at_upd (o' := .lst [V.str hd]) rr1 hl3
  refine ⟨_, rfl, rr, rfl, ⟨_, SqL.of rr2⟩, fun D hD => ?_⟩
  refine comp_map (xs := qs.map V.int) sV hD (SqL.of rr2) (by rw [len_int]; exact big_line (by omega)) (fun i x ys Q' hx q' => ?_) ?_
  · obtain ⟨y, hy, rfl⟩ := int_at hx
    have hy' := qh y (List.mem_of_getElem? hy)
    refine ⟨_, rfl, y, rfl, ?_, q'⟩
    exact Tx.log_of (Nat.lt_of_le_of_lt (show y.natAbs ≤ 9999 by omega) (by decide +kernel))
  have es : (qs.map V.int).map sV = (qs.map fun p => Str.ofString (toString p)).map V.str := by rw [List.map_map, List.map_map]; rfl
  rw [es]
  refine ⟨l3, D, _, _, rfl, rfl, at_upd upd_same hD, upd_same, ?_, fun p3 h3 => ?_⟩
  · rw [List.length_map, List.length_map]
    show 1 + qs.length ≤ sizeLine
    exact big_line (by omega)
  have sB := same_upd (o := .lst ([V.str hd] ++ (qs.map fun p => Str.ofString (toString p)).map V.str)) (same_upd (o := .lst ((qs.map fun p => Str.ofString (toString p)).map V.str)) (same_upd (o := .lst [V.str hd]) sA (sA.free hl3)) (sA.free (upd_none hD))) (sA.free (upd_none (upd_none h3)))
  have ec : [V.str hd] ++ (qs.map fun p => Str.ofString (toString p)).map V.str = (hd :: qs.map fun p => Str.ofString (toString p)).map V.str := rfl
  rw [ec] at sB ⊢
  refine ⟨_, p3, _, rfl, rfl, SqL.of upd_same, j1, ?_⟩
  refine ⟨⟨_, rfl, _, rfl, a, ns, 1, rfl, sB.seq hS, by omega, fun c1 => ⟨_, _, rfl, rfl, (by show (0 : Int) < 6; decide), _, rfl, a, ns, 2, rfl, sB.seq hS, by omega, fun c2 => ⟨_, _, _, rfl, j2, j3, fun t' H' l' ok' sm => ⟨_, _, _, t', rfl, sB.trans sm, l', ok'⟩⟩⟩⟩, ?_⟩
  clear sB ec es hD rr2 hl3 h3 j1 j2 j3 hd4 sA rr1 ql qh hd2
  rintro σ H4 ⟨o1, o2, o3, t, rfl, sC, t5, tok⟩
  refine ⟨(by show 2 ≤ sizeLine; decide), fun lw hlw => ⟨lw, rfl, ⟨_, SqL.of upd_same⟩, for_list (xs := [V.str (Str.ofString "road"), V.str (Str.ofString "gaps")]) (fun i σ H' => (∃ p1 p2 p3, σ = [some (.ref a), o1, o2, o3, some (.str t), p1, p2, p3]) ∧ Same (upd H4 lw (.lst [V.str (Str.ofString "road"), V.str (Str.ofString "gaps")])) H') ⟨⟨_, _, _, rfl⟩, Same.refl _⟩ ?_ ?_ ?_⟩⟩
  · rintro i σ H' _ ⟨_, h1⟩
    exact SqL.of (h1 _ _ upd_same)
  rotate_left
  · rintro σ H' ⟨⟨p1, p2, p3, rfl⟩, _⟩
    exact q _
  rintro i x σ H5 hx ⟨⟨p1, p2, p3, rfl⟩, s5⟩
  obtain ⟨wd, rfl, hwd⟩ : ∃ wd : Str, x = .str wd ∧ (wd = Str.ofString "road" ∨ wd = Str.ofString "gaps") := by
    have := List.mem_of_getElem? hx
    rcases List.mem_cons.mp this with e | e
    · exact ⟨_, e, .inl rfl⟩
    · exact ⟨_, List.mem_singleton.mp e, .inr rfl⟩
  refine ⟨_, rfl, _, rfl, t, wd, rfl, t5, tok, hwd, fun ms hms ok r H6 s6 r0 r1 => ?_, fun hno H6 s6 => ?_⟩
  · refine ⟨_, rfl, _, rfl, t, wd, rfl, t5, tok, hwd, fun ks hks _ T r2 k2 H7 s7 ne h1 h2 h3 => ?_, fun hno => absurd ok (hno ms hms)⟩
    rw [hms] at hks
    cases hks
    have r7 := s7 _ _ r1
    have ml := readOf_len tok hms
    have i0 : ∀ {x y : V}, atI [x, y] 0 = some x := rfl
    have i1 : ∀ {x y : V}, atI [x, y] 1 = some y := rfl
    refine ⟨_, rfl, _, rfl, ite2 (fun c => absurd c (by simp)) fun _ => ?_⟩
    refine ⟨_, rfl, T, _, _, _, rfl, rfl, SqT.of h3, i1, (by show 0 ≤ sizeLine; decide), fun e0 he0 => ⟨_, _, .lst (SqL.of (at_upd h2 he0)) .nil, .lst (SqL.of upd_same) .nil, by decide +kernel, by decide +kernel, _, rfl, ite2 (fun c => absurd c (by decide +kernel)) fun _ => ?_⟩⟩
    refine ⟨_, rfl, T, _, _, _, rfl, rfl, SqT.of (at_upd h3 he0), i0, _, rfl, r2, r, ms, ms, rfl, at_upd h1 he0, SqL.of (at_upd r7 he0), by omega, by omega, ?_⟩
    rw [decide_eq_true rfl]
    have s67 := (s5.trans s6).trans s7
    exact ⟨true, rfl, ⟨_, _, _, rfl⟩, same_upd s67 (s67.free he0)⟩
  · refine ⟨_, rfl, _, rfl, t, wd, rfl, t5, tok, hwd, fun ks hks ok => absurd ok (hno ks hks), fun _ T k2 H7 s7 h2 h3 => ?_⟩
    have s67 := (s5.trans s6).trans s7
    refine ⟨_, rfl, _, rfl, ite2 (fun _ => ?_) fun c => absurd rfl c⟩
    refine ⟨_, rfl, (by show 6 ≤ sizeLine; decide), fun e0 he0 => ⟨(by show 2 ≤ sizeLine; decide), fun T2 hT2 => ?_⟩⟩
    have d1 : Dt K (upd (upd H7 e0 (.lst [.bl false, .bl false, .bl false, .bl false, .bl true, .bl true])) T2 (.tup [.non, .ref e0])) (.ref T) (.tuple [.none, .list ([false, false, false, false, true, true].map PyData.bool)]) :=
      .tup (SqT.of (at_upd (at_upd h3 he0) hT2)) (.cons .non (.cons (.lst (SqL.of (at_upd (at_upd h2 he0) hT2)) (dt_bools [false, false, false, false, true, true])) .nil))
    have d2 : Dt K (upd (upd H7 e0 (.lst [.bl false, .bl false, .bl false, .bl false, .bl true, .bl true])) T2 (.tup [.non, .ref e0])) (.ref T2) (.tuple [.none, .list ([false, false, false, false, true, true].map PyData.bool)]) :=
      .tup (SqT.of upd_same) (.cons .non (.cons (.lst (SqL.of (at_upd upd_same hT2)) (dt_bools [false, false, false, false, true, true])) .nil))
    refine ⟨_, _, d1, d2, by decide +kernel, by decide +kernel, _, rfl, ite2 (fun c => absurd c (by decide +kernel)) fun _ => ?_⟩
    exact ⟨⟨_, _, _, rfl⟩, same_upd (same_upd s67 (s67.free he0)) (s67.free (upd_none hT2))⟩
end
end Rd
namespace Rd
open PySem L2 PyProof.Rows
theorem all_mk {l : PySem.W.OpenLaw} {w : World} {K : PySem.W.Frag} {h : Heap} {mg : Str → Option Value} {fa f1 f2 f3 f4 f5 f6 f7 f8 f9 f10 f11 f12 f13 f14 f15 f16 f17 : Addr} (X : K.In h) (G : h.Ns mainGlobals mg) (hfa : mg "law" = some (.ref fa))
    {od1 an1 od2 an2 od3 an3 od4 an4 od5 an5 od6 an6 od7 an7 od8 an8 od9 an9 od10 an10 od11 an11 od12 an12 od13 an13 od14 an14 od15 an15 od16 an16 od17 an17 : Option Addr}
    {sl1 sl2 sl3 sl4 sl5 sl6 sl7 sl8 sl9 sl10 sl11 sl12 sl13 sl14 sl15 sl16 sl17 : Array (Option Value)} {oc1 kV1 dc1 pm1 cd1 ct1 oc2 kV2 dc2 pm2 cd2 ct2 oc3 kV3 dc3 pm3 cd3 ct3 oc4 kV4 dc4 pm4 cd4 ct4 oc5 kV5 dc5 pm5 cd5 ct5 oc6 kV6 dc6 pm6 cd6 ct6 oc7 kV7 dc7 pm7 cd7 ct7 oc8 kV8 dc8 pm8 cd8 ct8 oc9 kV9 dc9 pm9 cd9 ct9 oc10 kV10 dc10 pm10 cd10 ct10 oc11 kV11 dc11 pm11 cd11 ct11 oc12 kV12 dc12 pm12 cd12 ct12 oc13 kV13 dc13 pm13 cd13 ct13 oc14 kV14 dc14 pm14 cd14 ct14 oc15 kV15 dc15 pm15 cd15 ct15 oc16 kV16 dc16 pm16 cd16 ct16 oc17 kV17 dc17 pm17 cd17 ct17 : Value}
    {tk1 tk2 tk3 tk4 tk5 : Tok}
    (a1 : PySem.W.nsIn K mainGlobals "is_road" = some (some (.ref f1))) (l1 : K.lookup f1 = some ⟨oc1, od1, .func (PySem.W.fnOf "is_road" "is_road" (defArgs sIsRoad) (defBody sIsRoad) (defScope sIsRoad) .none kV1 dc1 pm1 an1 cd1 ct1), sl1⟩) (c1 : PySem.W.codeIn K cd1 "is_road" = true) (k1 : PySem.W.keepIn K (.ref f1) = true)
    (a2 : PySem.W.nsIn K mainGlobals "check_road" = some (some (.ref f2))) (l2 : K.lookup f2 = some ⟨oc2, od2, .func (PySem.W.fnOf "check_road" "check_road" (defArgs sCheckRoad) (defBody sCheckRoad) (defScope sCheckRoad) .none kV2 dc2 pm2 an2 cd2 ct2), sl2⟩) (c2 : PySem.W.codeIn K cd2 "check_road" = true) (k2 : PySem.W.keepIn K (.ref f2) = true)
    (a3 : PySem.W.nsIn K mainGlobals "check_gaps" = some (some (.ref f3))) (l3 : K.lookup f3 = some ⟨oc3, od3, .func (PySem.W.fnOf "check_gaps" "check_gaps" (defArgs sCheckGaps) (defBody sCheckGaps) (defScope sCheckGaps) .none kV3 dc3 pm3 an3 cd3 ct3), sl3⟩) (c3 : PySem.W.codeIn K cd3 "check_gaps" = true) (k3 : PySem.W.keepIn K (.ref f3) = true)
    (a4 : PySem.W.nsIn K mainGlobals "read_number" = some (some (.ref f4))) (l4 : K.lookup f4 = some ⟨oc4, od4, .func (PySem.W.fnOf "read_number" "read_number" (defArgs dReadNumber) (defBody dReadNumber) (defScope dReadNumber) .none kV4 dc4 pm4 an4 cd4 ct4), sl4⟩) (c4 : PySem.W.codeIn K cd4 "read_number" = true) (k4 : PySem.W.keepIn K (.ref f4) = true)
    (a5 : PySem.W.nsIn K mainGlobals "read_numbers" = some (some (.ref f5))) (l5 : K.lookup f5 = some ⟨oc5, od5, .func (PySem.W.fnOf "read_numbers" "read_numbers" (defArgs dReadNumbers) (defBody dReadNumbers) (defScope dReadNumbers) .none kV5 dc5 pm5 an5 cd5 ct5), sl5⟩) (c5 : PySem.W.codeIn K cd5 "read_numbers" = true) (k5 : PySem.W.keepIn K (.ref f5) = true)
    (a6 : PySem.W.nsIn K mainGlobals "read_road" = some (some (.ref f6))) (l6 : K.lookup f6 = some ⟨oc6, od6, .func (PySem.W.fnOf "read_road" "read_road" (defArgs dReadRoad) (defBody dReadRoad) (defScope dReadRoad) .none kV6 dc6 pm6 an6 cd6 ct6), sl6⟩) (c6 : PySem.W.codeIn K cd6 "read_road" = true) (k6 : PySem.W.keepIn K (.ref f6) = true)
    (a7 : PySem.W.nsIn K mainGlobals "read_gaps" = some (some (.ref f7))) (l7 : K.lookup f7 = some ⟨oc7, od7, .func (PySem.W.fnOf "read_gaps" "read_gaps" (defArgs dReadGaps) (defBody dReadGaps) (defScope dReadGaps) .none kV7 dc7 pm7 an7 cd7 ct7), sl7⟩) (c7 : PySem.W.codeIn K cd7 "read_gaps" = true) (k7 : PySem.W.keepIn K (.ref f7) = true)
    (a8 : PySem.W.nsIn K mainGlobals "_law_cell_at" = some (some (.ref f8))) (l8 : K.lookup f8 = some ⟨oc8, od8, .func (PySem.W.fnOf "_law_cell_at" "_law_cell_at" (defArgs sCell) (defBody sCell) (defScope sCell) .none kV8 dc8 pm8 an8 cd8 ct8), sl8⟩) (c8 : PySem.W.codeIn K cd8 "_law_cell_at" = true) (k8 : PySem.W.keepIn K (.ref f8) = true)
    (a9 : PySem.W.nsIn K mainGlobals "_law_whole" = some (some (.ref f9))) (l9 : K.lookup f9 = some ⟨oc9, od9, .func (PySem.W.fnOf "_law_whole" "_law_whole" (defArgs sWhole) (defBody sWhole) (defScope sWhole) .none kV9 dc9 pm9 an9 cd9 ct9), sl9⟩) (c9 : PySem.W.codeIn K cd9 "_law_whole" = true) (k9 : PySem.W.keepIn K (.ref f9) = true)
    (a10 : PySem.W.nsIn K mainGlobals "_law_list" = some (some (.ref f10))) (l10 : K.lookup f10 = some ⟨oc10, od10, .func (PySem.W.fnOf "_law_list" "_law_list" (defArgs sList) (defBody sList) (defScope sList) .none kV10 dc10 pm10 an10 cd10 ct10), sl10⟩) (c10 : PySem.W.codeIn K cd10 "_law_list" = true) (k10 : PySem.W.keepIn K (.ref f10) = true)
    (a11 : PySem.W.nsIn K mainGlobals "_law_road" = some (some (.ref f11))) (l11 : K.lookup f11 = some ⟨oc11, od11, .func (PySem.W.fnOf "_law_road" "_law_road" (defArgs sRoad) (defBody sRoad) (defScope sRoad) .none kV11 dc11 pm11 an11 cd11 ct11), sl11⟩) (c11 : PySem.W.codeIn K cd11 "_law_road" = true) (k11 : PySem.W.keepIn K (.ref f11) = true)
    (a12 : PySem.W.nsIn K mainGlobals "_law_kind" = some (some (.ref f12))) (l12 : K.lookup f12 = some ⟨oc12, od12, .func (PySem.W.fnOf "_law_kind" "_law_kind" (defArgs sKind) (defBody sKind) (defScope sKind) .none kV12 dc12 pm12 an12 cd12 ct12), sl12⟩) (c12 : PySem.W.codeIn K cd12 "_law_kind" = true) (k12 : PySem.W.keepIn K (.ref f12) = true)
    (a13 : PySem.W.nsIn K mainGlobals "_law_turned" = some (some (.ref f13))) (l13 : K.lookup f13 = some ⟨oc13, od13, .func (PySem.W.fnOf "_law_turned" "_law_turned" (defArgs sTurned) (defBody sTurned) (defScope sTurned) .none kV13 dc13 pm13 an13 cd13 ct13), sl13⟩) (c13 : PySem.W.codeIn K cd13 "_law_turned" = true) (k13 : PySem.W.keepIn K (.ref f13) = true)
    (a14 : PySem.W.nsIn K mainGlobals "_law_number" = some (some (.ref f14))) (l14 : K.lookup f14 = some ⟨oc14, od14, .func (PySem.W.fnOf "_law_number" "_law_number" (defArgs sNumber) (defBody sNumber) (defScope sNumber) .none kV14 dc14 pm14 an14 cd14 ct14), sl14⟩) (c14 : PySem.W.codeIn K cd14 "_law_number" = true) (k14 : PySem.W.keepIn K (.ref f14) = true)
    (a15 : PySem.W.nsIn K mainGlobals "_law_due" = some (some (.ref f15))) (l15 : K.lookup f15 = some ⟨oc15, od15, .func (PySem.W.fnOf "_law_due" "_law_due" (defArgs sDue) (defBody sDue) (defScope sDue) .none kV15 dc15 pm15 an15 cd15 ct15), sl15⟩) (c15 : PySem.W.codeIn K cd15 "_law_due" = true) (k15 : PySem.W.keepIn K (.ref f15) = true)
    (a16 : PySem.W.nsIn K mainGlobals "_law_tried" = some (some (.ref f16))) (l16 : K.lookup f16 = some ⟨oc16, od16, .func (PySem.W.fnOf "_law_tried" "_law_tried" (defArgs sTried) (defBody sTried) (defScope sTried) .none kV16 dc16 pm16 an16 cd16 ct16), sl16⟩) (c16 : PySem.W.codeIn K cd16 "_law_tried" = true) (k16 : PySem.W.keepIn K (.ref f16) = true)
    (a17 : PySem.W.nsIn K mainGlobals "law" = some (some (.ref f17))) (l17 : K.lookup f17 = some ⟨oc17, od17, .func (PySem.W.fnOf "law" "law" (defArgs sLaw) (defBody sLaw) (defScope sLaw) .none kV17 dc17 pm17 an17 cd17 ct17), sl17⟩) (c17 : PySem.W.codeIn K cd17 "law" = true) (k17 : PySem.W.keepIn K (.ref f17) = true)
    (m1 : PySem.W.nsIn K mainGlobals "MOST_PLACES" = some (some (.int 50 tk1)))
    (m2 : PySem.W.nsIn K mainGlobals "LONGEST" = some (some (.int 4000 tk2)))
    (m3 : PySem.W.nsIn K mainGlobals "MOST_GAPS" = some (some (.int 21 tk3)))
    (m4 : PySem.W.nsIn K mainGlobals "ROAD_WORD" = some (some (.str "road" tk4)))
    (m5 : PySem.W.nsIn K mainGlobals "GAPS_WORD" = some (some (.str "gaps" tk5)))
    {CR CN CG CT CM CB : Addr} {cdR cdN cdG cdT cdB : ClassData}
    (xR : PySem.W.nsIn K mainGlobals "RoadError" = some (some (.ref CR)))
    (xN : PySem.W.nsIn K mainGlobals "NoRoad" = some (some (.ref CN)))
    (xG : PySem.W.nsIn K mainGlobals "NoGaps" = some (some (.ref CG)))
    (xT : PySem.W.nsIn K mainGlobals "TooMany" = some (some (.ref CT)))
    (xM : PySem.W.nsIn K mainGlobals "Meets" = some (some (.ref CM)))
    (xB : PySem.W.nsIn K mainGlobals "BadText" = some (some (.ref CB)))
    (hR1 : PySem.W.clsIn K CR = some cdR) (hR2 : PySem.W.typeIn K (.ref CR) = some (.type "type")) (hR3 : PySem.W.subIn K (.ref CR) (.type "BaseException") = some true)
    (eN : PySem.W.excIn K CN bmV "ValueError.__new__" = true)
    (sN : PySem.W.subIn K (.ref CN) (.ref CR) = some true)
    (uN1 : PySem.W.clsIn K CN = some cdN) (uN2 : PySem.W.findIn K (.ref CN) "__getattribute__" = some (some (.builtin "BaseException.__getattribute__"))) (uN3 : PySem.W.findIn K (.ref CN) "__getattr__" = some none) (uN4 : PySem.W.findIn K (.ref CN) "__class__" = some (some (.builtin "object.__class__"))) (uN5 : PySem.W.specialIn K (.builtin "object.__class__") "__get__" = some (some (.builtin "getset_descriptor.__get__"))) (uN6 : PySem.W.takesIn K (.builtin "object.__class__") = some true) (uN7 : PySem.W.subIn K (.ref CN) (.type "BaseException") = some true) (uN8 : PySem.W.mroIn K CN (.type "object") = some true)
    (vNN : PySem.W.kitOne K (.ref CN) (.ref CN) = some true) (vNG : PySem.W.kitOne K (.ref CN) (.ref CG) = some false) (vNT : PySem.W.kitOne K (.ref CN) (.ref CT) = some false) (vNM : PySem.W.kitOne K (.ref CN) (.ref CM) = some false) (vNB : PySem.W.kitOne K (.ref CN) (.ref CB) = some false) (vNV : PySem.W.kitOne K (.ref CN) (.type "ValueError") = some true)
    (eG : PySem.W.excIn K CG bmV "ValueError.__new__" = true)
    (sG : PySem.W.subIn K (.ref CG) (.ref CR) = some true)
    (uG1 : PySem.W.clsIn K CG = some cdG) (uG2 : PySem.W.findIn K (.ref CG) "__getattribute__" = some (some (.builtin "BaseException.__getattribute__"))) (uG3 : PySem.W.findIn K (.ref CG) "__getattr__" = some none) (uG4 : PySem.W.findIn K (.ref CG) "__class__" = some (some (.builtin "object.__class__"))) (uG5 : PySem.W.specialIn K (.builtin "object.__class__") "__get__" = some (some (.builtin "getset_descriptor.__get__"))) (uG6 : PySem.W.takesIn K (.builtin "object.__class__") = some true) (uG7 : PySem.W.subIn K (.ref CG) (.type "BaseException") = some true) (uG8 : PySem.W.mroIn K CG (.type "object") = some true)
    (vGN : PySem.W.kitOne K (.ref CG) (.ref CN) = some false) (vGG : PySem.W.kitOne K (.ref CG) (.ref CG) = some true) (vGT : PySem.W.kitOne K (.ref CG) (.ref CT) = some false) (vGM : PySem.W.kitOne K (.ref CG) (.ref CM) = some false) (vGB : PySem.W.kitOne K (.ref CG) (.ref CB) = some false) (vGV : PySem.W.kitOne K (.ref CG) (.type "ValueError") = some true)
    (eT : PySem.W.excIn K CT bmV "ValueError.__new__" = true)
    (sT : PySem.W.subIn K (.ref CT) (.ref CR) = some true)
    (uT1 : PySem.W.clsIn K CT = some cdT) (uT2 : PySem.W.findIn K (.ref CT) "__getattribute__" = some (some (.builtin "BaseException.__getattribute__"))) (uT3 : PySem.W.findIn K (.ref CT) "__getattr__" = some none) (uT4 : PySem.W.findIn K (.ref CT) "__class__" = some (some (.builtin "object.__class__"))) (uT5 : PySem.W.specialIn K (.builtin "object.__class__") "__get__" = some (some (.builtin "getset_descriptor.__get__"))) (uT6 : PySem.W.takesIn K (.builtin "object.__class__") = some true) (uT7 : PySem.W.subIn K (.ref CT) (.type "BaseException") = some true) (uT8 : PySem.W.mroIn K CT (.type "object") = some true)
    (vTN : PySem.W.kitOne K (.ref CT) (.ref CN) = some false) (vTG : PySem.W.kitOne K (.ref CT) (.ref CG) = some false) (vTT : PySem.W.kitOne K (.ref CT) (.ref CT) = some true) (vTM : PySem.W.kitOne K (.ref CT) (.ref CM) = some false) (vTB : PySem.W.kitOne K (.ref CT) (.ref CB) = some false) (vTV : PySem.W.kitOne K (.ref CT) (.type "ValueError") = some true)
    (eB : PySem.W.excIn K CB bmV "ValueError.__new__" = true)
    (sB : PySem.W.subIn K (.ref CB) (.ref CR) = some true)
    (uB1 : PySem.W.clsIn K CB = some cdB) (uB2 : PySem.W.findIn K (.ref CB) "__getattribute__" = some (some (.builtin "BaseException.__getattribute__"))) (uB3 : PySem.W.findIn K (.ref CB) "__getattr__" = some none) (uB4 : PySem.W.findIn K (.ref CB) "__class__" = some (some (.builtin "object.__class__"))) (uB5 : PySem.W.specialIn K (.builtin "object.__class__") "__get__" = some (some (.builtin "getset_descriptor.__get__"))) (uB6 : PySem.W.takesIn K (.builtin "object.__class__") = some true) (uB7 : PySem.W.subIn K (.ref CB) (.type "BaseException") = some true) (uB8 : PySem.W.mroIn K CB (.type "object") = some true)
    (vBN : PySem.W.kitOne K (.ref CB) (.ref CN) = some false) (vBG : PySem.W.kitOne K (.ref CB) (.ref CG) = some false) (vBT : PySem.W.kitOne K (.ref CB) (.ref CT) = some false) (vBM : PySem.W.kitOne K (.ref CB) (.ref CM) = some false) (vBB : PySem.W.kitOne K (.ref CB) (.ref CB) = some true) (vBV : PySem.W.kitOne K (.ref CB) (.type "ValueError") = some true)
    (tN : PySem.W.typeIn K (.ref CN) = some (.type "type")) (sNN : PySem.W.subIn K (.ref CN) (.ref CN) = some true) (tT : PySem.W.typeIn K (.ref CT) = some (.type "type")) (tG : PySem.W.typeIn K (.ref CG) = some (.type "type")) (sTT : PySem.W.subIn K (.ref CT) (.ref CT) = some true) (sTG : PySem.W.subIn K (.ref CT) (.ref CG) = some false) (sGT : PySem.W.subIn K (.ref CG) (.ref CT) = some false) (sGG : PySem.W.subIn K (.ref CG) (.ref CG) = some true)
    (z1 : PySem.W.nsIn K mainGlobals "len" = some none)
    (z2 : PySem.W.nsIn K mainGlobals "range" = some none)
    (z3 : PySem.W.nsIn K mainGlobals "all" = some none)
    (z4 : PySem.W.nsIn K mainGlobals "sorted" = some none)
    (z5 : PySem.W.nsIn K mainGlobals "list" = some none)
    (z6 : PySem.W.nsIn K mainGlobals "isinstance" = some none)
    (z7 : PySem.W.nsIn K mainGlobals "int" = some none)
    (z8 : PySem.W.nsIn K mainGlobals "bool" = some none)
    (z9 : PySem.W.nsIn K mainGlobals "max" = some none)
    (z10 : PySem.W.nsIn K mainGlobals "min" = some none)
    (z11 : PySem.W.nsIn K mainGlobals "reversed" = some none)
    (z12 : PySem.W.nsIn K mainGlobals "set" = some none)
    (z13 : PySem.W.nsIn K mainGlobals "ValueError" = some none)
    (z14 : PySem.W.nsIn K mainGlobals "tuple" = some none)
    (z15 : PySem.W.nsIn K mainGlobals "str" = some none)
    : ∃ fd : FuncData, (∀ (s : Shared) (v : Value), BindsTo s fd ⟨[v], []⟩ [("script", v)]) ∧ ∀ base : Heap, K.In base → base.Ns mainGlobals mg → FnK l.prog w K mg base CX0 5 fa fd ["script"] (spLaw K) := by
  have e := hfa.symm.trans (PySem.W.mg_of X G a17)
  cases e
  have Fis_road := fun_mk (st := sIsRoad) l1 c1 k1
  have Mis_road := PySem.W.mg_of X G a1
  have Fcheck_road := fun_mk (st := sCheckRoad) l2 c2 k2
  have Mcheck_road := PySem.W.mg_of X G a2
  have Fcheck_gaps := fun_mk (st := sCheckGaps) l3 c3 k3
  have Mcheck_gaps := PySem.W.mg_of X G a3
  have Fread_number := fun_mk (st := dReadNumber) l4 c4 k4
  have Mread_number := PySem.W.mg_of X G a4
  have Fread_numbers := fun_mk (st := dReadNumbers) l5 c5 k5
  have Mread_numbers := PySem.W.mg_of X G a5
  have Fread_road := fun_mk (st := dReadRoad) l6 c6 k6
  have Mread_road := PySem.W.mg_of X G a6
  have Fread_gaps := fun_mk (st := dReadGaps) l7 c7 k7
  have Mread_gaps := PySem.W.mg_of X G a7
  have F_law_cell_at := fun_mk (st := sCell) l8 c8 k8
  have M_law_cell_at := PySem.W.mg_of X G a8
  have F_law_whole := fun_mk (st := sWhole) l9 c9 k9
  have M_law_whole := PySem.W.mg_of X G a9
  have F_law_list := fun_mk (st := sList) l10 c10 k10
  have M_law_list := PySem.W.mg_of X G a10
  have F_law_road := fun_mk (st := sRoad) l11 c11 k11
  have M_law_road := PySem.W.mg_of X G a11
  have F_law_kind := fun_mk (st := sKind) l12 c12 k12
  have M_law_kind := PySem.W.mg_of X G a12
  have F_law_turned := fun_mk (st := sTurned) l13 c13 k13
  have M_law_turned := PySem.W.mg_of X G a13
  have F_law_number := fun_mk (st := sNumber) l14 c14 k14
  have M_law_number := PySem.W.mg_of X G a14
  have F_law_due := fun_mk (st := sDue) l15 c15 k15
  have M_law_due := PySem.W.mg_of X G a15
  have F_law_tried := fun_mk (st := sTried) l16 c16 k16
  have M_law_tried := PySem.W.mg_of X G a16
  have Flaw := fun_mk (st := sLaw) l17 c17 k17
  have Mlaw := PySem.W.mg_of X G a17
  have CMOST_PLACES := PySem.W.mg_of X G m1
  have CLONGEST := PySem.W.mg_of X G m2
  have CMOST_GAPS := PySem.W.mg_of X G m3
  have CROAD_WORD := PySem.W.mg_of X G m4
  have CGAPS_WORD := PySem.W.mg_of X G m5
  have Nlen := PySem.W.mg_none_of X G z1
  have Nrange := PySem.W.mg_none_of X G z2
  have Nall := PySem.W.mg_none_of X G z3
  have Nsorted := PySem.W.mg_none_of X G z4
  have Nlist := PySem.W.mg_none_of X G z5
  have Nisinstance := PySem.W.mg_none_of X G z6
  have Nint := PySem.W.mg_none_of X G z7
  have Nbool := PySem.W.mg_none_of X G z8
  have Nmax := PySem.W.mg_none_of X G z9
  have Nmin := PySem.W.mg_none_of X G z10
  have Nreversed := PySem.W.mg_none_of X G z11
  have Nset := PySem.W.mg_none_of X G z12
  have NValueError := PySem.W.mg_none_of X G z13
  have Ntuple := PySem.W.mg_none_of X G z14
  have Nstr := PySem.W.mg_none_of X G z15
  have G1 : Mg mg := ⟨Nlen, Nrange, Nall, Nsorted, ⟨_, CLONGEST⟩⟩
  have GP : MgP mg := ⟨G1, ⟨_, CMOST_PLACES⟩⟩
  have GG : MgG mg := ⟨G1, ⟨_, CMOST_GAPS⟩, Nlist⟩
  have G3 : MgL mg := ⟨Nlen, Nrange, Nsorted, Nisinstance, Nint, Nbool, Nlist⟩
  have GA : MgA mg := ⟨G3, Nset, Nmax, Nmin, Nreversed, NValueError, Ntuple, Nstr⟩
  have OR := PySem.W.mg_of X G xR
  have ON := PySem.W.mg_of X G xN
  have OG := PySem.W.mg_of X G xG
  have OT := PySem.W.mg_of X G xT
  have OM := PySem.W.mg_of X G xM
  have OB := PySem.W.mg_of X G xB
  have ZH : HCls K CR := ⟨by rw [hR1]; rfl, hR2, hR3⟩
  have ZXN : XCls K "NoRoad" CN := ⟨xN, eN⟩
  have XAN : XAttr K CN := ⟨by rw [uN1]; rfl, uN2, uN3, uN4, uN5, uN6, uN7, uN8⟩
  have KRN : KindR K CN CG CT CM CB CN true false false false false := ⟨XAN, vNN, vNG, vNT, vNM, vNB, vNV⟩
  have ZXG : XCls K "NoGaps" CG := ⟨xG, eG⟩
  have XAG : XAttr K CG := ⟨by rw [uG1]; rfl, uG2, uG3, uG4, uG5, uG6, uG7, uG8⟩
  have KRG : KindR K CN CG CT CM CB CG false true false false false := ⟨XAG, vGN, vGG, vGT, vGM, vGB, vGV⟩
  have ZXT : XCls K "TooMany" CT := ⟨xT, eT⟩
  have XAT : XAttr K CT := ⟨by rw [uT1]; rfl, uT2, uT3, uT4, uT5, uT6, uT7, uT8⟩
  have KRT : KindR K CN CG CT CM CB CT false false true false false := ⟨XAT, vTN, vTG, vTT, vTM, vTB, vTV⟩
  have ZXB : XCls K "BadText" CB := ⟨xB, eB⟩
  have XAB : XAttr K CB := ⟨by rw [uB1]; rfl, uB2, uB3, uB4, uB5, uB6, uB7, uB8⟩
  have KRB : KindR K CN CG CT CM CB CB false false false false true := ⟨XAB, vBN, vBG, vBT, vBM, vBB, vBV⟩
  have KN : KNames mg CN CG CT CM CB := ⟨ON, OG, OT, OM, OB⟩
  have ZHN : HCls K CN := ⟨XAN.cls, tN, XAN.sb⟩
  have mT : PySem.W.exmAny K (.ref CT) [.ref CT, .ref CG] = some true := exm_of XAT.cls tT XAT.sb sTT XAG.cls tG XAG.sb sTG
  have mG : PySem.W.exmAny K (.ref CG) [.ref CT, .ref CG] = some true := exm_of XAT.cls tT XAT.sb sGT XAG.cls tG XAG.sb sGG
  refine ⟨PySem.W.fnOf "law" "law" (defArgs sLaw) (defBody sLaw) (defScope sLaw) .none kV17 dc17 pm17 an17 cd17 ct17, fun s v => .of_eq rfl, fun base _ _ => ?_⟩
  have E1 := ok_isRoad (P := l.prog) (w := w) (base := base) Fis_road Mis_road GP
  have E2 := ok_checkRoadP Fcheck_road Mcheck_road GP ZXN ON E1
  have E4 := ok_checkGapsP (P := l.prog) (w := w) (base := base) Fcheck_gaps Mcheck_gaps GG ZXT OT ZXG OG
  have W4 := ok_numberK (P := l.prog) (w := w) (base := base) Fread_number Mread_number GA ZXB OB
  have W5 := ok_numbersK Fread_numbers Mread_numbers ZXB OB W4
  have W6 := ok_readRoadK Fread_road Mread_road ⟨_, CROAD_WORD⟩ ZHN ON sNN ZXB OB E2 W5
  have W7 := ok_readGapsK Fread_gaps Mread_gaps ⟨_, CGAPS_WORD⟩ OT OG mT mG ZXB OB (E4.mono (by decide)) W5
  have L1 := ok_cell (P := l.prog) (w := w) (base := base) F_law_cell_at M_law_cell_at G3
  have L2 := ok_whole (P := l.prog) (w := w) (base := base) F_law_whole M_law_whole G3
  have L3 := ok_list F_law_list M_law_list G3 L2
  have L5 := ok_road F_law_road M_law_road G3 L1
  have L6 := ok_kind (P := l.prog) (w := w) (base := base) F_law_kind M_law_kind GA KN
  have Q1 := ok_lnum (P := l.prog) (w := w) (base := base) F_law_number M_law_number GA
  have Q2 := ok_due F_law_due M_law_due GA Q1
  have Q3 := ok_turned (P := l.prog) (w := w) (base := base) F_law_turned M_law_turned GA
  have Q4 := ok_tried F_law_tried M_law_tried ZH OR KRB sB W6 W7 (L6.mono (by decide))
  exact ok_law (k := 4) Flaw GA (L1.mono (by decide)) (L5.mono (by decide)) (L3.mono (by decide)) (Q3.mono (by decide)) (Q2.mono (by decide)) Q4
theorem walk {l : PySem.W.OpenLaw} {q : Program} {loose : List Str} {XP : (Str → Option Value) → Heap → Prop} {YP : World → Heap → Prop} {d : DefRec} {K : Params → PySem.W.Frag} (hn : l.most = some 63) (hdf : d.params.defaults = [])
    (hY : ∀ (w : World) (h : Heap), YP w h → (K w.params).In h)
    (F : ∀ (w : World) (mg : Str → Option Value) (fa : Addr) (h : Heap), (K w.params).In h → h.Ns mainGlobals mg → mg d.name = some (.ref fa) →
      ∃ fd : FuncData, (∀ (s : Shared) (u : Value), BindsTo s fd ⟨[u], []⟩ [("script", u)]) ∧ ∀ base : Heap, (K w.params).In base → base.Ns mainGlobals mg → FnK l.prog w (K w.params) mg base CX0 5 fa fd ["script"] (spLaw (K w.params))) :
    L2.WalkC q loose XP YP l.row.toRowW d [] :=
  L2.walkC_of (n := 63) (k := 5) (x := "script") (sp := fun w => spLaw (K w.params)) hn (by decide) hdf ⟨rfl, by decide, by decide⟩ hY F (fun _ _ a ns hl _ hS => ⟨a, ns, rfl, hS, hl, fun _ => rfl⟩)
end Rd
namespace RdTop
open _root_.PySem _root_.PySem.W PyProof.Rows
set_option maxRecDepth 100000 in
set_option maxHeartbeats 0 in
theorem top : PySem.Challenge.rw_roadgaps_k11_read.Holds := by
  w_on; o_law; k_head; (case hw => w_witness2)
  k_fill
  refine Rd.walk (l := PySem.Challenge.rw_roadgaps_k11_read) rfl rfl (fun w h Y => PySem.W.kIn_of Y) ?F
  case F =>
    intro w mg fa h KX G hmg
    refine' Rd.all_mk KX G hmg ?a1 ?l1 ?c1 ?k1 ?a2 ?l2 ?c2 ?k2 ?a3 ?l3 ?c3 ?k3 ?a4 ?l4 ?c4 ?k4 ?a5 ?l5 ?c5 ?k5 ?a6 ?l6 ?c6 ?k6 ?a7 ?l7 ?c7 ?k7 ?a8 ?l8 ?c8 ?k8 ?a9 ?l9 ?c9 ?k9 ?a10 ?l10 ?c10 ?k10 ?a11 ?l11 ?c11 ?k11 ?a12 ?l12 ?c12 ?k12 ?a13 ?l13 ?c13 ?k13 ?a14 ?l14 ?c14 ?k14 ?a15 ?l15 ?c15 ?k15 ?a16 ?l16 ?c16 ?k16 ?a17 ?l17 ?c17 ?k17 ?m1 ?m2 ?m3 ?m4 ?m5 ?xR ?xN ?xG ?xT ?xM ?xB ?hR1 ?hR2 ?hR3 ?eN ?sN ?uN1 ?uN2 ?uN3 ?uN4 ?uN5 ?uN6 ?uN7 ?uN8 ?vNN ?vNG ?vNT ?vNM ?vNB ?vNV ?eG ?sG ?uG1 ?uG2 ?uG3 ?uG4 ?uG5 ?uG6 ?uG7 ?uG8 ?vGN ?vGG ?vGT ?vGM ?vGB ?vGV ?eT ?sT ?uT1 ?uT2 ?uT3 ?uT4 ?uT5 ?uT6 ?uT7 ?uT8 ?vTN ?vTG ?vTT ?vTM ?vTB ?vTV ?eB ?sB ?uB1 ?uB2 ?uB3 ?uB4 ?uB5 ?uB6 ?uB7 ?uB8 ?vBN ?vBG ?vBT ?vBM ?vBB ?vBV ?tN ?sNN ?tT ?tG ?sTT ?sTG ?sGT ?sGG ?z1 ?z2 ?z3 ?z4 ?z5 ?z6 ?z7 ?z8 ?z9 ?z10 ?z11 ?z12 ?z13 ?z14 ?z15
    (case a1 => k_is)
    (case l1 => k_is)
    (case c1 => k_is)
    (case k1 => k_is)
    (case a2 => k_is)
    (case l2 => k_is)
    (case c2 => k_is)
    (case k2 => k_is)
    (case a3 => k_is)
    (case l3 => k_is)
    (case c3 => k_is)
    (case k3 => k_is)
    (case a4 => k_is)
    (case l4 => k_is)
    (case c4 => k_is)
    (case k4 => k_is)
    (case a5 => k_is)
    (case l5 => k_is)
    (case c5 => k_is)
    (case k5 => k_is)
    (case a6 => k_is)
    (case l6 => k_is)
    (case c6 => k_is)
    (case k6 => k_is)
    (case a7 => k_is)
    (case l7 => k_is)
    (case c7 => k_is)
    (case k7 => k_is)
    (case a8 => k_is)
    (case l8 => k_is)
    (case c8 => k_is)
    (case k8 => k_is)
    (case a9 => k_is)
    (case l9 => k_is)
    (case c9 => k_is)
    (case k9 => k_is)
    (case a10 => k_is)
    (case l10 => k_is)
    (case c10 => k_is)
    (case k10 => k_is)
    (case a11 => k_is)
    (case l11 => k_is)
    (case c11 => k_is)
    (case k11 => k_is)
    (case a12 => k_is)
    (case l12 => k_is)
    (case c12 => k_is)
    (case k12 => k_is)
    (case a13 => k_is)
    (case l13 => k_is)
    (case c13 => k_is)
    (case k13 => k_is)
    (case a14 => k_is)
    (case l14 => k_is)
    (case c14 => k_is)
    (case k14 => k_is)
    (case a15 => k_is)
    (case l15 => k_is)
    (case c15 => k_is)
    (case k15 => k_is)
    (case a16 => k_is)
    (case l16 => k_is)
    (case c16 => k_is)
    (case k16 => k_is)
    (case a17 => k_is)
    (case l17 => k_is)
    (case c17 => k_is)
    (case k17 => k_is)
    (case m1 => k_is)
    (case m2 => k_is)
    (case m3 => k_is)
    (case m4 => k_is)
    (case m5 => k_is)
    (case xR => k_is)
    (case xN => k_is)
    (case xG => k_is)
    (case xT => k_is)
    (case xM => k_is)
    (case xB => k_is)
    (case hR1 => k_is)
    (case hR2 => k_is)
    (case hR3 => k_is)
    (case eN => k_exc)
    (case sN => k_is)
    (case uN1 => k_is)
    (case uN2 => k_is)
    (case uN3 => k_is)
    (case uN4 => k_is)
    (case uN5 => k_is)
    (case uN6 => k_is)
    (case uN7 => k_is)
    (case uN8 => k_is)
    (case vNN => kit_is)
    (case vNG => kit_is)
    (case vNT => kit_is)
    (case vNM => kit_is)
    (case vNB => kit_is)
    (case vNV => kit_is)
    (case eG => k_exc)
    (case sG => k_is)
    (case uG1 => k_is)
    (case uG2 => k_is)
    (case uG3 => k_is)
    (case uG4 => k_is)
    (case uG5 => k_is)
    (case uG6 => k_is)
    (case uG7 => k_is)
    (case uG8 => k_is)
    (case vGN => kit_is)
    (case vGG => kit_is)
    (case vGT => kit_is)
    (case vGM => kit_is)
    (case vGB => kit_is)
    (case vGV => kit_is)
    (case eT => k_exc)
    (case sT => k_is)
    (case uT1 => k_is)
    (case uT2 => k_is)
    (case uT3 => k_is)
    (case uT4 => k_is)
    (case uT5 => k_is)
    (case uT6 => k_is)
    (case uT7 => k_is)
    (case uT8 => k_is)
    (case vTN => kit_is)
    (case vTG => kit_is)
    (case vTT => kit_is)
    (case vTM => kit_is)
    (case vTB => kit_is)
    (case vTV => kit_is)
    (case eB => k_exc)
    (case sB => k_is)
    (case uB1 => k_is)
    (case uB2 => k_is)
    (case uB3 => k_is)
    (case uB4 => k_is)
    (case uB5 => k_is)
    (case uB6 => k_is)
    (case uB7 => k_is)
    (case uB8 => k_is)
    (case vBN => kit_is)
    (case vBG => kit_is)
    (case vBT => kit_is)
    (case vBM => kit_is)
    (case vBB => kit_is)
    (case vBV => kit_is)
    (case tN => k_is)
    (case sNN => k_is)
    (case tT => k_is)
    (case tG => k_is)
    (case sTT => k_is)
    (case sTG => k_is)
    (case sGT => k_is)
    (case sGG => k_is)
    (case z1 => k_is)
    (case z2 => k_is)
    (case z3 => k_is)
    (case z4 => k_is)
    (case z5 => k_is)
    (case z6 => k_is)
    (case z7 => k_is)
    (case z8 => k_is)
    (case z9 => k_is)
    (case z10 => k_is)
    (case z11 => k_is)
    (case z12 => k_is)
    (case z13 => k_is)
    (case z14 => k_is)
    (case z15 => k_is)
end RdTop
theorem PySem.Challenge.cw_roadgaps_k11_read_holds : PySem.Challenge.rw_roadgaps_k11_read.Holds :=
  RdTop.top
