import Derived.Test.YtfomidjhmdmmcaaE10f2
import Derived.Test.YtfomidjhmdmmcaaE10f3
/- A region that draws its order and holds operations that make memory: each operation is met once, in whatever state its own forerunners have left. -/
namespace Go.Proofs.Ytfomidjhmdmmcaa
open Go Go.RowKit
set_option linter.unusedVariables false

section
variable {P : Program} {ops : Array Oper}

/-- What is asked of an operation: it yields a value, in a world, that R holds of. -/
def looseUpon (P : Program) (R : Value → World → Prop) : Result Next → Prop
  | .ok (.value v) w' => R v w'
  | .ok (.enter f args) w' => Calls P f args w' fun e w'' => ∃ v, e = .returned v ∧ R v w''
  | _ => False
theorem wp_of_loose {o : Oper} {a : Act} {w : World} {R : Value → World → Prop} {K : Act → World → Prop} {Q : Exit → Act → World → Prop} (h : looseUpon P R ((execOp a.eval o).run P w)) (hK : ∀ v w', R v w' → K (a.put o.dst v) w') : o.wp P a w K Q := by
  unfold Oper.wp
  generalize (execOp a.eval o).run P w = r at h
  cases r with
  | ok n w' =>
    cases n with
    | value v => exact hK _ _ h
    | enter f args => exact Calls.mono h (fun e w'' ⟨v, he, hR⟩ => by subst he; exact hK _ _ hR)
    | skip => exact h.elim
    | defer d => exact h.elim
    | row r args => exact h.elim
    | _ => exact h.elim
  | halt x w' => exact h.elim

theorem loose_call {o : Oper} {a : Act} {w : World} {R : Value → World → Prop} {f : FuncId} {fn : Func} {xs : Array Operand} {ats : Array TypeId} (ho : o.op = .call { callee := .value (.func f), args := xs, argTypes := ats }) (hf : P.funcs[f]? = some fn) (hname : (fn.name == "runtime.NumGoroutine") = false) (hb : fn.body.isNone = false)
    (h : Calls P f (xs.map a.eval) w fun e w'' => ∃ v, e = .returned v ∧ R v w'') : looseUpon P R ((execOp a.eval o).run P w) := by
  have e1 : execOp a.eval o = callFunc f (xs.map a.eval) := by
    have ef : a.eval (.func f) = .func (.func f) #[] #[] := rfl
    unfold execOp
    simp [ho, resolve, Deferred.ofValue, invoke, ef]
  have e2 : (callFunc f (xs.map a.eval)).run P w = .ok (.enter f (xs.map a.eval)) w := by
    have h1 : fn.name ≠ "runtime.NumGoroutine" := by simpa using hname
    have h2 : fn.body ≠ none := fun h => by rw [h] at hb; cases hb
    simp [callFunc, hf, h1, h2]
  rw [e1, e2]
  exact h
/-- The value v, in whatever world. -/
abbrev IsV (V : Value) : Value → World → Prop := fun v _ => v = V

/-- The plan of a region: for each operation, its slot; the forerunners that it reads (number and slot); the slots from outside that it reads. -/
structure Plan where
  dst : Nat
  deps : List (Nat × Nat)
  outs : List Nat
def planOK (ops : Array Oper) (pl : List Plan) : Bool :=
  decide (pl.length = ops.size) && (List.range ops.size).all fun i =>
    match ops[i]?, pl[i]? with
    | some o, some p => o.dst == some p.dst && (o.guard.all fun g => p.deps.any fun q => q.1 == g.1) &&
        (p.deps.all fun q => (o.after.any fun e => Region.binds .any e && e.on == q.1) && ((pl[q.1]?).map (·.dst)) == some q.2) &&
        (p.outs.all fun d => (List.range ops.size).all fun j => !((pl[j]?).map (·.dst) == some d) || (match ops[j]? with | some oj => oj.after.any fun e => Region.binds .any e && e.on == i | none => false)) &&
        (o.after.all fun e => decide (e.on < i)) &&
        ((List.range ops.size).all fun j => j == i || !((pl[j]?).map (·.dst) == some p.dst))
    | _, _ => false

/-- The frame behind some operations. -/
def putAll (pl : List Plan) (vs : List Value) (a : Act) : Act := (pl.zip vs).foldl (fun a q => a.put (some q.1.dst) q.2) a

/-- What holds on the way. -/
structure Loose (ops : Array Oper) (pl : List Plan) (F : Nat → Value → World → Prop) (C : World → Prop) (a0 : Act) (listed : Array Bool) (a : Act) (w : World) : Prop where
  cls : C w
  size : listed.size = ops.size
  tmps : a.tmps.size = a0.tmps.size
  defers : a.defers = a0.defers
  closed : ∀ j o, ops[j]? = some o → listed.getD j false = true → ∀ e ∈ o.after, Region.binds .any e = true → listed.getD e.on false = true
  out : ∀ d, (∀ (j : Nat) (p : Plan), pl[j]? = some p → p.dst = d → listed.getD j false = false) → a.eval (.tmp d) = a0.eval (.tmp d)
  got : ∀ (j : Nat) (p : Plan), pl[j]? = some p → listed.getD j false = true → F j (a.eval (.tmp p.dst)) w

/-- What is asked of operation i. -/
def StepOK (P : Program) (F : Nat → Value → World → Prop) (C : World → Prop) (Ext : World → World → Prop) (a0 : Act) (i : Nat) (o : Oper) (p : Plan) : Prop :=
  ∀ (a : Act) (w : World), C w → (∀ q ∈ p.deps, F q.1 (a.eval (.tmp q.2)) w) → (∀ d ∈ p.outs, a.eval (.tmp d) = a0.eval (.tmp d)) →
    (∀ g, o.guard = some g → ∀ q ∈ p.deps, q.1 = g.1 → a.eval (.tmp q.2) = .bool g.2) ∧ looseUpon P (fun v w' => F i v w' ∧ C w' ∧ Ext w w') ((execOp a.eval o).run P w)

/-- What a good plan says of one operation. -/
structure PlanAt (ops : Array Oper) (pl : List Plan) (i : Nat) (o : Oper) (p : Plan) : Prop where
  dst : o.dst = some p.dst
  guard : ∀ g, o.guard = some g → ∃ q ∈ p.deps, q.1 = g.1
  deps : ∀ q ∈ p.deps, (∃ e ∈ o.after, Region.binds .any e = true ∧ e.on = q.1) ∧ ∃ p' : Plan, pl[q.1]? = some p' ∧ p'.dst = q.2
  outs : ∀ d ∈ p.outs, ∀ (j : Nat) (p' : Plan), pl[j]? = some p' → p'.dst = d → ∃ oj : Oper, ops[j]? = some oj ∧ ∃ e ∈ oj.after, Region.binds .any e = true ∧ e.on = i
  before : ∀ e ∈ o.after, e.on < i
  alone : ∀ (j : Nat) (p' : Plan), pl[j]? = some p' → p'.dst = p.dst → j = i
theorem planOK_at {pl : List Plan} (h : planOK ops pl = true) : pl.length = ops.size ∧ ∀ i o p, ops[i]? = some o → pl[i]? = some p → PlanAt ops pl i o p := by
  unfold planOK at h
  simp only [Bool.and_eq_true, decide_eq_true_eq] at h
  obtain ⟨hl, h⟩ := h
  refine ⟨hl, fun i o p ho hp => ?_⟩
  have hi : i < ops.size := (Array.getElem?_eq_some_iff.1 ho).1
  have h1 := List.all_eq_true.1 h i (List.mem_range.2 hi)
  simp only [ho, hp, Bool.and_eq_true] at h1
  obtain ⟨⟨⟨⟨⟨a1, a2⟩, a3⟩, a4⟩, a5⟩, a6⟩ := h1
  refine ⟨by simpa using a1, fun g hg => ?_, fun q hq => ?_, fun d hd j p' hj hjd => ?_, fun e he => ?_, fun j p' hj hjd => ?_⟩
  · rw [hg] at a2
    obtain ⟨q, hq, hq2⟩ := List.any_eq_true.1 (by simpa using a2 : (p.deps.any fun q => q.1 == g.1) = true)
    exact ⟨q, hq, by simpa using hq2⟩
  · have h2 := List.all_eq_true.1 a3 q hq
    simp only [Bool.and_eq_true] at h2
    obtain ⟨e, he, he2⟩ := Array.any_eq_true'.1 h2.1
    simp only [Bool.and_eq_true, beq_iff_eq] at he2
    have h3 : (pl[q.1]?).map (·.dst) = some q.2 := by simpa using h2.2
    obtain ⟨p', hp', hd'⟩ := Option.map_eq_some_iff.1 h3
    exact ⟨⟨e, he, he2.1, he2.2⟩, p', hp', hd'⟩
  · have hjl : j < ops.size := by rw [← hl]; exact (List.getElem?_eq_some_iff.1 hj).1
    have h2 := List.all_eq_true.1 (List.all_eq_true.1 a4 d hd) j (List.mem_range.2 hjl)
    simp only [hj, Option.map_some, hjd, beq_self_eq_true, Bool.not_true, Bool.false_or] at h2
    obtain ⟨oj, hoj⟩ : ∃ oj, ops[j]? = some oj := ⟨ops[j], Array.getElem?_eq_getElem hjl⟩
    simp only [hoj] at h2
    obtain ⟨e, he, he2⟩ := Array.any_eq_true'.1 h2
    simp only [Bool.and_eq_true, beq_iff_eq] at he2
    exact ⟨oj, hoj, e, he, he2.1, he2.2⟩
  · have := Array.all_eq_true_iff_forall_mem.1 a5 e he
    simpa using this
  · have hjl : j < ops.size := by rw [← hl]; exact (List.getElem?_eq_some_iff.1 hj).1
    have h2 := List.all_eq_true.1 a6 j (List.mem_range.2 hjl)
    simp only [hj, Option.map_some, hjd, beq_self_eq_true, Bool.not_true, Bool.or_false, beq_iff_eq] at h2
    exact h2

theorem yielded_bool {o : Oper} {j d : Nat} {a : Act} {b : Bool} (ho : ops[j]? = some o) (hd : o.dst = some d) (he : a.eval (.tmp d) = .bool b) : yielded ops a.tmps j = some b := by
  unfold yielded
  rw [ho]
  simp only [Option.bind_some, hd]
  unfold Act.eval at he
  simp only [Array.getD_eq_getD_getElem?] at he
  cases h : a.tmps[d]? with
  | none => rw [h] at he; cases he
  | some v =>
    rw [h] at he
    simp only [Option.getD_some] at he
    subst he
    rfl

theorem loose_next {pl : List Plan} {F : Nat → Value → World → Prop} {C : World → Prop} {Ext : World → World → Prop} {a0 a : Act} {listed : Array Bool} {w w' : World} {i : Nat} {o : Oper} {p : Plan} {v : Value}
    (hP : PlanAt ops pl i o p) (hst : ∀ i v w w', F i v w → Ext w w' → F i v w') (hdst : p.dst < a0.tmps.size) (h : Loose ops pl F C a0 listed a w) (ho : ops[i]? = some o) (hp : pl[i]? = some p) (hall : ∀ e ∈ o.after, Region.binds .any e = true → listed.getD e.on false = true)
    (hF : F i v w') (hC : C w') (hE : Ext w w') : Loose ops pl F C a0 (listed.setIfInBounds i true) (a.put o.dst v) w' := by
  have hi : i < listed.size := by rw [h.size]; exact (Array.getElem?_eq_some_iff.1 ho).1
  have hset : ∀ j, (listed.setIfInBounds i true).getD j false = true → j = i ∨ listed.getD j false = true := fun j hj => by
    by_cases hji : j = i
    · exact .inl hji
    · exact .inr (by rwa [getD_set_ne false (Ne.symm hji)] at hj)
  have hkeep : ∀ j, listed.getD j false = true → (listed.setIfInBounds i true).getD j false = true := fun j hj => by
    by_cases hji : j = i
    · subst hji; simp [hi]
    · rwa [getD_set_ne false (Ne.symm hji)]
  rw [hP.dst]
  refine ⟨hC, by rw [Array.size_setIfInBounds]; exact h.size, by simp [Act.put, h.tmps], h.defers, fun j oj hoj hj e he hb => ?_, fun d hd => ?_, fun j pj hpj hj => ?_⟩
  · rcases hset j hj with rfl | hj'
    · obtain rfl : o = oj := Option.some.inj (ho.symm.trans hoj)
      exact hkeep _ (hall e he hb)
    · exact hkeep _ (h.closed j oj hoj hj' e he hb)
  · have hne : p.dst ≠ d := fun hh => by
      have := hd i p hp hh
      simp [hi] at this
    rw [Act.eval_put (fun d' hd' hx => hne ((Option.some.inj hd').trans (Operand.tmp.inj hx).symm))]
    exact h.out d fun j p' hj hjd => by
      have := hd j p' hj hjd
      by_cases hji : j = i
      · subst hji; simp [hi] at this
      · rwa [getD_set_ne false (Ne.symm hji)] at this
  · by_cases hji : j = i
    · subst hji
      obtain rfl : p = pj := Option.some.inj (hp.symm.trans hpj)
      have : (a.put (some p.dst) v).eval (.tmp p.dst) = v := by simp [Act.put, Act.eval, Array.getD_eq_getD_getElem?, h.tmps, hdst]
      rw [this]; exact hF
    · have hj' := (hset j hj).resolve_left hji
      have hne : p.dst ≠ pj.dst := fun hh => hji (hP.alone j pj hpj hh.symm)
      rw [Act.eval_put (fun d' hd' hx => hne ((Option.some.inj hd').trans (Operand.tmp.inj hx).symm))]
      exact hst _ _ _ _ (h.got j pj hpj hj') hE

theorem loose_any {pl : List Plan} {F : Nat → Value → World → Prop} {C : World → Prop} {Ext : World → World → Prop} {a0 : Act} {Q : Exit → Act → World → Prop} (hpl : planOK ops pl = true) (hst : ∀ i v w w', F i v w → Ext w w' → F i v w') (hdst : ∀ p ∈ pl, p.dst < a0.tmps.size)
    (hstep : ∀ i o p, ops[i]? = some o → pl[i]? = some p → StepOK P F C Ext a0 i o p) (hend : ∀ listed a w, Loose ops pl F C a0 listed a w → (∀ i, i < ops.size → listed.getD i false = true) → Q .normal a w) :
    ∀ fuel listed a w, Loose ops pl F C a0 listed a w → listed.toList.count false ≤ fuel → wpAny P .any ops Q fuel listed a w := by
  obtain ⟨hlen, hat⟩ := planOK_at hpl
  have hone : ∀ i, i < ops.size → ∃ o p, ops[i]? = some o ∧ pl[i]? = some p := fun i hi => ⟨ops[i], pl[i]'(by omega), Array.getElem?_eq_getElem hi, List.getElem?_eq_getElem (by omega)⟩
  have hfin : ∀ (listed : Array Bool) (a : Act) (w : World), Loose ops pl F C a0 listed a w → Region.ready .any ops listed = [] → Q .normal a w := fun listed a w h hr => by
    refine hend listed a w h fun i => ?_
    induction i using Nat.strongRecOn with
    | _ i ih =>
      intro hi
      cases hl : listed.getD i false with
      | true => rfl
      | false =>
        exfalso
        obtain ⟨o, p, ho, hp⟩ := hone i hi
        have : i ∈ Region.ready .any ops listed := mem_ready.2 ⟨by simp only [Array.getD_eq_getD_getElem?, Array.getElem?_eq_getElem (show i < listed.size by rw [h.size]; exact hi), Option.getD_some] at hl ⊢; exact hl, o, ho, fun e he hb => ih e.on ((hat i o p ho hp).before e he) (by have := (hat i o p ho hp).before e he; omega)⟩
        rw [hr] at this
        cases this
  intro fuel
  induction fuel with
  | zero =>
    intro listed a w h hc
    have hr : Region.ready .any ops listed = [] := by
      cases hrd : Region.ready .any ops listed with
      | nil => rfl
      | cons i l =>
        exfalso
        obtain ⟨hun, o, ho, _⟩ := mem_ready.1 (show i ∈ Region.ready .any ops listed by rw [hrd]; exact List.mem_cons_self)
        have hi : i < listed.size := by rw [h.size]; exact (Array.getElem?_eq_some_iff.1 ho).1
        have hm : false ∈ listed.toList := by
          rw [Array.getD_eq_getD_getElem?, Array.getElem?_eq_getElem hi, Option.getD_some] at hun
          rw [← hun]
          exact Array.getElem_mem_toList hi
        have := List.count_pos_iff.2 hm
        omega
    exact ⟨hr, hfin listed a w h hr⟩
  | succ fuel ih =>
    intro listed a w h hc
    refine ⟨fun hr => hfin listed a w h hr, fun i hr => ?_⟩
    obtain ⟨hun, o, ho, hall⟩ := mem_ready.1 hr
    have hio : i < ops.size := (Array.getElem?_eq_some_iff.1 ho).1
    have hi : i < listed.size := by rw [h.size]; exact hio
    obtain ⟨o', p, ho', hp⟩ := hone i hio
    obtain rfl : o = o' := Option.some.inj (ho.symm.trans ho')
    have hP := hat i o p ho hp
    have hcnt : (listed.setIfInBounds i true).toList.count false ≤ fuel := by
      rw [Array.toList_setIfInBounds, List.count_set (by simpa using hi)]
      have hv : listed.toList[i]'(by simpa using hi) = false := by
        rw [Array.getElem_toList]
        rw [Array.getD_eq_getD_getElem?, Array.getElem?_eq_getElem hi, Option.getD_some] at hun
        exact hun
      rw [hv]
      change listed.toList.count false - 1 + 0 ≤ fuel
      omega
    obtain ⟨hg, hu⟩ := hstep i o p ho hp a w h.cls (fun q hq => by
        obtain ⟨⟨e, he, hb, hon⟩, p', hp', hd'⟩ := hP.deps q hq
        have := h.got q.1 p' hp' (by rw [← hon]; exact hall e he hb)
        rwa [hd'] at this) (fun d hd => h.out d fun j p' hj hjd => by
        obtain ⟨oj, hoj, e, he, hb, hon⟩ := hP.outs d hd j p' hj hjd
        cases hl : listed.getD j false with
        | false => rfl
        | true =>
          have := h.closed j oj hoj hl e he hb
          rw [hon] at this
          rw [Array.getD_eq_getD_getElem?, Array.getElem?_eq_getElem hi, Option.getD_some] at hun this
          rw [hun] at this; cases this)
    have hw : Region.wanted o (yielded ops a.tmps) = true := by
      unfold Region.wanted
      cases hgo : o.guard with
      | none => rfl
      | some g =>
        obtain ⟨q, hq, hq1⟩ := hP.guard g hgo
        obtain ⟨_, p', hp', hd'⟩ := hP.deps q hq
        have he := hg g hgo q hq hq1
        have hq' : q.1 < ops.size := by rw [← hlen]; exact (List.getElem?_eq_some_iff.1 hp').1
        obtain ⟨oq, pq, hoq, hpq⟩ := hone q.1 hq'
        obtain rfl : p' = pq := Option.some.inj (hp'.symm.trans hpq)
        have := yielded_bool (ops := ops) (a := a) hoq ((hat q.1 oq p' hoq hpq).dst.trans (by rw [hd'])) he
        rw [hq1] at this
        obtain ⟨gj, gb⟩ := g
        simp only at this ⊢
        rw [this]
        simp
    refine wpOp_step ho fun K' hK => ?_
    rw [if_pos hw]
    exact wp_of_loose hu fun v w' ⟨hF, hC, hE⟩ => hK _ _ (ih _ _ _ (loose_next hP hst (hdst p (List.mem_of_getElem? hp)) h ho hp hall hF hC hE) hcnt)

/-- What holds of each value, from a list. -/
def factOf (Fs : List (Value → World → Prop)) (i : Nat) : Value → World → Prop := (Fs[i]?).getD (fun _ _ => False)
def Stable (Ext : World → World → Prop) (f : Value → World → Prop) : Prop := ∀ v w w', f v w → Ext w w' → f v w'
theorem stable_V (Ext : World → World → Prop) (V : Value) : Stable Ext (IsV V) := fun _ _ _ h _ => h
/-- The steps, one by one. -/
def Steps (P : Program) (F : Nat → Value → World → Prop) (C : World → Prop) (Ext : World → World → Prop) (a0 : Act) : Nat → List Oper → List Plan → Prop
  | i, o :: l, p :: pl => StepOK P F C Ext a0 i o p ∧ Steps P F C Ext a0 (i + 1) l pl
  | _, _, _ => True
theorem steps_at {F : Nat → Value → World → Prop} {C : World → Prop} {Ext : World → World → Prop} {a0 : Act} : ∀ (l : List Oper) (pl : List Plan) (k : Nat), Steps P F C Ext a0 k l pl → ∀ i o p, l[i]? = some o → pl[i]? = some p → StepOK P F C Ext a0 (k + i) o p := by
  intro l
  induction l with
  | nil => intro pl k _ i o p h; simp at h
  | cons o l ih =>
    intro pl k h i o' p' ho hp
    cases pl with
    | nil => simp at hp
    | cons p pl =>
      cases i with
      | zero =>
        simp only [List.getElem?_cons_zero, Option.some.injEq] at ho hp
        subst ho hp
        exact h.1
      | succ i =>
        simp only [List.getElem?_cons_succ] at ho hp
        have := ih pl (k + 1) h.2 i o' p' ho hp
        rwa [show k + 1 + i = k + (i + 1) by omega] at this
/-- The values at the end, one by one. -/
def ends (w : World) : List (Value → World → Prop) → (List Value → Prop) → Prop
  | [], K => K []
  | f :: fs, K => ∀ v, f v w → ends w fs (fun vs => K (v :: vs))
theorem ends_at {w : World} : ∀ (Fs : List (Value → World → Prop)) (K : List Value → Prop), ends w Fs K → ∀ vs : List Value, vs.length = Fs.length → (∀ i v, vs[i]? = some v → factOf Fs i v w) → K vs := by
  intro Fs
  induction Fs with
  | nil =>
    intro K h vs hl _
    obtain rfl : vs = [] := List.eq_nil_of_length_eq_zero hl
    exact h
  | cons f Fs ih =>
    intro K h vs hl hv
    cases vs with
    | nil => cases hl
    | cons v vs => exact ih _ (h v (hv 0 v rfl)) vs (by simpa using hl) (fun i u hu => hv (i + 1) u hu)

theorem putAll_size {pl : List Plan} : ∀ (vs : List Value) (a : Act), (putAll pl vs a).tmps.size = a.tmps.size := by
  induction pl with
  | nil => intro vs a; rfl
  | cons p pl ih =>
    intro vs a
    cases vs with
    | nil => rfl
    | cons v vs =>
      show (putAll pl vs (a.put (some p.dst) v)).tmps.size = _
      rw [ih]; simp [Act.put]
theorem putAll_defers {pl : List Plan} : ∀ (vs : List Value) (a : Act), (putAll pl vs a).defers = a.defers := by
  induction pl with
  | nil => intro vs a; rfl
  | cons p pl ih =>
    intro vs a
    cases vs with
    | nil => rfl
    | cons v vs =>
      show (putAll pl vs (a.put (some p.dst) v)).defers = _
      rw [ih]; rfl
theorem putAll_out {pl : List Plan} : ∀ (vs : List Value) (a : Act) (d : Nat), (∀ p ∈ pl, p.dst ≠ d) → (putAll pl vs a).tmps[d]? = a.tmps[d]? := by
  induction pl with
  | nil => intro vs a d _; rfl
  | cons p pl ih =>
    intro vs a d h
    cases vs with
    | nil => rfl
    | cons v vs =>
      show (putAll pl vs (a.put (some p.dst) v)).tmps[d]? = _
      rw [ih vs _ d (fun q hq => h q (List.mem_cons_of_mem _ hq))]
      simp only [Act.put]
      rw [Array.getElem?_setIfInBounds_ne (h p List.mem_cons_self)]
theorem putAll_in {pl : List Plan} : ∀ (vs : List Value) (a : Act) (j : Nat) (p : Plan) (v : Value), pl[j]? = some p → vs[j]? = some v → p.dst < a.tmps.size → (∀ (i : Nat) (q : Plan), pl[i]? = some q → q.dst = p.dst → i = j) → (putAll pl vs a).tmps[p.dst]? = some v := by
  induction pl with
  | nil => intro vs a j p v h; simp at h
  | cons q pl ih =>
    intro vs a j p v hp hv hd hu
    cases vs with
    | nil => simp at hv
    | cons u vs =>
      show (putAll pl vs (a.put (some q.dst) u)).tmps[p.dst]? = _
      cases j with
      | zero =>
        simp only [List.getElem?_cons_zero, Option.some.injEq] at hp hv
        subst hp hv
        rw [putAll_out vs _ _ (fun r hr hh => by
          obtain ⟨i, hi⟩ := List.getElem?_of_mem hr
          have := hu (i + 1) r (by simpa using hi) hh
          omega)]
        simp [Act.put, hd]
      | succ j =>
        simp only [List.getElem?_cons_succ] at hp hv
        exact ih vs _ j p v hp hv (by simp [Act.put, hd]) (fun i r hr hh => by have := hu (i + 1) r (by simpa using hr) hh; omega)

/-- THE LAW: a region that draws its order. Fs: what holds of each operation's value; pl: the plan. -/
theorem wp_region_loose {id : Nat} {Q : Exit → Act → World → Prop} {a0 : Act} {w : World} {l : List Oper} (Fs : List (Value → World → Prop)) (pl : List Plan) (C : World → Prop) (Ext : World → World → Prop)
    (hm : P.follows .mixedOrders = true) (hpl : planOK l.toArray pl = true) (hlen : Fs.length = pl.length) (hdst : (pl.all fun p => decide (p.dst < a0.tmps.size)) = true) (hC : C w.drew) (hst : ∀ f ∈ Fs, Stable Ext f)
    (hsteps : Steps P (factOf Fs) C Ext a0 0 l pl) (hend : ∀ w, C w → ends w Fs (fun vs => Q .normal (putAll pl vs a0) w)) : (Code.region id l.toArray true).wp P Q a0 w := by
  have hd : ∀ p ∈ pl, p.dst < a0.tmps.size := fun p hp => by simpa using List.all_eq_true.1 hdst p hp
  obtain ⟨hpll, hat⟩ := planOK_at hpl
  have hplL : pl.length = l.length := by simpa using hpll
  refine wp_region_any hm ?_
  refine loose_any (F := factOf Fs) (C := C) (Ext := Ext) (a0 := a0) hpl (fun i v w w' hf hE => ?_) hd (fun i o p ho hp => ?_) (fun listed a w h hall => ?_) _ _ a0 _ ?_ ?_
  · unfold factOf at hf ⊢
    cases hfi : Fs[i]? with
    | none => rw [hfi] at hf; exact hf.elim
    | some f =>
      rw [hfi] at hf
      exact hst f (List.mem_of_getElem? hfi) v w w' hf hE
  · have := steps_at l pl 0 hsteps i o p (by simpa using ho) hp
    rwa [Nat.zero_add] at this
  · obtain ⟨vs, hvs⟩ : ∃ vs, vs = pl.map (fun p => a.eval (.tmp p.dst)) := ⟨_, rfl⟩
    have hvl : vs.length = Fs.length := by rw [hvs, List.length_map, hlen]
    have hK := ends_at Fs _ (hend w h.cls) vs hvl (fun i v hv => by
      rw [hvs, List.getElem?_map] at hv
      obtain ⟨p, hp, rfl⟩ := Option.map_eq_some_iff.1 hv
      exact h.got i p hp (hall i (by rw [← hpll]; exact (List.getElem?_eq_some_iff.1 hp).1)))
    have hae : putAll pl vs a0 = a := by
      have h1 : (putAll pl vs a0).tmps = a.tmps := by
        apply Array.ext_getElem?
        intro d
        by_cases hx : ∃ (j : Nat) (p : Plan), pl[j]? = some p ∧ p.dst = d
        · obtain ⟨j, p, hp, rfl⟩ := hx
          have hdp := hd p (List.mem_of_getElem? hp)
          obtain ⟨o, ho⟩ : ∃ o, l.toArray[j]? = some o := by
            have := (List.getElem?_eq_some_iff.1 hp).1
            exact ⟨_, Array.getElem?_eq_getElem (by rw [← hpll]; exact this)⟩
          rw [putAll_in vs a0 j p (a.eval (.tmp p.dst)) hp (by rw [hvs, List.getElem?_map, hp]; rfl) hdp (fun i q hq hh => (hat j o p ho hp).alone i q hq hh)]
          have : p.dst < a.tmps.size := by rw [h.tmps]; exact hdp
          unfold Act.eval
          simp [Array.getD_eq_getD_getElem?, this]
        · rw [putAll_out vs a0 d (fun p hp hh => by
            obtain ⟨j, hj⟩ := List.getElem?_of_mem hp
            exact hx ⟨j, p, hj, hh⟩)]
          have ho := h.out d (fun j p hp hh => absurd ⟨j, p, hp, hh⟩ hx)
          unfold Act.eval at ho
          simp only [Array.getD_eq_getD_getElem?] at ho
          by_cases hds : d < a0.tmps.size
          · have hds2 : d < a.tmps.size := by rw [h.tmps]; exact hds
            rw [Array.getElem?_eq_getElem hds, Array.getElem?_eq_getElem hds2] at ho ⊢
            simp only [Option.getD_some] at ho
            rw [ho]
          · have hds2 : ¬ d < a.tmps.size := by rw [h.tmps]; exact hds
            rw [Array.getElem?_eq_none (by omega), Array.getElem?_eq_none (by omega)]
      have h2 : (putAll pl vs a0).defers = a.defers := by rw [putAll_defers, h.defers]
      generalize putAll pl vs a0 = b at h1 h2
      cases a; cases b
      simp only at h1 h2
      rw [h1, h2]
    rw [hae] at hK
    exact hK
  · have hno : ∀ j, (Array.replicate l.toArray.size false).getD j false = false := fun j => by
      rw [Array.getD_eq_getD_getElem?, Array.getElem?_replicate]; split <;> rfl
    exact ⟨hC, by simp, rfl, rfl, fun j o _ hj => (by rw [hno] at hj; cases hj), fun d _ => rfl, fun j p _ hj => (by rw [hno] at hj; cases hj)⟩
  · simp
end
end Go.Proofs.Ytfomidjhmdmmcaa

/- A region that draws its order: its first operations make memory and float, the others come in one forced order behind all of them. -/
namespace Go.Proofs.Ytfomidjhmdmmcaa
open Go Go.RowKit
set_option linter.unusedVariables false

section
variable {P : Program} {ops : Array Oper}

/-- A plan of the first n operations. -/
def planT (ops : Array Oper) (pl : List Plan) (n : Nat) : Bool :=
  decide (pl.length = n) && decide (n < ops.size) && (List.range n).all fun i =>
    match ops[i]?, pl[i]? with
    | some o, some p => o.dst == some p.dst && (o.guard.all fun g => p.deps.any fun q => q.1 == g.1) &&
        (p.deps.all fun q => (o.after.any fun e => Region.binds .any e && e.on == q.1) && ((pl[q.1]?).map (·.dst)) == some q.2) &&
        (p.outs.all fun d => (List.range n).all fun j => !((pl[j]?).map (·.dst) == some d) || (match ops[j]? with | some oj => oj.after.any fun e => Region.binds .any e && e.on == i | none => false)) &&
        (o.after.all fun e => decide (e.on < i)) &&
        ((List.range n).all fun j => j == i || !((pl[j]?).map (·.dst) == some p.dst))
    | _, _ => false
theorem planT_at {pl : List Plan} {n : Nat} (h : planT ops pl n = true) : (pl.length = n ∧ n < ops.size) ∧ ∀ i o p, ops[i]? = some o → pl[i]? = some p → PlanAt ops pl i o p := by
  unfold planT at h
  simp only [Bool.and_eq_true, decide_eq_true_eq] at h
  obtain ⟨⟨hl, hn⟩, h⟩ := h
  refine ⟨⟨hl, hn⟩, fun i o p ho hp => ?_⟩
  have hi : i < n := by rw [← hl]; exact (List.getElem?_eq_some_iff.1 hp).1
  have h1 := List.all_eq_true.1 h i (List.mem_range.2 hi)
  simp only [ho, hp, Bool.and_eq_true] at h1
  obtain ⟨⟨⟨⟨⟨a1, a2⟩, a3⟩, a4⟩, a5⟩, a6⟩ := h1
  refine ⟨by simpa using a1, fun g hg => ?_, fun q hq => ?_, fun d hd j p' hj hjd => ?_, fun e he => ?_, fun j p' hj hjd => ?_⟩
  · rw [hg] at a2
    obtain ⟨q, hq, hq2⟩ := List.any_eq_true.1 (by simpa using a2 : (p.deps.any fun q => q.1 == g.1) = true)
    exact ⟨q, hq, by simpa using hq2⟩
  · have h2 := List.all_eq_true.1 a3 q hq
    simp only [Bool.and_eq_true] at h2
    obtain ⟨e, he, he2⟩ := Array.any_eq_true'.1 h2.1
    simp only [Bool.and_eq_true, beq_iff_eq] at he2
    have h3 : (pl[q.1]?).map (·.dst) = some q.2 := by simpa using h2.2
    obtain ⟨p', hp', hd'⟩ := Option.map_eq_some_iff.1 h3
    exact ⟨⟨e, he, he2.1, he2.2⟩, p', hp', hd'⟩
  · have hjl : j < n := by rw [← hl]; exact (List.getElem?_eq_some_iff.1 hj).1
    have h2 := List.all_eq_true.1 (List.all_eq_true.1 a4 d hd) j (List.mem_range.2 hjl)
    simp only [hj, Option.map_some, hjd, beq_self_eq_true, Bool.not_true, Bool.false_or] at h2
    obtain ⟨oj, hoj⟩ : ∃ oj, ops[j]? = some oj := ⟨ops[j], Array.getElem?_eq_getElem (by omega)⟩
    simp only [hoj] at h2
    obtain ⟨e, he, he2⟩ := Array.any_eq_true'.1 h2
    simp only [Bool.and_eq_true, beq_iff_eq] at he2
    exact ⟨oj, hoj, e, he, he2.1, he2.2⟩
  · have := Array.all_eq_true_iff_forall_mem.1 a5 e he
    simpa using this
  · have hjl : j < n := by rw [← hl]; exact (List.getElem?_eq_some_iff.1 hj).1
    have h2 := List.all_eq_true.1 a6 j (List.mem_range.2 hjl)
    simp only [hj, Option.map_some, hjd, beq_self_eq_true, Bool.not_true, Bool.or_false, beq_iff_eq] at h2
    exact h2

/-- The first n have come up. -/
def maskT (n s : Nat) : Array Bool := (List.replicate n true ++ List.replicate (s - n) false).toArray
theorem mask_get {n s i : Nat} (hn : n < s) : (maskT n s)[i]? = if i < n then some true else if i < s then some false else none := by
  unfold maskT
  rw [List.getElem?_toArray]
  by_cases h : i < n
  · rw [if_pos h, List.getElem?_append_left (by simpa using h)]; simp [h]
  · rw [if_neg h, List.getElem?_append_right (by simpa using h), List.length_replicate, List.getElem?_replicate]
    by_cases h2 : i < s
    · rw [if_pos h2, if_pos (by omega)]
    · rw [if_neg h2, if_neg (by omega)]
/-- What the tail asks. -/
def tailT (ops : Array Oper) (n : Nat) : Bool :=
  Region.sinkB .any ops n && Region.chainB .any ops n && Region.seqB .any ops (ops.size - n) n (maskT n ops.size)

theorem loose_anyT {pl : List Plan} {n : Nat} {F : Nat → Value → World → Prop} {C : World → Prop} {Ext : World → World → Prop} {a0 : Act} {Q : Exit → Act → World → Prop} (hpl : planT ops pl n = true) (htl : tailT ops n = true) (hst : ∀ i v w w', F i v w → Ext w w' → F i v w') (hdst : ∀ p ∈ pl, p.dst < a0.tmps.size)
    (hstep : ∀ i o p, ops[i]? = some o → pl[i]? = some p → StepOK P F C Ext a0 i o p) (hend : ∀ listed a w, Loose ops pl F C a0 listed a w → (∀ i, i < n → listed.getD i false = true) → wpList P ops Q (ops.toList.drop n) a w) :
    ∀ f listed a w, Loose ops pl F C a0 listed a w → (∀ i, n ≤ i → listed.getD i false = false) → (listed.toList.take n).count false = f → wpAny P .any ops Q (f + (ops.size - n)) listed a w := by
  obtain ⟨⟨hlen, hn⟩, hat⟩ := planT_at hpl
  unfold tailT at htl
  simp only [Bool.and_eq_true] at htl
  obtain ⟨⟨hwait, hchain⟩, hseq⟩ := htl
  have hone : ∀ i, i < n → ∃ o p, ops[i]? = some o ∧ pl[i]? = some p := fun i hi => ⟨ops[i], pl[i]'(by omega), Array.getElem?_eq_getElem (by omega), List.getElem?_eq_getElem (by omega)⟩
  intro f
  induction f with
  | zero =>
    intro listed a w h ht hc
    have hall : ∀ i, i < n → listed.getD i false = true := fun i hi => by
      have hil : i < listed.size := by rw [h.size]; omega
      cases hl : listed.getD i false with
      | true => rfl
      | false =>
        exfalso
        rw [Array.getD_eq_getD_getElem?, Array.getElem?_eq_getElem hil, Option.getD_some] at hl
        have hm : false ∈ listed.toList.take n := by
          rw [List.mem_take_iff_getElem]
          exact ⟨i, by simp; omega, by simpa using hl⟩
        have := List.count_pos_iff.2 hm
        omega
    have hmask : listed = maskT n ops.size := by
      apply Array.ext_getElem?
      intro i
      rw [mask_get hn]
      by_cases hi : i < n
      · have hil : i < listed.size := by rw [h.size]; omega
        have := hall i hi
        rw [Array.getD_eq_getD_getElem?, Array.getElem?_eq_getElem hil, Option.getD_some] at this
        rw [if_pos hi, Array.getElem?_eq_getElem hil, this]
      · rw [if_neg hi]
        by_cases hi2 : i < ops.size
        · have hil : i < listed.size := by rw [h.size]; omega
          have := ht i (by omega)
          rw [Array.getD_eq_getD_getElem?, Array.getElem?_eq_getElem hil, Option.getD_some] at this
          rw [if_pos hi2, Array.getElem?_eq_getElem hil, this]
        · rw [if_neg hi2, Array.getElem?_eq_none (by rw [h.size]; omega)]
    have hl2 : (ops.toList.drop n).length = ops.size - n := by simp
    rw [Nat.zero_add, ← hl2]
    refine wpAny_of_seq (ops.toList.drop n) n listed a w (fun j => by simp [List.getElem?_drop]) ?_ (hend listed a w h hall)
    rw [hl2, hmask]
    exact hseq
  | succ f ih =>
    intro listed a w h ht hc
    obtain ⟨k, hk, hkl⟩ : ∃ k, k < n ∧ listed.getD k false = false := by
      have hp : 0 < (listed.toList.take n).count false := by omega
      obtain ⟨i, hi, hv⟩ := List.mem_take_iff_getElem.1 (List.count_pos_iff.1 hp)
      refine ⟨i, by omega, ?_⟩
      have hil : i < listed.size := by simp at hi; omega
      rw [Array.getD_eq_getD_getElem?, Array.getElem?_eq_getElem hil, Option.getD_some]
      simpa using hv
    rw [show f + 1 + (ops.size - n) = (f + (ops.size - n)) + 1 by omega]
    refine ⟨fun hr => ?_, fun i hr => ?_⟩
    · exfalso
      have hall : ∀ i, i < n → listed.getD i false = true := fun i => by
        induction i using Nat.strongRecOn with
        | _ i ihh =>
          intro hi
          cases hl : listed.getD i false with
          | true => rfl
          | false =>
            exfalso
            obtain ⟨o, p, ho, hp⟩ := hone i hi
            have : i ∈ Region.ready .any ops listed := mem_ready.2 ⟨by simp only [Array.getD_eq_getD_getElem?, Array.getElem?_eq_getElem (show i < listed.size by rw [h.size]; omega), Option.getD_some] at hl ⊢; exact hl, o, ho, fun e he hb => ihh e.on ((hat i o p ho hp).before e he) (by have := (hat i o p ho hp).before e he; omega)⟩
            rw [hr] at this
            cases this
      rw [hall k hk] at hkl
      cases hkl
    · obtain ⟨hun, o, ho, hall⟩ := mem_ready.1 hr
      have hio : i < ops.size := (Array.getElem?_eq_some_iff.1 ho).1
      have hi : i < listed.size := by rw [h.size]; exact hio
      have hin : i < n := by
        rcases Nat.lt_or_ge i n with h1 | h1
        · exact h1
        · exfalso
          rcases Nat.lt_or_ge n i with h2 | h2
          · have h3 := List.all_eq_true.1 hchain i (List.mem_range.2 hio)
            simp only [Bool.or_eq_true, decide_eq_true_eq] at h3
            obtain ⟨oj, hoj, e, he, hb, hon⟩ := Region.waitsFor_spec (h3.resolve_left (by omega))
            obtain rfl : o = oj := Option.some.inj (ho.symm.trans hoj)
            have h4 := hall e he hb
            rw [hon, ht (i - 1) (by omega)] at h4
            cases h4
          · obtain rfl : i = n := by omega
            have hdown : ∀ d j, i - j ≤ d → j < i → listed.getD j false = true := fun d => by
              induction d with
              | zero => intro j h1 h2; omega
              | succ d ihd =>
                intro j h1 h2
                obtain ⟨q, hq, hq2⟩ := List.any_eq_true.1 (List.all_eq_true.1 hwait j (List.mem_range.2 h2))
                simp only [Bool.and_eq_true, decide_eq_true_eq] at hq2
                have hqn := List.mem_range.1 hq
                obtain ⟨oj, hoj, e, he, hb, hon⟩ := Region.waitsFor_spec hq2.2
                by_cases hqi : q = i
                · subst hqi
                  obtain rfl : o = oj := Option.some.inj (ho.symm.trans hoj)
                  have h4 := hall e he hb
                  rwa [hon] at h4
                · have h4 := h.closed q oj hoj (ihd q (by omega) (by omega)) e he hb
                  rwa [hon] at h4
            rw [hdown i k (by omega) hk] at hkl
            cases hkl
      obtain ⟨o', p, ho', hp⟩ := hone i hin
      obtain rfl : o = o' := Option.some.inj (ho.symm.trans ho')
      have hP := hat i o p ho hp
      have hif : listed[i] = false := by
        rw [Array.getD_eq_getD_getElem?, Array.getElem?_eq_getElem hi, Option.getD_some] at hun
        exact hun
      have hcnt : ((listed.setIfInBounds i true).toList.take n).count false = f := by
        rw [Array.toList_setIfInBounds, List.take_set, List.count_set (by simp; omega)]
        have hv : (listed.toList.take n)[i]'(by simp; omega) = false := by simpa using hif
        rw [hv]
        change (listed.toList.take n).count false - 1 + 0 = f
        omega
      obtain ⟨hg, hu⟩ := hstep i o p ho hp a w h.cls (fun q hq => by
          obtain ⟨⟨e, he, hb, hon⟩, p', hp', hd'⟩ := hP.deps q hq
          have := h.got q.1 p' hp' (by rw [← hon]; exact hall e he hb)
          rwa [hd'] at this) (fun d hd => h.out d fun j p' hj hjd => by
          obtain ⟨oj, hoj, e, he, hb, hon⟩ := hP.outs d hd j p' hj hjd
          cases hl : listed.getD j false with
          | false => rfl
          | true =>
            have := h.closed j oj hoj hl e he hb
            rw [hon] at this
            rw [Array.getD_eq_getD_getElem?, Array.getElem?_eq_getElem hi, Option.getD_some, hif] at this
            cases this)
      have hw : Region.wanted o (yielded ops a.tmps) = true := by
        unfold Region.wanted
        cases hgo : o.guard with
        | none => rfl
        | some g =>
          obtain ⟨q, hq, hq1⟩ := hP.guard g hgo
          obtain ⟨_, p', hp', hd'⟩ := hP.deps q hq
          have he := hg g hgo q hq hq1
          have hq' : q.1 < n := by rw [← hlen]; exact (List.getElem?_eq_some_iff.1 hp').1
          obtain ⟨oq, pq, hoq, hpq⟩ := hone q.1 hq'
          obtain rfl : p' = pq := Option.some.inj (hp'.symm.trans hpq)
          have := yielded_bool (ops := ops) (a := a) hoq ((hat q.1 oq p' hoq hpq).dst.trans (by rw [hd'])) he
          rw [hq1] at this
          obtain ⟨gj, gb⟩ := g
          simp only at this ⊢
          rw [this]
          simp
      refine wpOp_step ho fun K' hK => ?_
      rw [if_pos hw]
      exact wp_of_loose hu fun v w' ⟨hF, hC, hE⟩ => hK _ _ (ih _ _ _ (loose_next hP hst (hdst p (List.mem_of_getElem? hp)) h ho hp hall hF hC hE) (fun j hj => by rw [getD_set_ne false (by omega)]; exact ht j hj) hcnt)

/-- THE LAW: the first operations float, the others come behind them. -/
theorem wp_region_looseT {id : Nat} {Q : Exit → Act → World → Prop} {a0 : Act} {w : World} {l : List Oper} (n : Nat) (Fs : List (Value → World → Prop)) (pl : List Plan) (C : World → Prop) (Ext : World → World → Prop)
    (hm : P.follows .mixedOrders = true) (hpl : planT l.toArray pl n = true) (htl : tailT l.toArray n = true) (hlen : Fs.length = pl.length) (hdst : (pl.all fun p => decide (p.dst < a0.tmps.size)) = true) (hC : C w.drew) (hst : ∀ f ∈ Fs, Stable Ext f)
    (hsteps : Steps P (factOf Fs) C Ext a0 0 (l.take n) pl) (hend : ∀ w, C w → ends w Fs (fun vs => wpList P l.toArray Q (l.drop n) (putAll pl vs a0) w)) : (Code.region id l.toArray true).wp P Q a0 w := by
  have hd : ∀ p ∈ pl, p.dst < a0.tmps.size := fun p hp => by simpa using List.all_eq_true.1 hdst p hp
  obtain ⟨⟨hpll, hnl⟩, hat⟩ := planT_at hpl
  refine wp_region_any hm ?_
  have hsz : l.toArray.size = n + (l.toArray.size - n) := by omega
  rw [hsz]
  refine loose_anyT (F := factOf Fs) (C := C) (Ext := Ext) (a0 := a0) hpl htl (fun i v w w' hf hE => ?_) hd (fun i o p ho hp => ?_) (fun listed a w h hall => ?_) n _ a0 _ ?_ ?_ ?_
  · unfold factOf at hf ⊢
    cases hfi : Fs[i]? with
    | none => rw [hfi] at hf; exact hf.elim
    | some f =>
      rw [hfi] at hf
      exact hst f (List.mem_of_getElem? hfi) v w w' hf hE
  · have hin : i < n := by rw [← hpll]; exact (List.getElem?_eq_some_iff.1 hp).1
    have := steps_at (l.take n) pl 0 hsteps i o p (by rw [List.getElem?_take, if_pos hin]; simpa using ho) hp
    rwa [Nat.zero_add] at this
  · obtain ⟨vs, hvs⟩ : ∃ vs, vs = pl.map (fun p => a.eval (.tmp p.dst)) := ⟨_, rfl⟩
    have hvl : vs.length = Fs.length := by rw [hvs, List.length_map, hlen]
    have hK := ends_at Fs _ (hend w h.cls) vs hvl (fun i v hv => by
      rw [hvs, List.getElem?_map] at hv
      obtain ⟨p, hp, rfl⟩ := Option.map_eq_some_iff.1 hv
      exact h.got i p hp (hall i (by rw [← hpll]; exact (List.getElem?_eq_some_iff.1 hp).1)))
    have hae : putAll pl vs a0 = a := by
      have h1 : (putAll pl vs a0).tmps = a.tmps := by
        apply Array.ext_getElem?
        intro d
        by_cases hx : ∃ (j : Nat) (p : Plan), pl[j]? = some p ∧ p.dst = d
        · obtain ⟨j, p, hp, rfl⟩ := hx
          have hdp := hd p (List.mem_of_getElem? hp)
          obtain ⟨o, ho⟩ : ∃ o, l.toArray[j]? = some o := by
            have := (List.getElem?_eq_some_iff.1 hp).1
            exact ⟨_, Array.getElem?_eq_getElem (by omega)⟩
          rw [putAll_in vs a0 j p (a.eval (.tmp p.dst)) hp (by rw [hvs, List.getElem?_map, hp]; rfl) hdp (fun i q hq hh => (hat j o p ho hp).alone i q hq hh)]
          have : p.dst < a.tmps.size := by rw [h.tmps]; exact hdp
          unfold Act.eval
          simp [Array.getD_eq_getD_getElem?, this]
        · rw [putAll_out vs a0 d (fun p hp hh => by
            obtain ⟨j, hj⟩ := List.getElem?_of_mem hp
            exact hx ⟨j, p, hj, hh⟩)]
          have ho := h.out d (fun j p hp hh => absurd ⟨j, p, hp, hh⟩ hx)
          unfold Act.eval at ho
          simp only [Array.getD_eq_getD_getElem?] at ho
          by_cases hds : d < a0.tmps.size
          · have hds2 : d < a.tmps.size := by rw [h.tmps]; exact hds
            rw [Array.getElem?_eq_getElem hds, Array.getElem?_eq_getElem hds2] at ho ⊢
            simp only [Option.getD_some] at ho
            rw [ho]
          · have hds2 : ¬ d < a.tmps.size := by rw [h.tmps]; exact hds
            rw [Array.getElem?_eq_none (by omega), Array.getElem?_eq_none (by omega)]
      have h2 : (putAll pl vs a0).defers = a.defers := by rw [putAll_defers, h.defers]
      generalize putAll pl vs a0 = b at h1 h2
      cases a; cases b
      simp only at h1 h2
      rw [h1, h2]
    rw [hae] at hK
    exact hK
  · have hno : ∀ j, (Array.replicate l.toArray.size false).getD j false = false := fun j => by
      rw [Array.getD_eq_getD_getElem?, Array.getElem?_replicate]; split <;> rfl
    rw [← hsz]
    exact ⟨hC, by simp, rfl, rfl, fun j o _ hj => (by rw [hno] at hj; cases hj), fun d _ => rfl, fun j p _ hj => (by rw [hno] at hj; cases hj)⟩
  · intro i _
    rw [Array.getD_eq_getD_getElem?, Array.getElem?_replicate]; split <;> rfl
  · simp at hnl ⊢
    try omega
end

/-- A value that holds a new slice of its own, of the bytes l. -/
def IsOwn (base : Nat) (mk : Value → Value) (l : List Int) : Value → World → Prop := fun v w => ∃ A C, v = mk (.slice A l.length C) ∧ w.ownsRow base 5 1 (.slice A l.length C) l.length (l.map (Value.int .u8))
theorem stable_own (base : Nat) (mk : Value → Value) (l : List Int) : Stable (fun W W' => Below W.heap.size W W') (IsOwn base mk l) := fun v w w' ⟨A, C, h1, h2⟩ hE =>
  ⟨A, C, h1, h2.1, h2.2.imp id fun ⟨g, cap, cur, e1, e2, e3, e4⟩ => ⟨g, cap, cur, e1, e2, (hE.block _ (Array.getElem?_eq_some_iff.1 e3).1).trans e3, e4⟩⟩
end Go.Proofs.Ytfomidjhmdmmcaa
