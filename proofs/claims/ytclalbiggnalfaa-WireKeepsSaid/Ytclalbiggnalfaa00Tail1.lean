/- A region that draws its order, whose first operation only reads the frame and is taken first; the next ones leave every world of a class in the class; the others come in one forced order behind all but the first. -/
import Derived.Test.Ytclalbiggnalfaa00Tail
namespace Go.Proofs.Ytclalbiggnalfaa
open Go Go.RowKit
set_option linter.unusedVariables false

section
variable {P : Program} {ops : Array Oper} {md : Region.Mode} {C : World → Prop}

/-- Each operation from 1 on and below n is waited for. -/
def sink1B (md : Region.Mode) (ops : Array Oper) (n : Nat) : Bool :=
  (List.range n).all fun i => i == 0 || (List.range (n + 1)).any fun j => decide (i < j) && Region.waitsFor md ops j i

/-- The first operation has come up. -/
structure Head1 (md : Region.Mode) (ops : Array Oper) (n : Nat) (listed : Array Bool) : Prop where
  inv : HeadInv md ops n listed
  zero : listed.getD 0 true = true

theorem Head1.set {n i : Nat} {listed : Array Bool} (h : Head1 md ops n listed) (hi : i ∈ Region.ready md ops listed) (hin : i < n) : Head1 md ops n (listed.setIfInBounds i true) :=
  ⟨h.inv.set hi hin, by
    by_cases h0 : i = 0
    · subst h0
      rcases Nat.lt_or_ge 0 listed.size with h' | h'
      · simp [h']
      · simp
    · rw [getD_set_ne true h0]; exact h.zero⟩

theorem tail_waits1 {n : Nat} {listed : Array Bool} (hs : sink1B md ops n = true) (hc : Region.chainB md ops n = true) (hn : n < ops.size) (inv : Head1 md ops n listed) :
    ∀ (d i : Nat), n - i = d → i < n → listed.getD i true = false → ∀ t, n ≤ t → t ∉ Region.ready md ops listed := by
  intro d
  induction d using Nat.strongRecOn with
  | _ d ih =>
    intro i hd hi hun t ht hr
    obtain ⟨_, ot, hot, hall⟩ := mem_ready.1 hr
    have htlt : t < ops.size := (Array.getElem?_eq_some_iff.1 hot).1
    by_cases htn : t = n
    · subst htn
      have h1 := List.all_eq_true.1 hs i (List.mem_range.2 hi)
      simp only [Bool.or_eq_true, beq_iff_eq] at h1
      rcases h1 with rfl | h1
      · rw [inv.zero] at hun; cases hun
      obtain ⟨j, hj, hj2⟩ := List.any_eq_true.1 h1
      simp only [Bool.and_eq_true, decide_eq_true_eq] at hj2
      obtain ⟨oj, hoj, e, he, hb, hon⟩ := Region.waitsFor_spec hj2.2
      have hjle : j ≤ t := by have := List.mem_range.1 hj; omega
      by_cases hjt : j = t
      · subst hjt
        have : oj = ot := Option.some.inj (hoj.symm.trans hot)
        subst this
        have h2 := hall e he hb
        rw [hon, getD_both hun] at h2
        cases h2
      · cases hl : listed.getD j false with
        | true =>
          have h2 := inv.inv.closed j oj hoj hl e he hb
          rw [hon, getD_both hun] at h2
          cases h2
        | false =>
          have hjs : j < listed.size := by rw [inv.inv.size]; omega
          exact ih (t - j) (by omega) j rfl (by omega) (getD_in hjs hl) t (Nat.le_refl _) hr
    · have h1 := List.all_eq_true.1 hc t (List.mem_range.2 htlt)
      simp only [Bool.or_eq_true, decide_eq_true_eq] at h1
      rcases h1 with h1 | h1
      · omega
      · obtain ⟨o', ho', e, he, hb, hon⟩ := Region.waitsFor_spec h1
        have : o' = ot := Option.some.inj (ho'.symm.trans hot)
        subst this
        have h2 := hall e he hb
        rw [hon, getD_both (inv.inv.tail (t - 1) (by omega) (by omega))] at h2
        cases h2

theorem head_first1 {n i : Nat} {oi : Oper} {v : Value} {L : Array Bool → Act → Prop} (hi : ops[i]? = some oi) (hsel : ∀ (j : Nat) (o : Oper) cs b, ops[j]? = some o → o.op ≠ .select cs b)
    (hs : sink1B md ops n = true) (hc : Region.chainB md ops n = true) (hn : n < ops.size) (hin : i < n) (hdone : ∀ listed a, L listed a → ∀ j ∈ Region.ready md ops listed, n ≤ j) :
    ∀ (f : Nat) (listed : Array Bool) (a : Act), Head1 md ops n listed →
      (∀ j oj, ops[j]? = some oj → j ≠ i → listed.getD j true = false → (∀ e ∈ oj.after, Region.binds md e = true → e.on ≠ i) → oi.apart ops oj = true) →
      i ∈ Region.ready md ops listed → YieldsIn P ops C oi v a →
      headAny P md ops C n L f (listed.setIfInBounds i true) (a.put oi.dst v) → headAny P md ops C n L (f + 1) listed a := by
  intro f
  induction f with
  | zero =>
    intro listed a inv _ hr hy H
    have hun := (mem_ready.1 hr).1
    refine ⟨fun h => (by rw [h] at hr; cases hr), fun j hj => ?_⟩
    have hjn : j < n := by
      rcases Nat.lt_or_ge j n with h | h
      · exact h
      · exact absurd hj (tail_waits1 hs hc hn inv _ i rfl hin hun j h)
    refine ⟨hjn, ?_⟩
    by_cases hji : j = i
    · subst hji; exact hy.qOp hi H
    · have := hdone _ _ H j (ready_mono hj hji)
      omega
  | succ f ih =>
    intro listed a inv hfree hr hy H
    have hun := (mem_ready.1 hr).1
    refine ⟨fun h => (by rw [h] at hr; cases hr), fun j hj => ?_⟩
    have hjn : j < n := by
      rcases Nat.lt_or_ge j n with h | h
      · exact h
      · exact absurd hj (tail_waits1 hs hc hn inv _ i rfl hin hun j h)
    refine ⟨hjn, ?_⟩
    by_cases hji : j = i
    · subst hji; exact hy.qOp hi H
    · have h1 := (H.2 j (ready_mono hj hji)).2
      obtain ⟨hjun, oj, hoj, hall⟩ := mem_ready.1 hj
      have hnot : ∀ e ∈ oj.after, Region.binds md e = true → e.on ≠ i := fun e he hb heq => by
        have h1 := hall e he hb
        rw [heq, getD_both hun] at h1
        cases h1
      have h2 := qOp_put hoj (hfree j oj hoj hji hjun hnot) (fun cs b => hsel i oi cs b hi) (fun cs b => hsel j oj cs b hoj) hy h1
      have hfree' : ∀ k ok, ops[k]? = some ok → k ≠ i → (listed.setIfInBounds j true).getD k true = false →
          (∀ e ∈ ok.after, Region.binds md e = true → e.on ≠ i) → oi.apart ops ok = true := fun k ok hk hki hun hno => by
        refine hfree k ok hk hki ?_ hno
        by_cases hjk : j = k
        · subst hjk; exact hjun
        · rw [getD_set_ne true hjk] at hun; exact hun
      refine qOp_mono (fun a' h3 => ih (listed.setIfInBounds j true) a' (inv.set hj hjn) hfree' (ready_mono hr (Ne.symm hji)) h3.1 ?_) h2
      rw [Array.setIfInBounds_comm _ _ hji]
      exact h3.2

theorem head_lex1 {n g : Nat} {Lq : Act → Prop} (hsel : Region.noSelect ops = true) (hs : sink1B md ops n = true) (hc : Region.chainB md ops n = true) (hn : n < ops.size) :
    ∀ (l : List Oper) (k : Nat) (listed : Array Bool) (a : Act), (∀ j, j < l.length → l[j]? = ops[k + j]?) → k + l.length = n → Head1 md ops n listed →
    Region.lexHead md ops g l.length k listed = true → wpQuiet P ops C Lq l a →
    headAny P md ops C n (fun listed' a' => Region.seqB md ops g n listed' = true ∧ Lq a') l.length listed a
  | [], k, listed, a, _, hk, _, hB, h => by
    have : k = n := by simpa using hk
    subst this
    exact ⟨by simpa [Region.lexHead] using hB, h⟩
  | o :: l, k, listed, a, hl, hk, inv, hB, h => by
    have h0 : ops[k]? = some o := by simpa using (hl 0 (by simp)).symm
    simp only [List.length_cons, Region.lexHead, Bool.and_eq_true] at hB
    obtain ⟨⟨hr, hf⟩, hB'⟩ := hB
    have hkn : k < n := by simp only [List.length_cons] at hk; omega
    have hr' : k ∈ Region.ready md ops listed := by simpa using hr
    have hst : qOp P ops C k (wpQuiet P ops C Lq l) a := by unfold qOp; simp only [h0]; exact h
    obtain ⟨v, hy, hK⟩ := yieldsIn_of_qOp h0 hst
    exact head_first1 h0 (Region.noSelect_spec hsel) hs hc hn hkn (fun listed' a' hL => seqB_ready hL.1) l.length listed a inv (Region.free_spec h0 hf) hr' hy
      (head_lex1 hsel hs hc hn l (k + 1) _ _ (fun j hj => by have := hl (j + 1) (by simp; omega); simpa [Nat.add_assoc, Nat.add_comm 1 j] using this) (by simp only [List.length_cons] at hk; omega) (inv.set hr' hkn) hB' hK)
end

/-- What the program must look like: the first operation is free and ready, each later one below n is waited for, those behind n form a chain. -/
def tail1B (l : List Oper) (n : Nat) : Bool :=
  Region.noSelect l.toArray && decide (1 ≤ n) && decide (n < l.length) && sink1B .any l.toArray n && Region.chainB .any l.toArray n &&
  Region.lexHead .any l.toArray (l.length - n) (n - 1) 1 ((Array.replicate l.length false).setIfInBounds 0 true) &&
  Region.free .any l.toArray (Array.replicate l.length false) 0 && (Region.ready .any l.toArray (Array.replicate l.length false)).contains 0

/-- The first operation is a move of a slot; the next ones, up to n, in the class of worlds; the others behind them. -/
theorem wp_region_tail1 {P : Program} {id : Nat} {Q : Exit → Act → World → Prop} {a : Act} {w : World} {o0 : Oper} {l : List Oper} (n : Nat) (C : World → Prop) (x : Operand) (hx : o0.op = .move x) (hg : o0.guard = none) (hm : P.follows .mixedOrders = true) (hB : tail1B (o0 :: l) n = true) (hw : C w.drew)
    (hQ : ∀ c a' w', Q (.panic c) (a'.put o0.dst (a.eval x)) w' → Q (.panic c) a' w')
    (h' : wpQuiet P (o0 :: l).toArray C (fun a' => ∀ w', C w' → wpList P (o0 :: l).toArray Q ((o0 :: l).drop n) a' w') ((o0 :: l).take n) a) : (Code.region id (o0 :: l).toArray true).wp P Q a w := by
  have h : wpQuiet P (o0 :: l).toArray C (fun a' => ∀ w', C w' → wpList P (o0 :: l).toArray Q ((o0 :: l).drop n) a' w') (l.take (n - 1)) (a.put o0.dst (a.eval x)) := by
    have hn : n = (n - 1) + 1 := by
      unfold tail1B at hB
      simp only [Bool.and_eq_true, decide_eq_true_eq] at hB
      omega
    rw [hn, List.take_succ_cons] at h'
    rw [← hn] at h'
    unfold wpQuiet at h'
    rw [if_pos (by simp [Region.wanted, hg])] at h'
    obtain ⟨v, h1, h2⟩ := h'
    have h3 := h1 _ hw
    have he : a.eval x = v := by
      unfold Oper.quietAt execOp at h3
      simp [hx, Oper.quietUpon] at h3
      exact h3
    rw [he]
    exact h2
  unfold tail1B at hB
  simp only [Bool.and_eq_true, decide_eq_true_eq] at hB
  obtain ⟨⟨⟨⟨⟨⟨⟨hsel, hn1⟩, hn⟩, hs⟩, hch⟩, hlex⟩, hfree⟩, hready⟩ := hB
  have hsz : (o0 :: l).toArray.size = (o0 :: l).length := by simp
  refine wp_region_any hm ?_
  rw [hsz, show (o0 :: l).length = ((o0 :: l).length - 1) + 1 by simp]
  have hy : Yields P (o0 :: l).toArray o0 (a.eval x) a := Or.inl ⟨by simp [Region.wanted, hg], fun w => by
    unfold execOp
    simp [hx]⟩
  refine wpAny_take (i := 0) (oi := o0) (v := a.eval x) (by simp) hsel ?_ ?_ hQ hy ?_
  · simpa using hfree
  · simpa using hready
  · have htl : (l.take (n - 1)).length = n - 1 := by simp at hn ⊢; omega
    have hdl : ((o0 :: l).drop n).length = (o0 :: l).length - n := by simp
    have inv0 : Head1 .any (o0 :: l).toArray n ((Array.replicate (o0 :: l).length false).setIfInBounds 0 true) := by
      refine ⟨⟨by simp, fun j oj hj hl e he hb => ?_, fun t ht ht' => ?_⟩, by simp⟩
      · by_cases hj0 : j = 0
        · subst hj0
          obtain ⟨_, oi, hoi, hall⟩ := mem_ready.1 (by simpa using hready)
          have : oi = oj := Option.some.inj (hoi.symm.trans hj)
          subst this
          exact getD_set_true (hall e he hb)
        · rw [getD_set_ne false (Ne.symm hj0), getD_replicate_false] at hl; cases hl
      · rw [getD_set_ne true (by omega)]
        exact getD_in (by simpa using ht') (getD_replicate_false _ _)
    have H := head_lex1 (C := C) (md := .any) (g := (o0 :: l).length - n) hsel hs hch (by simpa using hn) (l.take (n - 1)) 1 _ (a.put o0.dst (a.eval x)) (fun j hj => by
      have hj' : j < n - 1 := by rw [htl] at hj; exact hj
      simp [hj', Nat.add_comm 1 j]) (by rw [htl]; omega) inv0 (by rw [htl]; exact hlex) h
    have := any_of_head (Q' := Q) (g := (o0 :: l).length - n) (fun listed a' w' hw' hL => by
      have := wpAny_of_seq (md := .any) (Q' := Q) ((o0 :: l).drop n) n listed a' w' (fun j => by simp [List.getElem?_drop]) (by rw [hdl]; exact hL.1) (hL.2 w' hw')
      rwa [hdl] at this) _ _ _ _ hw H
    rw [htl, show n - 1 + ((o0 :: l).length - n) = (o0 :: l).length - 1 by omega] at this
    exact this
end Go.Proofs.Ytclalbiggnalfaa
