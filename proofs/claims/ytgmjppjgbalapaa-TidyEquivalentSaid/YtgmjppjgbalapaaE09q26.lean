import Derived.Test.YtgmjppjgbalapaaE09q9
import Derived.Test.YtgmjppjgbalapaaE09q23
/- The same regions, where each two values stand to each other in a way that speaks of the world. -/
namespace Go.Proofs.Ytgmjppjgbalapaa
open Go Go.RowKit
set_option linter.unusedVariables false

section
variable {P : Program} {ops : Array Oper}

/-- What holds on the way, and how each two values stand to each other: the earlier one first. -/
structure LooseW (ops : Array Oper) (pl : List Plan) (F : Nat → Value → World → Prop) (C : World → Prop) (Rel : Nat → Value → Nat → Value → World → Prop) (a0 : Act) (listed : Array Bool) (a : Act) (w : World) : Prop where
  base : Loose ops pl F C a0 listed a w
  rel : ∀ (i j : Nat) (p q : Plan), pl[i]? = some p → pl[j]? = some q → listed.getD i false = true → listed.getD j false = true → i ≠ j → Rel i (a.eval (.tmp p.dst)) j (a.eval (.tmp q.dst)) w ∨ Rel j (a.eval (.tmp q.dst)) i (a.eval (.tmp p.dst)) w

def StepW (P : Program) (F : Nat → Value → World → Prop) (C : World → Prop) (Ext : World → World → Prop) (Rel : Nat → Value → Nat → Value → World → Prop) (a0 : Act) (i : Nat) (o : Oper) (p : Plan) : Prop :=
  ∀ (a : Act) (w : World), C w → (∀ q ∈ p.deps, F q.1 (a.eval (.tmp q.2)) w) → (∀ d ∈ p.outs, a.eval (.tmp d) = a0.eval (.tmp d)) →
    (∀ g, o.guard = some g → ∀ q ∈ p.deps, q.1 = g.1 → a.eval (.tmp q.2) = .bool g.2) ∧ looseUpon P (fun v w' => F i v w' ∧ C w' ∧ Ext w w' ∧ ∀ j u, j ≠ i → F j u w → Rel j u i v w') ((execOp a.eval o).run P w)

theorem loose_nextW {pl : List Plan} {F : Nat → Value → World → Prop} {C : World → Prop} {Ext : World → World → Prop} {Rel : Nat → Value → Nat → Value → World → Prop} {a0 a : Act} {listed : Array Bool} {w w' : World} {i : Nat} {o : Oper} {p : Plan} {v : Value}
    (hP : PlanAt ops pl i o p) (hst : ∀ i v w w', F i v w → Ext w w' → F i v w') (hdst : p.dst < a0.tmps.size) (h : LooseW ops pl F C Rel a0 listed a w) (ho : ops[i]? = some o) (hp : pl[i]? = some p) (hall : ∀ e ∈ o.after, Region.binds .any e = true → listed.getD e.on false = true) (hun : listed.getD i false = false)
    (hsr : ∀ i u j v w w', F i u w → F j v w → Rel i u j v w → Ext w w' → Rel i u j v w') (hF : F i v w') (hC : C w') (hE : Ext w w') (hR : ∀ j u, j ≠ i → F j u w → Rel j u i v w') : LooseW ops pl F C Rel a0 (listed.setIfInBounds i true) (a.put o.dst v) w' := by
  refine ⟨loose_next hP hst hdst h.base ho hp hall hF hC hE, fun x y px py hx hy lx ly hxy => ?_⟩
  have hev : ∀ z (pz : Plan), pl[z]? = some pz → z ≠ i → (a.put o.dst v).eval (.tmp pz.dst) = a.eval (.tmp pz.dst) := fun z pz hz hzi => by
    have hne : p.dst ≠ pz.dst := fun hh => hzi (hP.alone z pz hz hh.symm)
    rw [hP.dst]
    rw [Act.eval_put (fun d' hd' hx => hne ((Option.some.inj hd').trans (Operand.tmp.inj hx).symm))]
  have hvi : (a.put o.dst v).eval (.tmp p.dst) = v := by rw [hP.dst]; simp [Act.put, Act.eval, Array.getD_eq_getD_getElem?, h.base.tmps, hdst]
  have hset : ∀ z, z ≠ i → (listed.setIfInBounds i true).getD z false = true → listed.getD z false = true := fun z hzi hz => by rwa [getD_set_ne false (Ne.symm hzi)] at hz
  by_cases hxi : x = i
  · subst hxi
    obtain rfl : p = px := Option.some.inj (hp.symm.trans hx)
    rw [hvi, hev y py hy (Ne.symm hxy)]
    exact .inr (hR y _ (Ne.symm hxy) (h.base.got y py hy (hset y (Ne.symm hxy) ly)))
  · by_cases hyi : y = i
    · subst hyi
      obtain rfl : p = py := Option.some.inj (hp.symm.trans hy)
      rw [hvi, hev x px hx hxi]
      exact .inl (hR x _ hxi (h.base.got x px hx (hset x hxi lx)))
    · rw [hev x px hx hxi, hev y py hy hyi]
      have fx := h.base.got x px hx (hset x hxi lx)
      have fy := h.base.got y py hy (hset y hyi ly)
      exact (h.rel x y px py hx hy (hset x hxi lx) (hset y hyi ly) hxy).imp (fun r => hsr _ _ _ _ _ _ fx fy r hE) (fun r => hsr _ _ _ _ _ _ fy fx r hE)

theorem loose_anyW {pl : List Plan} {n : Nat} {F : Nat → Value → World → Prop} {C : World → Prop} {Ext : World → World → Prop} {Rel : Nat → Value → Nat → Value → World → Prop} {a0 : Act} {Q : Exit → Act → World → Prop} (hpl : planT ops pl n = true) (htl : tailT ops n = true) (hst : ∀ i v w w', F i v w → Ext w w' → F i v w') (hsr : ∀ i u j v w w', F i u w → F j v w → Rel i u j v w → Ext w w' → Rel i u j v w') (hdst : ∀ p ∈ pl, p.dst < a0.tmps.size)
    (hstep : ∀ i o p, ops[i]? = some o → pl[i]? = some p → StepW P F C Ext Rel a0 i o p) (hend : ∀ listed a w, LooseW ops pl F C Rel a0 listed a w → (∀ i, i < n → listed.getD i false = true) → wpList P ops Q (ops.toList.drop n) a w) :
    ∀ f listed a w, LooseW ops pl F C Rel a0 listed a w → (∀ i, n ≤ i → listed.getD i false = false) → (listed.toList.take n).count false = f → wpAny P .any ops Q (f + (ops.size - n)) listed a w := by
  obtain ⟨⟨hlen, hn⟩, hat⟩ := planT_at hpl
  unfold tailT at htl
  simp only [Bool.and_eq_true] at htl
  obtain ⟨⟨hwait, hchain⟩, hseq⟩ := htl
  have hone : ∀ i, i < n → ∃ o p, ops[i]? = some o ∧ pl[i]? = some p := fun i hi => ⟨ops[i], pl[i]'(by omega), Array.getElem?_eq_getElem (by omega), List.getElem?_eq_getElem (by omega)⟩
  intro f
  induction f with
  | zero =>
    intro listed a w h ht hc
    have hall : ∀ i, i < n → listed.getD i false = true := fun i hi => by
      have hil : i < listed.size := by rw [h.base.size]; omega
      cases hl : listed.getD i false with
      | true => rfl
      | false =>
        exfalso
        rw [Array.getD_eq_getD_getElem?, Array.getElem?_eq_getElem hil, Option.getD_some] at hl
        have hm : false ∈ listed.toList.take n := by
          rw [List.mem_take_iff_getElem]
          exact ⟨i, by simp; omega, by simpa using hl⟩
        have := List.count_pos_iff.2 hm
        omega
    have hmask : listed = maskT n ops.size := by
      apply Array.ext_getElem?
      intro i
      rw [mask_get hn]
      by_cases hi : i < n
      · have hil : i < listed.size := by rw [h.base.size]; omega
        have := hall i hi
        rw [Array.getD_eq_getD_getElem?, Array.getElem?_eq_getElem hil, Option.getD_some] at this
        rw [if_pos hi, Array.getElem?_eq_getElem hil, this]
      · rw [if_neg hi]
        by_cases hi2 : i < ops.size
        · have hil : i < listed.size := by rw [h.base.size]; omega
          have := ht i (by omega)
          rw [Array.getD_eq_getD_getElem?, Array.getElem?_eq_getElem hil, Option.getD_some] at this
          rw [if_pos hi2, Array.getElem?_eq_getElem hil, this]
        · rw [if_neg hi2, Array.getElem?_eq_none (by rw [h.base.size]; omega)]
    have hl2 : (ops.toList.drop n).length = ops.size - n := by simp
    rw [Nat.zero_add, ← hl2]
    refine wpAny_of_seq (ops.toList.drop n) n listed a w (fun j => by simp [List.getElem?_drop]) ?_ (hend listed a w h hall)
    rw [hl2, hmask]
    exact hseq
  | succ f ih =>
    intro listed a w h ht hc
    obtain ⟨k, hk, hkl⟩ : ∃ k, k < n ∧ listed.getD k false = false := by
      have hp : 0 < (listed.toList.take n).count false := by omega
      obtain ⟨i, hi, hv⟩ := List.mem_take_iff_getElem.1 (List.count_pos_iff.1 hp)
      refine ⟨i, by omega, ?_⟩
      have hil : i < listed.size := by simp at hi; omega
      rw [Array.getD_eq_getD_getElem?, Array.getElem?_eq_getElem hil, Option.getD_some]
      simpa using hv
    rw [show f + 1 + (ops.size - n) = (f + (ops.size - n)) + 1 by omega]
    refine ⟨fun hr => ?_, fun i hr => ?_⟩
    · exfalso
      have hall : ∀ i, i < n → listed.getD i false = true := fun i => by
        induction i using Nat.strongRecOn with
        | _ i ihh =>
          intro hi
          cases hl : listed.getD i false with
          | true => rfl
          | false =>
            exfalso
            obtain ⟨o, p, ho, hp⟩ := hone i hi
            have : i ∈ Region.ready .any ops listed := mem_ready.2 ⟨by simp only [Array.getD_eq_getD_getElem?, Array.getElem?_eq_getElem (show i < listed.size by rw [h.base.size]; omega), Option.getD_some] at hl ⊢; exact hl, o, ho, fun e he hb => ihh e.on ((hat i o p ho hp).before e he) (by have := (hat i o p ho hp).before e he; omega)⟩
            rw [hr] at this
            cases this
      rw [hall k hk] at hkl
      cases hkl
    · obtain ⟨hun, o, ho, hall⟩ := mem_ready.1 hr
      have hio : i < ops.size := (Array.getElem?_eq_some_iff.1 ho).1
      have hi : i < listed.size := by rw [h.base.size]; exact hio
      have hin : i < n := by
        rcases Nat.lt_or_ge i n with h1 | h1
        · exact h1
        · exfalso
          rcases Nat.lt_or_ge n i with h2 | h2
          · have h3 := List.all_eq_true.1 hchain i (List.mem_range.2 hio)
            simp only [Bool.or_eq_true, decide_eq_true_eq] at h3
            obtain ⟨oj, hoj, e, he, hb, hon⟩ := Region.waitsFor_spec (h3.resolve_left (by omega))
            obtain rfl : o = oj := Option.some.inj (ho.symm.trans hoj)
            have h4 := hall e he hb
            rw [hon, ht (i - 1) (by omega)] at h4
            cases h4
          · obtain rfl : i = n := by omega
            have hdown : ∀ d j, i - j ≤ d → j < i → listed.getD j false = true := fun d => by
              induction d with
              | zero => intro j h1 h2; omega
              | succ d ihd =>
                intro j h1 h2
                obtain ⟨q, hq, hq2⟩ := List.any_eq_true.1 (List.all_eq_true.1 hwait j (List.mem_range.2 h2))
                simp only [Bool.and_eq_true, decide_eq_true_eq] at hq2
                have hqn := List.mem_range.1 hq
                obtain ⟨oj, hoj, e, he, hb, hon⟩ := Region.waitsFor_spec hq2.2
                by_cases hqi : q = i
                · subst hqi
                  obtain rfl : o = oj := Option.some.inj (ho.symm.trans hoj)
                  have h4 := hall e he hb
                  rwa [hon] at h4
                · have h4 := h.base.closed q oj hoj (ihd q (by omega) (by omega)) e he hb
                  rwa [hon] at h4
            rw [hdown i k (by omega) hk] at hkl
            cases hkl
      obtain ⟨o', p, ho', hp⟩ := hone i hin
      obtain rfl : o = o' := Option.some.inj (ho.symm.trans ho')
      have hP := hat i o p ho hp
      have hif : listed[i] = false := by
        rw [Array.getD_eq_getD_getElem?, Array.getElem?_eq_getElem hi, Option.getD_some] at hun
        exact hun
      have hcnt : ((listed.setIfInBounds i true).toList.take n).count false = f := by
        rw [Array.toList_setIfInBounds, List.take_set, List.count_set (by simp; omega)]
        have hv : (listed.toList.take n)[i]'(by simp; omega) = false := by simpa using hif
        rw [hv]
        change (listed.toList.take n).count false - 1 + 0 = f
        omega
      obtain ⟨hg, hu⟩ := hstep i o p ho hp a w h.base.cls (fun q hq => by
          obtain ⟨⟨e, he, hb, hon⟩, p', hp', hd'⟩ := hP.deps q hq
          have := h.base.got q.1 p' hp' (by rw [← hon]; exact hall e he hb)
          rwa [hd'] at this) (fun d hd => h.base.out d fun j p' hj hjd => by
          obtain ⟨oj, hoj, e, he, hb, hon⟩ := hP.outs d hd j p' hj hjd
          cases hl : listed.getD j false with
          | false => rfl
          | true =>
            have := h.base.closed j oj hoj hl e he hb
            rw [hon] at this
            rw [Array.getD_eq_getD_getElem?, Array.getElem?_eq_getElem hi, Option.getD_some, hif] at this
            cases this)
      have hw : Region.wanted o (yielded ops a.tmps) = true := by
        unfold Region.wanted
        cases hgo : o.guard with
        | none => rfl
        | some g =>
          obtain ⟨q, hq, hq1⟩ := hP.guard g hgo
          obtain ⟨_, p', hp', hd'⟩ := hP.deps q hq
          have he := hg g hgo q hq hq1
          have hq' : q.1 < n := by rw [← hlen]; exact (List.getElem?_eq_some_iff.1 hp').1
          obtain ⟨oq, pq, hoq, hpq⟩ := hone q.1 hq'
          obtain rfl : p' = pq := Option.some.inj (hp'.symm.trans hpq)
          have := yielded_bool (ops := ops) (a := a) hoq ((hat q.1 oq p' hoq hpq).dst.trans (by rw [hd'])) he
          rw [hq1] at this
          obtain ⟨gj, gb⟩ := g
          simp only at this ⊢
          rw [this]
          simp
      refine wpOp_step ho fun K' hK => ?_
      rw [if_pos hw]
      exact wp_of_loose hu fun v w' ⟨hF, hC, hE, hR⟩ => hK _ _ (ih _ _ _ (loose_nextW hP hst (hdst p (List.mem_of_getElem? hp)) h ho hp hall (by rw [Array.getD_eq_getD_getElem?, Array.getElem?_eq_getElem hi, Option.getD_some]; exact hif) hsr hF hC hE hR) (fun j hj => by rw [getD_set_ne false (by omega)]; exact ht j hj) hcnt)

/-- The steps, one by one. -/
def StepsW (P : Program) (F : Nat → Value → World → Prop) (C : World → Prop) (Ext : World → World → Prop) (Rel : Nat → Value → Nat → Value → World → Prop) (a0 : Act) : Nat → List Oper → List Plan → Prop
  | i, o :: l, p :: pl => StepW P F C Ext Rel a0 i o p ∧ StepsW P F C Ext Rel a0 (i + 1) l pl
  | _, _, _ => True
theorem stepsW_at {F : Nat → Value → World → Prop} {C : World → Prop} {Ext : World → World → Prop} {Rel : Nat → Value → Nat → Value → World → Prop} {a0 : Act} : ∀ (l : List Oper) (pl : List Plan) (k : Nat), StepsW P F C Ext Rel a0 k l pl → ∀ i o p, l[i]? = some o → pl[i]? = some p → StepW P F C Ext Rel a0 (k + i) o p := by
  intro l
  induction l with
  | nil => intro pl k _ i o p h; simp at h
  | cons o l ih =>
    intro pl k h i o' p' ho hp
    cases pl with
    | nil => simp at hp
    | cons p pl =>
      cases i with
      | zero =>
        simp only [List.getElem?_cons_zero, Option.some.injEq] at ho hp
        subst ho hp
        exact h.1
      | succ i =>
        simp only [List.getElem?_cons_succ] at ho hp
        have := ih pl (k + 1) h.2 i o' p' ho hp
        rwa [show k + 1 + i = k + (i + 1) by omega] at this
/-- Each two values stand so. -/
def RelAllW (Rel : Nat → Value → Nat → Value → World → Prop) (w : World) (vs : List Value) : Prop := ∀ (i j : Nat) (v u : Value), vs[i]? = some v → vs[j]? = some u → i ≠ j → Rel i v j u w ∨ Rel j u i v w

/-- THE LAW: the first operations float, the others come behind them. -/
theorem wp_region_looseW {id : Nat} {Q : Exit → Act → World → Prop} {a0 : Act} {w : World} {l : List Oper} (n : Nat) (Fs : List (Value → World → Prop)) (pl : List Plan) (C : World → Prop) (Ext : World → World → Prop) (Rel : Nat → Value → Nat → Value → World → Prop)
    (hm : P.follows .mixedOrders = true) (hpl : planT l.toArray pl n = true) (htl : tailT l.toArray n = true) (hlen : Fs.length = pl.length) (hdst : (pl.all fun p => decide (p.dst < a0.tmps.size)) = true) (hC : C w.drew) (hst : ∀ f ∈ Fs, Stable Ext f) (hsr : ∀ i u j v w w', factOf Fs i u w → factOf Fs j v w → Rel i u j v w → Ext w w' → Rel i u j v w')
    (hsteps : StepsW P (factOf Fs) C Ext Rel a0 0 (l.take n) pl) (hend : ∀ w, C w → ends w Fs (fun vs => RelAllW Rel w vs → wpList P l.toArray Q (l.drop n) (putAll pl vs a0) w)) : (Code.region id l.toArray true).wp P Q a0 w := by
  have hd : ∀ p ∈ pl, p.dst < a0.tmps.size := fun p hp => by simpa using List.all_eq_true.1 hdst p hp
  obtain ⟨⟨hpll, hnl⟩, hat⟩ := planT_at hpl
  refine wp_region_any hm ?_
  have hsz : l.toArray.size = n + (l.toArray.size - n) := by omega
  rw [hsz]
  refine loose_anyW (F := factOf Fs) (C := C) (Ext := Ext) (Rel := Rel) (a0 := a0) hpl htl (fun i v w w' hf hE => ?_) hsr hd (fun i o p ho hp => ?_) (fun listed a w h hall => ?_) n _ a0 _ ?_ ?_ ?_
  · unfold factOf at hf ⊢
    cases hfi : Fs[i]? with
    | none => rw [hfi] at hf; exact hf.elim
    | some f =>
      rw [hfi] at hf
      exact hst f (List.mem_of_getElem? hfi) v w w' hf hE
  · have hin : i < n := by rw [← hpll]; exact (List.getElem?_eq_some_iff.1 hp).1
    have := stepsW_at (l.take n) pl 0 hsteps i o p (by rw [List.getElem?_take, if_pos hin]; simpa using ho) hp
    rwa [Nat.zero_add] at this
  · obtain ⟨vs, hvs⟩ : ∃ vs, vs = pl.map (fun p => a.eval (.tmp p.dst)) := ⟨_, rfl⟩
    have hvl : vs.length = Fs.length := by rw [hvs, List.length_map, hlen]
    have hK := ends_at Fs _ (hend w h.base.cls) vs hvl (fun i v hv => by
      rw [hvs, List.getElem?_map] at hv
      obtain ⟨p, hp, rfl⟩ := Option.map_eq_some_iff.1 hv
      exact h.base.got i p hp (hall i (by rw [← hpll]; exact (List.getElem?_eq_some_iff.1 hp).1)))
    have hae : putAll pl vs a0 = a := by
      have h1 : (putAll pl vs a0).tmps = a.tmps := by
        apply Array.ext_getElem?
        intro d
        by_cases hx : ∃ (j : Nat) (p : Plan), pl[j]? = some p ∧ p.dst = d
        · obtain ⟨j, p, hp, rfl⟩ := hx
          have hdp := hd p (List.mem_of_getElem? hp)
          obtain ⟨o, ho⟩ : ∃ o, l.toArray[j]? = some o := by
            have := (List.getElem?_eq_some_iff.1 hp).1
            exact ⟨_, Array.getElem?_eq_getElem (by omega)⟩
          rw [putAll_in vs a0 j p (a.eval (.tmp p.dst)) hp (by rw [hvs, List.getElem?_map, hp]; rfl) hdp (fun i q hq hh => (hat j o p ho hp).alone i q hq hh)]
          have : p.dst < a.tmps.size := by rw [h.base.tmps]; exact hdp
          unfold Act.eval
          simp [Array.getD_eq_getD_getElem?, this]
        · rw [putAll_out vs a0 d (fun p hp hh => by
            obtain ⟨j, hj⟩ := List.getElem?_of_mem hp
            exact hx ⟨j, p, hj, hh⟩)]
          have ho := h.base.out d (fun j p hp hh => absurd ⟨j, p, hp, hh⟩ hx)
          unfold Act.eval at ho
          simp only [Array.getD_eq_getD_getElem?] at ho
          by_cases hds : d < a0.tmps.size
          · have hds2 : d < a.tmps.size := by rw [h.base.tmps]; exact hds
            rw [Array.getElem?_eq_getElem hds, Array.getElem?_eq_getElem hds2] at ho ⊢
            simp only [Option.getD_some] at ho
            rw [ho]
          · have hds2 : ¬ d < a.tmps.size := by rw [h.base.tmps]; exact hds
            rw [Array.getElem?_eq_none (by omega), Array.getElem?_eq_none (by omega)]
      have h2 : (putAll pl vs a0).defers = a.defers := by rw [putAll_defers, h.base.defers]
      generalize putAll pl vs a0 = b at h1 h2
      cases a; cases b
      simp only at h1 h2
      rw [h1, h2]
    rw [hae] at hK
    refine hK (fun i j v u hv hu hij => ?_)
    rw [hvs, List.getElem?_map] at hv hu
    obtain ⟨p, hp, rfl⟩ := Option.map_eq_some_iff.1 hv
    obtain ⟨q, hq, rfl⟩ := Option.map_eq_some_iff.1 hu
    exact h.rel i j p q hp hq (hall i (by rw [← hpll]; exact (List.getElem?_eq_some_iff.1 hp).1)) (hall j (by rw [← hpll]; exact (List.getElem?_eq_some_iff.1 hq).1)) hij
  · have hno : ∀ j, (Array.replicate l.toArray.size false).getD j false = false := fun j => by
      rw [Array.getD_eq_getD_getElem?, Array.getElem?_replicate]; split <;> rfl
    rw [← hsz]
    refine ⟨⟨hC, by simp, rfl, rfl, fun j o _ hj => (by rw [hno] at hj; cases hj), fun d _ => rfl, fun j p _ hj => (by rw [hno] at hj; cases hj)⟩, fun i j p q _ _ hi => (by rw [hno] at hi; cases hi)⟩
  · intro i _
    rw [Array.getD_eq_getD_getElem?, Array.getElem?_replicate]; split <;> rfl
  · simp at hnl ⊢
    try omega
end
end Go.Proofs.Ytgmjppjgbalapaa

/- Canonical forms and the boxes in which they are put. -/
namespace Go.Proofs.Ytgmjppjgbalapaa
open Go.RowKit Go.Proofs.Ytgmjppjgbalapaa.Plain01
set_option linter.unusedVariables false

theorem CmdsIn.keepP {W W' : World} (P : Nat → Prop) {a : Option Addr} {cs : List Cmd} {cap : Nat} (h : CmdsIn W a cs cap) (hk : ∀ k, P k → k < W.heap.size → W'.heap[k]? = W.heap[k]?) (ha : 0 < cs.length → ∀ ad, a = some ad → P ad.block) (hd : ∀ c ∈ cs, 0 < c.l.length → ∀ ad, c.a = some ad → P ad.block) : CmdsIn W' a cs cap :=
  ⟨h.len, h.capb, fun hp => by
    obtain ⟨b, o, he, hc⟩ := h.cells hp
    refine ⟨b, o, he, fun i c hi j u hu => ?_⟩
    have h1 := hc i c hi j u hu
    rw [World.cell?_of_block (w := W) (w' := W') (hk b (ha hp _ he) (World.block_lt_of_cell? _ _ h1))]
    exact h1, fun c hc => ⟨(h.ok c hc).k, (h.ok c hc).t, (h.ok c hc).f, (h.ok c hc).n, bytes_keep (h.ok c hc).b (fun hp ad had hlt => hk _ (hd c hc hp ad had) hlt), (h.ok c hc).o⟩, h.nil⟩
/-- Each cell of such a row. -/
theorem CmdsIn.cell5 {W : World} {ad : Addr} {cs : List Cmd} {cap : Nat} (h : CmdsIn W (some ad) cs cap) {i : Nat} (hi : i < cs.length * 5) : ∃ c u, c ∈ cs ∧ cs[i / 5]? = some c ∧ c.cells[i % 5]? = some u ∧ W.cell? (ad.add i) = some u := by
  obtain ⟨b, o, he, hc⟩ := h.cells (by omega)
  cases he
  have h1 : i / 5 < cs.length := by omega
  have h2 : i % 5 < 5 := Nat.mod_lt _ (by decide)
  have h3 : cs[i / 5]? = some cs[i / 5] := List.getElem?_eq_getElem h1
  obtain ⟨u, hu⟩ : ∃ u, (cs[i / 5]).cells[i % 5]? = some u := ⟨_, List.getElem?_eq_getElem (show i % 5 < 5 from h2)⟩
  refine ⟨_, u, List.getElem_mem h1, h3, hu, ?_⟩
  have := hc _ _ h3 _ _ hu
  rw [Addr.add_mid, show o + i = o + i / 5 * 5 + i % 5 by omega]
  exact this

/-- The row of the delta v, and what its commands hold, lie elsewhere than in block B. -/
def ApTid (B : Nat) (v : Value) (w : World) : Prop := ∀ (D : Array Value) (n cap : Nat) (ad : Addr), v = .agg D → D[66]? = some (.slice (some ad) n cap) → 0 < n →
  ad.block ≠ B ∧ ∀ i, i < n * 5 → ∀ ad2 m c, 0 < m → w.cell? (ad.add i) = some (.slice (some ad2) m c) → ad2.block ≠ B
theorem apTid_of {B : Nat} {D : Array Value} {o n : Int} {x y : List Int} {a : Option Addr} {ds : List Cmd} {cap : Nat} {w : World} (hD : DeltaOf D o n x y (.slice a ds.length cap)) (h : CmdsIn w a ds cap)
    (h1 : 0 < ds.length → ∀ ad, a = some ad → ad.block ≠ B) (h2 : ∀ c ∈ ds, 0 < c.l.length → ∀ ad, c.a = some ad → ad.block ≠ B) : ApTid B (.agg D) w := by
  intro D' n' cap' ad hv hs hn
  cases hv
  have e := hD.c66
  rw [hs] at e
  cases e
  refine ⟨h1 hn ad rfl, fun i hi ad2 m c hm hc => ?_⟩
  obtain ⟨q, u, hq, _, hu, hcell⟩ := h.cell5 hi
  rw [hc] at hcell
  cases hcell
  have h5 : i % 5 = 4 ∧ Value.slice q.a q.l.length q.cap = .slice (some ad2) m c := by
    have h2 : i % 5 < 5 := Nat.mod_lt _ (by decide)
    generalize i % 5 = j at hu h2 ⊢
    unfold Cmd.cells at hu
    match j, h2 with
    | 0, _ => simp at hu
    | 1, _ => simp at hu
    | 2, _ => simp at hu
    | 3, _ => simp at hu
    | 4, _ => exact ⟨rfl, by simpa using hu⟩
  have e2 := h5.2
  injection e2 with e3 e4 e5
  exact h2 q hq (by omega) ad2 e3
theorem ApTid.to {B : Nat} {D : Array Value} {o n : Int} {x y : List Int} {a : Option Addr} {ds : List Cmd} {cap : Nat} {w : World} (hA : ApTid B (.agg D) w) (hD : DeltaOf D o n x y (.slice a ds.length cap)) (h : CmdsIn w a ds cap) :
    (0 < ds.length → ∀ ad, a = some ad → ad.block ≠ B) ∧ (∀ c ∈ ds, 0 < c.l.length → ∀ ad, c.a = some ad → ad.block ≠ B) := by
  refine ⟨fun hp ad had => ?_, fun c hc hl ad had => ?_⟩
  · subst had
    exact (hA D _ _ ad rfl hD.c66 hp).1
  · obtain ⟨i, hi⟩ := List.getElem?_of_mem hc
    have hil := (List.getElem?_eq_some_iff.1 hi).1
    obtain ⟨b, o', rfl, hcell⟩ := h.cells (by omega)
    refine (hA D _ _ _ rfl hD.c66 (by omega)).2 (i * 5 + 4) (by omega) ad c.l.length c.cap hl ?_
    rw [Addr.add_mid, ← Nat.add_assoc, hcell i c hi 4 _ rfl, had]
theorem ApTid.later {B : Nat} {o n : Int} {x y : List Int} {L : List Core8} {v : Value} {w w' : World} (hF : IsTid o n x y L v w) (hA : ApTid B v w) (hb : Below w.heap.size w w') : ApTid B v w' := by
  obtain ⟨D, a, ds, cap, rfl, hD, hcs, _⟩ := hF
  obtain ⟨h1, h2⟩ := hA.to hD hcs
  exact apTid_of hD (hcs.below hb) h1 h2
/-- A box that is made behind it. -/
theorem apTid_box {o n : Int} {x y : List Int} {L : List Core8} {v : Value} {w : World} (hF : IsTid o n x y L v w) (ob : Obj) : ApTid w.heap.size v (w.alloc ob) := by
  obtain ⟨D, a, ds, cap, rfl, hD, hcs, _⟩ := hF
  refine apTid_of hD (hcs.below ((Below.refl _ _).alloc (Nat.le_refl _) _)) (fun hp ad had => ?_) (fun c hc hl ad had => ?_)
  · subst had
    obtain ⟨_, _, _, _, _, hc⟩ := hcs.cell5 (i := 0) (by omega)
    have := World.block_lt_of_cell? _ _ hc
    exact Nat.ne_of_lt this
  · obtain ⟨b, o', he, hcell⟩ := (hcs.ok c hc).b.cells hl
    rw [had] at he
    cases he
    have := World.block_lt_of_cell? _ _ (hcell 0 hl)
    exact Nat.ne_of_lt this
/-- It is made behind the box. -/
theorem apTid_new {B S : Nat} {D : Array Value} {o n : Int} {x y : List Int} {a : Option Addr} {ds : List Cmd} {cap : Nat} {w : World} (hD : DeltaOf D o n x y (.slice a ds.length cap)) (h : CmdsIn w a ds cap) (hB : B < S)
    (h1 : ∀ ad, a = some ad → S ≤ ad.block) (h2 : ∀ c ∈ ds, 0 < c.l.length → ∀ ad, c.a = some ad → S ≤ ad.block) : ApTid B (.agg D) w :=
  apTid_of hD h (fun _ ad had => by have := h1 ad had; omega) (fun c hc hl ad had => by have := h2 c hc hl ad had; omega)

theorem tidy9_is2 (D : Array Value) (o n : Int) (x y : List Int) (ca : Option Addr) (cs : List Cmd) (ccap : Nat) (hD : DeltaOf D o n x y (.slice ca cs.length ccap)) (w : World) (h : CmdsIn w ca cs ccap) (hL : cs.length ≤ 1000) (hsm : ∀ c ∈ cs, c.l.length ≤ 1000) (hv : ValidD o n cs) :
    Calls Try.prog 14 #[.agg D] w (fun e w' => ∃ v, e = .returned v ∧ IsTid o n x y (canonC cs) v w' ∧ Below w.heap.size w w' ∧ ∀ B, B < w.heap.size → ApTid B v w') :=
  (tidy9_any D o n x y ca cs ccap hD w h hL hsm hv).mono fun e w' ⟨D', a, ds, ls, cap, he, h1, h2, h3, h4, h5, h6, h7, h8⟩ => ⟨_, he, ⟨D', a, ds, cap, rfl, h1, h2, by rw [h3, srt_eq hv h4 h5]; rfl⟩, h6, fun B hB => apTid_new h1 h2 hB h7 h8⟩

/-- A box for a delta. -/
def IsBoxD (base : Nat) : Value → World → Prop := fun v w => ∃ B, v = .pointer (some ⟨B, 0, none⟩) ∧ base ≤ B ∧ w.heap[B]? = some (deltaO zeroDel)
theorem stable_boxD (base : Nat) : Stable (fun W W' => Below W.heap.size W W') (IsBoxD base) := fun v w w' ⟨B, h1, h2, h3⟩ hE => ⟨B, h1, h2, heap_below h3 hE⟩

/-- How canonical forms (operations 1, 3) and boxes (4, 5) stand to each other. -/
def RelTB (i : Nat) (u : Value) (j : Nat) (v : Value) (W : World) : Prop :=
  ((i = 4 ∨ i = 5) → (j = 1 ∨ j = 3) → ∀ B, u = .pointer (some ⟨B, 0, none⟩) → ApTid B v W) ∧ ((i = 1 ∨ i = 3) → (j = 4 ∨ j = 5) → ∀ B, v = .pointer (some ⟨B, 0, none⟩) → ApTid B u W) ∧ ((i = 4 ∨ i = 5) → (j = 4 ∨ j = 5) → u ≠ v)
theorem relTB_no {i j : Nat} {u v : Value} {W : World} (h : j ≠ 1 ∧ j ≠ 3 ∧ j ≠ 4 ∧ j ≠ 5) : RelTB i u j v W := ⟨fun _ h2 => by omega, fun _ h2 => by omega, fun _ h2 => by omega⟩
theorem relTB_later {i j : Nat} {u v : Value} {w w' : World} (hu : (i = 1 ∨ i = 3) → ∃ o n x y L, IsTid o n x y L u w) (hv : (j = 1 ∨ j = 3) → ∃ o n x y L, IsTid o n x y L v w) (h : RelTB i u j v w) (hb : Below w.heap.size w w') : RelTB i u j v w' := by
  refine ⟨fun h1 h2 B e => ?_, fun h1 h2 B e => ?_, h.2.2⟩
  · obtain ⟨o, n, x, y, L, hF⟩ := hv h2
    exact ApTid.later hF (h.1 h1 h2 B e) hb
  · obtain ⟨o, n, x, y, L, hF⟩ := hu h1
    exact ApTid.later hF (h.2.1 h1 h2 B e) hb
theorem relTB_tid {i j base : Nat} {u v : Value} {w w' : World} (hj : j = 1 ∨ j = 3) (hbox : (i = 4 ∨ i = 5) → IsBoxD base u w) (h : ∀ B, B < w.heap.size → ApTid B v w') : RelTB i u j v w' :=
  ⟨fun h1 _ B e => by
    obtain ⟨B', e', _, hb⟩ := hbox h1
    rw [e'] at e
    injection e with e
    injection e with e
    injection e with e
    subst e
    exact h _ (Array.getElem?_eq_some_iff.1 hb).1, fun _ h2 => by omega, fun _ h2 => by omega⟩
theorem relTB_box {i j base : Nat} {u : Value} {w : World} {ob : Obj} (hj : j = 4 ∨ j = 5) (ht : (i = 1 ∨ i = 3) → ∃ o n x y L, IsTid o n x y L u w) (hbox : (i = 4 ∨ i = 5) → IsBoxD base u w) : RelTB i u j (.pointer (some ⟨w.heap.size, 0, none⟩)) (w.alloc ob) :=
  ⟨fun _ h2 => by omega, fun h1 _ B e => by
    injection e with e
    injection e with e
    injection e with e
    subst e
    obtain ⟨o, n, x, y, L, hF⟩ := ht h1
    exact apTid_box hF ob, fun h1 _ e => by
    obtain ⟨B', e', _, hb⟩ := hbox h1
    rw [e'] at e
    injection e with e
    injection e with e
    injection e with e
    have := (Array.getElem?_eq_some_iff.1 hb).1
    omega⟩
end Go.Proofs.Ytgmjppjgbalapaa
