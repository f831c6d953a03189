import Derived.Test.YtdedfjkenbaebaaGreatDoorE08v12
import Derived.Test.YtdedfjkenbaebaaGreatDoorE08v26
import Derived.Test.YtdedfjkenbaebaaGreatDoorE08v30
import Derived.Test.YtdedfjkenbaebaaGreatDoorE08v29
/- The law of a region that draws its order and holds operations that make memory (X00Loose), for regions whose edges do not all bind. -/
namespace Go.Proofs.YtdedfjkenbaebaaGreatDoor
open Go Go.RowKit
set_option linter.unusedVariables false

section
variable {P : Program} {ops : Array Oper}
def planOKG (ops : Array Oper) (pl : List Plan) : Bool :=
  decide (pl.length = ops.size) && (List.range ops.size).all fun i =>
    match ops[i]?, pl[i]? with
    | some o, some p => o.dst == some p.dst && (o.guard.all fun g => p.deps.any fun q => q.1 == g.1) &&
        (p.deps.all fun q => (o.after.any fun e => Region.binds .any e && e.on == q.1) && ((pl[q.1]?).map (·.dst)) == some q.2) &&
        (p.outs.all fun d => (List.range ops.size).all fun j => !((pl[j]?).map (·.dst) == some d) || (match ops[j]? with | some oj => oj.after.any fun e => Region.binds .any e && e.on == i | none => false)) &&
        (o.after.all fun e => !(Region.binds .any e) || decide (e.on < i)) &&
        ((List.range ops.size).all fun j => j == i || !((pl[j]?).map (·.dst) == some p.dst))
    | _, _ => false


structure PlanAtG (ops : Array Oper) (pl : List Plan) (i : Nat) (o : Oper) (p : Plan) : Prop where
  dst : o.dst = some p.dst
  guard : ∀ g, o.guard = some g → ∃ q ∈ p.deps, q.1 = g.1
  deps : ∀ q ∈ p.deps, (∃ e ∈ o.after, Region.binds .any e = true ∧ e.on = q.1) ∧ ∃ p' : Plan, pl[q.1]? = some p' ∧ p'.dst = q.2
  outs : ∀ d ∈ p.outs, ∀ (j : Nat) (p' : Plan), pl[j]? = some p' → p'.dst = d → ∃ oj : Oper, ops[j]? = some oj ∧ ∃ e ∈ oj.after, Region.binds .any e = true ∧ e.on = i
  before : ∀ e ∈ o.after, Region.binds .any e = true → e.on < i
  alone : ∀ (j : Nat) (p' : Plan), pl[j]? = some p' → p'.dst = p.dst → j = i

theorem planOKG_at {pl : List Plan} (h : planOKG ops pl = true) : pl.length = ops.size ∧ ∀ i o p, ops[i]? = some o → pl[i]? = some p → PlanAtG ops pl i o p := by
  unfold planOKG at h
  simp only [Bool.and_eq_true, decide_eq_true_eq] at h
  obtain ⟨hl, h⟩ := h
  refine ⟨hl, fun i o p ho hp => ?_⟩
  have hi : i < ops.size := (Array.getElem?_eq_some_iff.1 ho).1
  have h1 := List.all_eq_true.1 h i (List.mem_range.2 hi)
  simp only [ho, hp, Bool.and_eq_true] at h1
  obtain ⟨⟨⟨⟨⟨a1, a2⟩, a3⟩, a4⟩, a5⟩, a6⟩ := h1
  refine ⟨by simpa using a1, fun g hg => ?_, fun q hq => ?_, fun d hd j p' hj hjd => ?_, fun e he hb => ?_, fun j p' hj hjd => ?_⟩
  · rw [hg] at a2
    obtain ⟨q, hq, hq2⟩ := List.any_eq_true.1 (by simpa using a2 : (p.deps.any fun q => q.1 == g.1) = true)
    exact ⟨q, hq, by simpa using hq2⟩
  · have h2 := List.all_eq_true.1 a3 q hq
    simp only [Bool.and_eq_true] at h2
    obtain ⟨e, he, he2⟩ := Array.any_eq_true'.1 h2.1
    simp only [Bool.and_eq_true, beq_iff_eq] at he2
    have h3 : (pl[q.1]?).map (·.dst) = some q.2 := by simpa using h2.2
    obtain ⟨p', hp', hd'⟩ := Option.map_eq_some_iff.1 h3
    exact ⟨⟨e, he, he2.1, he2.2⟩, p', hp', hd'⟩
  · have hjl : j < ops.size := by rw [← hl]; exact (List.getElem?_eq_some_iff.1 hj).1
    have h2 := List.all_eq_true.1 (List.all_eq_true.1 a4 d hd) j (List.mem_range.2 hjl)
    simp only [hj, Option.map_some, hjd, beq_self_eq_true, Bool.not_true, Bool.false_or] at h2
    obtain ⟨oj, hoj⟩ : ∃ oj, ops[j]? = some oj := ⟨ops[j], Array.getElem?_eq_getElem hjl⟩
    simp only [hoj] at h2
    obtain ⟨e, he, he2⟩ := Array.any_eq_true'.1 h2
    simp only [Bool.and_eq_true, beq_iff_eq] at he2
    exact ⟨oj, hoj, e, he, he2.1, he2.2⟩
  · have := Array.all_eq_true_iff_forall_mem.1 a5 e he
    simp only [hb, Bool.not_true, Bool.false_or, decide_eq_true_eq] at this
    exact this
  · have hjl : j < ops.size := by rw [← hl]; exact (List.getElem?_eq_some_iff.1 hj).1
    have h2 := List.all_eq_true.1 a6 j (List.mem_range.2 hjl)
    simp only [hj, Option.map_some, hjd, beq_self_eq_true, Bool.not_true, Bool.or_false, beq_iff_eq] at h2
    exact h2


theorem loose_nextG {pl : List Plan} {F : Nat → Value → World → Prop} {C : World → Prop} {Ext : World → World → Prop} {a0 a : Act} {listed : Array Bool} {w w' : World} {i : Nat} {o : Oper} {p : Plan} {v : Value}
    (hP : PlanAtG ops pl i o p) (hst : ∀ i v w w', F i v w → Ext w w' → F i v w') (hdst : p.dst < a0.tmps.size) (h : Loose ops pl F C a0 listed a w) (ho : ops[i]? = some o) (hp : pl[i]? = some p) (hall : ∀ e ∈ o.after, Region.binds .any e = true → listed.getD e.on false = true)
    (hF : F i v w') (hC : C w') (hE : Ext w w') : Loose ops pl F C a0 (listed.setIfInBounds i true) (a.put o.dst v) w' := by
  have hi : i < listed.size := by rw [h.size]; exact (Array.getElem?_eq_some_iff.1 ho).1
  have hset : ∀ j, (listed.setIfInBounds i true).getD j false = true → j = i ∨ listed.getD j false = true := fun j hj => by
    by_cases hji : j = i
    · exact .inl hji
    · exact .inr (by rwa [getD_set_ne false (Ne.symm hji)] at hj)
  have hkeep : ∀ j, listed.getD j false = true → (listed.setIfInBounds i true).getD j false = true := fun j hj => by
    by_cases hji : j = i
    · subst hji; simp [hi]
    · rwa [getD_set_ne false (Ne.symm hji)]
  rw [hP.dst]
  refine ⟨hC, by rw [Array.size_setIfInBounds]; exact h.size, by simp [Act.put, h.tmps], h.defers, fun j oj hoj hj e he hb => ?_, fun d hd => ?_, fun j pj hpj hj => ?_⟩
  · rcases hset j hj with rfl | hj'
    · obtain rfl : o = oj := Option.some.inj (ho.symm.trans hoj)
      exact hkeep _ (hall e he hb)
    · exact hkeep _ (h.closed j oj hoj hj' e he hb)
  · have hne : p.dst ≠ d := fun hh => by
      have := hd i p hp hh
      simp [hi] at this
    rw [Act.eval_put (fun d' hd' hx => hne ((Option.some.inj hd').trans (Operand.tmp.inj hx).symm))]
    exact h.out d fun j p' hj hjd => by
      have := hd j p' hj hjd
      by_cases hji : j = i
      · subst hji; simp [hi] at this
      · rwa [getD_set_ne false (Ne.symm hji)] at this
  · by_cases hji : j = i
    · subst hji
      obtain rfl : p = pj := Option.some.inj (hp.symm.trans hpj)
      have : (a.put (some p.dst) v).eval (.tmp p.dst) = v := by simp [Act.put, Act.eval, Array.getD_eq_getD_getElem?, h.tmps, hdst]
      rw [this]; exact hF
    · have hj' := (hset j hj).resolve_left hji
      have hne : p.dst ≠ pj.dst := fun hh => hji (hP.alone j pj hpj hh.symm)
      rw [Act.eval_put (fun d' hd' hx => hne ((Option.some.inj hd').trans (Operand.tmp.inj hx).symm))]
      exact hst _ _ _ _ (h.got j pj hpj hj') hE


theorem loose_anyG {pl : List Plan} {F : Nat → Value → World → Prop} {C : World → Prop} {Ext : World → World → Prop} {a0 : Act} {Q : Exit → Act → World → Prop} (hpl : planOKG ops pl = true) (hst : ∀ i v w w', F i v w → Ext w w' → F i v w') (hdst : ∀ p ∈ pl, p.dst < a0.tmps.size)
    (hstep : ∀ i o p, ops[i]? = some o → pl[i]? = some p → StepOK P F C Ext a0 i o p) (hend : ∀ listed a w, Loose ops pl F C a0 listed a w → (∀ i, i < ops.size → listed.getD i false = true) → Q .normal a w) :
    ∀ fuel listed a w, Loose ops pl F C a0 listed a w → listed.toList.count false ≤ fuel → wpAny P .any ops Q fuel listed a w := by
  obtain ⟨hlen, hat⟩ := planOKG_at hpl
  have hone : ∀ i, i < ops.size → ∃ o p, ops[i]? = some o ∧ pl[i]? = some p := fun i hi => ⟨ops[i], pl[i]'(by omega), Array.getElem?_eq_getElem hi, List.getElem?_eq_getElem (by omega)⟩
  have hfin : ∀ (listed : Array Bool) (a : Act) (w : World), Loose ops pl F C a0 listed a w → Region.ready .any ops listed = [] → Q .normal a w := fun listed a w h hr => by
    refine hend listed a w h fun i => ?_
    induction i using Nat.strongRecOn with
    | _ i ih =>
      intro hi
      cases hl : listed.getD i false with
      | true => rfl
      | false =>
        exfalso
        obtain ⟨o, p, ho, hp⟩ := hone i hi
        have : i ∈ Region.ready .any ops listed := mem_ready.2 ⟨by simp only [Array.getD_eq_getD_getElem?, Array.getElem?_eq_getElem (show i < listed.size by rw [h.size]; exact hi), Option.getD_some] at hl ⊢; exact hl, o, ho, fun e he hb => ih e.on ((hat i o p ho hp).before e he hb) (by have := (hat i o p ho hp).before e he hb; omega)⟩
        rw [hr] at this
        cases this
  intro fuel
  induction fuel with
  | zero =>
    intro listed a w h hc
    have hr : Region.ready .any ops listed = [] := by
      cases hrd : Region.ready .any ops listed with
      | nil => rfl
      | cons i l =>
        exfalso
        obtain ⟨hun, o, ho, _⟩ := mem_ready.1 (show i ∈ Region.ready .any ops listed by rw [hrd]; exact List.mem_cons_self)
        have hi : i < listed.size := by rw [h.size]; exact (Array.getElem?_eq_some_iff.1 ho).1
        have hm : false ∈ listed.toList := by
          rw [Array.getD_eq_getD_getElem?, Array.getElem?_eq_getElem hi, Option.getD_some] at hun
          rw [← hun]
          exact Array.getElem_mem_toList hi
        have := List.count_pos_iff.2 hm
        omega
    exact ⟨hr, hfin listed a w h hr⟩
  | succ fuel ih =>
    intro listed a w h hc
    refine ⟨fun hr => hfin listed a w h hr, fun i hr => ?_⟩
    obtain ⟨hun, o, ho, hall⟩ := mem_ready.1 hr
    have hio : i < ops.size := (Array.getElem?_eq_some_iff.1 ho).1
    have hi : i < listed.size := by rw [h.size]; exact hio
    obtain ⟨o', p, ho', hp⟩ := hone i hio
    obtain rfl : o = o' := Option.some.inj (ho.symm.trans ho')
    have hP := hat i o p ho hp
    have hcnt : (listed.setIfInBounds i true).toList.count false ≤ fuel := by
      rw [Array.toList_setIfInBounds, List.count_set (by simpa using hi)]
      have hv : listed.toList[i]'(by simpa using hi) = false := by
        rw [Array.getElem_toList]
        rw [Array.getD_eq_getD_getElem?, Array.getElem?_eq_getElem hi, Option.getD_some] at hun
        exact hun
      rw [hv]
      change listed.toList.count false - 1 + 0 ≤ fuel
      omega
    obtain ⟨hg, hu⟩ := hstep i o p ho hp a w h.cls (fun q hq => by
        obtain ⟨⟨e, he, hb, hon⟩, p', hp', hd'⟩ := hP.deps q hq
        have := h.got q.1 p' hp' (by rw [← hon]; exact hall e he hb)
        rwa [hd'] at this) (fun d hd => h.out d fun j p' hj hjd => by
        obtain ⟨oj, hoj, e, he, hb, hon⟩ := hP.outs d hd j p' hj hjd
        cases hl : listed.getD j false with
        | false => rfl
        | true =>
          have := h.closed j oj hoj hl e he hb
          rw [hon] at this
          rw [Array.getD_eq_getD_getElem?, Array.getElem?_eq_getElem hi, Option.getD_some] at hun this
          rw [hun] at this; cases this)
    have hw : Region.wanted o (yielded ops a.tmps) = true := by
      unfold Region.wanted
      cases hgo : o.guard with
      | none => rfl
      | some g =>
        obtain ⟨q, hq, hq1⟩ := hP.guard g hgo
        obtain ⟨_, p', hp', hd'⟩ := hP.deps q hq
        have he := hg g hgo q hq hq1
        have hq' : q.1 < ops.size := by rw [← hlen]; exact (List.getElem?_eq_some_iff.1 hp').1
        obtain ⟨oq, pq, hoq, hpq⟩ := hone q.1 hq'
        obtain rfl : p' = pq := Option.some.inj (hp'.symm.trans hpq)
        have := yielded_bool (ops := ops) (a := a) hoq ((hat q.1 oq p' hoq hpq).dst.trans (by rw [hd'])) he
        rw [hq1] at this
        obtain ⟨gj, gb⟩ := g
        simp only at this ⊢
        rw [this]
        simp
    refine wpOp_step ho fun K' hK => ?_
    rw [if_pos hw]
    exact wp_of_loose hu fun v w' ⟨hF, hC, hE⟩ => hK _ _ (ih _ _ _ (loose_nextG hP hst (hdst p (List.mem_of_getElem? hp)) h ho hp hall hF hC hE) hcnt)


theorem wp_region_looseG {id : Nat} {Q : Exit → Act → World → Prop} {a0 : Act} {w : World} {l : List Oper} (Fs : List (Value → World → Prop)) (pl : List Plan) (C : World → Prop) (Ext : World → World → Prop)
    (hm : P.follows .mixedOrders = true) (hpl : planOKG l.toArray pl = true) (hlen : Fs.length = pl.length) (hdst : (pl.all fun p => decide (p.dst < a0.tmps.size)) = true) (hC : C w.drew) (hst : ∀ f ∈ Fs, Stable Ext f)
    (hsteps : Steps P (factOf Fs) C Ext a0 0 l pl) (hend : ∀ w, C w → ends w Fs (fun vs => Q .normal (putAll pl vs a0) w)) : (Code.region id l.toArray true).wp P Q a0 w := by
  have hd : ∀ p ∈ pl, p.dst < a0.tmps.size := fun p hp => by simpa using List.all_eq_true.1 hdst p hp
  obtain ⟨hpll, hat⟩ := planOKG_at hpl
  have hplL : pl.length = l.length := by simpa using hpll
  refine wp_region_any hm ?_
  refine loose_anyG (F := factOf Fs) (C := C) (Ext := Ext) (a0 := a0) hpl (fun i v w w' hf hE => ?_) hd (fun i o p ho hp => ?_) (fun listed a w h hall => ?_) _ _ a0 _ ?_ ?_
  · unfold factOf at hf ⊢
    cases hfi : Fs[i]? with
    | none => rw [hfi] at hf; exact hf.elim
    | some f =>
      rw [hfi] at hf
      exact hst f (List.mem_of_getElem? hfi) v w w' hf hE
  · have := steps_at l pl 0 hsteps i o p (by simpa using ho) hp
    rwa [Nat.zero_add] at this
  · obtain ⟨vs, hvs⟩ : ∃ vs, vs = pl.map (fun p => a.eval (.tmp p.dst)) := ⟨_, rfl⟩
    have hvl : vs.length = Fs.length := by rw [hvs, List.length_map, hlen]
    have hK := ends_at Fs _ (hend w h.cls) vs hvl (fun i v hv => by
      rw [hvs, List.getElem?_map] at hv
      obtain ⟨p, hp, rfl⟩ := Option.map_eq_some_iff.1 hv
      exact h.got i p hp (hall i (by rw [← hpll]; exact (List.getElem?_eq_some_iff.1 hp).1)))
    have hae : putAll pl vs a0 = a := by
      have h1 : (putAll pl vs a0).tmps = a.tmps := by
        apply Array.ext_getElem?
        intro d
        by_cases hx : ∃ (j : Nat) (p : Plan), pl[j]? = some p ∧ p.dst = d
        · obtain ⟨j, p, hp, rfl⟩ := hx
          have hdp := hd p (List.mem_of_getElem? hp)
          obtain ⟨o, ho⟩ : ∃ o, l.toArray[j]? = some o := by
            have := (List.getElem?_eq_some_iff.1 hp).1
            exact ⟨_, Array.getElem?_eq_getElem (by rw [← hpll]; exact this)⟩
          rw [putAll_in vs a0 j p (a.eval (.tmp p.dst)) hp (by rw [hvs, List.getElem?_map, hp]; rfl) hdp (fun i q hq hh => (hat j o p ho hp).alone i q hq hh)]
          have : p.dst < a.tmps.size := by rw [h.tmps]; exact hdp
          unfold Act.eval
          simp [Array.getD_eq_getD_getElem?, this]
        · rw [putAll_out vs a0 d (fun p hp hh => by
            obtain ⟨j, hj⟩ := List.getElem?_of_mem hp
            exact hx ⟨j, p, hj, hh⟩)]
          have ho := h.out d (fun j p hp hh => absurd ⟨j, p, hp, hh⟩ hx)
          unfold Act.eval at ho
          simp only [Array.getD_eq_getD_getElem?] at ho
          by_cases hds : d < a0.tmps.size
          · have hds2 : d < a.tmps.size := by rw [h.tmps]; exact hds
            rw [Array.getElem?_eq_getElem hds, Array.getElem?_eq_getElem hds2] at ho ⊢
            simp only [Option.getD_some] at ho
            rw [ho]
          · have hds2 : ¬ d < a.tmps.size := by rw [h.tmps]; exact hds
            rw [Array.getElem?_eq_none (by omega), Array.getElem?_eq_none (by omega)]
      have h2 : (putAll pl vs a0).defers = a.defers := by rw [putAll_defers, h.defers]
      generalize putAll pl vs a0 = b at h1 h2
      cases a; cases b
      simp only at h1 h2
      rw [h1, h2]
    rw [hae] at hK
    exact hK
  · have hno : ∀ j, (Array.replicate l.toArray.size false).getD j false = false := fun j => by
      rw [Array.getD_eq_getD_getElem?, Array.getElem?_replicate]; split <;> rfl
    exact ⟨hC, by simp, rfl, rfl, fun j o _ hj => (by rw [hno] at hj; cases hj), fun d _ => rfl, fun j p _ hj => (by rw [hno] at hj; cases hj)⟩
  · simp

end
end Go.Proofs.YtdedfjkenbaebaaGreatDoor

/- PatchVerifies returns true for every file and delta, and changes nothing that was there. -/
namespace Go.Proofs.YtdedfjkenbaebaaGreatDoor
open Go.RowKit
set_option linter.unusedVariables false
set_option linter.unusedSimpArgs false

set_option maxRecDepth 100000 in
set_option maxHeartbeats 4000000 in
theorem patchVerifies_big1 (a : Option Addr) (l : List Int) (cap : Nat) (D : Array Value) (w : World) (hR : Roots w) (hbig : 300 < l.length) :
    Calls Tryz.prog 4 #[.slice a l.length cap, .agg D] w (Gives (.bool true) w) := by
  obtain ⟨S, hS⟩ := start1 w (deltaO D)
  have hA := alive08_any S.w (hR.W S)
  have HS := Lib.hid hS
  generalize l.length = L at *
  clear hS hR
  have d9 : decide ((300 : Int) < (L : Int)) = true := by simp; omega
  go_enter Tryz.func4, Tryz.ntmps4
  go_wp2_with fail
  rw [HS.out]
  refine (HeldW.call hA).mono ?_
  rintro e _ ⟨rfl, s3, rfl⟩
  go_wp2
  go_ret
  exact ⟨rfl, s3.below⟩

set_option maxRecDepth 100000 in
set_option maxHeartbeats 4000000 in
theorem patchVerifies_big2 (a : Option Addr) (l : List Int) (cap : Nat) (D : Array Value) (o n : Int) (x y : List Int) (ca : Option Addr) (cs : List Cmd) (ccap : Nat) (hD : DeltaOf D o n x y (.slice ca cs.length ccap)) (w : World) (hR : Roots w) (h : CmdsIn w ca cs ccap) (hs : l.length ≤ 300) (hf : ¬ FewD cs) :
    Calls Tryz.prog 4 #[.slice a l.length cap, .agg D] w (Gives (.bool true) w) := by
  obtain ⟨S, hS⟩ := start1 w (deltaO D)
  have hF := few_any D o n x y ca cs ccap hD S.w (h.W S)
  rw [decide_eq_false hf] at hF
  have HR := Lib.hid hR
  have hinf := infoDelta hD
  have hg : (w.alloc (deltaO D)).heap[w.heap.size]? = some (deltaO D) := heap_new w _ rfl
  have HS := Lib.hid hS
  generalize l.length = L at *
  clear hS hD h hf hR
  have d9 : decide ((300 : Int) < (L : Int)) = false := by simp; omega
  go_enter Tryz.func4, Tryz.ntmps4
  go_wp2_with (refine wpList_load_rowG rfl 27 (.tmp 3) rfl (some 12) rfl w.heap.size rfl 27 _ (0, 0) _ hg Tryz.underlying27 rfl hinf ?_)
  rw [HS.out]
  clear hg
  refine (HeldW.call hF).mono ?_
  rintro e _ ⟨rfl, s2, rfl⟩
  go_wp2_with fail
  refine (HeldW.call (alive08_any _ (HR.out.W s2))).mono ?_
  rintro e _ ⟨rfl, s3, rfl⟩
  go_wp2
  go_ret
  exact ⟨rfl, s3.below⟩

set_option maxRecDepth 100000 in
set_option maxHeartbeats 4000000 in
theorem patchVerifies_big3 (a : Option Addr) (l : List Int) (cap : Nat) (D : Array Value) (o n : Int) (x y : List Int) (ca : Option Addr) (cs : List Cmd) (ccap : Nat) (hD : DeltaOf D o n x y (.slice ca cs.length ccap)) (w : World) (hR : Roots w) (h : CmdsIn w ca cs ccap) (hs : l.length ≤ 300) (hf : FewD cs) (hn : 3000 < n) :
    Calls Tryz.prog 4 #[.slice a l.length cap, .agg D] w (Gives (.bool true) w) := by
  obtain ⟨S, hS⟩ := start1 w (deltaO D)
  have hF := few_any D o n x y ca cs ccap hD S.w (h.W S)
  rw [decide_eq_true hf] at hF
  have HR := Lib.hid hR
  have H1 := Lib.hid (fun s : HeldW w [(w.heap.size, deltaO D)] => (cell_of (s.blocks (w.heap.size, deltaO D) (by simp)) 1).trans hD.c1)
  have hinf := infoDelta hD
  have hg : (w.alloc (deltaO D)).heap[w.heap.size]? = some (deltaO D) := heap_new w _ rfl
  have HS := Lib.hid hS
  generalize l.length = L at *
  clear hS hD h hf hR
  have d9 : decide ((300 : Int) < (L : Int)) = false := by simp; omega
  have d18 : decide ((3000 : Int) < n) = true := by simp; omega
  go_enter Tryz.func4, Tryz.ntmps4
  go_wp2_with (refine wpList_load_rowG rfl 27 (.tmp 3) rfl (some 12) rfl w.heap.size rfl 27 _ (0, 0) _ hg Tryz.underlying27 rfl hinf ?_)
  rw [HS.out]
  clear hg
  refine (HeldW.call hF).mono ?_
  rintro e _ ⟨rfl, s2, rfl⟩
  have c1 := H1.out s2
  go_wp2_with fail
  clear c1
  refine (HeldW.call (alive08_any _ (HR.out.W s2))).mono ?_
  rintro e _ ⟨rfl, s3, rfl⟩
  go_wp2
  go_ret
  exact ⟨rfl, s3.below⟩

/-- The table of the constants of the reference. -/
def IsKeys8 : Value → World → Prop := fun v w => ∃ gS cS gK cK, v = .agg (keysA gS cS gK cK) ∧ KeysIn w gS cS gK cK
theorem stable_keys8 : Stable (fun W W' => Below W.heap.size W W') IsKeys8 := fun v w w' ⟨gS, cS, gK, cK, h1, h2⟩ hE => ⟨gS, cS, gK, cK, h1, h2.below8 hE⟩

set_option maxRecDepth 100000 in
set_option maxHeartbeats 8000000 in
theorem patchVerifies_good (a : Option Addr) (l : List Int) (cap : Nat) (D : Array Value) (o n : Int) (x y : List Int) (ca : Option Addr) (cs : List Cmd) (ccap : Nat) (hD : DeltaOf D o n x y (.slice ca cs.length ccap)) (w : World) (hR : Roots w) (hb : BytesIn w a l cap) (h : CmdsIn w ca cs ccap) (hs : l.length ≤ 300) (hf : FewD cs) (hn : n ≤ 3000) (io : I64 o) (inn : I64 n) :
    Calls Tryz.prog 4 #[.slice a l.length cap, .agg D] w (Gives (.bool true) w) := by
  obtain ⟨S, hS⟩ := start1 w (deltaO D)
  have hF := few_any D o n x y ca cs ccap hD S.w (h.W S)
  rw [decide_eq_true hf] at hF
  have hL40 : cs.length ≤ 1000000 := by have := hf.2; omega
  have HR := Lib.hid hR
  have HRV := Lib.hid (fun (gS cS gK cK : Nat) (W : World) (hW : Below w.heap.size w W) (hk : KeysIn W gS cS gK cK) => rverify8_any l a cap D o n x y ca cs ccap gS cS gK cK hD W (hb.below hW) (h.below hW) hk hL40 (by omega) (by omega))
  have HPV := Lib.hid (fun (W : World) (hW : Below w.heap.size w W) => pverify_any l a cap D o n x y ca cs ccap hD W (hR.below hW) (hb.below hW) (h.below hW) hL40 (fun c hc => by have := hf.1 c hc; omega) (by omega) (by omega) io inn)
  have H1 := Lib.hid (fun s : HeldW w [(w.heap.size, deltaO D)] => (cell_of (s.blocks (w.heap.size, deltaO D) (by simp)) 1).trans hD.c1)
  have HG := Lib.hid (fun s : HeldW w [(w.heap.size, deltaO D)] => s.blocks (w.heap.size, deltaO D) (by simp))
  have HLD := Lib.hid (fun (W : World) (hW : W.heap[w.heap.size]? = some (deltaO D)) => load_delta hD hW)
  have hinf := infoDelta hD
  have hg : (w.alloc (deltaO D)).heap[w.heap.size]? = some (deltaO D) := heap_new w _ rfl
  have HS := Lib.hid hS
  generalize verF l o n x y cs = V at *
  obtain ⟨e, p⟩ := V
  simp only at HRV HPV
  obtain ⟨L, hL⟩ : ∃ L, L = l.length := ⟨_, rfl⟩
  rw [← hL] at HRV HPV hs ⊢
  have d9 : decide ((300 : Int) < (L : Int)) = false := by simp; omega
  have d18 : decide ((3000 : Int) < n) = false := by simp; omega
  clear hS hD h hf hR hL hb
  go_enter Tryz.func4, Tryz.ntmps4
  go_wp2_with (refine wpList_load_rowG rfl 27 (.tmp 3) rfl (some 12) rfl w.heap.size rfl 27 _ (0, 0) _ hg Tryz.underlying27 rfl hinf ?_)
  rw [HS.out]
  clear hg
  refine (HeldW.call hF).mono ?_
  rintro _ _ ⟨rfl, s2, rfl⟩
  have c1 := H1.out s2
  go_wp2_with fail
  clear c1
  have hgd := HG.out s2
  have HGD := Lib.hid (fun (W : World) (hW : Below s2.w.heap.size s2.w W) => heap_below hgd hW)
  have HW2 := Lib.hid (fun (W : World) (hW : Below s2.w.heap.size s2.w W) => s2.below.trans (hW.mono s2.below.size))
  clear hgd
  refine wp_region_looseG
    [IsV (.slice a L cap), IsV (.agg D), IsKeys8, IsV (pairV e p), IsV (pairV e p), IsV (.int .i64 e), IsV (.int .i64 p), IsV (.int .i64 e), IsV (.int .i64 p)]
    [⟨23, [], [0]⟩, ⟨24, [], [3]⟩, ⟨25, [], []⟩, ⟨26, [(0, 23), (1, 24), (2, 25)], []⟩, ⟨22, [(3, 26)], []⟩, ⟨27, [(4, 22)], []⟩, ⟨28, [(4, 22)], []⟩, ⟨5, [(5, 27)], []⟩, ⟨6, [(6, 28)], []⟩]
    (fun W => Below s2.w.heap.size s2.w W) (fun W W' => Below W.heap.size W W') (by kernel_rfl) (by kernel_rfl) rfl rfl (Below.refl _ s2.w).drew ?_
    ⟨?_, ?_, ?_, ?_, ?_, ?_, ?_, ?_, ?_, trivial⟩ ?_
  · repeat (first | (intro _ h; cases h; done) | refine List.forall_mem_cons.2 ⟨stable_V _ _, ?_⟩ | refine List.forall_mem_cons.2 ⟨stable_keys8, ?_⟩)
  · intro A W hC hd hx
    have hk : ∀ v, A.eval (.const v) = v := fun _ => rfl
    have hy0 : A.eval (.tmp 0) = .slice a L cap := hx 0 (by simp)
    clear hd
    generalize A.eval = ρ at hk hy0 ⊢
    simp [go_sem, looseUpon, factOf, hk, hy0]
    exact ⟨hC, Below.refl _ _⟩
  · intro A W hC hd hx
    have hy0 : A.eval (.tmp 3) = .pointer (some ⟨w.heap.size, 0, none⟩) := hx 3 (by simp)
    have hld := HLD.out W (HGD.out W hC)
    refine ⟨fun g hg => (by cases hg), ?_⟩
    clear hd
    generalize A.eval = ρ at hy0 ⊢
    simp [execOp, hy0, hld, looseUpon, factOf]
    exact ⟨hC, Below.refl _ _⟩
  · intro A W hC hd hx
    refine ⟨fun g hg => (by cases hg), ?_⟩
    refine loose_call rfl Tryz.func15 (by kernel_rfl) (by kernel_rfl) ?_
    rw [show (#[] : Array Operand).map A.eval = #[] by simp]
    refine (table_any W).mono ?_
    rintro e' W' ⟨gS, cS, gK, cK, rfl, hk, h4⟩
    exact ⟨_, rfl, ⟨gS, cS, gK, cK, rfl, hk⟩, hC.trans (h4.mono hC.size), h4⟩
  · intro A W hC hd hx
    simp [factOf] at hd
    obtain ⟨hd0, hd1, gS, cS, gK, cK, hd2, hk⟩ := hd
    refine ⟨fun g hg => (by cases hg), ?_⟩
    refine loose_call rfl Tryz.func14 (by kernel_rfl) (by kernel_rfl) ?_
    simp only [List.map_toArray, List.map_cons, List.map_nil, hd0, hd1, hd2]
    refine (HRV.out gS cS gK cK W (HW2.out W hC) hk).mono ?_
    rintro e' W' ⟨rfl, h4⟩
    exact ⟨_, rfl, rfl, hC.trans (h4.mono hC.size), h4⟩
  · intro A W hC hd hx
    have hk : ∀ v, A.eval (.const v) = v := fun _ => rfl
    simp [factOf] at hd
    generalize A.eval = ρ at hd hk ⊢
    simp [go_sem, looseUpon, factOf, hd, hk]
    exact ⟨hC, Below.refl _ _⟩
  · intro A W hC hd hx
    have hk : ∀ v, A.eval (.const v) = v := fun _ => rfl
    simp [factOf] at hd
    generalize A.eval = ρ at hd hk ⊢
    simp [go_sem, looseUpon, factOf, hd, hk]
    exact ⟨hC, Below.refl _ _⟩
  · intro A W hC hd hx
    have hk : ∀ v, A.eval (.const v) = v := fun _ => rfl
    simp [factOf] at hd
    generalize A.eval = ρ at hd hk ⊢
    simp [go_sem, looseUpon, factOf, hd, hk]
    exact ⟨hC, Below.refl _ _⟩
  · intro A W hC hd hx
    have hk : ∀ v, A.eval (.const v) = v := fun _ => rfl
    simp [factOf] at hd
    generalize A.eval = ρ at hd hk ⊢
    simp [go_sem, looseUpon, factOf, hd, hk]
    exact ⟨hC, Below.refl _ _⟩
  · intro A W hC hd hx
    have hk : ∀ v, A.eval (.const v) = v := fun _ => rfl
    simp [factOf] at hd
    generalize A.eval = ρ at hd hk ⊢
    simp [go_sem, looseUpon, factOf, hd, hk]
    exact ⟨hC, Below.refl _ _⟩
  intro W hC
  simp only [ends]
  rintro _ rfl _ rfl _ ⟨gS, cS, gK, cK, rfl, -⟩ _ rfl _ rfl _ rfl _ rfl _ rfl _ rfl
  simp only [putAll, List.zip_cons_cons, List.zip_nil_left, List.foldl_cons, List.foldl_nil, Act.put, List.setIfInBounds_toArray, List.set_cons_succ, List.set_cons_zero]
  obtain ⟨s3, rfl⟩ := s2.after hC
  clear hC HGD HW2 s2
  have hg := HG.out s3
  go_wp2_with (refine wpList_load_row rfl 27 (.tmp 3) rfl w.heap.size rfl 27 _ (0, 0) _ hg Tryz.underlying27 rfl hinf ?_)
  clear hg
  refine (HeldW.call (HPV.out s3.w s3.below)).mono ?_
  rintro _ _ ⟨rfl, s4, rfl⟩
  obtain ⟨B, s5, hB, hB0, hlt, hS5⟩ := s4.more1 (flt8 e p)
  have HS5 := Lib.hid (And.intro hS5 hB)
  clear hS5 hB
  go_wp2_with fail
  rw [HS5.out.1, ← HS5.out.2]
  refine (HeldW.call (alive08_any _ (HR.out.W s5))).mono ?_
  rintro _ _ ⟨rfl, s6, rfl⟩
  have hfb := s6.blocks (B, flt8 e p) (by simp)
  have f0 : s6.w.cell? ⟨B, 0, none⟩ = some (.int .i64 e) := cell_of hfb 0
  have f1 : s6.w.cell? ⟨B, 1, none⟩ = some (.int .i64 p) := cell_of hfb 1
  have q1 : (e == e) = true := by simp
  have q2 : (p == p) = true := by simp
  have HBB := Lib.hid s6.below
  clear hfb
  go_wp2
  go_ret
  exact ⟨rfl, HBB.out⟩

theorem patchVerifies_walk (a : Option Addr) (l : List Int) (cap : Nat) (o n : Int) (x y : List Int) (ca : Option Addr) (cs : List Cmd) (ccap : Nat) (w : World) (hR : Roots w) (hb : BytesIn w a l cap) (io : I64 o) (inn : I64 n) (hx : x.length = 32) (hy : y.length = 32) (h : CmdsIn w ca cs ccap) :
    Calls Tryz.prog 4 #[.slice a l.length cap, .agg (deltaA o n x y (.slice ca cs.length ccap))] w (Gives (.bool true) w) := by
  have hD : DeltaOf (deltaA o n x y (.slice ca cs.length ccap)) o n x y (.slice ca cs.length ccap) := ⟨rfl, hx, hy⟩
  by_cases h1 : 300 < l.length
  · exact patchVerifies_big1 a l cap _ w hR h1
  · by_cases h2 : FewD cs
    · by_cases h3 : 3000 < n
      · exact patchVerifies_big3 a l cap _ o n x y ca cs ccap hD w hR h (by omega) h2 h3
      · exact patchVerifies_good a l cap _ o n x y ca cs ccap hD w hR hb h (by omega) h2 (by omega) io inn
    · exact patchVerifies_big2 a l cap _ o n x y ca cs ccap hD w hR h (by omega) h2
end Go.Proofs.YtdedfjkenbaebaaGreatDoor
