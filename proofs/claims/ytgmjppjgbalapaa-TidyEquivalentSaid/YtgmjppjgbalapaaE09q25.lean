import Derived.Great.BuildSlice
import Derived.Test.YtgmjppjgbalapaaE09q24
import Derived.Test.YtgmjppjgbalapaaE09q23
import Derived.Test.YtgmjppjgbalapaaE09q13
/- Equivalent of the reference of package tidy. -/
namespace Go.Proofs.Ytgmjppjgbalapaa
open Go.RowKit Go.Proofs.Ytgmjppjgbalapaa.Plain01
set_option linter.unusedVariables false
set_option linter.unusedSimpArgs false

/-- The origin of a byte of the new file, by its parts. -/
noncomputable def orgT (cs : List Cmd) (i : Nat) : Bool × Int × Int := match cs[(findOf cs (i : Int)).toNat]? with
  | some c => (orgB c, orgF c ((i : Int) - c.t), orgX c ((i : Int) - c.t))
  | none => (false, 0, 0)
theorem rof9_at (D : Array Value) (o : Int) (n : Nat) (x y : List Int) (ca : Option Addr) (cs : List Cmd) (ccap : Nat) (hD : DeltaOf D o n x y (.slice ca cs.length ccap)) (off : Nat) (w : World) (h : CmdsIn w ca cs ccap) (hL : cs.length ≤ 1000000) (hv : ValidD o n cs) (h1 : off < n) :
    Calls Try.prog 42 #[.agg D, .int .i64 (off : Int)] w (Gives (.agg (orgA (orgT cs off).1 (orgT cs off).2.1 (orgT cs off).2.2)) w) := by
  have hne : findOf cs (off : Int) ≠ -1 := fun hr => by
    obtain ⟨i, c, hi, hx⟩ := (hv.some (off : Int)).1 ⟨by omega, by omega⟩
    exact findOf_neg.1 (by omega : findOf cs (off : Int) < 0) c (List.mem_of_getElem? hi) hx
  obtain ⟨fi, c, hfe, hci, hhas, _⟩ := (findOf_spec cs (off : Int)).yes hne
  have := rof9_any D o n x y ca cs ccap hD off c fi w h hL hv hfe hci hhas
  rw [orgOf_eq] at this
  have e : orgT cs off = (orgB c, orgF c ((off : Int) - c.t), orgX c ((off : Int) - c.t)) := by
    unfold orgT
    rw [hfe, Int.toNat_natCast, hci]
  rw [e]
  exact this

/-- What the reference's Equivalent says. -/
def SameO (o n o' n' : Int) (cs ds : List Cmd) : Prop := o = o' ∧ n = n' ∧ ∀ i : Nat, (i : Int) < n → orgT cs i = orgT ds i

set_option maxRecDepth 100000 in
set_option maxHeartbeats 8000000 in
theorem requiv9_any (D D' : Array Value) (o o' : Int) (n n' : Nat) (x y x' y' : List Int) (ca da : Option Addr) (cs ds : List Cmd) (ccap dcap : Nat) (hD : DeltaOf D o n x y (.slice ca cs.length ccap)) (hD' : DeltaOf D' o' n' x' y' (.slice da ds.length dcap)) (w : World) (h : CmdsIn w ca cs ccap) (h' : CmdsIn w da ds dcap) (hL : cs.length ≤ 1000000) (hL' : ds.length ≤ 1000000) (hv : ValidD o n cs) (hv' : ValidD o' n' ds) (hn : n ≤ 1000000) :
    Calls Try.prog 19 #[.agg D, .agg D'] w (fun e w' => ∃ r : Bool, e = .returned (.bool r) ∧ (r = true ↔ SameO o n o' n' cs ds) ∧ Below w.heap.size w w') := by
  obtain ⟨S, hS⟩ := start2 w (deltaO D) (deltaO D')
  have hinf := infoDelta hD
  have hinf' := infoDelta hD'
  have HA := Lib.hid (fun (s : HeldW w [(w.heap.size + 1, deltaO D'), (w.heap.size, deltaO D)]) (i : Nat) (hi : i < n) => rof9_at D o n x y ca cs ccap hD i s.w (h.W s) hL hv hi)
  have HB := Lib.hid (fun (s : HeldW w [(w.heap.size + 1, deltaO D'), (w.heap.size, deltaO D)]) (i : Nat) (hi : i < n') => rof9_at D' o' n' x' y' da ds dcap hD' i s.w (h'.W s) hL' hv' hi)
  have HC := Lib.hid (fun s : HeldW w [(w.heap.size + 1, deltaO D'), (w.heap.size, deltaO D)] => And.intro ((cell_of (s.blocks (w.heap.size, deltaO D) (by simp)) 0).trans hD.c0) (And.intro ((cell_of (s.blocks (w.heap.size, deltaO D) (by simp)) 1).trans hD.c1) (And.intro ((cell_of (s.blocks (w.heap.size + 1, deltaO D') (by simp)) 0).trans hD'.c0) ((cell_of (s.blocks (w.heap.size + 1, deltaO D') (by simp)) 1).trans hD'.c1))))
  have LA := Lib.hid (fun s : HeldW w [(w.heap.size + 1, deltaO D'), (w.heap.size, deltaO D)] => load_delta hD (s.blocks (w.heap.size, deltaO D) (by simp)))
  have LB := Lib.hid (fun s : HeldW w [(w.heap.size + 1, deltaO D'), (w.heap.size, deltaO D)] => load_delta hD' (s.blocks (w.heap.size + 1, deltaO D') (by simp)))
  obtain ⟨POST, hP⟩ : ∃ P : Ending → World → Prop, P = (fun e w' => ∃ r : Bool, e = .returned (.bool r) ∧ (r = true ↔ SameO o n o' n' cs ds) ∧ Below w.heap.size w w') := ⟨_, rfl⟩
  have HQ : Hid (∀ (s : HeldW w [(w.heap.size + 1, deltaO D'), (w.heap.size, deltaO D)]) (r : Bool), (r = true ↔ SameO o n o' n' cs ds) → POST (.returned (.bool r)) s.w) := Lib.hid fun s r hr => by
    rw [hP]; exact ⟨r, rfl, hr, s.below⟩
  rw [← hP]
  unfold SameO at HQ
  have HS := Lib.hid hS
  by_cases ho : o = o'
  · by_cases hnn : n = n'
    · subst hnn
      have d10 : (o != o') = false := by simp [ho]
      replace HQ : Hid (∀ (s : HeldW w [(w.heap.size + 1, deltaO D'), (w.heap.size, deltaO D)]) (r : Bool), (r = true ↔ ∀ i : Nat, i < n → orgT cs i = orgT ds i) → POST (.returned (.bool r)) s.w) := Lib.hid fun s r hr => HQ.out s r (by
        rw [hr]
        constructor
        · intro h2; exact ⟨ho, rfl, fun i hi => h2 i (by omega)⟩
        · intro h2 i hi; exact h2.2.2 i (by omega))
      obtain ⟨a0, a1, b0, b1⟩ := HC.out S
      rw [← hS] at a0 a1 b0 b1
      clear ho hD hD' h h' hL hL' hv hv' hP hS
      go_enter Try.func19, Try.ntmps19
      go_wp2
      rw [HS.out]
      clear a0 a1 b0 b1
      go_loopw [5] (fun i wr => ∃ k : Nat, k ≤ n ∧ i = .int .i64 (k : Int) ∧ Hid (∀ j, j < k → orgT cs j = orgT ds j) ∧ ∃ s : HeldW w [(w.heap.size + 1, deltaO D'), (w.heap.size, deltaO D)], wr = s.w) (fun i _ => n - (intOf i).toNat)
      case atStart => exact ⟨0, by omega, rfl, Lib.hid (fun j hj => by omega), S, rfl⟩
      case round =>
        clear HS S
        obtain ⟨k, hk, rfl, HI, s, rfl⟩ := hrel
        obtain ⟨a0, a1, b0, b1⟩ := HC.out s
        by_cases hlt : k < n
        · have hA := fun s => HA.out s k hlt
          have hB := fun s => HB.out s k hlt
          by_cases he : orgT cs k = orgT ds k
          · have HI2 : Hid (∀ j, j < k + 1 → orgT cs j = orgT ds j) := Lib.hid fun j hj => by
              by_cases e : j = k
              · subst e; exact he
              · exact HI.out j (by omega)
            rw [he] at hA
            clear he
            generalize orgT ds k = T at hA hB
            obtain ⟨q1, q2, q3⟩ := T
            dsimp only at hA hB
            go_wp2_with fail
            refine wp_region_class w _ (by kernel_rfl) (by kernel_rfl) s.below s.blocks (fun hne => ?_)
            repeat (first
              | (refine quiet_load 34 (.tmp 2) (.agg D) s.w ⟨s, rfl⟩ (by rintro _ ⟨s, rfl⟩; exact LA.out s) ?_; go_big_quiet_step (fail))
              | (refine quiet_load 34 (.tmp 3) (.agg D') s.w ⟨s, rfl⟩ (by rintro _ ⟨s, rfl⟩; exact LB.out s) ?_; go_big_quiet_step (fail))
              | go_big_quiet_step (first | (go_at_call_of 42 D; exact HeldW.call (hA _)) | (go_at_call_of 42 D'; exact HeldW.call (hB _))))
            refine wpQuiet_nil ?_
            rintro _ ⟨s5, rfl⟩
            clear hne a0 a1 b0 b1
            go_wp2_with fail
            exact ⟨⟨k + 1, by omega, by go_num, HI2, s5, rfl⟩, by simp [intOf]; omega⟩
          · have HR := Lib.hid (fun s => HQ.out s false (by simp only [Bool.false_eq_true, false_iff]; exact fun hj => he (hj k hlt)))
            generalize orgT cs k = T at hA he
            generalize orgT ds k = T' at hB he
            obtain ⟨q1, q2, q3⟩ := T
            obtain ⟨p1, p2, p3⟩ := T'
            dsimp only at hA hB
            simp only [Prod.mk.injEq, not_and] at he
            by_cases h1 : q1 = p1
            · subst h1
              by_cases h2 : q2 = p2
              · subst h2
                have h3 : ¬ q3 = p3 := he rfl rfl
                clear he
                go_wp2_with fail
                refine wp_region_class w _ (by kernel_rfl) (by kernel_rfl) s.below s.blocks (fun hne => ?_)
                repeat (first
                  | (refine quiet_load 34 (.tmp 2) (.agg D) s.w ⟨s, rfl⟩ (by rintro _ ⟨s, rfl⟩; exact LA.out s) ?_; go_big_quiet_step (fail))
                  | (refine quiet_load 34 (.tmp 3) (.agg D') s.w ⟨s, rfl⟩ (by rintro _ ⟨s, rfl⟩; exact LB.out s) ?_; go_big_quiet_step (fail))
                  | go_big_quiet_step (first | (go_at_call_of 42 D; exact HeldW.call (hA _)) | (go_at_call_of 42 D'; exact HeldW.call (hB _))))
                refine wpQuiet_nil ?_
                rintro _ ⟨s5, rfl⟩
                clear hne a0 a1 b0 b1
                go_wp2
                exact HR.out s5
              · clear he
                go_wp2_with fail
                refine wp_region_class w _ (by kernel_rfl) (by kernel_rfl) s.below s.blocks (fun hne => ?_)
                repeat (first
                  | (refine quiet_load 34 (.tmp 2) (.agg D) s.w ⟨s, rfl⟩ (by rintro _ ⟨s, rfl⟩; exact LA.out s) ?_; go_big_quiet_step (fail))
                  | (refine quiet_load 34 (.tmp 3) (.agg D') s.w ⟨s, rfl⟩ (by rintro _ ⟨s, rfl⟩; exact LB.out s) ?_; go_big_quiet_step (fail))
                  | go_big_quiet_step (first | (go_at_call_of 42 D; exact HeldW.call (hA _)) | (go_at_call_of 42 D'; exact HeldW.call (hB _))))
                refine wpQuiet_nil ?_
                rintro _ ⟨s5, rfl⟩
                clear hne a0 a1 b0 b1
                go_wp2
                exact HR.out s5
            · clear he
              go_wp2_with fail
              refine wp_region_class w _ (by kernel_rfl) (by kernel_rfl) s.below s.blocks (fun hne => ?_)
              repeat (first
                | (refine quiet_load 34 (.tmp 2) (.agg D) s.w ⟨s, rfl⟩ (by rintro _ ⟨s, rfl⟩; exact LA.out s) ?_; go_big_quiet_step (fail))
                | (refine quiet_load 34 (.tmp 3) (.agg D') s.w ⟨s, rfl⟩ (by rintro _ ⟨s, rfl⟩; exact LB.out s) ?_; go_big_quiet_step (fail))
                | go_big_quiet_step (first | (go_at_call_of 42 D; exact HeldW.call (hA _)) | (go_at_call_of 42 D'; exact HeldW.call (hB _))))
              refine wpQuiet_nil ?_
              rintro _ ⟨s5, rfl⟩
              clear hne a0 a1 b0 b1
              go_wp2
              exact HR.out s5
        · have HR := Lib.hid (HQ.out s true (by simp only [true_iff]; exact fun j hj => HI.out j (by omega)))
          go_wp2
          exact HR.out
    · have d10 : (o != o') = false := by simp [ho]
      have d16 : (n != n') = true := by simp; omega
      have HR := Lib.hid (fun s => HQ.out s false (by simp only [Bool.false_eq_true, false_iff]; exact fun h2 => hnn (by have := h2.2.1; omega)))
      obtain ⟨a0, a1, b0, b1⟩ := HC.out S
      rw [← hS] at a0 a1 b0 b1
      clear ho hnn hD hD' h h' hL hL' hv hv' hP hS
      go_enter Try.func19, Try.ntmps19
      go_wp2
      rw [HS.out]
      exact HR.out S
  · have d10 : (o != o') = true := by simp [ho]
    have HR := Lib.hid (fun s => HQ.out s false (by simp only [Bool.false_eq_true, false_iff]; exact fun h2 => ho h2.1))
    obtain ⟨a0, a1, b0, b1⟩ := HC.out S
    rw [← hS] at a0 a1 b0 b1
    clear ho hD hD' h h' hL hL' hv hv' hP hS
    go_enter Try.func19, Try.ntmps19
    go_wp2
    rw [HS.out]
    exact HR.out S
end Go.Proofs.Ytgmjppjgbalapaa

/- Two canonical forms are the same iff the origins of all bytes are. -/
namespace Go.Proofs.Ytgmjppjgbalapaa
open Go.RowKit Go.Proofs.Ytgmjppjgbalapaa.Plain01
set_option linter.unusedVariables false
set_option linter.unusedSimpArgs false

theorem mergeF_goodO {o : Nat} (c : Core8) : ∀ cs : List Core8, (∀ d ∈ c :: cs, GoodO o d) → ∀ d ∈ mergeF c cs, GoodO o d := by
  intro cs
  induction cs generalizing c with
  | nil => intro h d hd; exact h d hd
  | cons e cs ih =>
    intro h d hd
    have hc := h c (by simp)
    have he := h e (by simp)
    unfold mergeF at hd
    by_cases hm : canM c e
    · rw [if_pos hm] at hd
      refine ih (joinM c e) (fun x hx => ?_) d hd
      rcases List.mem_cons.1 hx with rfl | hx
      · obtain ⟨j1, j2, j3, j4, j5⟩ := hc.1.join he.1 hm
        refine ⟨j1, fun hk => ?_, fun x hx => ?_⟩
        · have hk1 : c.1 = 1 := by rw [← j3]; exact hk
          have hek : e.1 = 1 := by rw [← hm.1]; exact hk1
          have h2 := he.2.1 hek
          have h3 := hm.2.2 hk1
          unfold joinM
          rw [if_pos hk1]
          simp only
          omega
        · unfold joinM at hx
          by_cases hk1 : c.1 = 1
          · rw [if_pos hk1] at hx
            exact hc.2.2 x hx
          · rw [if_neg hk1] at hx
            rcases List.mem_append.1 hx with hx | hx
            · exact hc.2.2 x hx
            · exact he.2.2 x hx
      · exact h x (by simp [hx])
    · rw [if_neg hm] at hd
      rcases List.mem_cons.1 hd with rfl | hd
      · exact hc
      · exact ih e (fun x hx => h x (List.mem_cons_of_mem _ hx)) d hd
theorem mergeL_goodO {o : Nat} {L : List Core8} (h : ∀ c ∈ L, GoodO o c) : ∀ c ∈ mergeL L, GoodO o c := by
  cases L with
  | nil => intro c hc; cases hc
  | cons a L => exact mergeF_goodO a L h
theorem mergeL_cont {old : List Int} {L : List Core8} (h : ∀ c ∈ L, GoodB c) : (mergeL L).flatMap (contC old) = L.flatMap (contC old) := by
  cases L with
  | nil => rfl
  | cons a L => exact mergeF_cont a L h
theorem mergeL_noM {L : List Core8} (h : ∀ c ∈ L, GoodB c) : NoM (mergeL L) := by
  cases L with
  | nil => trivial
  | cons a L => exact mergeF_noM a L h
theorem mergeL_chain {n lo : Int} {L : List Core8} (h : ∀ c ∈ L, GoodB c) (hc : Chain n lo (L.map tgtC)) : Chain n lo ((mergeL L).map tgtC) := by
  cases L with
  | nil => exact hc
  | cons a L => exact mergeF_chain a L lo h hc

theorem valid_goodO {o : Nat} {n : Int} {cs : List Cmd} (hv : ValidD o n cs) (ok : ∀ c ∈ cs, OkB c.l) : ∀ c ∈ cs, GoodO o c.core := fun c hc =>
  ⟨valid_good hv c hc, fun hk => ((single_ok (hv.all c hc)).2.2 hk).2, fun x hx => ok c hc x hx⟩
theorem canon_flat {o : Nat} {n : Nat} {cs : List Cmd} (hv : ValidD o n cs) (ok : ∀ c ∈ cs, OkB c.l) : (canonC cs).flatMap (contC (origF o)) = newF (origF o) n cs := by
  have hp := srt_perm cs
  unfold canonC
  rw [mergeL_cont (fun c hc => by
    obtain ⟨d, hd, rfl⟩ := List.mem_map.1 hc
    exact valid_good hv d (hp.mem_iff.1 hd))]
  rw [← newF_perm (old := origF o) (by rw [origF_length]) hv hp, ← newF_flat (by rw [origF_length]) (hv.perm hp) (srt_asc cs)]
  unfold cores
  rw [List.flatMap_map]
  rfl
/-- The byte's code. -/
def orgN (t : Bool × Int × Int) : Int := if t.1 then 1000 + t.2.1 else t.2.2
theorem newF_org {o : Nat} {n : Nat} {cs : List Cmd} (hv : ValidD o n cs) (ok : ∀ c ∈ cs, OkB c.l) {k : Nat} (hk : k < n) :
    (newF (origF o) n cs)[k]? = some (orgN (orgT cs k)) ∧ ((orgT cs k).1 = true ∧ 0 ≤ (orgT cs k).2.1 ∧ (orgT cs k).2.2 = 0 ∨ (orgT cs k).1 = false ∧ (orgT cs k).2.1 = 0 ∧ 0 ≤ (orgT cs k).2.2 ∧ (orgT cs k).2.2 < 256) := by
  obtain ⟨fi, c, i, x, hf, hc, hki, hiw, hx, htk⟩ := newF_step (l := origF o) (by rw [origF_length]) hv hk
  have hm := List.mem_of_getElem? hc
  have hg := valid_goodO hv ok c hm
  obtain ⟨x', hx', hcase⟩ := hg.at (i := i) (show (i : Int) < lenC c.core from hiw)
  have hxx : x' = x := by
    have : (c.cont (origF o))[i]? = some x' := hx'
    rw [hx] at this
    exact (Option.some.inj this).symm
  subst hxx
  have hn : (newF (origF o) n cs)[k]? = some x' := by
    have h1 : ((newF (origF o) n cs).take (k + 1))[k]? = some x' := by
      rw [htk, List.getElem?_append_right (by rw [List.length_take]; omega), List.length_take, newF_length, show k - min k n = 0 by omega]
      rfl
    rw [List.getElem?_take, if_pos (by omega)] at h1
    exact h1
  have e : orgT cs k = (orgB c, orgF c i, orgX c i) := by
    unfold orgT
    rw [hf, Int.toNat_natCast, hc]
    show (orgB c, orgF c ((k : Int) - c.t), orgX c ((k : Int) - c.t)) = _
    rw [show (k : Int) - c.t = (i : Int) by omega]
  rw [e, hn]
  have hgb := hg.1
  unfold GoodB Cmd.core at hgb
  unfold Cmd.core at hcase
  simp only at hcase hgb
  unfold orgN orgB orgF orgX
  rcases hcase with ⟨k1, e1⟩ | ⟨k2, e2, e3, e4⟩
  · simp only [k1, decide_true, if_true]
    exact ⟨by rw [e1], .inl ⟨trivial, by omega, trivial⟩⟩
  · have h1 : ¬ c.k = 1 := by omega
    simp only [h1, decide_false, if_false, Int.toNat_natCast, e2, Option.getD_some]
    exact ⟨by simp, .inr ⟨trivial, trivial, e3, e4⟩⟩
theorem same_canon {o : Int} {n : Nat} {cs ds : List Cmd} (hv : ValidD o n cs) (hv' : ValidD o n ds) (ok : ∀ c ∈ cs, OkB c.l) (ok' : ∀ c ∈ ds, OkB c.l) : (∀ i : Nat, (i : Int) < n → orgT cs i = orgT ds i) ↔ canonC cs = canonC ds := by
  obtain ⟨O, rfl⟩ : ∃ O : Nat, o = O := ⟨o.toNat, by have := hv.lens; unfold LensBad at this; omega⟩
  have f1 := canon_flat hv ok
  have f2 := canon_flat hv' ok'
  constructor
  · intro h
    have hnew : newF (origF O) n cs = newF (origF O) n ds := by
      apply List.ext_getElem?
      intro k
      by_cases hk : k < n
      · rw [(newF_org hv ok hk).1, (newF_org hv' ok' hk).1, h k (by omega)]
      · rw [List.getElem?_eq_none (by rw [newF_length]; omega), List.getElem?_eq_none (by rw [newF_length]; omega)]
    have G : ∀ {es : List Cmd}, ValidD (O : Int) n es → (∀ c ∈ es, OkB c.l) → (∀ c ∈ canonC es, GoodO O c) ∧ Chain n 0 ((canonC es).map tgtC) ∧ NoM (canonC es) := fun {es} he hok => by
      have hp := srt_perm es
      have hgo : ∀ c ∈ cores (srt es), GoodO O c := fun c hc => by
        obtain ⟨d, hd, rfl⟩ := List.mem_map.1 hc
        exact valid_goodO he hok d (hp.mem_iff.1 hd)
      refine ⟨mergeL_goodO hgo, mergeL_chain (fun c hc => (hgo c hc).1) ?_, mergeL_noM (fun c hc => (hgo c hc).1)⟩
      have := (he.perm hp).chain (srt_asc es)
      unfold cores
      rw [List.map_map]
      exact this
    obtain ⟨g1, g2, g3⟩ := G hv ok
    obtain ⟨k1, k2, k3⟩ := G hv' ok'
    exact canon_eq _ _ 0 g1 k1 g2 k2 g3 k3 (by rw [f1, f2, hnew])
  · intro h i hi
    have hnew : newF (origF O) n cs = newF (origF O) n ds := by rw [← f1, ← f2, h]
    obtain ⟨a1, a2⟩ := newF_org hv ok (k := i) (by omega)
    obtain ⟨b1, b2⟩ := newF_org hv' ok' (k := i) (by omega)
    rw [hnew, b1] at a1
    have e := Option.some.inj a1
    generalize orgT cs i = S at *
    generalize orgT ds i = T at *
    obtain ⟨s1, s2, s3⟩ := S
    obtain ⟨t1, t2, t3⟩ := T
    unfold orgN at e
    simp only at e a2 b2 ⊢
    rcases a2 with ⟨q1, q2, q3⟩ | ⟨q1, q2, q3, q4⟩ <;> rcases b2 with ⟨r1, r2, r3⟩ | ⟨r1, r2, r3, r4⟩ <;> rw [q1, r1] at e <;> simp at e
    · rw [q1, r1, q3, r3, e]
    · omega
    · omega
    · rw [q1, r1, q2, r2, e]
end Go.Proofs.Ytgmjppjgbalapaa

/- The example of the chapter on canonical forms. -/
namespace Go.Proofs.Ytgmjppjgbalapaa
open Go.RowKit Go.Proofs.Ytgmjppjgbalapaa.Plain01
set_option linter.unusedVariables false
set_option linter.unusedSimpArgs false

theorem row_flat {W : World} {B : Nat} {cs : List Cmd} (h : W.heap[B]? = some (.cells (flat5 cs).toArray 26 (0, 0))) (hok : ∀ c ∈ cs, CmdOK W c) (hl : cs.length ≤ 1000000) : CmdsIn W (some ⟨B, 0, none⟩) cs cs.length :=
  ⟨Nat.le_refl _, by omega, fun _ => ⟨B, 0, rfl, fun i c hi j u hu => by
    rw [Nat.zero_add, cell_of h]
    have := flat5_put cs i j c u hi hu
    simpa using this⟩, hok, fun h => by cases h⟩
def exX : Cmd := ⟨1, 0, 5, 2, [], none, 0⟩
def exY : Cmd := ⟨1, 2, 7, 3, [], none, 0⟩
def exZ : Cmd := ⟨1, 5, 9, 1, [], none, 0⟩
def exV : Cmd := ⟨1, 0, 5, 5, [], none, 0⟩
theorem copy_ok (W : World) (t f n : Nat) (ht : t ≤ 100) (hf : f ≤ 100) (hn : n ≤ 100) : CmdOK W ⟨1, t, f, n, [], none, 0⟩ := ⟨by unfold I64; simp, by unfold I64; simp only; omega, by unfold I64; simp only; omega, by unfold I64; simp only; omega, ⟨Nat.le_refl _, by simp, fun h => by simp at h, fun _ => rfl⟩, okB_nil⟩
theorem exX_ok (W : World) : CmdOK W exX := copy_ok W 0 5 2 (by omega) (by omega) (by omega)
theorem exY_ok (W : World) : CmdOK W exY := copy_ok W 2 7 3 (by omega) (by omega) (by omega)
theorem exZ_ok (W : World) : CmdOK W exZ := copy_ok W 5 9 1 (by omega) (by omega) (by omega)
theorem exV_ok (W : World) : CmdOK W exV := copy_ok W 0 5 5 (by omega) (by omega) (by omega)
theorem ex9_valid : ValidD 10 ((6 : Nat) : Int) [exZ, exY, exX] := ⟨by unfold LensBad; omega, fun c hc => by
    simp only [List.mem_cons, List.not_mem_nil, or_false] at hc
    rcases hc with rfl | rfl | rfl <;> decide, by
    show Tiles 0 6 [(5, 1), (2, 3), (0, 2)]
    refine ⟨fun p hp => ?_, ?_, fun x h0 h1 => ?_⟩
    · simp only [List.mem_cons, List.not_mem_nil, or_false] at hp
      rcases hp with rfl | rfl | rfl <;> simp
    · simp [Off]
    · by_cases h : x < 2
      · exact ⟨(0, 2), by simp, by simp; omega⟩
      · by_cases h2 : x < 5
        · exact ⟨(2, 3), by simp, by simp; omega⟩
        · exact ⟨(5, 1), by simp, by simp; omega⟩⟩
theorem ex9_merge : mergeL (cores [exX, exY, exZ]) = cores [exV, exZ] := by decide
theorem ex9_find : findOf [exZ, exY, exX] ((3 : Nat) : Int) = ((1 : Nat) : Int) := by
  refine findOf_eq ⟨fun h => absurd h (by omega), fun _ => ⟨1, exY, rfl, rfl, ?_, fun j c hj hc => ?_⟩⟩
  · unfold Cmd.has; show (2 : Int) ≤ 3 ∧ (3 : Int) < 2 + 3; omega
  · obtain rfl : j = 0 := by omega
    cases hc
    unfold Cmd.has
    show ¬ ((5 : Int) ≤ 3 ∧ _)
    omega
theorem ex9_org : orgOf exY (((3 : Nat) : Int) - exY.t) = orgA true 8 0 := rfl

set_option maxRecDepth 100000 in
set_option maxHeartbeats 8000000 in
theorem alive09_any (w : World) : Calls Try.prog 8 #[] w (Gives (.bool true) w) := by
  have hz := zero_delta
  obtain ⟨S, hS⟩ := start3 w (cmdO 1 0 5 2 (.slice none 0 0)) (cmdO 1 2 7 3 (.slice none 0 0)) (cmdO 1 5 9 1 (.slice none 0 0))
  have e3 : S.w.heap.size = w.heap.size + 1 + 1 + 1 := by rw [← hS]; simp
  obtain ⟨B, S4, hB, hB0, hlt, hS4⟩ := S.more1 (.cells (flat5 [exX, exY, exZ]).toArray 26 (0, 0))
  have hmg := merge9_any (some ⟨B, 0, none⟩) [exX, exY, exZ] 3 S4.w (row_flat (S4.blocks (B, .cells (flat5 [exX, exY, exZ]).toArray 26 (0, 0)) (by simp)) (fun c hc => by
    simp only [List.mem_cons, List.not_mem_nil, or_false] at hc
    rcases hc with rfl | rfl | rfl
    · exact exX_ok _
    · exact exY_ok _
    · exact exZ_ok _) (by simp)) (fun c hc => by
    simp only [List.mem_cons, List.not_mem_nil, or_false] at hc
    rcases hc with rfl | rfl | rfl <;> (unfold GoodB; decide)) (by simp) (fun c hc => by
    simp only [List.mem_cons, List.not_mem_nil, or_false] at hc
    rcases hc with rfl | rfl | rfl <;> simp [exX, exY, exZ])
  have HS := Lib.hid hS
  have HS4 := Lib.hid (And.intro hS4 (hB.trans e3))
  clear hS hS4 hB hlt e3
  go_enter Try.func8, Try.ntmps8
  go_wp2_with fail
  rw [HS.out, show S.w.alloc (.cells #[.int .i64 1, .int .i64 0, .int .i64 5, .int .i64 2, .slice none 0 0, .int .i64 1, .int .i64 2, .int .i64 7, .int .i64 3, .slice none 0 0, .int .i64 1, .int .i64 5, .int .i64 9, .int .i64 1, .slice none 0 0] 26 (0, 0)) = S4.w from HS4.out.1, ← HS4.out.2]
  refine hmg.mono ?_
  rintro e W5 ⟨v5, rfl, ⟨R⟩⟩
  have hRB := R.below
  obtain ⟨cs5, a5, cap5, rfl, hcs5, hco5⟩ := R.slice
  rw [ex9_merge] at hco5
  obtain ⟨s5, h5⟩ : ∃ s5 : HeldW W5 [(w.heap.size + 1 + 1, cmdO 1 5 9 1 (.slice none 0 0)), (w.heap.size + 1, cmdO 1 2 7 3 (.slice none 0 0)), (w.heap.size, cmdO 1 0 5 2 (.slice none 0 0))], W5 = s5.w := ⟨⟨W5, Below.refl _ _, fun p hp => heap_below (S4.blocks p (List.mem_cons_of_mem _ hp)) hRB⟩, rfl⟩
  have HBW := Lib.hid (S4.below.trans (hRB.mono S4.below.size))
  have HCS := Lib.hid (And.intro hcs5 hco5)
  have hx := s5.blocks (w.heap.size, cmdO 1 0 5 2 (.slice none 0 0)) (by simp)
  have hy := s5.blocks (w.heap.size + 1, cmdO 1 2 7 3 (.slice none 0 0)) (by simp)
  have hzz := s5.blocks (w.heap.size + 1 + 1, cmdO 1 5 9 1 (.slice none 0 0)) (by simp)
  rw [← h5] at hx hy hzz
  obtain ⟨x0, x1, x2, x3, x4⟩ := cmd_cells hx
  obtain ⟨y0, y1, y2, y3, y4⟩ := cmd_cells hy
  obtain ⟨z0, z1, z2, z3, z4⟩ := cmd_cells hzz
  obtain ⟨D9, hD9⟩ : ∃ D9, D9 = (((zeroDel.setIfInBounds 0 (.int .i64 10)).setIfInBounds 1 (.int .i64 6)).setIfInBounds 66 (.slice (some ⟨W5.heap.size, 0, none⟩) 3 3)) := ⟨_, rfl⟩
  have hDD : DeltaOf D9 10 ((6 : Nat) : Int) zeros32 zeros32 (.slice (some ⟨W5.heap.size, 0, none⟩) 3 3) := by rw [hD9]; exact ⟨rfl, rfl, rfl⟩
  have hinf := infoDelta hDD
  have hone := hDD.one rfl
  have hsz : zeroDel.size = D9.size := by rw [zeroDel_of.size, hDD.size]
  have hgN : ((W5.alloc (.cells (flat5 [exZ, exY, exX]).toArray 26 (0, 0))).alloc (deltaO zeroDel)).heap[W5.heap.size + 1]? = some (deltaO zeroDel) := heap_new _ _ (by simp)
  obtain ⟨S7, h7⟩ : ∃ S7 : HeldW W5 [(W5.heap.size + 1, deltaO D9), (W5.heap.size, .cells (flat5 [exZ, exY, exX]).toArray 26 (0, 0)), (w.heap.size + 1 + 1, cmdO 1 5 9 1 (.slice none 0 0))], ((W5.alloc (.cells (flat5 [exZ, exY, exX]).toArray 26 (0, 0))).alloc (deltaO zeroDel)).setRow (W5.heap.size + 1) D9 = S7.w := by
    have hb : Below W5.heap.size W5 ((W5.alloc (.cells (flat5 [exZ, exY, exX]).toArray 26 (0, 0))).alloc (deltaO zeroDel)) := below2 W5 _ _
    have hzl := (Array.getElem?_eq_some_iff.1 hzz).1
    refine ⟨⟨_, below_setRow hb (by omega) D9, ?_⟩, rfl⟩
    refine List.forall_mem_cons.2 ⟨setRow_heap _ _ _ _ _ _ hgN, List.forall_mem_cons.2 ⟨(setRow_other _ _ _ _ (show W5.heap.size ≠ W5.heap.size + 1 by omega)).trans (heap_old (heap_new W5 _ rfl) _), all1 ((setRow_other _ _ _ _ (show w.heap.size + 1 + 1 ≠ W5.heap.size + 1 by omega)).trans (heap_old (heap_old hzz _) _))⟩⟩
  have HX := Lib.hid h7
  have hg7 := S7.blocks (W5.heap.size + 1, deltaO D9) (by simp)
  dsimp only at hg7
  have HGD := Lib.hid (fun (W : World) (hW : Below S7.w.heap.size S7.w W) => heap_below hg7 hW)
  have HCM : Hid (∀ W, Below S7.w.heap.size S7.w W → CmdsIn W (some ⟨W5.heap.size, 0, none⟩) [exZ, exY, exX] 3) := Lib.hid fun W hW => row_flat (heap_below (S7.blocks (W5.heap.size, .cells (flat5 [exZ, exY, exX]).toArray 26 (0, 0)) (by simp)) hW) (fun c hc => by
    simp only [List.mem_cons, List.not_mem_nil, or_false] at hc
    rcases hc with rfl | rfl | rfl
    · exact exZ_ok _
    · exact exY_ok _
    · exact exX_ok _) (by simp)
  have HOF : Hid (∀ W, Below S7.w.heap.size S7.w W → Calls Try.prog 25 #[.agg D9, .int .i64 3] W (Gives (.tuple #[.agg (orgA true 8 0), .bool true]) W)) := Lib.hid fun W hW => by
    have := of9_yes D9 10 6 zeros32 zeros32 (some ⟨W5.heap.size, 0, none⟩) [exZ, exY, exX] 3 hDD 3 exY 1 W (HCM.out W hW) (by simp) ex9_valid ex9_find rfl (by unfold Cmd.has; show (2 : Int) ≤ 3 ∧ (3 : Int) < 2 + 3; omega)
    rw [ex9_org] at this
    exact this
  have hsml : ∀ c ∈ [exZ, exY, exX], c.l.length ≤ 1000 := fun c hc => by
    simp only [List.mem_cons, List.not_mem_nil, or_false] at hc
    rcases hc with rfl | rfl | rfl <;> simp [exX, exY, exZ]
  have HEV : Hid (∀ W, Below S7.w.heap.size S7.w W → Calls Try.prog 18 #[.agg D9, .agg D9] W (Gives (.bool true) W)) := Lib.hid fun W hW => by
    have := equiv9_any D9 D9 10 ((6 : Nat) : Int) 10 ((6 : Nat) : Int) zeros32 zeros32 zeros32 zeros32 (some ⟨W5.heap.size, 0, none⟩) (some ⟨W5.heap.size, 0, none⟩) [exZ, exY, exX] [exZ, exY, exX] 3 3 hDD hDD W (HCM.out W hW) (HCM.out W hW) (by simp) (by simp) hsml hsml ex9_valid ex9_valid
    rwa [decide_eq_true ⟨rfl, rfl, rfl⟩] at this
  have HZ7 := Lib.hid (fun (W : World) (hW : Below S7.w.heap.size S7.w W) => cmd_cells (heap_below (S7.blocks (w.heap.size + 1 + 1, cmdO 1 5 9 1 (.slice none 0 0)) (by simp)) hW))
  have HL7 := Lib.hid (fun (W : World) (hW : Below S7.w.heap.size S7.w W) => HCS.out.1.below (S7.below.trans (hW.mono S7.below.size)))
  have HB7 := Lib.hid (fun (W : World) (hW : Below S7.w.heap.size S7.w W) => HBW.out.trans ((S7.below.trans (hW.mono S7.below.size)).mono HBW.out.size))
  have HD9 := Lib.hid hD9
  clear hDD hsml
  clear hD9 hmg hRB hcs5 hco5 h5 hx hy hzz s5 h7 HS HS4 S S4 R
  go_wp2_with (first
    | (refine wpList_buildTo rfl 34 _ rfl (some 20) rfl D9 (by rw [HD9.out]; kernel_rfl) ?_)
    | (rw [show (W5.alloc (.cells #[.int .i64 1, .int .i64 5, .int .i64 9, .int .i64 1, .slice none 0 0, .int .i64 1, .int .i64 2, .int .i64 7, .int .i64 3, .slice none 0 0, .int .i64 1, .int .i64 0, .int .i64 5, .int .i64 2, .slice none 0 0] 26 (0, 0))) = W5.alloc (.cells (flat5 [exZ, exY, exX]).toArray 26 (0, 0)) from rfl]; refine wpList_store_rowTo rfl 34 (.tmp 5) (.tmp 20) rfl rfl (W5.heap.size + 1) D9 rfl rfl 34 zeroDel hgN hinf hsz hone ?_; rw [HX.out])
    | (refine wpList_load_row rfl 34 (.tmp 5) rfl (W5.heap.size + 1) rfl 34 _ (0, 0) _ hg7 Try.underlying34 rfl hinf ?_))
  refine (HOF.out S7.w (Below.refl _ _)).mono ?_
  rintro e W8 ⟨rfl, hb8⟩
  clear z0 z1 z2 z3 z4
  have hb9 : Below S7.w.heap.size S7.w (W8.alloc (orgO true 8 0)) := hb8.alloc hb8.size _
  obtain ⟨z0, z1, z2, z3, z4⟩ := HZ7.out (W8.alloc (orgO true 8 0)) hb9
  clear x0 x1 x2 x3 x4 y0 y1 y2 y3 y4 hgN hg7 HX
  go_wp2_with fail
  have h10 : Below S7.w.heap.size S7.w ((W8.alloc (orgO true 8 0)).alloc (.cells (flat5 [exV, exZ]).toArray 26 (0, 0))) := hb9.alloc hb9.size _
  have hin10 : CmdsIn ((W8.alloc (orgO true 8 0)).alloc (.cells (flat5 [exV, exZ]).toArray 26 (0, 0))) (some ⟨W8.heap.size + 1, 0, none⟩) [exV, exZ] 2 := row_flat (heap_new _ _ (by simp)) (fun c hc => by
    simp only [List.mem_cons, List.not_mem_nil, or_false] at hc
    rcases hc with rfl | rfl
    · exact exV_ok _
    · exact exZ_ok _) (by simp)
  have hall := all_any a5 (some ⟨W8.heap.size + 1, 0, none⟩) cs5 [exV, exZ] cap5 2 _ (HL7.out _ h10) hin10
  rw [decide_eq_true (show cores cs5 = cores [exV, exZ] from HCS.out.2)] at hall
  have ho10 : ((W8.alloc (orgO true 8 0)).alloc (.cells (flat5 [exV, exZ]).toArray 26 (0, 0))).heap[W8.heap.size]? = some (orgO true 8 0) := heap_old (heap_new W8 _ rfl) _
  refine hall.mono ?_
  rintro e W11 ⟨rfl, hb11⟩
  have ho11 := heap_below ho10 hb11
  have o0 : W11.cell? ⟨W8.heap.size, 0, none⟩ = some (.bool true) := cell_of ho11 0
  have o1 : W11.cell? ⟨W8.heap.size, 1, none⟩ = some (.int .i64 8) := cell_of ho11 1
  have o2 : W11.cell? ⟨W8.heap.size, 2, none⟩ = some (.int .u8 0) := cell_of ho11 2
  have h11 : Below S7.w.heap.size S7.w W11 := h10.trans (hb11.mono h10.size)
  have HBL := Lib.hid (HB7.out _ h11)
  have HE11 := Lib.hid (HEV.out _ h11)
  have hG11 := HGD.out _ h11
  clear z0 z1 z2 z3 z4 ho10 ho11 hall hin10 h10 h11 hb11
  go_wp2_with (first
    | (refine wpList_load_rowG rfl 34 (.tmp 5) rfl (some 40) rfl (W5.heap.size + 1) rfl 34 _ (0, 0) _ hG11 Try.underlying34 rfl hinf ?_)
    | (refine wpList_load_rowG rfl 34 (.tmp 5) rfl (some 41) rfl (W5.heap.size + 1) rfl 34 _ (0, 0) _ hG11 Try.underlying34 rfl hinf ?_))
  refine HE11.out.mono ?_
  rintro e W12 ⟨rfl, hb12⟩
  have HB12 := Lib.hid (HBL.out.trans (hb12.mono HBL.out.size))
  clear o0 o1 o2 hG11 hb12
  go_wp2
  go_ret
  exact ⟨by simp, HB12.out⟩
end Go.Proofs.Ytgmjppjgbalapaa
