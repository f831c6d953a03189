/- DeltaSorts returns true for every delta, and changes nothing that was there. -/
import Derived.Test.Ytifdeeaoaekokaa05SortL
import Derived.Test.Ytifdeeaoaekokaa05RCheck
import Derived.Test.Ytifdeeaoaekokaa05RSameD
namespace Go.Proofs.Ytifdeeaoaekokaa
open Go.RowKit Go.Shelf Go.Proofs.Ytifdeeaoaekokaa.Plain01
set_option linter.unusedVariables false
set_option linter.unusedSimpArgs false

set_option maxRecDepth 100000 in
set_option maxHeartbeats 4000000 in
theorem deltaSorts_big (D : Array Value) (o n : Int) (xx y : List Int) (ca : Option Addr) (cs : List Cmd) (ccap : Nat) (hD : DeltaOf D o n xx y (.slice ca cs.length ccap)) (ho : I64 o) (hn : I64 n) (w : World) (h : CmdsIn w ca cs ccap) (hf : ¬ FewD cs) :
    Calls Try.prog 6 #[.agg D] w (Gives (.bool true) w) := by
  obtain ⟨S, hS⟩ := start1 w (deltaO D)
  have hF := few_any D o n xx y ca cs ccap hD S.w (h.W S)
  rw [decide_eq_false hf] at hF
  have hinf := infoDelta hD
  have hg : (w.alloc (deltaO D)).heap[w.heap.size]? = some (deltaO D) := heap_new w _ rfl
  have HS := Lib.hid hS
  clear hS hD h hf
  go_enter Try.func6, Try.ntmps6
  go_wp2_with (refine wpList_load_row rfl 25 (.tmp 1) rfl w.heap.size rfl 25 _ (0, 0) _ hg Try.underlying25 rfl hinf ?_)
  rw [HS.out]
  clear hg
  refine (HeldW.call hF).mono ?_
  rintro e _ ⟨rfl, s2, rfl⟩
  go_wp2_with fail
  refine (HeldW.call (alive05_gives _)).mono ?_
  rintro e _ ⟨rfl, s3, rfl⟩
  go_wp2
  go_ret
  exact ⟨rfl, s3.below⟩

set_option maxRecDepth 100000 in
set_option maxHeartbeats 4000000 in
theorem deltaSorts_bad (D : Array Value) (o n : Int) (xx y : List Int) (ca : Option Addr) (cs : List Cmd) (ccap : Nat) (hD : DeltaOf D o n xx y (.slice ca cs.length ccap)) (ho : I64 o) (hn : I64 n) (w : World) (h : CmdsIn w ca cs ccap) (hf : FewD cs) (hv : ¬ ValidD o n cs) :
    Calls Try.prog 6 #[.agg D] w (Gives (.bool true) w) := by
  obtain ⟨S, hS⟩ := start1 w (deltaO D)
  have hF := few_any D o n xx y ca cs ccap hD S.w (h.W S)
  rw [decide_eq_true hf] at hF
  have HV := Lib.hid (fun s : HeldW w [(w.heap.size, deltaO D)] => rdvalid_any D o n xx y ca cs ccap hD s.w (h.W s))
  have hinf := infoDelta hD
  have hg : (w.alloc (deltaO D)).heap[w.heap.size]? = some (deltaO D) := heap_new w _ rfl
  have HGD := Lib.hid (fun s : HeldW w [(w.heap.size, deltaO D)] => s.blocks (w.heap.size, deltaO D) (by simp))
  have HS := Lib.hid hS
  rw [show decide ((faultOf o n cs).1 = 0) = false from decide_eq_false (fun e => hv (faultOf_zero.1 e))] at HV
  clear hS hD h hf hv
  go_enter Try.func6, Try.ntmps6
  go_wp2_with (refine wpList_load_row rfl 25 (.tmp 1) rfl w.heap.size rfl 25 _ (0, 0) _ hg Try.underlying25 rfl hinf ?_)
  rw [HS.out]
  clear hg
  refine (HeldW.call hF).mono ?_
  rintro e _ ⟨rfl, s2, rfl⟩
  clear hF
  have hg := HGD.out s2
  go_wp2_with (refine wpList_load_rowG rfl 25 (.tmp 1) rfl (some 12) rfl w.heap.size rfl 25 _ (0, 0) _ hg Try.underlying25 rfl hinf ?_)
  clear hg
  refine (HeldW.call (HV.out s2)).mono ?_
  rintro e _ ⟨rfl, s3, rfl⟩
  go_wp2_with fail
  refine (HeldW.call (alive05_gives _)).mono ?_
  rintro e _ ⟨rfl, s4, rfl⟩
  go_wp2
  go_ret
  exact ⟨rfl, s4.below⟩

set_option maxRecDepth 100000 in
set_option maxHeartbeats 8000000 in
theorem deltaSorts_good (D : Array Value) (o n : Int) (xx y : List Int) (ca : Option Addr) (cs : List Cmd) (ccap : Nat) (hD : DeltaOf D o n xx y (.slice ca cs.length ccap)) (ho : I64 o) (hn : I64 n) (w : World) (h : CmdsIn w ca cs ccap) (hf : FewD cs) (hv : ValidD o n cs) :
    Calls Try.prog 6 #[.agg D] w (Gives (.bool true) w) := by
  obtain ⟨S, hS⟩ := start1 w (deltaO D)
  have hF := few_any D o n xx y ca cs ccap hD S.w (h.W S)
  rw [decide_eq_true hf] at hF
  have HV := Lib.hid (fun s : HeldW w [(w.heap.size, deltaO D)] => rdvalid_any D o n xx y ca cs ccap hD s.w (h.W s))
  rw [show decide ((faultOf o n cs).1 = 0) = true from decide_eq_true (faultOf_zero.2 hv)] at HV
  have hinf := infoDelta hD
  have hg : (w.alloc (deltaO D)).heap[w.heap.size]? = some (deltaO D) := heap_new w _ rfl
  have HGD := Lib.hid (fun s : HeldW w [(w.heap.size, deltaO D)] => s.blocks (w.heap.size, deltaO D) (by simp))
  have HS := Lib.hid hS
  have HD := Lib.hid hD
  have HC := Lib.hid h
  have HF := Lib.hid hf
  have HVD := Lib.hid hv
  have HO := Lib.hid ho
  have HN := Lib.hid hn
  have hz := zero_delta
  have hone := hD.one rfl
  have hszD : zeroDel.size = D.size := by rw [zeroDel_of.size, hD.size]
  obtain ⟨L, hL⟩ : ∃ L, L = cs.length := ⟨_, rfl⟩
  have hL40 : L ≤ 40 := by rw [hL]; exact hf.2
  have hLc : L ≤ ccap := by rw [hL]; exact h.len
  rw [← hL] at HD
  have HL := Lib.hid hL
  have hla : (flat5 cs).length = L * 5 := by rw [flat5_length, ← hL]
  have hnil : ca = none → L = 0 := fun e => by have := h.nil e; omega
  have HLA := Lib.hid hla
  have HNIL := Lib.hid hnil
  have hna : ∀ W, Below w.heap.size w W → ∀ ad, ca = some ad → ∀ (j : Nat) (u : Value), (flat5 cs)[j]? = some u → W.cell? (ad.add j) = some u := fun W hW ad had j u hu => by
    have := newsO_h (h.below hW) (A := ca) (n := L) (by omega) (fun b o e => e) ad had j u (by rw [hL, List.take_length]; exact hu)
    exact this
  have HNA := Lib.hid hna
  clear hS hD h hf hv ho hn hL hla hnil hna
  go_enter Try.func6, Try.ntmps6
  go_wp2_with (refine wpList_load_row rfl 25 (.tmp 1) rfl w.heap.size rfl 25 _ (0, 0) _ hg Try.underlying25 rfl hinf ?_)
  rw [HS.out]
  clear hg
  refine (HeldW.call hF).mono ?_
  rintro e _ ⟨rfl, s2, rfl⟩
  clear hF
  have hg := HGD.out s2
  go_wp2_with (refine wpList_load_rowG rfl 25 (.tmp 1) rfl (some 12) rfl w.heap.size rfl 25 _ (0, 0) _ hg Try.underlying25 rfl hinf ?_)
  clear hg
  refine (HeldW.call (HV.out s2)).mono ?_
  rintro e _ ⟨rfl, s3, rfl⟩
  clear s2 HV HS
  have hg := HGD.out s3
  have hgN : (s3.w.alloc (deltaO zeroDel)).heap[s3.w.heap.size]? = some (deltaO zeroDel) := heap_new _ _ rfl
  obtain ⟨B, S4, hB, hB0, hlt4, hS4⟩ := s3.more1 (deltaO D)
  have hwB : w.heap.size < B := hlt4 (w.heap.size, deltaO D) (by simp)
  have hS4B : S4.w.heap.size = B + 1 := by rw [← hS4, World.size_alloc, hB]
  have HS4B := Lib.hid hS4B
  have HS4 := Lib.hid hS4
  have HBe := Lib.hid hB
  have d66 : (S4.w.alloc (.cells #[] 42)).cell? ⟨w.heap.size, 66, none⟩ = some (.slice ca L ccap) := (cell_of (heap_old (S4.blocks (w.heap.size, deltaO D) (by simp)) _) 66).trans HD.out.c66
  have hE5 := isE5_new (W := S4.w) (base := S4.w.heap.size) (Nat.le_refl _)
  have HE5 := Lib.hid hE5
  have hb4 : Below w.heap.size w (S4.w.alloc (.cells #[] 42)) := S4.below.alloc S4.below.size _
  have HB4 := Lib.hid hb4
  clear hS4 hE5 hb4 hB hlt4 hS4B
  have hgA : ∀ (S5 : HeldW w [(B, deltaO D), (w.heap.size, deltaO D)]) (a5 : Option Addr) (cap5 : Nat), (S5.w.setCell ⟨B, 66, none⟩ (.slice a5 L cap5)).heap[B]? = some (deltaO (D.setIfInBounds 66 (.slice a5 L cap5))) := fun S5 a5 cap5 => (S5.store (i := 66) (v := .slice a5 L cap5) (cs' := D.setIfInBounds 66 (.slice a5 L cap5)) hB0 (by simp; omega) rfl).blocks _ List.mem_cons_self
  have hinfA : ∀ (a5 : Option Addr) (cap5 : Nat), (Try.prog.info? 25).map (·.size) = some (D.setIfInBounds 66 (.slice a5 L cap5)).size := fun a5 cap5 => infoDelta (HD.out.set (.slice a5 L cap5))
  go_wp2_with (first
    | (refine wpList_load_row rfl 25 (.tmp 1) rfl w.heap.size rfl 25 _ (0, 0) _ hg Try.underlying25 rfl hinf ?_)
    | (refine wpList_store_rowTo rfl 25 (.tmp 3) (.tmp 17) rfl rfl s3.w.heap.size D rfl rfl 25 zeroDel hgN hinf hszD hone ?_; rw [World.setRow_alloc_new, HS4.out, ← HBe.out])
    | (refine wpList_append_new (W := S4.w.alloc (.cells #[] 42)) (base := S4.w.heap.size) (by simp) HE5.out ca L ccap (flat5 cs) HLA.out HNIL.out (HNA.out _ HB4.out) (flat5_one _) (by omega) (.tmp 18) (.tmp 20) rfl rfl rfl rfl (fun v5 W5 hrow5 hb5 => ?_)
       have hb45 : Below S4.w.heap.size S4.w W5 := ((Below.refl _ S4.w).alloc (Nat.le_refl _) _).trans (hb5.mono (by simp))
       obtain ⟨S5, hS5⟩ := S4.after hb45
       have hcok : ∀ c ∈ cs, CmdOK W5 c := fun c hc => (HC.out.below (S4.below.trans (hb45.mono S4.below.size))).ok c hc
       obtain ⟨a5, cap5, rfl, hcm5⟩ := row_cmds hrow5 HL.out hcok
       have c66 : S5.w.cell? ⟨B, 66, none⟩ = some (.slice ca L ccap) := (cell_of (S5.blocks (B, deltaO D) (by simp)) 66).trans HD.out.c66
       have f66 : S5.w.frozen? ⟨B, 66, none⟩ = false := free_of (S5.blocks (B, deltaO D) (by simp)) 66
       rw [hS5] at hrow5
       have HROW5 := Lib.hid hrow5
       rw [← HL.out] at HROW5 ⊢
       rw [hS5]
       clear hcm5 hcok hb45 hrow5 hb5 hS5)
    | (refine wpList_load_row rfl 25 (.tmp 3) rfl B rfl 25 _ (0, 0) _ (hgA _ _ _) Try.underlying25 rfl (hinfA _ _) ?_))
  obtain ⟨S6, hS6⟩ : ∃ S6 : HeldW w [(B, deltaO (D.setIfInBounds 66 (.slice a5 L cap5))), (w.heap.size, deltaO D)], S5.w.setCell ⟨B, 66, none⟩ (.slice a5 L cap5) = S6.w := ⟨S5.store (i := 66) (v := .slice a5 L cap5) hB0 (by simp; omega) rfl, rfl⟩
  have hD5 := HD.out.set (.slice a5 L cap5)
  have HD5 := Lib.hid hD5
  have hrow6 : S6.w.ownsRow S4.w.heap.size 42 5 (.slice a5 L cap5) L (flat5 cs) := by
    rw [← hS6]
    exact own_store HROW5.out (by rw [HS4B.out]; omega)
  obtain ⟨a6, cap6, he6, hcm6⟩ := row_cmds hrow6 HL.out (fun c hc => (HC.out.below S6.below).ok c hc)
  simp only [Value.slice.injEq] at he6
  obtain ⟨rfl, _, rfl⟩ := he6
  have HCM6 := Lib.hid hcm6
  rw [hS6]
  clear hrow6 hcm6 hD5 hS6
  clear c66 f66 d66 hgA hinfA
  have hinf5 := infoDelta HD5.out
  generalize D.setIfInBounds 66 (.slice a5 L cap5) = D5 at *
  have hD5L := HD5.out
  rw [HL.out] at hD5L
  have hso := dsort_any D5 o n xx y a5 cs cap5 hD5L S6.w HCM6.out (by rw [← HL.out]; omega) (fun c hc => by have := HF.out.1 c hc; omega)
  refine hso.mono ?_
  rintro e w7 ⟨X, g7, es, ls, rfl, hX, hes, hco, hperm, hasc, hbl7⟩
  obtain ⟨S7, hS7⟩ := S6.after hbl7
  have hcm7 := HCM6.out.below hbl7
  rw [hS7] at hes hcm7 ⊢
  clear hso hbl7 hS7
  have hgN7 : (S7.w.alloc (deltaO zeroDel)).heap[S7.w.heap.size]? = some (deltaO zeroDel) := heap_new _ _ rfl
  have hinfX := infoDelta hX
  have honeX := hX.one rfl
  have hszX : zeroDel.size = X.size := by rw [zeroDel_of.size, hX.size]
  go_wp2_with (refine wpList_store_rowTo rfl 25 (.tmp 4) (.tmp 24) rfl rfl S7.w.heap.size X rfl rfl 25 zeroDel hgN7 hinfX hszX honeX ?_; rw [World.setRow_alloc_new])
  obtain ⟨B4, S8, hB4, hB40, hlt8, hS8⟩ := S7.more1 (deltaO X)
  have hbx : Below S7.w.heap.size S7.w S8.w := by rw [← hS8]; exact (Below.refl _ _).alloc (Nat.le_refl _) _
  have hes8 := hes.below hbx
  have hcm8 := hcm7.below hbx
  rw [hS8, ← hB4]
  have hDL := HD.out
  rw [HL.out] at hDL
  clear hS8 hB4 hbx hgN7 honeX hszX hinfX
  have hldX : ∀ W, Below S8.w.heap.size S8.w W → (Instr.loadAt 25 (.pointer (some ⟨B4, 0, none⟩))).run Try.prog W = .ok (.agg X) W := fun W hW => load_delta hX (heap_below (S8.blocks (B4, deltaO X) List.mem_cons_self) hW)
  have hldD : ∀ W, Below S8.w.heap.size S8.w W → (Instr.loadAt 25 (.pointer (some ⟨w.heap.size, 0, none⟩))).run Try.prog W = .ok (.agg D) W := fun W hW => load_delta HD.out (heap_below (S8.blocks (w.heap.size, deltaO D) (by simp)) hW)
  have hld5 : ∀ W, Below S8.w.heap.size S8.w W → (Instr.loadAt 25 (.pointer (some ⟨B, 0, none⟩))).run Try.prog W = .ok (.agg D5) W := fun W hW => load_delta HD5.out (heap_below (S8.blocks (B, deltaO D5) (by simp)) hW)
  have h66 : ∀ W, Below S8.w.heap.size S8.w W → W.cell? ⟨w.heap.size, 66, none⟩ = some (.slice ca L ccap) := fun W hW => (cell_of (heap_below (S8.blocks (w.heap.size, deltaO D) (by simp)) hW) 66).trans HD.out.c66
  have HLX := Lib.hid hldX
  have HLD := Lib.hid hldD
  have HL5 := Lib.hid hld5
  have H66 := Lib.hid h66
  have HX := Lib.hid hX
  have HES := Lib.hid hes8
  have HCM := Lib.hid hcm8
  have HCO := Lib.hid hco
  have HPE := Lib.hid hperm
  have HAS := Lib.hid hasc
  have HDL := Lib.hid hDL
  have HD5L := Lib.hid hD5L
  have HB8 := Lib.hid S8.below
  clear hldX hldD hld5 h66 hX hes8 hcm8 hco hperm hasc hDL hD5L hcm7 hes
  refine wp_region_loose
    [IsV (.agg X), IsV (.agg D), IsV (.pointer (some ⟨w.heap.size, 66, none⟩)), IsV (.slice ca L ccap), IsSl cs, IsDelS o n xx y cs, IsV (.bool true), IsV (.bool false), IsV (.bool false), IsV (.agg D5), IsV (.agg D), IsV (.bool true), IsV (.bool false), IsV (.bool false)]
    [⟨25, [], [4]⟩, ⟨26, [], [1]⟩, ⟨27, [], [1]⟩, ⟨28, [(2, 27)], []⟩, ⟨29, [(3, 28)], []⟩, ⟨30, [(1, 26), (4, 29)], []⟩, ⟨31, [(0, 25), (5, 30)], []⟩, ⟨32, [(6, 31)], []⟩, ⟨33, [(7, 32)], []⟩, ⟨34, [(8, 33)], [3]⟩, ⟨35, [(8, 33)], [1]⟩, ⟨36, [(8, 33), (9, 34), (10, 35)], []⟩, ⟨37, [(8, 33), (11, 36)], []⟩, ⟨38, [(8, 33), (12, 37)], []⟩]
    (fun W => Below S8.w.heap.size S8.w W) (fun W W' => Below W.heap.size W W') (by kernel_rfl) (by kernel_rfl) rfl rfl (Below.refl _ S8.w).drew ?_
    ⟨?_, ?_, ?_, ?_, ?_, ?_, ?_, ?_, ?_, ?_, ?_, ?_, ?_, ?_, trivial⟩ ?_
  · repeat (first | (intro _ h; cases h; done) | refine List.forall_mem_cons.2 ⟨stable_V _ _, ?_⟩ | refine List.forall_mem_cons.2 ⟨stable_sl _, ?_⟩ | refine List.forall_mem_cons.2 ⟨stable_delS _ _ _ _ _, ?_⟩)
  · intro A W hC hd hx
    have hy0 : A.eval (.tmp 4) = .pointer (some ⟨B4, 0, none⟩) := hx 4 (by simp)
    have hld := HLX.out W hC
    clear hd
    refine ⟨fun g hg => (by cases hg), ?_⟩
    generalize A.eval = ρ at hy0 ⊢
    simp [execOp, hy0, hld, looseUpon, factOf]
    exact ⟨hC, Below.refl _ _⟩
  · intro A W hC hd hx
    have hy0 : A.eval (.tmp 1) = .pointer (some ⟨w.heap.size, 0, none⟩) := hx 1 (by simp)
    have hld := HLD.out W hC
    clear hd
    refine ⟨fun g hg => (by cases hg), ?_⟩
    generalize A.eval = ρ at hy0 ⊢
    simp [execOp, hy0, hld, looseUpon, factOf]
    exact ⟨hC, Below.refl _ _⟩
  · intro A W hC hd hx
    have hk : ∀ v, A.eval (.const v) = v := fun _ => rfl
    have hy0 : A.eval (.tmp 1) = .pointer (some ⟨w.heap.size, 0, none⟩) := hx 1 (by simp)
    clear hd
    generalize A.eval = ρ at hk hy0 ⊢
    simp [go_sem, looseUpon, factOf, hk, hy0]
    exact ⟨hC, Below.refl _ _⟩
  · intro A W hC hd hx
    have hk : ∀ v, A.eval (.const v) = v := fun _ => rfl
    have c0 := H66.out W hC
    simp [factOf] at hd
    generalize A.eval = ρ at hd hk ⊢
    simp [go_sem, looseUpon, factOf, hd, hk, c0]
    exact ⟨hC, Below.refl _ _⟩
  · intro A W hC hd hx
    refine ⟨fun g hg => (by cases hg), ?_⟩
    simp [factOf] at hd
    refine loose_call rfl Try.func22 (by kernel_rfl) (by kernel_rfl) ?_
    simp only [List.map_toArray, List.map_cons, List.map_nil, hd]
    have hw := rsort_any ca cs ccap W (HC.out.below (HB8.out.trans (hC.mono HB8.out.size))) (by rw [← HL.out]; omega)
    rw [← HL.out] at hw
    refine hw.mono ?_
    rintro e' W' ⟨a', ls', cap', rfl, h1, h2, h3, h4⟩
    exact ⟨_, rfl, ⟨a', ls', cap', rfl, h1, h2, h3⟩, hC.trans (h4.mono hC.size), h4⟩
  · intro A W hC hd hx
    refine ⟨fun g hg => (by cases hg), ?_⟩
    simp [factOf] at hd
    obtain ⟨hd0, a', ls', cap', hd1, h1, h2, h3⟩ := hd
    refine loose_call rfl Try.func21 (by kernel_rfl) (by kernel_rfl) ?_
    simp only [List.map_toArray, List.map_cons, List.map_nil, hd0, hd1]
    refine (rwith_any D o n xx y _ a' ls'.length cap' HD.out W).mono ?_
    rintro e' W' ⟨D', rfl, h4, h5⟩
    exact ⟨_, rfl, ⟨D', a', ls', cap', rfl, h4, h1.below h5, h2, h3⟩, hC.trans (h5.mono hC.size), h5⟩
  · intro A W hC hd hx
    refine ⟨fun g hg => (by cases hg), ?_⟩
    simp [factOf] at hd
    obtain ⟨hd0, D', a', ls', cap', hd1, h1, h2, h3, h4⟩ := hd
    refine loose_call rfl Try.func20 (by kernel_rfl) (by kernel_rfl) ?_
    simp only [List.map_toArray, List.map_cons, List.map_nil, hd0, hd1]
    have hw := rdsame_any X D' o n o n xx y xx y _ a' es ls' _ cap' HX.out h1 W (HES.out.below hC) h2
    rw [show sameD o n xx y es o n xx y ls' = true by rw [← sorted_same HVD.out HPE.out HAS.out h3 h4]; simp [sameD, HCO.out]] at hw
    refine hw.mono ?_
    rintro e' W' ⟨rfl, h5⟩
    exact ⟨_, rfl, rfl, hC.trans (h5.mono hC.size), h5⟩
  · intro A W hC hd hx
    have hk : ∀ v, A.eval (.const v) = v := fun _ => rfl
    simp [factOf] at hd
    generalize A.eval = ρ at hd hk ⊢
    simp [go_sem, looseUpon, factOf, hd, hk]
    exact ⟨hC, Below.refl _ _⟩
  · intro A W hC hd hx
    have hk : ∀ v, A.eval (.const v) = v := fun _ => rfl
    simp [factOf] at hd
    generalize A.eval = ρ at hd hk ⊢
    simp [go_sem, looseUpon, factOf, hd, hk]
    exact ⟨hC, Below.refl _ _⟩
  · intro A W hC hd hx
    have hy0 : A.eval (.tmp 3) = .pointer (some ⟨B, 0, none⟩) := hx 3 (by simp)
    have hld := HL5.out W hC
    simp [factOf] at hd
    refine ⟨fun g hg => by cases hg; simp [hd], ?_⟩
    generalize A.eval = ρ at hd hy0 ⊢
    simp [execOp, hy0, hld, looseUpon, factOf]
    exact ⟨hC, Below.refl _ _⟩
  · intro A W hC hd hx
    have hy0 : A.eval (.tmp 1) = .pointer (some ⟨w.heap.size, 0, none⟩) := hx 1 (by simp)
    have hld := HLD.out W hC
    simp [factOf] at hd
    refine ⟨fun g hg => by cases hg; simp [hd], ?_⟩
    generalize A.eval = ρ at hd hy0 ⊢
    simp [execOp, hy0, hld, looseUpon, factOf]
    exact ⟨hC, Below.refl _ _⟩
  · intro A W hC hd hx
    simp [factOf] at hd
    obtain ⟨hd0, hd1, hd2⟩ := hd
    refine ⟨fun g hg => by cases hg; simp [hd0], ?_⟩
    refine loose_call rfl Try.func20 (by kernel_rfl) (by kernel_rfl) ?_
    simp only [List.map_toArray, List.map_cons, List.map_nil, hd1, hd2]
    have hw := rdsame_any D5 D o n o n xx y xx y a5 ca cs cs cap5 ccap HD5L.out HDL.out W (HCM.out.below hC) (HC.out.below (HB8.out.trans (hC.mono HB8.out.size)))
    rw [show sameD o n xx y cs o n xx y cs = true by simp [sameD]] at hw
    refine hw.mono ?_
    rintro e' W' ⟨rfl, h5⟩
    exact ⟨_, rfl, rfl, hC.trans (h5.mono hC.size), h5⟩
  · intro A W hC hd hx
    have hk : ∀ v, A.eval (.const v) = v := fun _ => rfl
    simp [factOf] at hd
    generalize A.eval = ρ at hd hk ⊢
    simp [go_sem, looseUpon, factOf, hd, hk]
    exact ⟨hC, Below.refl _ _⟩
  · intro A W hC hd hx
    have hk : ∀ v, A.eval (.const v) = v := fun _ => rfl
    simp [factOf] at hd
    generalize A.eval = ρ at hd hk ⊢
    simp [go_sem, looseUpon, factOf, hd, hk]
    exact ⟨hC, Below.refl _ _⟩
  · intro W hC
    simp only [ends]
    rintro _ rfl _ rfl _ rfl _ rfl v29 _ v30 _ _ rfl _ rfl _ rfl _ rfl _ rfl _ rfl _ rfl _ rfl
    simp only [putAll, List.zip_cons_cons, List.zip_nil_left, List.foldl_cons, List.foldl_nil, Act.put, List.setIfInBounds_toArray, List.set_cons_succ, List.set_cons_zero]
    obtain ⟨R, hR⟩ := S8.after hC
    have hesR := HES.out.below hC
    rw [hR] at hesR
    rw [hR]
    have hve : ValidD o n es := valid_cores HCO.out (HVD.out.perm HPE.out)
    have hsp := sorted_pos hve (asc_cores HCO.out HAS.out)
    have hml : es.length ≤ 40 := by have := cores_len HCO.out; have := HPE.out.length_eq; have := HL.out; omega
    have hnb : n ≤ 4611686018427387903 := by have := hve.lens; unfold LensBad at this; omega
    have HRB := Lib.hid R.below
    have hRD := R.blocks (w.heap.size, deltaO D) (by simp)
    have hRX := R.blocks (B4, deltaO X) List.mem_cons_self
    have hX66 : R.w.cell? ⟨B4, 66, none⟩ = some (.slice (some ⟨g7, 0, none⟩) es.length es.length) := (cell_of hRX 66).trans HX.out.c66
    have HRD := Lib.hid hRD
    have HRX := Lib.hid hRX
    have HER := Lib.hid hesR
    have HVE := Lib.hid hve
    have HSP := Lib.hid hsp
    have hinfX := infoDelta HX.out
    clear hC hR hesR hve hsp hRD hRX
    generalize R.w = W9 at *
    obtain ⟨M, hM⟩ : ∃ M, M = es.length := ⟨_, rfl⟩
    have HM := Lib.hid hM
    rw [← hM] at hml hX66
    clear hM
    go_wp2_with fail
    go_loopw [5, 7, 42] (fun va _ vi wr => ∃ k : Nat, k ≤ M ∧ vi = .int .i64 k ∧ va = .int .i64 (posOf es k) ∧ ∃ s : HeldW W9 [], wr = s.w) (fun _ _ v _ => M - (intOf v).toNat)
    case atStart => exact ⟨0, by omega, rfl, by simp [posOf], HeldW.start W9, rfl⟩
    case round =>
      obtain ⟨k, hk, rfl, rfl, s, rfl⟩ := hrel
      by_cases hlt : k < M
      · obtain ⟨c, hc⟩ : ∃ c, es[k]? = some c := ⟨_, List.getElem?_eq_getElem (by rw [← HM.out]; exact hlt)⟩
        obtain ⟨b', o', ee, x0, x1, x2, x3, x4⟩ := (HER.out.W s).at hc
        simp only [Option.some.injEq, Addr.mk.injEq, and_true] at ee
        obtain ⟨rfl, rfl⟩ := ee
        have htp := HSP.out.1 k c hc
        have hps := posOf_succ hc
        have hsf := (single_facts (HVE.out.all c (List.mem_of_getElem? hc)) HVE.out.lens).2
        have hrl := rlen_any c.k (posOf es k) c.f c.n c.a c.l.length c.cap
        have hcw : c.w = wlen c.k c.n c.l.length := rfl
        rw [htp] at x1 hsf
        rw [hcw] at hps hsf
        simp only [Nat.zero_add] at x0 x1 x2 x3 x4
        have HPS := Lib.hid hps
        generalize wlen c.k c.n c.l.length = q at hrl hps hsf
        generalize hpe : posOf es k = p at *
        obtain ⟨p', hp'⟩ : ∃ p', p' = p + q := ⟨_, rfl⟩
        have hpq : p + q = p' := hp'.symm
        have hb0 : 0 ≤ p ∧ 0 ≤ q ∧ p' ≤ 4611686018427387903 := by omega
        obtain ⟨hb1, hb2, hb3⟩ := hb0
        have HPP := Lib.hid (hps.trans hpq)
        clear hc hps hsf hcw htp hp' hpe HPS
        go_wp2_with fail
        obtain ⟨Bq, s2, hBq, _, _, hS2⟩ := s.more1 (cmdO c.k p c.f c.n (.slice c.a c.l.length c.cap))
        rw [hS2, ← hBq]
        clear hS2 hBq x0 x1 x2 x3 x4
        refine (HeldW.call (s := s2) (hrl _)).mono ?_
        rintro e _ ⟨rfl, s4, rfl⟩
        go_wp2
        go_roundw
        case rel => exact ⟨k + 1, by omega, by go_num, by rw [HPP.out], s4.sub (fun p hp => by simp at hp), rfl⟩
        case measure => simp [intOf]; omega
      · obtain rfl : k = M := by omega
        have hpn : posOf es k = n := by rw [HM.out]; exact HSP.out.2
        rw [hpn]
        go_wp2_with fail
        refine (HeldW.call (s := s) (alive05_gives _)).mono ?_
        rintro e _ ⟨rfl, s4, rfl⟩
        have hn1 : s4.w.cell? ⟨w.heap.size, 1, none⟩ = some (.int .i64 n) := (cell_of (heap_below HRD.out s4.below) 1).trans HD.out.c1
        have hgX := heap_below HRX.out s4.below
        have hvd := dvalid_any X o n xx y _ es _ HX.out s4.w (HER.out.W s4) (by rw [← HM.out]; omega) HO.out HN.out
        rw [show decide ((faultOf o n es).1 = 0) = true from decide_eq_true (faultOf_zero.2 HVE.out)] at hvd
        go_wp2_with (refine wpList_load_rowG rfl 25 (.tmp 4) rfl (some 63) rfl B4 rfl 25 _ (0, 0) _ hgX Try.underlying25 rfl hinfX ?_)
        refine (HeldW.call (s := s4) hvd).mono ?_
        rintro e _ ⟨rfl, s5, rfl⟩
        go_wp2
        go_ret
        exact ⟨by simp, HRB.out.trans (s5.below.mono HRB.out.size)⟩

theorem deltaSorts_walk (o n : Int) (xx y : List Int) (ca : Option Addr) (cs : List Cmd) (ccap : Nat) {w : World} (ho : I64 o) (hn : I64 n) (hx : xx.length = 32) (hy : y.length = 32) (h : CmdsIn w ca cs ccap) :
    Calls Try.prog 6 #[.agg (deltaA o n xx y (.slice ca cs.length ccap))] w (Gives (.bool true) w) := by
  have hD : DeltaOf (deltaA o n xx y (.slice ca cs.length ccap)) o n xx y (.slice ca cs.length ccap) := ⟨rfl, hx, hy⟩
  by_cases hf : FewD cs
  · by_cases hv : ValidD o n cs
    · exact deltaSorts_good _ o n xx y ca cs ccap hD ho hn w h hf hv
    · exact deltaSorts_bad _ o n xx y ca cs ccap hD ho hn w h hf hv
  · exact deltaSorts_big _ o n xx y ca cs ccap hD ho hn w h hf
end Go.Proofs.Ytifdeeaoaekokaa
