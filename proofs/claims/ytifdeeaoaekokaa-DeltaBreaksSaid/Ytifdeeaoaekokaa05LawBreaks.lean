/- DeltaBreaks returns true for every delta and index, and changes nothing that was there. -/
import Derived.Test.Ytifdeeaoaekokaa05Rows
import Derived.Test.Ytifdeeaoaekokaa05RCheck
namespace Go.Proofs.Ytifdeeaoaekokaa
open Go.RowKit Go.Shelf Go.Proofs.Ytifdeeaoaekokaa.Plain01
set_option linter.unusedVariables false
set_option linter.unusedSimpArgs false

set_option maxRecDepth 100000 in
set_option maxHeartbeats 4000000 in
theorem deltaBreaks_big (D : Array Value) (o n : Int) (xx y : List Int) (ca : Option Addr) (cs : List Cmd) (ccap : Nat) (hD : DeltaOf D o n xx y (.slice ca cs.length ccap)) (ho : I64 o) (hn : I64 n) (i : Int) (hi : 0 ≤ i ∧ i ≤ 255) (w : World) (h : CmdsIn w ca cs ccap) (hf : ¬ FewD cs) :
    Calls Try.prog 8 #[.agg D, .int .u8 i] w (Gives (.bool true) w) := by
  obtain ⟨S, hS⟩ := start1 w (deltaO D)
  have hF := few_any D o n xx y ca cs ccap hD S.w (h.W S)
  rw [decide_eq_false hf] at hF
  have hinf := infoDelta hD
  have hg : (w.alloc (deltaO D)).heap[w.heap.size]? = some (deltaO D) := heap_new w _ rfl
  have HS := Lib.hid hS
  clear hS hD h hf
  go_enter Try.func8, Try.ntmps8
  go_wp2_with (refine wpList_load_row rfl 25 (.tmp 2) rfl w.heap.size rfl 25 _ (0, 0) _ hg Try.underlying25 rfl hinf ?_)
  rw [HS.out]
  clear hg
  refine (HeldW.call hF).mono ?_
  rintro e _ ⟨rfl, s2, rfl⟩
  go_wp2_with fail
  refine (HeldW.call (alive05_gives _)).mono ?_
  rintro e _ ⟨rfl, s3, rfl⟩
  go_wp2
  go_ret
  exact ⟨rfl, s3.below⟩

set_option maxRecDepth 100000 in
set_option maxHeartbeats 4000000 in
theorem deltaBreaks_bad (D : Array Value) (o n : Int) (xx y : List Int) (ca : Option Addr) (cs : List Cmd) (ccap : Nat) (hD : DeltaOf D o n xx y (.slice ca cs.length ccap)) (ho : I64 o) (hn : I64 n) (i : Int) (hi : 0 ≤ i ∧ i ≤ 255) (w : World) (h : CmdsIn w ca cs ccap) (hf : FewD cs) (hv : ¬ ValidD o n cs) :
    Calls Try.prog 8 #[.agg D, .int .u8 i] w (Gives (.bool true) w) := by
  obtain ⟨S, hS⟩ := start1 w (deltaO D)
  have hF := few_any D o n xx y ca cs ccap hD S.w (h.W S)
  rw [decide_eq_true hf] at hF
  have HV := Lib.hid (fun s : HeldW w [(w.heap.size, deltaO D)] => rdvalid_any D o n xx y ca cs ccap hD s.w (h.W s))
  have hinf := infoDelta hD
  have hg : (w.alloc (deltaO D)).heap[w.heap.size]? = some (deltaO D) := heap_new w _ rfl
  have HGD := Lib.hid (fun s : HeldW w [(w.heap.size, deltaO D)] => s.blocks (w.heap.size, deltaO D) (by simp))
  have HS := Lib.hid hS
  rw [show decide ((faultOf o n cs).1 = 0) = false from decide_eq_false (fun e => hv (faultOf_zero.1 e))] at HV
  clear hS hD h hf hv
  go_enter Try.func8, Try.ntmps8
  go_wp2_with (refine wpList_load_row rfl 25 (.tmp 2) rfl w.heap.size rfl 25 _ (0, 0) _ hg Try.underlying25 rfl hinf ?_)
  rw [HS.out]
  clear hg
  refine (HeldW.call hF).mono ?_
  rintro e _ ⟨rfl, s2, rfl⟩
  clear hF
  have hg := HGD.out s2
  go_wp2_with (refine wpList_load_rowG rfl 25 (.tmp 2) rfl (some 13) rfl w.heap.size rfl 25 _ (0, 0) _ hg Try.underlying25 rfl hinf ?_)
  clear hg
  refine (HeldW.call (HV.out s2)).mono ?_
  rintro e _ ⟨rfl, s3, rfl⟩
  go_wp2_with fail
  refine (HeldW.call (alive05_gives _)).mono ?_
  rintro e _ ⟨rfl, s4, rfl⟩
  go_wp2
  go_ret
  exact ⟨rfl, s4.below⟩

set_option maxRecDepth 100000 in
set_option maxHeartbeats 4000000 in
theorem deltaBreaks_empty (D : Array Value) (o n : Int) (xx y : List Int) (ca : Option Addr) (cs : List Cmd) (ccap : Nat) (hD : DeltaOf D o n xx y (.slice ca cs.length ccap)) (ho : I64 o) (hn : I64 n) (i : Int) (hi : 0 ≤ i ∧ i ≤ 255) (w : World) (h : CmdsIn w ca cs ccap) (hf : FewD cs) (hv : ValidD o n cs) (h0 : cs.length = 0) :
    Calls Try.prog 8 #[.agg D, .int .u8 i] w (Gives (.bool true) w) := by
  have HD := Lib.hid hD
  obtain ⟨S, hS⟩ := start1 w (deltaO D)
  have hF := few_any D o n xx y ca cs ccap hD S.w (h.W S)
  rw [decide_eq_true hf] at hF
  have HV := Lib.hid (fun s : HeldW w [(w.heap.size, deltaO D)] => rdvalid_any D o n xx y ca cs ccap hD s.w (h.W s))
  have hinf := infoDelta hD
  have hg : (w.alloc (deltaO D)).heap[w.heap.size]? = some (deltaO D) := heap_new w _ rfl
  have HGD := Lib.hid (fun s : HeldW w [(w.heap.size, deltaO D)] => s.blocks (w.heap.size, deltaO D) (by simp))
  have HS := Lib.hid hS
  rw [show decide ((faultOf o n cs).1 = 0) = true from decide_eq_true (faultOf_zero.2 hv)] at HV
  rw [h0] at HD
  clear hS hD h hf hv h0
  go_enter Try.func8, Try.ntmps8
  go_wp2_with (refine wpList_load_row rfl 25 (.tmp 2) rfl w.heap.size rfl 25 _ (0, 0) _ hg Try.underlying25 rfl hinf ?_)
  rw [HS.out]
  clear hg
  refine (HeldW.call hF).mono ?_
  rintro e _ ⟨rfl, s2, rfl⟩
  clear hF
  have hg := HGD.out s2
  go_wp2_with (refine wpList_load_rowG rfl 25 (.tmp 2) rfl (some 13) rfl w.heap.size rfl 25 _ (0, 0) _ hg Try.underlying25 rfl hinf ?_)
  clear hg
  refine (HeldW.call (HV.out s2)).mono ?_
  rintro e _ ⟨rfl, s3, rfl⟩
  obtain ⟨d0, d1, d2⟩ := delta_in s3 w.heap.size D o n xx y _ HD.out (by simp)
  clear d0 d1
  go_wp2_with fail
  refine (HeldW.call (s := s3) (alive05_gives _)).mono ?_
  rintro e _ ⟨rfl, s6, rfl⟩
  go_wp2
  go_ret
  exact ⟨rfl, s6.below⟩

set_option maxRecDepth 100000 in
set_option maxHeartbeats 8000000 in
theorem deltaBreaks_good (D : Array Value) (o n : Int) (xx y : List Int) (ca : Option Addr) (cs : List Cmd) (ccap : Nat) (hD : DeltaOf D o n xx y (.slice ca cs.length ccap)) (ho : I64 o) (hn : I64 n) (i : Int) (hi : 0 ≤ i ∧ i ≤ 255) (w : World) (h : CmdsIn w ca cs ccap) (hf : FewD cs) (hv : ValidD o n cs) (h0 : 0 < cs.length) :
    Calls Try.prog 8 #[.agg D, .int .u8 i] w (Gives (.bool true) w) := by
  obtain ⟨S, hS⟩ := start1 w (deltaO D)
  have hF := few_any D o n xx y ca cs ccap hD S.w (h.W S)
  rw [decide_eq_true hf] at hF
  have HV := Lib.hid (fun s : HeldW w [(w.heap.size, deltaO D)] => rdvalid_any D o n xx y ca cs ccap hD s.w (h.W s))
  rw [show decide ((faultOf o n cs).1 = 0) = true from decide_eq_true (faultOf_zero.2 hv)] at HV
  have hinf := infoDelta hD
  have hg : (w.alloc (deltaO D)).heap[w.heap.size]? = some (deltaO D) := heap_new w _ rfl
  have HGD := Lib.hid (fun s : HeldW w [(w.heap.size, deltaO D)] => s.blocks (w.heap.size, deltaO D) (by simp))
  have HS := Lib.hid hS
  have HD := Lib.hid hD
  have HDD := Lib.hid hD
  have HC := Lib.hid h
  have HF := Lib.hid hf
  have HVD := Lib.hid hv
  have HO := Lib.hid ho
  have HN := Lib.hid hn
  obtain ⟨L, hL⟩ : ∃ L, L = cs.length := ⟨_, rfl⟩
  have hL40 : L ≤ 40 := by rw [hL]; exact hf.2
  rw [← hL] at h0 HD
  have HL := Lib.hid hL
  obtain ⟨q, rfl⟩ : ∃ q : Nat, i = q := ⟨i.toNat, by omega⟩
  have hqb : q < 256 := by omega
  obtain ⟨k, hk⟩ : ∃ k, k = q % L := ⟨_, rfl⟩
  have hkL : k < L := by rw [hk]; exact Nat.mod_lt _ h0
  have hr1 : (q : Int).tmod (L : Int) = k := by rw [hk]; exact (Int.ofNat_tmod q L).symm
  have hr2 : (q : Int) % (L : Int) = k := by rw [hk]; exact (Int.natCast_emod q L).symm
  have e0 : decide ((L : Int) = 0) = false := by simp; omega
  have e1 : ((L : Int) == 0) = false := by simp; omega
  obtain ⟨c, hc⟩ : ∃ c, cs[k]? = some c := ⟨_, List.getElem?_eq_getElem (by omega)⟩
  obtain ⟨b, oo, rfl, x0, x1, x2, x3, x4⟩ := h.at hc
  have HCC := Lib.hid hc
  have HX := Lib.hid (fun s : HeldW w [(w.heap.size, deltaO D)] => (h.W s))
  clear hS hD h hf hv ho hn hL hk hi hc x0 x1 x2 x3 x4
  go_enter Try.func8, Try.ntmps8
  go_wp2_with (refine wpList_load_row rfl 25 (.tmp 2) rfl w.heap.size rfl 25 _ (0, 0) _ hg Try.underlying25 rfl hinf ?_)
  rw [HS.out]
  clear hg
  refine (HeldW.call hF).mono ?_
  rintro e _ ⟨rfl, s2, rfl⟩
  clear hF
  have hg := HGD.out s2
  go_wp2_with (refine wpList_load_rowG rfl 25 (.tmp 2) rfl (some 13) rfl w.heap.size rfl 25 _ (0, 0) _ hg Try.underlying25 rfl hinf ?_)
  clear hg
  refine (HeldW.call (HV.out s2)).mono ?_
  rintro e _ ⟨rfl, s3, rfl⟩
  obtain ⟨d0, d1, d2⟩ := delta_in s3 w.heap.size D o n xx y _ HD.out (by simp)
  obtain ⟨b', o', ee, x0, x1, x2, x3, x4⟩ := (HX.out s3).at HCC.out
  simp only [Option.some.injEq, Addr.mk.injEq, and_true] at ee
  obtain ⟨rfl, rfl⟩ := ee
  clear d0 d1
  go_wp2_with fail
  obtain ⟨B, S4, hB, hB0, hlt4, hS⟩ := s3.more1 (cmdO c.k c.t c.f c.n (.slice c.a c.l.length c.cap))
  rw [hS, ← hB]
  clear hS hB x0 x1 x2 x3 x4 d2 s2
  have hC4 := HC.out.W S4
  have hLcap : L ≤ ccap := by have := HC.out.len; have := HL.out; omega
  have h66 : ∀ W, Below S4.w.heap.size S4.w W → W.cell? ⟨w.heap.size, 66, none⟩ = some (.slice (some ⟨b, oo, none⟩) L ccap) := fun W hW => (cell_of (heap_below (S4.blocks (w.heap.size, deltaO D) (by simp)) hW) 66).trans HD.out.c66
  have hch := cut5_h (b := b) (o := oo) k (by omega : k ≤ L) (by omega) hLcap
  obtain ⟨A5, hcl, hA5⟩ := cut5_l (b := b) (o := oo) (k + 1) (by omega : k + 1 ≤ L) hLcap
  have hcl' : ∀ W, (Instr.slice 23 (.slice (some ⟨b, oo, none⟩) L ccap) (some (.int .i64 ((k : Int) + 1))) none none).run Try.prog W = .ok (.slice (some A5) (L - (k + 1)) (ccap - (k + 1))) W := hcl
  have hnk : ∀ W, Below S4.w.heap.size S4.w W → ∀ (j : Nat) (u : Value), (flat5 (cs.take k))[j]? = some u → W.cell? ((⟨b, oo, none⟩ : Addr).add j) = some u := fun W hW j u hu => by
    have := cmds_news (hC4.below hW) 0 k (by have := HL.out; omega) j u (by simpa using hu)
    simpa using this
  have hnl : ∀ W, Below S4.w.heap.size S4.w W → ∀ (j : Nat) (u : Value), (flat5 (cs.drop (k + 1)))[j]? = some u → W.cell? (A5.add j) = some u := fun W hW j u hu => by
    by_cases hkk : k + 1 < L
    · rw [hA5 hkk]
      refine cmds_news (hC4.below hW) (k + 1) (L - (k + 1)) (by have := HL.out; omega) j u ?_
      rw [List.take_of_length_le (by rw [List.length_drop]; have := HL.out; omega)]
      exact hu
    · rw [List.drop_of_length_le (by have := HL.out; omega)] at hu
      simp [flat5] at hu
  have HNK := Lib.hid hnk
  have HNL := Lib.hid hnl
  have H66 := Lib.hid h66
  have hlk : (flat5 (cs.take k)).length = k * 5 := by rw [flat5_length, List.length_take]; have := HL.out; rw [Nat.min_eq_left (by omega)]
  have hll : (flat5 (cs.drop (k + 1))).length = (L - (k + 1)) * 5 := by rw [flat5_length, List.length_drop]; have := HL.out; rw [← this]
  have HLK := Lib.hid hlk
  have HLL := Lib.hid hll
  have HCH := Lib.hid hch
  have HCL := Lib.hid hcl'
  clear hnk hnl h66 hlk hll hch hcl hcl' hA5 hC4
  refine wp_region_looseT 11
    [IsE5 S4.w.heap.size, IsV (.pointer (some ⟨w.heap.size, 66, none⟩)), IsV (.slice (some ⟨b, oo, none⟩) L ccap), IsV (.int .i64 k), IsV (.slice (some ⟨b, oo, none⟩) k ccap), IsRow S4.w.heap.size k (flat5 (cs.take k)), IsV (.pointer (some ⟨w.heap.size, 66, none⟩)), IsV (.slice (some ⟨b, oo, none⟩) L ccap), IsV (.int .i64 k), IsV (.int .i64 ((k : Int) + 1)), IsV (.slice (some A5) (L - (k + 1)) (ccap - (k + 1)))]
    [⟨35, [], []⟩, ⟨36, [], [2]⟩, ⟨37, [(1, 36)], []⟩, ⟨38, [], [5]⟩, ⟨39, [(2, 37), (3, 38)], []⟩, ⟨40, [(0, 35), (4, 39)], []⟩, ⟨41, [], [2]⟩, ⟨42, [(6, 41)], []⟩, ⟨43, [], [5]⟩, ⟨44, [(8, 43)], []⟩, ⟨45, [(7, 42), (9, 44)], []⟩]
    (fun W => Below S4.w.heap.size S4.w W) (fun W W' => Below W.heap.size W W') (by kernel_rfl) (by kernel_rfl) (by kernel_rfl) rfl rfl (Below.refl _ S4.w).drew ?_
    ⟨?_, ?_, ?_, ?_, ?_, ?_, ?_, ?_, ?_, ?_, ?_, trivial⟩ ?_
  · repeat (first | (intro _ h; cases h; done) | refine List.forall_mem_cons.2 ⟨stable_V _ _, ?_⟩ | refine List.forall_mem_cons.2 ⟨stable_E5 _, ?_⟩ | refine List.forall_mem_cons.2 ⟨stable_row _ _ _, ?_⟩)
  · intro A W hC hd hx
    refine ⟨fun g hg => (by cases hg), ?_⟩
    clear hd
    have hE5 := isE5_new (W := W) (base := S4.w.heap.size) hC.size
    simp [go_sem, looseUpon, factOf]
    exact ⟨hE5, hC.alloc hC.size _, (Below.refl _ W).alloc (Nat.le_refl _) _⟩
  · intro A W hC hd hx
    have hk : ∀ v, A.eval (.const v) = v := fun _ => rfl
    have hy0 : A.eval (.tmp 2) = .pointer (some ⟨w.heap.size, 0, none⟩) := hx 2 (by simp)
    clear hd
    generalize A.eval = ρ at hk hy0 ⊢
    simp [go_sem, looseUpon, factOf, hk, hy0]
    exact ⟨hC, Below.refl _ _⟩
  · intro A W hC hd hx
    have hk : ∀ v, A.eval (.const v) = v := fun _ => rfl
    have c0 := H66.out W hC
    simp [factOf] at hd
    generalize A.eval = ρ at hd hk ⊢
    simp [go_sem, looseUpon, factOf, hd, hk, c0]
    exact ⟨hC, Below.refl _ _⟩
  · intro A W hC hd hx
    have hk : ∀ v, A.eval (.const v) = v := fun _ => rfl
    have hy0 : A.eval (.tmp 5) = .int .i64 k := hx 5 (by simp)
    clear hd
    generalize A.eval = ρ at hk hy0 ⊢
    simp [go_sem, looseUpon, factOf, hk, hy0]
    exact ⟨hC, Below.refl _ _⟩
  · intro A W hC hd hx
    have hk : ∀ v, A.eval (.const v) = v := fun _ => rfl
    have c0 := HCH.out
    simp [factOf] at hd
    generalize A.eval = ρ at hd hk ⊢
    simp [go_sem, looseUpon, factOf, hd, hk, c0]
    exact ⟨hC, Below.refl _ _⟩
  · intro A W hC hd hx
    refine ⟨fun g hg => (by cases hg), ?_⟩
    simp [factOf] at hd
    obtain ⟨hd1, hd2⟩ := hd
    obtain ⟨v', W', hrun, hrow, hb⟩ := run_append_fresh5 (base := S4.w.heap.size) hC.size hd1 ⟨b, oo, none⟩ k ccap (flat5 (cs.take k)) HLK.out (HNK.out W hC) (flat5_one _) (by omega) 23
    obtain ⟨p, hp, _⟩ := hd1
    rw [hp] at hrun
    generalize A.eval = ρ at hp hd2 ⊢
    simp [execOp, resolve, invoke, builtin, hp, hd2, hrun, looseUpon, factOf]
    exact ⟨hrow, hC.trans (hb.mono hC.size), hb⟩
  · intro A W hC hd hx
    have hk : ∀ v, A.eval (.const v) = v := fun _ => rfl
    have hy0 : A.eval (.tmp 2) = .pointer (some ⟨w.heap.size, 0, none⟩) := hx 2 (by simp)
    clear hd
    generalize A.eval = ρ at hk hy0 ⊢
    simp [go_sem, looseUpon, factOf, hk, hy0]
    exact ⟨hC, Below.refl _ _⟩
  · intro A W hC hd hx
    have hk : ∀ v, A.eval (.const v) = v := fun _ => rfl
    have c0 := H66.out W hC
    simp [factOf] at hd
    generalize A.eval = ρ at hd hk ⊢
    simp [go_sem, looseUpon, factOf, hd, hk, c0]
    exact ⟨hC, Below.refl _ _⟩
  · intro A W hC hd hx
    have hk : ∀ v, A.eval (.const v) = v := fun _ => rfl
    have hy0 : A.eval (.tmp 5) = .int .i64 k := hx 5 (by simp)
    clear hd
    generalize A.eval = ρ at hk hy0 ⊢
    simp [go_sem, looseUpon, factOf, hk, hy0]
    exact ⟨hC, Below.refl _ _⟩
  · intro A W hC hd hx
    have hk : ∀ v, A.eval (.const v) = v := fun _ => rfl
    have c0 : IntKind.i64.wrap ((k : Int) + 1) = (k : Int) + 1 := by rw [IntKind.wrap_i64] <;> omega
    simp [factOf] at hd
    generalize A.eval = ρ at hd hk ⊢
    simp [go_sem, looseUpon, factOf, hd, hk, c0]
    exact ⟨hC, Below.refl _ _⟩
  · intro A W hC hd hx
    have hk : ∀ v, A.eval (.const v) = v := fun _ => rfl
    have c0 := HCL.out
    simp [factOf] at hd
    generalize A.eval = ρ at hd hk ⊢
    simp [go_sem, looseUpon, factOf, hd, hk, c0]
    exact ⟨hC, Below.refl _ _⟩
  · intro W hC
    simp only [ends]
    rintro _ ⟨g5, rfl, _⟩ _ rfl _ rfl _ rfl _ rfl v5 hrow _ rfl _ rfl _ rfl _ rfl _ rfl
    simp only [putAll, List.zip_cons_cons, List.zip_nil_left, List.foldl_cons, List.foldl_nil, Act.put, List.setIfInBounds_toArray, List.set_cons_succ, List.set_cons_zero, List.drop_succ_cons, List.drop_zero]
    obtain ⟨P0, hP0⟩ : ∃ P0 : Piles S4.w [⟨42, 5, v5, k, flat5 (cs.take k)⟩], W = P0.w := ⟨⟨W, hC, all1 hrow, by simp⟩, rfl⟩
    have hNL := HNL.out W hC
    rw [hP0] at hNL
    rw [hP0]
    clear hP0 hrow hC
    obtain ⟨E, hE⟩ := elem5
    refine wpList_append_pilesS E P0 (.tmp 40) (.tmp 45) rfl rfl rfl (some A5) (L - (k + 1)) (ccap - (k + 1)) (flat5 (cs.drop (k + 1))) HLL.out rfl (fun h => by cases h) (fun ad had j u hu => ?_) (flat5_one _) (by unfold maxLen; omega) (by rw [hE]; omega) (fun v7 S7 => ?_)
    · cases had
      exact hNL j u hu
    have hrow7 := S7.rows _ List.mem_cons_self
    obtain ⟨T, hT⟩ := S4.after S7.below
    have hcT := HC.out.W T
    have hes : cs = cs.take k ++ c :: cs.drop (k + 1) := by
      have hkl : k < cs.length := by rw [← HL.out]; exact hkL
      have hck : cs[k] = c := by
        have := HCC.out
        rw [List.getElem?_eq_getElem hkl] at this
        exact Option.some.inj this
      rw [← hck, ← List.drop_eq_getElem_cons hkl, List.take_append_drop]
    obtain ⟨ds, hds⟩ : ∃ ds, ds = cs.take k ++ cs.drop (k + 1) := ⟨_, rfl⟩
    have hdl : ds.length = k + (L - (k + 1)) := by rw [hds, List.length_append, List.length_take, List.length_drop, ← HL.out, Nat.min_eq_left (by omega)]
    have hdm : ∀ x ∈ ds, x ∈ cs := fun x hx => by
      rw [hds] at hx
      rcases List.mem_append.1 hx with hx | hx
      · exact List.mem_of_mem_take hx
      · exact List.mem_of_mem_drop hx
    have hfl : faultOf o n ds = (3, c.t) := by
      have := HVD.out
      rw [hes] at this
      rw [hds]
      exact faultOf_eq this.less
    obtain ⟨a7, cap7, rfl, hc7⟩ := row_cmds (W := S7.w) (base := S4.w.heap.size) (n := k + (L - (k + 1))) (v := v7) (cs := ds) (by rw [hds, flat5_append]; exact hrow7) hdl.symm (fun x hx => by rw [hT]; exact hcT.ok x (hdm x hx))
    rw [hT] at hc7 ⊢
    have HFL := Lib.hid hfl
    have HDM := Lib.hid hdm
    have HDL := Lib.hid hdl
    have HC7 := Lib.hid hc7
    clear hds hes hrow7 hT hfl hdm hdl hc7 P0 hNL HNK HNL HLK HLL HCH HCL H66 hlt4 S7
    obtain ⟨M7, hM7⟩ : ∃ M7, M7 = ds.length := ⟨_, rfl⟩
    have HM7 := Lib.hid hM7
    rw [← hM7]
    clear hM7
    go_wp2_with fail
    have h66 : ∀ W, Below T.w.heap.size T.w W → W.cell? ⟨w.heap.size, 66, none⟩ = some (.slice (some ⟨b, oo, none⟩) L ccap) := fun W hW => (cell_of (heap_below (T.blocks (w.heap.size, deltaO D) (by simp)) hW) 66).trans HD.out.c66
    have hcb := cmd_later (T.blocks (B, cmdO c.k c.t c.f c.n (.slice c.a c.l.length c.cap)) List.mem_cons_self)
    have hna : ∀ W, Below T.w.heap.size T.w W → ∀ (j : Nat) (u : Value), (flat5 cs)[j]? = some u → W.cell? ((⟨b, oo, none⟩ : Addr).add j) = some u := fun W hW j u hu => by
      have := cmds_news (hcT.below hW) 0 L (by rw [HL.out]; omega) j u (by rw [List.drop_zero, HL.out, List.take_length]; exact hu)
      simpa using this
    have hla : (flat5 cs).length = L * 5 := by rw [flat5_length, ← HL.out]
    have H66 := Lib.hid h66
    have HCB := Lib.hid hcb
    have HNA := Lib.hid hna
    have HLA := Lib.hid hla
    clear h66 hcb hna hla hcT
    refine wp_region_looseT 6
      [IsE5 T.w.heap.size, IsV (.pointer (some ⟨w.heap.size, 66, none⟩)), IsV (.slice (some ⟨b, oo, none⟩) L ccap), IsRow T.w.heap.size L (flat5 cs), IsV (cmdV c.k c.t c.f c.n (.slice c.a c.l.length c.cap)), IsOne5 c]
      [⟨47, [], []⟩, ⟨48, [], [2]⟩, ⟨49, [(1, 48)], []⟩, ⟨50, [(0, 47), (2, 49)], []⟩, ⟨51, [], [6]⟩, ⟨52, [(4, 51)], []⟩]
      (fun W => Below T.w.heap.size T.w W) (fun W W' => Below W.heap.size W W') (by kernel_rfl) (by kernel_rfl) (by kernel_rfl) rfl rfl (Below.refl _ T.w).drew ?_
      ⟨?_, ?_, ?_, ?_, ?_, ?_, trivial⟩ ?_
    · repeat (first | (intro _ h; cases h; done) | refine List.forall_mem_cons.2 ⟨stable_V _ _, ?_⟩ | refine List.forall_mem_cons.2 ⟨stable_E5 _, ?_⟩ | refine List.forall_mem_cons.2 ⟨stable_row _ _ _, ?_⟩ | refine List.forall_mem_cons.2 ⟨stable_One5 _, ?_⟩)
    · intro A W hC hd hx
      refine ⟨fun g hg => (by cases hg), ?_⟩
      clear hd
      have hE5 := isE5_new (W := W) (base := T.w.heap.size) hC.size
      simp [go_sem, looseUpon, factOf]
      exact ⟨hE5, hC.alloc hC.size _, (Below.refl _ W).alloc (Nat.le_refl _) _⟩
    · intro A W hC hd hx
      have hk : ∀ v, A.eval (.const v) = v := fun _ => rfl
      have hy0 : A.eval (.tmp 2) = .pointer (some ⟨w.heap.size, 0, none⟩) := hx 2 (by simp)
      clear hd
      generalize A.eval = ρ at hk hy0 ⊢
      simp [go_sem, looseUpon, factOf, hk, hy0]
      exact ⟨hC, Below.refl _ _⟩
    · intro A W hC hd hx
      have hk : ∀ v, A.eval (.const v) = v := fun _ => rfl
      have c0 := H66.out W hC
      simp [factOf] at hd
      generalize A.eval = ρ at hd hk ⊢
      simp [go_sem, looseUpon, factOf, hd, hk, c0]
      exact ⟨hC, Below.refl _ _⟩
    · intro A W hC hd hx
      refine ⟨fun g hg => (by cases hg), ?_⟩
      simp [factOf] at hd
      obtain ⟨hd1, hd2⟩ := hd
      obtain ⟨v', W', hrun, hrow, hb⟩ := run_append_fresh5 (base := T.w.heap.size) hC.size hd1 ⟨b, oo, none⟩ L ccap (flat5 cs) HLA.out (HNA.out W hC) (flat5_one _) (by omega) 23
      obtain ⟨p, hp, _⟩ := hd1
      rw [hp] at hrun
      generalize A.eval = ρ at hp hd2 ⊢
      simp [execOp, resolve, invoke, builtin, hp, hd2, hrun, looseUpon, factOf]
      exact ⟨hrow, hC.trans (hb.mono hC.size), hb⟩
    · intro A W hC hd hx
      have hk : ∀ v, A.eval (.const v) = v := fun _ => rfl
      have hy0 : A.eval (.tmp 6) = .pointer (some ⟨B, 0, none⟩) := hx 6 (by simp)
      have c0 := (HCB.out W hC).1
      have c1 := (HCB.out W hC).2.1
      have c2 := (HCB.out W hC).2.2.1
      have c3 := (HCB.out W hC).2.2.2.1
      have c4 := (HCB.out W hC).2.2.2.2
      clear hd
      generalize A.eval = ρ at hk hy0 ⊢
      simp [go_sem, looseUpon, factOf, hk, hy0, c0, c1, c2, c3, c4]
      exact ⟨hC, Below.refl _ _⟩
    · intro A W hC hd hx
      refine ⟨fun g hg => (by cases hg), ?_⟩
      simp [factOf] at hd
      generalize A.eval = ρ at hd ⊢
      simp [go_sem, looseUpon, factOf, hd]
      exact ⟨⟨W.heap.size, rfl, heap_new W _ rfl⟩, hC.alloc hC.size _, (Below.refl _ W).alloc (Nat.le_refl _) _⟩
    · intro W hC
      simp only [ends]
      rintro _ ⟨g6, rfl, _⟩ _ rfl _ rfl v6 hrow _ rfl _ ⟨B6, rfl, hB6⟩
      simp only [putAll, List.zip_cons_cons, List.zip_nil_left, List.foldl_cons, List.foldl_nil, Act.put, List.setIfInBounds_toArray, List.set_cons_succ, List.set_cons_zero, List.drop_succ_cons, List.drop_zero]
      obtain ⟨P0, hP0⟩ : ∃ P0 : Piles T.w [⟨42, 5, v6, L, flat5 cs⟩], W = P0.w := ⟨⟨W, hC, all1 hrow, by simp⟩, rfl⟩
      rw [hP0] at hB6 ⊢
      clear hP0 hrow hC
      obtain ⟨E, hE⟩ := elem5
      refine wpList_append_pilesS E P0 (.tmp 50) (.tmp 52) rfl rfl rfl (some ⟨B6, 0, none⟩) 1 1 (flat5 [c]) rfl rfl (fun h => by cases h) (fun ad had j u hu => ?_) (flat5_one _) (by unfold maxLen; omega) (by rw [hE]; omega) (fun v8 S8 => ?_)
      · cases had
        rw [Addr.add_mid, Nat.zero_add, cell_of hB6]
        simpa [flat5] using hu
      have hrow8 := S8.rows _ List.mem_cons_self
      obtain ⟨R, hR⟩ := T.after S8.below
      have hcR := HC.out.W R
      have hmem : ∀ x ∈ cs ++ [c], x ∈ cs := fun x hx => by
        rcases List.mem_append.1 hx with hx | hx
        · exact hx
        · simp only [List.mem_cons, List.not_mem_nil, or_false] at hx
          subst hx
          exact List.mem_of_getElem? HCC.out
      have hel : (cs ++ [c]).length = L + 1 := by rw [List.length_append, ← HL.out]; rfl
      have hfe : faultOf o n (cs ++ [c]) = (4, (L : Int)) := by
        rw [HL.out]
        exact faultOf_eq (HVD.out.more (List.mem_of_getElem? HCC.out))
      have hc7 : CmdsIn R.w a7 ds cap7 := HC7.out.below (by rw [← hR]; exact S8.below)
      obtain ⟨a8, cap8, rfl, hc8⟩ := row_cmds (W := S8.w) (base := T.w.heap.size) (n := L + 1) (v := v8) (cs := cs ++ [c]) (by rw [flat5_append]; exact hrow8) hel.symm (fun x hx => by rw [hR]; exact hcR.ok x (hmem x hx))
      rw [hR] at hc8 ⊢
      have HC7R := Lib.hid hc7
      have HC8R := Lib.hid hc8
      have HFE := Lib.hid hfe
      have HMEM := Lib.hid hmem
      have HEL := Lib.hid hel
      clear hfe hc7 hc8 hel hmem hrow8 hR hcR P0 hB6 HNA HLA HCB H66 S8 HC7
      obtain ⟨es, hes⟩ : ∃ es, es = cs ++ [c] := ⟨_, rfl⟩
      rw [← hes] at HFE HMEM HEL HC8R ⊢
      clear hes
      obtain ⟨M8, hM8⟩ : ∃ M8, M8 = es.length := ⟨_, rfl⟩
      have HM8 := Lib.hid hM8
      rw [← hM8]
      clear hM8
      go_wp2_with fail
      have hld : ∀ W, Below R.w.heap.size R.w W → (Instr.loadAt 25 (.pointer (some ⟨w.heap.size, 0, none⟩))).run Try.prog W = .ok (.agg D) W := fun W hW => load_delta HDD.out (heap_below (R.blocks (w.heap.size, deltaO D) (by simp)) hW)
      have h66 : ∀ W, Below R.w.heap.size R.w W → W.cell? ⟨w.heap.size, 66, none⟩ = some (.slice (some ⟨b, oo, none⟩) L ccap) := fun W hW => (cell_of (heap_below (R.blocks (w.heap.size, deltaO D) (by simp)) hW) 66).trans HD.out.c66
      have hcb := cmd_later (R.blocks (B, cmdO c.k c.t c.f c.n (.slice c.a c.l.length c.cap)) List.mem_cons_self)
      have HLD := Lib.hid hld
      have H66 := Lib.hid h66
      have HCB := Lib.hid hcb
      clear hld h66 hcb
      refine wp_region_loose
        [IsV (.bool true), IsV (.bool true), IsV (.agg D), IsV (.slice a7 M7 cap7), IsDel o n xx y ds, IsV (faultV 3 c.t), IsV (.pointer (some ⟨B, 1, none⟩)), IsV (.int .i64 c.t), IsV (faultV 3 c.t), IsV (.bool true), IsV (.bool true), IsV (.bool true), IsV (.agg D), IsV (.slice a8 M8 cap8), IsDel o n xx y es, IsV (faultV 4 L), IsV (.pointer (some ⟨w.heap.size, 66, none⟩)), IsV (.slice (some ⟨b, oo, none⟩) L ccap), IsV (.int .i64 L), IsV (faultV 4 L), IsV (.bool true), IsV (.bool true), IsV (.bool true)]
        [⟨54, [], []⟩, ⟨55, [(0, 54)], []⟩, ⟨56, [(1, 55)], [2]⟩, ⟨57, [(1, 55)], [7]⟩, ⟨58, [(1, 55), (2, 56), (3, 57)], []⟩, ⟨59, [(1, 55), (4, 58)], []⟩, ⟨60, [(1, 55)], [6]⟩, ⟨61, [(1, 55), (6, 60)], []⟩, ⟨62, [(1, 55), (7, 61)], []⟩, ⟨63, [(1, 55), (5, 59), (8, 62)], []⟩, ⟨64, [(1, 55), (9, 63)], []⟩, ⟨65, [(10, 64)], []⟩, ⟨66, [(11, 65)], [2]⟩, ⟨67, [(11, 65)], [8]⟩, ⟨68, [(11, 65), (12, 66), (13, 67)], []⟩, ⟨69, [(11, 65), (14, 68)], []⟩, ⟨70, [(11, 65)], [2]⟩, ⟨71, [(11, 65), (16, 70)], []⟩, ⟨72, [(11, 65), (17, 71)], []⟩, ⟨73, [(11, 65), (18, 72)], []⟩, ⟨74, [(11, 65), (15, 69), (19, 73)], []⟩, ⟨75, [(11, 65), (20, 74)], []⟩, ⟨4, [(21, 75)], []⟩]
        (fun W => Below R.w.heap.size R.w W) (fun W W' => Below W.heap.size W W') (by kernel_rfl) (by kernel_rfl) rfl rfl (Below.refl _ R.w).drew ?_
        ⟨?_, ?_, ?_, ?_, ?_, ?_, ?_, ?_, ?_, ?_, ?_, ?_, ?_, ?_, ?_, ?_, ?_, ?_, ?_, ?_, ?_, ?_, ?_, trivial⟩ ?_
      · repeat (first | (intro _ h; cases h; done) | refine List.forall_mem_cons.2 ⟨stable_V _ _, ?_⟩ | refine List.forall_mem_cons.2 ⟨stable_del _ _ _ _ _, ?_⟩)
      · intro A W hC hd hx
        refine ⟨fun g hg => (by cases hg), ?_⟩
        refine loose_call rfl Try.func10 (by kernel_rfl) (by kernel_rfl) ?_
        rw [show (#[] : Array Operand).map A.eval = #[] by simp]
        refine (alive05_gives W).mono ?_
        rintro e' W' ⟨rfl, h4⟩
        exact ⟨_, rfl, rfl, hC.trans (h4.mono hC.size), h4⟩
      · intro A W hC hd hx
        have hk : ∀ v, A.eval (.const v) = v := fun _ => rfl
        simp [factOf] at hd
        generalize A.eval = ρ at hd hk ⊢
        simp [go_sem, looseUpon, factOf, hd, hk]
        exact ⟨hC, Below.refl _ _⟩
      · intro A W hC hd hx
        have hy0 : A.eval (.tmp 2) = .pointer (some ⟨w.heap.size, 0, none⟩) := hx 2 (by simp)
        have hld := HLD.out W hC
        simp [factOf] at hd
        refine ⟨fun g hg => by cases hg; simp [hd], ?_⟩
        generalize A.eval = ρ at hd hy0 ⊢
        simp [execOp, hy0, hld, looseUpon, factOf]
        exact ⟨hC, Below.refl _ _⟩
      · intro A W hC hd hx
        have hk : ∀ v, A.eval (.const v) = v := fun _ => rfl
        have hy0 : A.eval (.tmp 7) = .slice a7 M7 cap7 := hx 7 (by simp)
        simp [factOf] at hd
        generalize A.eval = ρ at hd hk hy0 ⊢
        simp [go_sem, looseUpon, factOf, hd, hk, hy0]
        exact ⟨hC, Below.refl _ _⟩
      · intro A W hC hd hx
        simp [factOf] at hd
        obtain ⟨hd0, hd1, hd2⟩ := hd
        refine ⟨fun g hg => by cases hg; simp [hd0], ?_⟩
        refine loose_call rfl Try.func24 (by kernel_rfl) (by kernel_rfl) ?_
        simp only [List.map_toArray, List.map_cons, List.map_nil, hd1, hd2]
        have hw := dwith_any D o n xx y _ a7 ds cap7 HDD.out W (HC7R.out.below hC) (by have := HDL.out; omega) (fun x hx => by have := HF.out.1 x (HDM.out x hx); omega)
        rw [← HM7.out] at hw
        refine hw.mono ?_
        rintro e' W' ⟨D', g, es', rfl, h1, h2, h3, h4⟩
        exact ⟨_, rfl, ⟨D', g, es', rfl, h1, h2, h3⟩, hC.trans (h4.mono hC.size), h4⟩
      · intro A W hC hd hx
        simp [factOf] at hd
        obtain ⟨hd0, D', g', es', hd1, h1, h2, h3⟩ := hd
        refine ⟨fun g hg => by cases hg; simp [hd0], ?_⟩
        refine loose_call rfl Try.func12 (by kernel_rfl) (by kernel_rfl) ?_
        simp only [List.map_toArray, List.map_cons, List.map_nil, hd1]
        have hw := dcheck_any D' o n xx y _ es' _ h1 W h2 (by have := cores_len h3; have := HDL.out; omega) HO.out HN.out
        rw [faultOf_cores h3, HFL.out] at hw
        refine hw.mono ?_
        rintro e' W' ⟨rfl, h4⟩
        exact ⟨_, rfl, rfl, hC.trans (h4.mono hC.size), h4⟩
      · intro A W hC hd hx
        have hk : ∀ v, A.eval (.const v) = v := fun _ => rfl
        have hy0 : A.eval (.tmp 6) = .pointer (some ⟨B, 0, none⟩) := hx 6 (by simp)
        simp [factOf] at hd
        generalize A.eval = ρ at hd hk hy0 ⊢
        simp [go_sem, looseUpon, factOf, hd, hk, hy0]
        exact ⟨hC, Below.refl _ _⟩
      · intro A W hC hd hx
        have hk : ∀ v, A.eval (.const v) = v := fun _ => rfl
        have c1 := (HCB.out W hC).2.1
        simp [factOf] at hd
        generalize A.eval = ρ at hd hk ⊢
        simp [go_sem, looseUpon, factOf, hd, hk, c1]
        exact ⟨hC, Below.refl _ _⟩
      · intro A W hC hd hx
        have hk : ∀ v, A.eval (.const v) = v := fun _ => rfl
        simp [factOf] at hd
        generalize A.eval = ρ at hd hk ⊢
        simp [go_sem, looseUpon, factOf, hd, hk]
        exact ⟨hC, Below.refl _ _⟩
      · intro A W hC hd hx
        have hk : ∀ v, A.eval (.const v) = v := fun _ => rfl
        simp [factOf] at hd
        generalize A.eval = ρ at hd hk ⊢
        simp [go_sem, looseUpon, factOf, hd, hk]
        exact ⟨hC, Below.refl _ _⟩
      · intro A W hC hd hx
        have hk : ∀ v, A.eval (.const v) = v := fun _ => rfl
        simp [factOf] at hd
        generalize A.eval = ρ at hd hk ⊢
        simp [go_sem, looseUpon, factOf, hd, hk]
        exact ⟨hC, Below.refl _ _⟩
      · intro A W hC hd hx
        have hk : ∀ v, A.eval (.const v) = v := fun _ => rfl
        simp [factOf] at hd
        generalize A.eval = ρ at hd hk ⊢
        simp [go_sem, looseUpon, factOf, hd, hk]
        exact ⟨hC, Below.refl _ _⟩
      · intro A W hC hd hx
        have hy0 : A.eval (.tmp 2) = .pointer (some ⟨w.heap.size, 0, none⟩) := hx 2 (by simp)
        have hld := HLD.out W hC
        simp [factOf] at hd
        refine ⟨fun g hg => by cases hg; simp [hd], ?_⟩
        generalize A.eval = ρ at hd hy0 ⊢
        simp [execOp, hy0, hld, looseUpon, factOf]
        exact ⟨hC, Below.refl _ _⟩
      · intro A W hC hd hx
        have hk : ∀ v, A.eval (.const v) = v := fun _ => rfl
        have hy0 : A.eval (.tmp 8) = .slice a8 M8 cap8 := hx 8 (by simp)
        simp [factOf] at hd
        generalize A.eval = ρ at hd hk hy0 ⊢
        simp [go_sem, looseUpon, factOf, hd, hk, hy0]
        exact ⟨hC, Below.refl _ _⟩
      · intro A W hC hd hx
        simp [factOf] at hd
        obtain ⟨hd0, hd1, hd2⟩ := hd
        refine ⟨fun g hg => by cases hg; simp [hd0], ?_⟩
        refine loose_call rfl Try.func24 (by kernel_rfl) (by kernel_rfl) ?_
        simp only [List.map_toArray, List.map_cons, List.map_nil, hd1, hd2]
        have hw := dwith_any D o n xx y _ a8 es cap8 HDD.out W (HC8R.out.below hC) (by have := HEL.out; omega) (fun x hx => by have := HF.out.1 x (HMEM.out x hx); omega)
        rw [← HM8.out] at hw
        refine hw.mono ?_
        rintro e' W' ⟨D', g, es', rfl, h1, h2, h3, h4⟩
        exact ⟨_, rfl, ⟨D', g, es', rfl, h1, h2, h3⟩, hC.trans (h4.mono hC.size), h4⟩
      · intro A W hC hd hx
        simp [factOf] at hd
        obtain ⟨hd0, D', g', es', hd1, h1, h2, h3⟩ := hd
        refine ⟨fun g hg => by cases hg; simp [hd0], ?_⟩
        refine loose_call rfl Try.func12 (by kernel_rfl) (by kernel_rfl) ?_
        simp only [List.map_toArray, List.map_cons, List.map_nil, hd1]
        have hw := dcheck_any D' o n xx y _ es' _ h1 W h2 (by have := cores_len h3; have := HEL.out; omega) HO.out HN.out
        rw [faultOf_cores h3, HFE.out] at hw
        refine hw.mono ?_
        rintro e' W' ⟨rfl, h4⟩
        exact ⟨_, rfl, rfl, hC.trans (h4.mono hC.size), h4⟩
      · intro A W hC hd hx
        have hk : ∀ v, A.eval (.const v) = v := fun _ => rfl
        have hy0 : A.eval (.tmp 2) = .pointer (some ⟨w.heap.size, 0, none⟩) := hx 2 (by simp)
        simp [factOf] at hd
        generalize A.eval = ρ at hd hk hy0 ⊢
        simp [go_sem, looseUpon, factOf, hd, hk, hy0]
        exact ⟨hC, Below.refl _ _⟩
      · intro A W hC hd hx
        have hk : ∀ v, A.eval (.const v) = v := fun _ => rfl
        have c0 := H66.out W hC
        simp [factOf] at hd
        generalize A.eval = ρ at hd hk ⊢
        simp [go_sem, looseUpon, factOf, hd, hk, c0]
        exact ⟨hC, Below.refl _ _⟩
      · intro A W hC hd hx
        have hk : ∀ v, A.eval (.const v) = v := fun _ => rfl
        simp [factOf] at hd
        generalize A.eval = ρ at hd hk ⊢
        simp [go_sem, looseUpon, factOf, hd, hk]
        exact ⟨hC, Below.refl _ _⟩
      · intro A W hC hd hx
        have hk : ∀ v, A.eval (.const v) = v := fun _ => rfl
        simp [factOf] at hd
        generalize A.eval = ρ at hd hk ⊢
        simp [go_sem, looseUpon, factOf, hd, hk]
        exact ⟨hC, Below.refl _ _⟩
      · intro A W hC hd hx
        have hk : ∀ v, A.eval (.const v) = v := fun _ => rfl
        simp [factOf] at hd
        generalize A.eval = ρ at hd hk ⊢
        simp [go_sem, looseUpon, factOf, hd, hk]
        exact ⟨hC, Below.refl _ _⟩
      · intro A W hC hd hx
        have hk : ∀ v, A.eval (.const v) = v := fun _ => rfl
        simp [factOf] at hd
        generalize A.eval = ρ at hd hk ⊢
        simp [go_sem, looseUpon, factOf, hd, hk]
        exact ⟨hC, Below.refl _ _⟩
      · intro A W hC hd hx
        have hk : ∀ v, A.eval (.const v) = v := fun _ => rfl
        simp [factOf] at hd
        generalize A.eval = ρ at hd hk ⊢
        simp [go_sem, looseUpon, factOf, hd, hk]
        exact ⟨hC, Below.refl _ _⟩
      · intro W hC
        simp only [ends]
        rintro _ rfl _ rfl _ rfl _ rfl v58 _ _ rfl _ rfl _ rfl _ rfl _ rfl _ rfl _ rfl _ rfl _ rfl v68 _ _ rfl _ rfl _ rfl _ rfl _ rfl _ rfl _ rfl _ rfl
        simp only [putAll, List.zip_cons_cons, List.zip_nil_left, List.foldl_cons, List.foldl_nil, Act.put, List.setIfInBounds_toArray, List.set_cons_succ, List.set_cons_zero]
        have hbl : Below w.heap.size w W := R.below.trans (hC.mono R.below.size)
        clear hC
        go_wp2
        go_ret
        exact ⟨rfl, hbl⟩

theorem deltaBreaks_walk (o n : Int) (xx y : List Int) (ca : Option Addr) (cs : List Cmd) (ccap : Nat) (i : Int) {w : World} (ho : I64 o) (hn : I64 n) (hx : xx.length = 32) (hy : y.length = 32) (h : CmdsIn w ca cs ccap) (hi : 0 ≤ i ∧ i ≤ 255) :
    Calls Try.prog 8 #[.agg (deltaA o n xx y (.slice ca cs.length ccap)), .int .u8 i] w (Gives (.bool true) w) := by
  have hD : DeltaOf (deltaA o n xx y (.slice ca cs.length ccap)) o n xx y (.slice ca cs.length ccap) := ⟨rfl, hx, hy⟩
  by_cases hf : FewD cs
  · by_cases hv : ValidD o n cs
    · by_cases h0 : cs.length = 0
      · exact deltaBreaks_empty _ o n xx y ca cs ccap hD ho hn i hi w h hf hv h0
      · exact deltaBreaks_good _ o n xx y ca cs ccap hD ho hn i hi w h hf hv (by omega)
    · exact deltaBreaks_bad _ o n xx y ca cs ccap hD ho hn i hi w h hf hv
  · exact deltaBreaks_big _ o n xx y ca cs ccap hD ho hn i hi w h hf
end Go.Proofs.Ytifdeeaoaekokaa
