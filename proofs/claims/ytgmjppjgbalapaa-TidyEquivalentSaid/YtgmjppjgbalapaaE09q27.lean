/- TidyEquivalent returns true for every two deltas, and changes nothing that was there. -/
import Derived.Test.YtgmjppjgbalapaaE09q25
import Derived.Test.YtgmjppjgbalapaaE09q26
namespace Go.Proofs.Ytgmjppjgbalapaa
open Go.RowKit Go.Shelf Go.Proofs.Ytgmjppjgbalapaa.Plain01
set_option linter.unusedVariables false
set_option linter.unusedSimpArgs false

set_option maxRecDepth 100000 in
set_option maxHeartbeats 4000000 in
theorem tidyEquivalent_big1 (D E : Array Value) (o n o' n' : Int) (x y x' y' : List Int) (ca da : Option Addr) (cs ds : List Cmd) (ccap dcap : Nat) (hD : DeltaOf D o n x y (.slice ca cs.length ccap)) (hE : DeltaOf E o' n' x' y' (.slice da ds.length dcap)) (w : World) (h : CmdsIn w ca cs ccap) (h' : CmdsIn w da ds dcap) (hf : ¬ SmallD o n cs) :
    Calls Try.prog 5 #[.agg D, .agg E] w (Gives (.bool true) w) := by
  obtain ⟨S, hS⟩ := start2 w (deltaO D) (deltaO E)
  have hF := rsmall9_any D o n x y ca cs ccap hD S.w (h.W S)
  rw [decide_eq_false hf] at hF
  have hinf := infoDelta hD
  have hg : ((w.alloc (deltaO D)).alloc (deltaO E)).heap[w.heap.size]? = some (deltaO D) := heap_old (heap_new w _ rfl) _
  have HS := Lib.hid hS
  clear hS hD hE h h' hf
  go_enter Try.func5, Try.ntmps5
  go_wp2_with (refine wpList_load_row rfl 34 (.tmp 2) rfl w.heap.size rfl 34 _ (0, 0) _ hg Try.underlying34 rfl hinf ?_)
  rw [HS.out]
  clear hg
  refine (HeldW.call hF).mono ?_
  rintro e _ ⟨rfl, s2, rfl⟩
  go_wp2_with fail
  refine (HeldW.call (alive09_any _)).mono ?_
  rintro e _ ⟨rfl, s3, rfl⟩
  go_wp2
  go_ret
  exact ⟨rfl, s3.below⟩

set_option maxRecDepth 100000 in
set_option maxHeartbeats 4000000 in
theorem tidyEquivalent_big2 (D E : Array Value) (o n o' n' : Int) (x y x' y' : List Int) (ca da : Option Addr) (cs ds : List Cmd) (ccap dcap : Nat) (hD : DeltaOf D o n x y (.slice ca cs.length ccap)) (hE : DeltaOf E o' n' x' y' (.slice da ds.length dcap)) (w : World) (h : CmdsIn w ca cs ccap) (h' : CmdsIn w da ds dcap) (hf : SmallD o n cs) (hf' : ¬ SmallD o' n' ds) :
    Calls Try.prog 5 #[.agg D, .agg E] w (Gives (.bool true) w) := by
  obtain ⟨S, hS⟩ := start2 w (deltaO D) (deltaO E)
  have hF := rsmall9_any D o n x y ca cs ccap hD S.w (h.W S)
  rw [decide_eq_true hf] at hF
  have HV := fun s : HeldW w [(w.heap.size + 1, deltaO E), (w.heap.size, deltaO D)] => rsmall9_any E o' n' x' y' da ds dcap hE s.w (h'.W s)
  rw [decide_eq_false hf'] at HV
  have hinf := infoDelta hD
  have hinf' := infoDelta hE
  have hg : ((w.alloc (deltaO D)).alloc (deltaO E)).heap[w.heap.size]? = some (deltaO D) := heap_old (heap_new w _ rfl) _
  have HG := Lib.hid (fun s : HeldW w [(w.heap.size + 1, deltaO E), (w.heap.size, deltaO D)] => s.blocks (w.heap.size + 1, deltaO E) (by simp))
  have HS := Lib.hid hS
  clear hS hD hE h h' hf hf'
  go_enter Try.func5, Try.ntmps5
  go_wp2_with (refine wpList_load_row rfl 34 (.tmp 2) rfl w.heap.size rfl 34 _ (0, 0) _ hg Try.underlying34 rfl hinf ?_)
  rw [HS.out]
  clear hg
  refine (HeldW.call hF).mono ?_
  rintro e _ ⟨rfl, s2, rfl⟩
  have hg := HG.out s2
  go_wp2_with (refine wpList_load_rowG rfl 34 (.tmp 3) rfl (some 12) rfl (w.heap.size + 1) rfl 34 _ (0, 0) _ hg Try.underlying34 rfl hinf' ?_)
  refine (HeldW.call (HV s2)).mono ?_
  rintro e _ ⟨rfl, s3, rfl⟩
  clear hg hF
  go_wp2_with fail
  refine (HeldW.call (alive09_any _)).mono ?_
  rintro e _ ⟨rfl, s4, rfl⟩
  go_wp2
  go_ret
  exact ⟨rfl, s4.below⟩

theorem requiv9_gives (D D' : Array Value) (o o' : Int) (n n' : Int) (x y x' y' : List Int) (ca da : Option Addr) (cs ds : List Cmd) (ccap dcap : Nat) (hD : DeltaOf D o n x y (.slice ca cs.length ccap)) (hD' : DeltaOf D' o' n' x' y' (.slice da ds.length dcap)) (w : World) (h : CmdsIn w ca cs ccap) (h' : CmdsIn w da ds dcap) (hL : cs.length ≤ 1000000) (hL' : ds.length ≤ 1000000) (hv : ValidD o n cs) (hv' : ValidD o' n' ds) (hn : n ≤ 1000000) :
    Calls Try.prog 19 #[.agg D, .agg D'] w (Gives (.bool (decide (o = o' ∧ n = n' ∧ canonC cs = canonC ds))) w) := by
  obtain ⟨N, rfl⟩ : ∃ N : Nat, n = N := ⟨n.toNat, by have := hv.lens; unfold LensBad at this; omega⟩
  obtain ⟨N', rfl⟩ : ∃ N : Nat, n' = N := ⟨n'.toNat, by have := hv'.lens; unfold LensBad at this; omega⟩
  refine (requiv9_any D D' o o' N N' x y x' y' ca da cs ds ccap dcap hD hD' w h h' hL hL' hv hv' (by omega)).mono ?_
  rintro e w' ⟨r, rfl, hr, hb⟩
  refine ⟨?_, hb⟩
  have e : r = decide (o = o' ∧ (N : Int) = N' ∧ canonC cs = canonC ds) := by
    rw [Bool.eq_iff_iff, hr, decide_eq_true_eq]
    unfold SameO
    constructor
    · rintro ⟨h1, h2, h3⟩
      subst h1
      obtain rfl : N = N' := by omega
      exact ⟨rfl, rfl, (same_canon hv hv' (fun c hc => (h.ok c hc).o) (fun c hc => (h'.ok c hc).o)).1 h3⟩
    · rintro ⟨h1, h2, h3⟩
      subst h1
      obtain rfl : N = N' := by omega
      exact ⟨rfl, rfl, (same_canon hv hv' (fun c hc => (h.ok c hc).o) (fun c hc => (h'.ok c hc).o)).2 h3⟩
  rw [e]

set_option maxRecDepth 100000 in
set_option maxHeartbeats 8000000 in
theorem tidyEquivalent_good (D E : Array Value) (o n o' n' : Int) (x y x' y' : List Int) (ca da : Option Addr) (cs ds : List Cmd) (ccap dcap : Nat) (hD : DeltaOf D o n x y (.slice ca cs.length ccap)) (hE : DeltaOf E o' n' x' y' (.slice da ds.length dcap)) (w : World) (h : CmdsIn w ca cs ccap) (h' : CmdsIn w da ds dcap) (hf : SmallD o n cs) (hf' : SmallD o' n' ds) :
    Calls Try.prog 5 #[.agg D, .agg E] w (Gives (.bool true) w) := by
  have hv : ValidD o n cs := faultOf_zero.1 hf.2
  have hv' : ValidD o' n' ds := faultOf_zero.1 hf'.2
  obtain ⟨hs1, hL1⟩ := hf.1.1
  obtain ⟨hs2, hL2⟩ := hf'.1.1
  obtain ⟨S, hS⟩ := start2 w (deltaO D) (deltaO E)
  have hF := rsmall9_any D o n x y ca cs ccap hD S.w (h.W S)
  rw [decide_eq_true hf] at hF
  have HV := fun s : HeldW w [(w.heap.size + 1, deltaO E), (w.heap.size, deltaO D)] => rsmall9_any E o' n' x' y' da ds dcap hE s.w (h'.W s)
  rw [decide_eq_true hf'] at HV
  have HT1 := Lib.hid (fun (W : World) (hW : Below w.heap.size w W) => tidy9_is2 D o n x y ca cs ccap hD W (h.below hW) (by omega) (fun c hc => by have := hs1 c hc; omega) hv)
  have HT2 := Lib.hid (fun (W : World) (hW : Below w.heap.size w W) => tidy9_is2 E o' n' x' y' da ds dcap hE W (h'.below hW) (by omega) (fun c hc => by have := hs2 c hc; omega) hv')
  have HEQ := Lib.hid (fun (W : World) (hW : Below w.heap.size w W) => equiv9_any D E o n o' n' x y x' y' ca da cs ds ccap dcap hD hE W (h.below hW) (h'.below hW) (by omega) (by omega) (fun c hc => by have := hs1 c hc; omega) (fun c hc => by have := hs2 c hc; omega) hv hv')
  have HRQ := Lib.hid (fun (W : World) (hW : Below w.heap.size w W) => requiv9_gives D E o o' n n' x y x' y' ca da cs ds ccap dcap hD hE W (h.below hW) (h'.below hW) (by omega) (by omega) hv hv' (by have := hf.1.2; omega))
  have HD0 := Lib.hid (fun (W : World) (hW : W.heap[w.heap.size]? = some (deltaO D)) => (show W.cell? ⟨w.heap.size, 0, none⟩ = some (.int .i64 o) ∧ W.cell? ⟨w.heap.size, 1, none⟩ = some (.int .i64 n) from ⟨(cell_of hW 0).trans hD.c0, (cell_of hW 1).trans hD.c1⟩))
  have HE0 := Lib.hid (fun (W : World) (hW : W.heap[w.heap.size + 1]? = some (deltaO E)) => (show W.cell? ⟨w.heap.size + 1, 0, none⟩ = some (.int .i64 o') ∧ W.cell? ⟨w.heap.size + 1, 1, none⟩ = some (.int .i64 n') from ⟨(cell_of hW 0).trans hE.c0, (cell_of hW 1).trans hE.c1⟩))
  have HLD := Lib.hid (fun (W : World) (hW : W.heap[w.heap.size]? = some (deltaO D)) => load_delta hD hW)
  have HLE := Lib.hid (fun (W : World) (hW : W.heap[w.heap.size + 1]? = some (deltaO E)) => load_delta hE hW)
  have hinf := infoDelta hD
  have hinf' := infoDelta hE
  have hz := zero_delta
  have hg : ((w.alloc (deltaO D)).alloc (deltaO E)).heap[w.heap.size]? = some (deltaO D) := heap_old (heap_new w _ rfl) _
  have HG := Lib.hid (fun s : HeldW w [(w.heap.size + 1, deltaO E), (w.heap.size, deltaO D)] => And.intro (s.blocks (w.heap.size + 1, deltaO E) (by simp)) (s.blocks (w.heap.size, deltaO D) (by simp)))
  have HS := Lib.hid hS
  generalize canonC cs = L1 at *
  generalize canonC ds = L2 at *
  clear hS hD hE h h' hf hf' hv hv' hs1 hL1 hs2 hL2
  go_enter Try.func5, Try.ntmps5
  go_wp2_with (refine wpList_load_row rfl 34 (.tmp 2) rfl w.heap.size rfl 34 _ (0, 0) _ hg Try.underlying34 rfl hinf ?_)
  rw [HS.out]
  clear hg
  refine (HeldW.call hF).mono ?_
  rintro e _ ⟨rfl, s2, rfl⟩
  have hg := (HG.out s2).1
  go_wp2_with (refine wpList_load_rowG rfl 34 (.tmp 3) rfl (some 12) rfl (w.heap.size + 1) rfl 34 _ (0, 0) _ hg Try.underlying34 rfl hinf' ?_)
  refine (HeldW.call (HV s2)).mono ?_
  rintro e _ ⟨rfl, s3, rfl⟩
  clear hg hF HV
  go_wp2_with fail
  have hbase : w.heap.size + 1 < s3.w.heap.size := (Array.getElem?_eq_some_iff.1 (HG.out s3).1).1
  have HGD := Lib.hid (fun (W : World) (hW : Below s3.w.heap.size s3.w W) => heap_below (HG.out s3).2 hW)
  have HGE := Lib.hid (fun (W : World) (hW : Below s3.w.heap.size s3.w W) => heap_below (HG.out s3).1 hW)
  have HBW := Lib.hid (fun (W : World) (hW : Below s3.w.heap.size s3.w W) => s3.below.trans (hW.mono s3.below.size))
  have HB := Lib.hid hbase
  clear hbase
  refine wp_region_looseW 6
    [IsV (.agg D), IsTid o n x y L1, IsV (.agg E), IsTid o' n' x' y' L2, IsBoxD s3.w.heap.size, IsBoxD s3.w.heap.size]
    [⟨17, [], [2]⟩, ⟨18, [(0, 17)], []⟩, ⟨19, [], [3]⟩, ⟨20, [(2, 19)], []⟩, ⟨5, [], []⟩, ⟨6, [], []⟩]
    (fun W => Below s3.w.heap.size s3.w W) (fun W W' => Below W.heap.size W W') RelTB (by kernel_rfl) (by kernel_rfl) (by kernel_rfl) rfl rfl (Below.refl _ s3.w).drew ?_ ?_
    ⟨?_, ?_, ?_, ?_, ?_, ?_, trivial⟩ ?_
  · repeat (first | (intro _ h; cases h; done) | refine List.forall_mem_cons.2 ⟨stable_V _ _, ?_⟩ | refine List.forall_mem_cons.2 ⟨stable_tid _ _ _ _ _, ?_⟩ | refine List.forall_mem_cons.2 ⟨stable_boxD _, ?_⟩)
  · intro i u j v W W' hu hv' hr hb
    refine relTB_later (fun hi => ?_) (fun hj => ?_) hr hb
    · rcases hi with rfl | rfl
      · exact ⟨o, n, x, y, L1, hu⟩
      · exact ⟨o', n', x', y', L2, hu⟩
    · rcases hj with rfl | rfl
      · exact ⟨o, n, x, y, L1, hv'⟩
      · exact ⟨o', n', x', y', L2, hv'⟩
  · intro A W hC hd hx
    have hy0 : A.eval (.tmp 2) = .pointer (some ⟨w.heap.size, 0, none⟩) := hx 2 (by simp)
    have hld := HLD.out W (HGD.out W hC)
    clear hd
    generalize A.eval = ρ at hy0 ⊢
    simp [execOp, hy0, hld, looseUpon, factOf]
    exact ⟨hC, Below.refl _ _, fun _ _ _ _ => relTB_no (by omega)⟩
  · intro A W hC hd hx
    simp [factOf] at hd
    refine ⟨fun g hg => (by cases hg), ?_⟩
    refine loose_call rfl Try.func14 (by kernel_rfl) (by kernel_rfl) ?_
    simp only [List.map_toArray, List.map_cons, List.map_nil, hd]
    refine (HT1.out W (HBW.out W hC)).mono ?_
    rintro e' W' ⟨v', rfl, ht, h4, hap⟩
    refine ⟨_, rfl, ht, hC.trans (h4.mono hC.size), h4, fun j u hj hfu => relTB_tid (base := s3.w.heap.size) (.inl rfl) (fun h45 => ?_) hap⟩
    rcases h45 with rfl | rfl <;> exact hfu
  · intro A W hC hd hx
    have hy0 : A.eval (.tmp 3) = .pointer (some ⟨w.heap.size + 1, 0, none⟩) := hx 3 (by simp)
    have hld := HLE.out W (HGE.out W hC)
    clear hd
    generalize A.eval = ρ at hy0 ⊢
    simp [execOp, hy0, hld, looseUpon, factOf]
    exact ⟨hC, Below.refl _ _, fun _ _ _ _ => relTB_no (by omega)⟩
  · intro A W hC hd hx
    simp [factOf] at hd
    refine ⟨fun g hg => (by cases hg), ?_⟩
    refine loose_call rfl Try.func14 (by kernel_rfl) (by kernel_rfl) ?_
    simp only [List.map_toArray, List.map_cons, List.map_nil, hd]
    refine (HT2.out W (HBW.out W hC)).mono ?_
    rintro e' W' ⟨v', rfl, ht, h4, hap⟩
    refine ⟨_, rfl, ht, hC.trans (h4.mono hC.size), h4, fun j u hj hfu => relTB_tid (base := s3.w.heap.size) (.inr rfl) (fun h45 => ?_) hap⟩
    rcases h45 with rfl | rfl <;> exact hfu
  · intro A W hC hd hx
    clear hd
    generalize A.eval = ρ
    simp [go_sem, looseUpon, factOf]
    refine ⟨⟨_, rfl, hC.size, World.alloc_heap_new _ _⟩, hC.alloc hC.size _, (Below.refl _ _).alloc (Nat.le_refl _) _, fun j u hj hfu => relTB_box (base := s3.w.heap.size) (.inl rfl) (fun h13 => ?_) (fun h45 => ?_)⟩
    · rcases h13 with rfl | rfl
      · exact ⟨o, n, x, y, L1, hfu⟩
      · exact ⟨o', n', x', y', L2, hfu⟩
    · rcases h45 with rfl | rfl <;> exact hfu
  · intro A W hC hd hx
    clear hd
    generalize A.eval = ρ
    simp [go_sem, looseUpon, factOf]
    refine ⟨⟨_, rfl, hC.size, World.alloc_heap_new _ _⟩, hC.alloc hC.size _, (Below.refl _ _).alloc (Nat.le_refl _) _, fun j u hj hfu => relTB_box (base := s3.w.heap.size) (.inr rfl) (fun h13 => ?_) (fun h45 => ?_)⟩
    · rcases h13 with rfl | rfl
      · exact ⟨o, n, x, y, L1, hfu⟩
      · exact ⟨o', n', x', y', L2, hfu⟩
    · rcases h45 with rfl | rfl <;> exact hfu
  intro W hC
  simp only [ends]
  rintro _ rfl v1 ht1 _ rfl v3 ht3 _ ⟨B5, rfl, hB5, hb5⟩ _ ⟨B6, rfl, hB6, hb6⟩ hrel
  have hne : B5 ≠ B6 := by
    rcases hrel 4 5 _ _ rfl rfl (by omega) with h | h
    · intro he; subst he; exact h.2.2 (.inl rfl) (.inr rfl) rfl
    · intro he; subst he; exact h.2.2 (.inr rfl) (.inl rfl) rfl
  have hap : ∀ (i j : Nat) (v : Value) (B : Nat), (i = 1 ∨ i = 3) → (j = 4 ∨ j = 5) → [Value.agg D, v1, .agg E, v3, .pointer (some ⟨B5, 0, none⟩), .pointer (some ⟨B6, 0, none⟩)][i]? = some v → [Value.agg D, v1, .agg E, v3, .pointer (some ⟨B5, 0, none⟩), .pointer (some ⟨B6, 0, none⟩)][j]? = some (.pointer (some ⟨B, 0, none⟩)) → ApTid B v W := fun i j v B hi hj h1 h2 => by
    rcases hrel i j _ _ h1 h2 (by omega) with h | h
    · exact h.2.1 hi hj B rfl
    · exact h.1 hj hi B rfl
  have a15 := hap 1 4 v1 B5 (.inl rfl) (.inl rfl) rfl rfl
  have a16 := hap 1 5 v1 B6 (.inl rfl) (.inr rfl) rfl rfl
  have a35 := hap 3 4 v3 B5 (.inr rfl) (.inl rfl) rfl rfl
  have a36 := hap 3 5 v3 B6 (.inr rfl) (.inr rfl) rfl rfl
  obtain ⟨D1, a1, ds1, cap1, rfl, hD1, hcs1, hco1⟩ := ht1
  obtain ⟨D2, a2, ds2, cap2, rfl, hD2, hcs2, hco2⟩ := ht3
  simp only [putAll, List.zip_cons_cons, List.zip_nil_left, List.foldl_cons, List.foldl_nil, Act.put, List.setIfInBounds_toArray, List.set_cons_succ, List.set_cons_zero, List.drop_succ_cons, List.drop_zero]
  have hb6' : (W.setRow B5 D1).heap[B6]? = some (deltaO zeroDel) := (setRow_other _ _ _ _ (Ne.symm hne)).trans hb6
  refine wpList_store_rowTo rfl 34 (.tmp 5) (.tmp 18) rfl rfl B5 D1 rfl rfl 34 zeroDel hb5 (infoDelta hD1) (by rw [zeroDel_of.size, hD1.size]) (hD1.one rfl) ?_
  refine wpList_store_rowTo rfl 34 (.tmp 6) (.tmp 20) rfl rfl B6 D2 rfl rfl 34 zeroDel hb6' (infoDelta hD2) (by rw [zeroDel_of.size, hD2.size]) (hD2.one rfl) ?_
  have hW0 : Below w.heap.size w W := HBW.out W hC
  have hgd := HGD.out W hC
  have hge := HGE.out W hC
  have hs5 : w.heap.size + 1 < B5 := Nat.lt_of_lt_of_le HB.out hB5
  have hs6 : w.heap.size + 1 < B6 := Nat.lt_of_lt_of_le HB.out hB6
  obtain ⟨p1, p2⟩ := a15.to hD1 hcs1
  obtain ⟨p3, p4⟩ := a16.to hD1 hcs1
  obtain ⟨q1, q2⟩ := a35.to hD2 hcs2
  obtain ⟨q3, q4⟩ := a36.to hD2 hcs2
  have hkeep : ∀ k, k ≠ B5 ∧ k ≠ B6 → k < W.heap.size → ((W.setRow B5 D1).setRow B6 D2).heap[k]? = W.heap[k]? := fun k hk _ => (setRow_other _ _ _ _ hk.2).trans (setRow_other _ _ _ _ hk.1)
  have hc1 := hcs1.keepP (fun k => k ≠ B5 ∧ k ≠ B6) hkeep (fun hp ad had => ⟨p1 hp ad had, p3 hp ad had⟩) (fun c hc hl ad had => ⟨p2 c hc hl ad had, p4 c hc hl ad had⟩)
  have hc2 := hcs2.keepP (fun k => k ≠ B5 ∧ k ≠ B6) hkeep (fun hp ad had => ⟨q1 hp ad had, q3 hp ad had⟩) (fun c hc hl ad had => ⟨q2 c hc hl ad had, q4 c hc hl ad had⟩)
  have hbw : Below w.heap.size w ((W.setRow B5 D1).setRow B6 D2) := below_setRow (below_setRow hW0 (by omega) _) (by omega) _
  have hk0 : ((W.setRow B5 D1).setRow B6 D2).heap[w.heap.size]? = some (deltaO D) := (setRow_other _ _ _ _ (show w.heap.size ≠ B6 by omega)).trans ((setRow_other _ _ _ _ (show w.heap.size ≠ B5 by omega)).trans hgd)
  have hk1 : ((W.setRow B5 D1).setRow B6 D2).heap[w.heap.size + 1]? = some (deltaO E) := (setRow_other _ _ _ _ (show w.heap.size + 1 ≠ B6 by omega)).trans ((setRow_other _ _ _ _ (show w.heap.size + 1 ≠ B5 by omega)).trans hge)
  have hk5 : ((W.setRow B5 D1).setRow B6 D2).heap[B5]? = some (deltaO D1) := (setRow_other _ _ _ _ hne).trans (setRow_heap _ _ _ _ _ _ hb5)
  have hk6 : ((W.setRow B5 D1).setRow B6 D2).heap[B6]? = some (deltaO D2) := setRow_heap _ _ _ _ _ _ hb6'
  obtain ⟨V, hV⟩ : ∃ V, V = (W.setRow B5 D1).setRow B6 D2 := ⟨_, rfl⟩
  rw [← hV] at hc1 hc2 hbw hk0 hk1 hk5 hk6 ⊢
  have x0 := (HD0.out V hk0).1
  have x1 := (HD0.out V hk0).2
  have y0 := (HE0.out V hk1).1
  have y1 := (HE0.out V hk1).2
  have z5 : V.cell? ⟨B5, 66, none⟩ = some (.slice a1 ds1.length cap1) := (cell_of hk5 66).trans hD1.c66
  have z6 : V.cell? ⟨B6, 66, none⟩ = some (.slice a2 ds2.length cap2) := (cell_of hk6 66).trans hD2.c66
  have hall := all_any a1 a2 ds1 ds2 cap1 cap2 V hc1 hc2
  rw [hco1, hco2] at hall
  have HBV := Lib.hid hbw
  have HK0 := Lib.hid hk0
  have HK1 := Lib.hid hk1
  clear hV hC hrel hap a15 a16 a35 a36 hD1 hD2 hcs1 hcs2 hco1 hco2 hb5 hb6 hb6' hne hW0 hgd hge p1 p2 p3 p4 q1 q2 q3 q4 hkeep hc1 hc2 hbw hk0 hk1 hk5 hk6 hB5 hB6 hs5 hs6 HGD HGE HT1 HT2 HBW
  obtain ⟨rb, hrb⟩ : ∃ rb : Bool, rb = decide (o = o' ∧ n = n' ∧ L1 = L2) := ⟨_, rfl⟩
  rw [← hrb] at HEQ HRQ
  have hcase : ((o == o') = true ∧ (n == n') = true ∧ decide (L1 = L2) = rb) ∨ ((o == o') = true ∧ (n == n') = false ∧ rb = false) ∨ ((o == o') = false ∧ rb = false) := by
    rw [hrb]
    by_cases h1 : o = o'
    · by_cases h2 : n = n'
      · left; simp [h1, h2]
      · right; left; simp [h1, h2]
    · right; right; simp [h1]
  clear hrb
  have LD := Lib.hid (fun s : HeldW w [(w.heap.size + 1, deltaO E), (w.heap.size, deltaO D)] => HLD.out s.w (s.blocks (w.heap.size, deltaO D) (by simp)))
  have LE := Lib.hid (fun s : HeldW w [(w.heap.size + 1, deltaO E), (w.heap.size, deltaO D)] => HLE.out s.w (s.blocks (w.heap.size + 1, deltaO E) (by simp)))
  have CQ := Lib.hid (fun s : HeldW w [(w.heap.size + 1, deltaO E), (w.heap.size, deltaO D)] => HEQ.out s.w s.below)
  have CR := Lib.hid (fun s : HeldW w [(w.heap.size + 1, deltaO E), (w.heap.size, deltaO D)] => HRQ.out s.w s.below)
  have eb : (rb == rb) = true := by simp
  obtain ⟨s4, h4⟩ : ∃ s : HeldW w [(w.heap.size + 1, deltaO E), (w.heap.size, deltaO D)], V = s.w := ⟨⟨V, HBV.out, all2 HK1.out HK0.out⟩, rfl⟩
  subst h4
  clear HEQ HRQ HLD HLE HD0 HE0 HG
  rcases hcase with ⟨e1, e2, e3⟩ | ⟨e1, e2, e3⟩ | ⟨e1, e3⟩
  · rw [e3] at hall
    clear e3
    go_wp2_with fail
    refine (HeldW.call (s := s4) hall).mono ?_
    rintro e _ ⟨rfl, s5, rfl⟩
    clear hall x0 x1 y0 y1 z5 z6 e1 e2
    go_wp2_with fail
    refine wp_region_class w _ (by kernel_rfl) (by kernel_rfl) s5.below s5.blocks (fun hne => ?_)
    repeat (first
      | (refine quiet_load 34 (.tmp 2) (.agg D) s5.w ⟨s5, rfl⟩ (by rintro _ ⟨s, rfl⟩; exact LD.out s) ?_; go_big_quiet_step (fail))
      | (refine quiet_load 34 (.tmp 3) (.agg E) s5.w ⟨s5, rfl⟩ (by rintro _ ⟨s, rfl⟩; exact LE.out s) ?_; go_big_quiet_step (fail))
      | go_big_quiet_step (first | (go_at_call 8; exact HeldW.call (alive09_any _)) | (go_at_call 18; exact HeldW.call (CQ.out _)) | (go_at_call 19; exact HeldW.call (CR.out _))))
    refine wpQuiet_nil ?_
    rintro _ ⟨s6, rfl⟩
    clear hne
    go_wp2
    go_ret
    exact ⟨by simp, s6.below⟩
  · subst e3
    clear hall
    go_wp2_with fail
    clear x0 x1 y0 y1 z5 z6 e1 e2
    obtain ⟨s5, hs5⟩ : ∃ s : HeldW w [(w.heap.size + 1, deltaO E), (w.heap.size, deltaO D)], s4.w = s.w := ⟨s4, rfl⟩
    rw [hs5]
    clear hs5
    refine wp_region_class w _ (by kernel_rfl) (by kernel_rfl) s5.below s5.blocks (fun hne => ?_)
    repeat (first
      | (refine quiet_load 34 (.tmp 2) (.agg D) s5.w ⟨s5, rfl⟩ (by rintro _ ⟨s, rfl⟩; exact LD.out s) ?_; go_big_quiet_step (fail))
      | (refine quiet_load 34 (.tmp 3) (.agg E) s5.w ⟨s5, rfl⟩ (by rintro _ ⟨s, rfl⟩; exact LE.out s) ?_; go_big_quiet_step (fail))
      | go_big_quiet_step (first | (go_at_call 8; exact HeldW.call (alive09_any _)) | (go_at_call 18; exact HeldW.call (CQ.out _)) | (go_at_call 19; exact HeldW.call (CR.out _))))
    refine wpQuiet_nil ?_
    rintro _ ⟨s6, rfl⟩
    clear hne
    go_wp2
    go_ret
    exact ⟨by simp, s6.below⟩
  · subst e3
    clear hall
    go_wp2_with fail
    clear x0 x1 y0 y1 z5 z6 e1
    obtain ⟨s5, hs5⟩ : ∃ s : HeldW w [(w.heap.size + 1, deltaO E), (w.heap.size, deltaO D)], s4.w = s.w := ⟨s4, rfl⟩
    rw [hs5]
    clear hs5
    refine wp_region_class w _ (by kernel_rfl) (by kernel_rfl) s5.below s5.blocks (fun hne => ?_)
    repeat (first
      | (refine quiet_load 34 (.tmp 2) (.agg D) s5.w ⟨s5, rfl⟩ (by rintro _ ⟨s, rfl⟩; exact LD.out s) ?_; go_big_quiet_step (fail))
      | (refine quiet_load 34 (.tmp 3) (.agg E) s5.w ⟨s5, rfl⟩ (by rintro _ ⟨s, rfl⟩; exact LE.out s) ?_; go_big_quiet_step (fail))
      | go_big_quiet_step (first | (go_at_call 8; exact HeldW.call (alive09_any _)) | (go_at_call 18; exact HeldW.call (CQ.out _)) | (go_at_call 19; exact HeldW.call (CR.out _))))
    refine wpQuiet_nil ?_
    rintro _ ⟨s6, rfl⟩
    clear hne
    go_wp2
    go_ret
    exact ⟨by simp, s6.below⟩

theorem tidyEquivalent_walk (o n : Int) (x y : List Int) (ca : Option Addr) (cs : List Cmd) (ccap : Nat) (o' n' : Int) (x' y' : List Int) (da : Option Addr) (ds : List Cmd) (dcap : Nat) {w : World} (ho : I64 o) (hn : I64 n) (hx : x.length = 32) (hy : y.length = 32) (h : CmdsIn w ca cs ccap) (ho' : I64 o') (hn' : I64 n') (hx' : x'.length = 32) (hy' : y'.length = 32) (h' : CmdsIn w da ds dcap) :
    Calls Try.prog 5 #[.agg (deltaA o n x y (.slice ca cs.length ccap)), .agg (deltaA o' n' x' y' (.slice da ds.length dcap))] w (Gives (.bool true) w) := by
  have hD : DeltaOf (deltaA o n x y (.slice ca cs.length ccap)) o n x y (.slice ca cs.length ccap) := ⟨rfl, hx, hy⟩
  have hE : DeltaOf (deltaA o' n' x' y' (.slice da ds.length dcap)) o' n' x' y' (.slice da ds.length dcap) := ⟨rfl, hx', hy'⟩
  by_cases hf : SmallD o n cs
  · by_cases hf' : SmallD o' n' ds
    · exact tidyEquivalent_good _ _ o n o' n' x y x' y' ca da cs ds ccap dcap hD hE w h h' hf hf'
    · exact tidyEquivalent_big2 _ _ o n o' n' x y x' y' ca da cs ds ccap dcap hD hE w h h' hf hf'
  · exact tidyEquivalent_big1 _ _ o n o' n' x y x' y' ca da cs ds ccap dcap hD hE w h h' hf
end Go.Proofs.Ytgmjppjgbalapaa
