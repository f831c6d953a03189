import Derived.Great.BuildSlice
import Derived.Test.YtdedfjkenbaebaaGreatDoorE08v26
import Derived.Test.YtdedfjkenbaebaaGreatDoorE08v17
import Derived.Test.YtdedfjkenbaebaaGreatDoorE08v15
import Derived.Test.YtdedfjkenbaebaaGreatDoorE08v12
import Derived.BigQuiet
import Derived.Test.YtdedfjkenbaebaaGreatDoorE08v25
import Derived.Test.YtdedfjkenbaebaaGreatDoorE08v18
import Derived.Test.YtdedfjkenbaebaaGreatDoorE08v24
import Derived.Test.YtdedfjkenbaebaaGreatDoorE08v19
import Derived.Test.YtdedfjkenbaebaaGreatDoorE08v5
/- Verify of package patch. -/
namespace Go.Proofs.YtdedfjkenbaebaaGreatDoor
open Go.RowKit
set_option linter.unusedVariables false
set_option linter.unusedSimpArgs false

/-- The fault that Verify tells. -/
noncomputable def verF (l : List Int) (o n : Int) (x y : List Int) (cs : List Cmd) : Int × Int :=
  if (faultOf o n cs).1 ≠ 0 then faultOf o n cs else if o ≠ (l.length : Int) then (13, (l.length : Int)) else if x ≠ shaL l then (14, 0) else if y ≠ shaL (newF l n.toNat cs) then (15, 0) else (0, 0)
abbrev flt8 (e a : Int) : Obj := .cells #[.int .i64 e, .int .i64 a] 30 (0, 0)

/-- The result is written. -/
theorem HeldW.ret8 {w : World} {bs : List (Nat × Obj)} (s : HeldW w bs) {g : Nat} (hg : w.heap.size ≤ g) {e a : Int} (hm : (g, flt8 e a) ∈ bs) (e' a' : Int) : Below w.heap.size w (s.w.setRow g #[.int .i64 e', .int .i64 a']) ∧ (s.w.setRow g #[.int .i64 e', .int .i64 a']).heap[g]? = some (flt8 e' a') :=
  ⟨below_setRow s.below hg _, setRow_heap _ _ _ _ _ _ (s.blocks _ hm)⟩

set_option maxRecDepth 100000 in
set_option maxHeartbeats 8000000 in
theorem pverify_any (l : List Int) (a : Option Addr) (cap : Nat) (D : Array Value) (o n : Int) (x y : List Int) (ca : Option Addr) (cs : List Cmd) (ccap : Nat) (hD : DeltaOf D o n x y (.slice ca cs.length ccap)) (w : World) (hR : Roots w) (hl : BytesIn w a l cap) (h : CmdsIn w ca cs ccap) (hL : cs.length ≤ 1000000) (hsm : ∀ c ∈ cs, c.l.length ≤ 1000000) (hlb : l.length ≤ 1000000) (hn : n ≤ 1000000) (io : I64 o) (inn : I64 n) :
    Calls Tryz.prog 16 #[.slice a l.length cap, .agg D] w (Gives (faultV (verF l o n x y cs).1 (verF l o n x y cs).2) w) := by
  obtain ⟨S, hS⟩ := start2 w (deltaO D) (flt8 0 0)
  have hc := dcheck_any D o n x y ca cs ccap hD S.w (h.W S) hL io inn
  have HG := Lib.hid (fun (bs : List (Nat × Obj)) (s : HeldW w bs) (hm : (w.heap.size, deltaO D) ∈ bs) => s.blocks (w.heap.size, deltaO D) hm)
  have H0 := Lib.hid (fun (bs : List (Nat × Obj)) (s : HeldW w bs) (hm : (w.heap.size, deltaO D) ∈ bs) => (cell_of (s.blocks (w.heap.size, deltaO D) hm) 0).trans hD.c0)
  have HLX := Lib.hid (fun (W : World) (hW : W.heap[w.heap.size]? = some (deltaO D)) => load_x hD hW)
  have HLY := Lib.hid (fun (W : World) (hW : W.heap[w.heap.size]? = some (deltaO D)) => load_y hD hW)
  have HLD := Lib.hid (fun (W : World) (hW : W.heap[w.heap.size]? = some (deltaO D)) => load_delta hD hW)
  have HR := Lib.hid hR
  have HB := Lib.hid hl
  have hxl := hD.xl
  have hyl := hD.yl
  have HNH : Hid ((faultOf o n cs).1 = 0 → o = (l.length : Int) → ∀ W, Below w.heap.size w W → Calls Tryz.prog 33 #[.slice a l.length cap, .agg D] W (Gives (.agg (byteA (shaL (newF l n.toNat cs)))) W)) := Lib.hid fun h1 h2 W hW => by
    have hv := faultOf_zero.1 h1
    obtain ⟨m, rfl⟩ : ∃ m : Nat, n = m := ⟨n.toNat, by have := hv.lens; unfold LensBad at this; omega⟩
    rw [Int.toNat_natCast]
    exact newHash_any l a cap D o m x y ca cs ccap hD W (hR.below hW) (hl.below hW) (h.below hW) hL hsm (by omega) h2.symm hv
  have hinf := infoDelta hD
  have hg : ((w.alloc (deltaO D)).alloc (flt8 0 0)).heap[w.heap.size]? = some (deltaO D) := heap_old (heap_new w _ rfl) _
  have HS := Lib.hid hS
  have hls := shaL_length l
  have hlf := shaL_length (newF l n.toNat cs)
  have hfi : (Tryz.prog.info? 30).map (·.size) = some 2 := by kernel_rfl
  unfold verF
  have hcap := hl.capb
  have hcl := hl.len
  obtain ⟨F, hF⟩ : ∃ F, F = newF l n.toNat cs := ⟨_, rfl⟩
  obtain ⟨f, hf⟩ : ∃ f, f = faultOf o n cs := ⟨_, rfl⟩
  rw [← hF] at HNH hlf
  rw [← hf] at hc HNH
  rw [← hF, ← hf]
  obtain ⟨e, p⟩ := f
  simp only at hc HNH
  clear hF hf hD hR hl h hL hsm hS
  obtain ⟨LL, hLL⟩ : ∃ m, m = l.length := ⟨_, rfl⟩
  have HLL := Lib.hid hLL
  rw [← hLL] at hlb hcl HNH ⊢
  clear hLL
  by_cases he : e = 0
  · have e1 : (e == 0) = true := by simpa using he
    rw [if_neg (show ¬ e ≠ 0 from fun h => h he)]
    clear he
    by_cases ho : o = (LL : Int)
    · have e2 : (o == (LL : Int)) = true := by simpa using ho
      rw [if_neg (show ¬ o ≠ (LL : Int) from fun h => h ho)]
      have hnh := HNH.out (by simpa using e1) ho
      have HNH := Lib.hid hnh
      have HOV := Lib.hid ho
      obtain ⟨POST, hP⟩ : ∃ P, P = Gives (faultV (if x ≠ shaL l then ((14 : Int), (0 : Int)) else if y ≠ shaL F then (15, 0) else (0, 0)).1 (if x ≠ shaL l then ((14 : Int), (0 : Int)) else if y ≠ shaL F then (15, 0) else (0, 0)).2) w := ⟨_, rfl⟩
      rw [← hP]
      have HQ14 : Hid (x ≠ shaL l → ∀ W, Below w.heap.size w W → POST (.returned (faultV 14 0)) W) := Lib.hid fun h W hW => by rw [hP, if_pos h]; exact ⟨rfl, hW⟩
      have HQ15 : Hid (x = shaL l → y ≠ shaL F → ∀ W, Below w.heap.size w W → POST (.returned (faultV 15 0)) W) := Lib.hid fun h h2 W hW => by rw [hP, if_neg (show ¬ x ≠ shaL l from fun hh => hh h), if_pos h2]; exact ⟨rfl, hW⟩
      have HQ0 : Hid (x = shaL l → y = shaL F → ∀ W, Below w.heap.size w W → POST (.returned (faultV 0 0)) W) := Lib.hid fun h h2 W hW => by rw [hP, if_neg (show ¬ x ≠ shaL l from fun hh => hh h), if_neg (show ¬ y ≠ shaL F from fun hh => hh h2)]; exact ⟨rfl, hW⟩
      clear ho hnh hP
      go_enter Tryz.func16, Tryz.ntmps16
      go_wp2_with (refine wpList_load_row rfl 27 (.tmp 3) rfl w.heap.size rfl 27 _ (0, 0) _ hg Tryz.underlying27 rfl hinf ?_)
      rw [HS.out]
      clear hg
      refine (HeldW.call hc).mono ?_
      rintro _ _ ⟨rfl, s1, rfl⟩
      have c0 : (s1.w.alloc (flt8 e p)).cell? ⟨w.heap.size, 0, none⟩ = some (.int .i64 o) := by
        have := H0.out _ (s1.push (flt8 e p)) (by simp)
        exact this
      go_wp2_with fail
      obtain ⟨s2, hs2⟩ : ∃ s2 : HeldW w [(w.heap.size + 1, flt8 0 0), (w.heap.size, deltaO D)], s1.w.alloc (flt8 e p) = s2.w := ⟨(s1.push (flt8 e p)).sub (fun q hq => List.mem_cons_of_mem _ (by simp only [List.mem_cons, List.not_mem_nil, or_false] at hq ⊢; rcases hq with rfl | rfl <;> simp)), rfl⟩
      rw [hs2]
      clear hs2 hc c0
      have hgd := s2.blocks (w.heap.size, deltaO D) (by simp)
      have HGD := Lib.hid (fun (W : World) (hW : Below s2.w.heap.size s2.w W) => heap_below hgd hW)
      have HW2 := Lib.hid (fun (W : World) (hW : Below s2.w.heap.size s2.w W) => s2.below.trans (hW.mono s2.below.size))
      clear hgd
      refine wp_region_loose
        [IsV (.pointer (some ⟨w.heap.size, 2, none⟩)), IsV (.agg (byteA x)), IsV (.slice a LL cap), IsB (.slice a LL cap), IsV (.agg (byteA (shaL l))), IsV (.bool (!decide (x = shaL l))), IsV (.bool (!decide (x = shaL l)))]
        [⟨22, [], [3]⟩, ⟨23, [(0, 22)], []⟩, ⟨24, [], [0]⟩, ⟨25, [(2, 24)], []⟩, ⟨26, [(3, 25)], []⟩, ⟨27, [(1, 23), (4, 26)], []⟩, ⟨21, [(5, 27)], []⟩]
        (fun W => Below s2.w.heap.size s2.w W) (fun W W' => Below W.heap.size W W') (by kernel_rfl) (by kernel_rfl) rfl rfl (Below.refl _ s2.w).drew ?_
        ⟨?_, ?_, ?_, ?_, ?_, ?_, ?_, trivial⟩ ?_
      · repeat (first | (intro _ h; cases h; done) | refine List.forall_mem_cons.2 ⟨stable_V _ _, ?_⟩ | refine List.forall_mem_cons.2 ⟨stable_B _, ?_⟩)
      · intro A W hC hd hx
        have hk : ∀ v, A.eval (.const v) = v := fun _ => rfl
        have hy0 : A.eval (.tmp 3) = .pointer (some ⟨w.heap.size, 0, none⟩) := hx 3 (by simp)
        clear hd
        generalize A.eval = ρ at hk hy0 ⊢
        simp [go_sem, looseUpon, factOf, hk, hy0]
        exact ⟨hC, Below.refl _ _⟩
      · intro A W hC hd hx
        simp [factOf] at hd
        have hld := HLX.out W (HGD.out W hC)
        refine ⟨fun g hg => (by cases hg), ?_⟩
        generalize A.eval = ρ at hd ⊢
        simp [execOp, hd, hld, looseUpon, factOf]
        exact ⟨hC, Below.refl _ _⟩
      · intro A W hC hd hx
        have hk : ∀ v, A.eval (.const v) = v := fun _ => rfl
        have hy0 : A.eval (.tmp 0) = .slice a LL cap := hx 0 (by simp)
        clear hd
        generalize A.eval = ρ at hk hy0 ⊢
        simp [go_sem, looseUpon, factOf, hk, hy0]
        exact ⟨hC, Below.refl _ _⟩
      · intro A W hC hd hx
        have hk : ∀ v, A.eval (.const v) = v := fun _ => rfl
        simp [factOf] at hd
        generalize A.eval = ρ at hd hk ⊢
        simp [go_sem, looseUpon, factOf, hd, hk]
        exact ⟨⟨_, rfl, World.alloc_heap_new _ _⟩, hC.alloc hC.size _, (Below.refl _ _).alloc (Nat.le_refl _) _⟩
      · intro A W hC hd hx
        simp [factOf] at hd
        obtain ⟨B, hd0, hBW⟩ := hd
        refine ⟨fun g hg => (by cases hg), ?_⟩
        refine loose_call rfl Tryz.func24 (by kernel_rfl) (by kernel_rfl) ?_
        simp only [List.map_toArray, List.map_cons, List.map_nil, hd0]
        have hBlt := (Array.getElem?_eq_some_iff.1 hBW).1
        rw [HLL.out] at hBW
        have hof := of_any [l] (some ⟨B, 0, none⟩) 1 W (HR.out.below (HW2.out W hC)) (fun g hg => parts1 hBW (by omega) (by rw [← HLL.out]; exact hcl) hcap (fun hp => by
          obtain ⟨b', o', he, hc⟩ := (HB.out.below (HW2.out W hC)).cells hp
          have := World.block_lt_of_cell? _ _ (hc 0 hp)
          simp only at this
          exact ⟨b', o', he, by omega, hc⟩)) (by simp) (by simp; have := HLL.out; omega)
        rw [show [l].flatten = l by simp] at hof
        refine hof.mono ?_
        rintro e' W' ⟨rfl, h4⟩
        exact ⟨_, rfl, rfl, hC.trans (h4.mono hC.size), h4⟩
      · intro A W hC hd hx
        have heq := equal32 x (shaL l) hxl hls W
        have hge := guard_arr32
        simp [factOf] at hd
        generalize A.eval = ρ at hd ⊢
        simp [go_sem, looseUpon, factOf, hd, heq, hge]
        exact ⟨hC, Below.refl _ _⟩
      · intro A W hC hd hx
        have hk : ∀ v, A.eval (.const v) = v := fun _ => rfl
        simp [factOf] at hd
        generalize A.eval = ρ at hd hk ⊢
        simp [go_sem, looseUpon, factOf, hd, hk]
        exact ⟨hC, Below.refl _ _⟩
      intro W hC
      simp only [ends]
      rintro _ rfl _ rfl _ rfl _ ⟨B, rfl, -⟩ _ rfl _ rfl _ rfl
      simp only [putAll, List.zip_cons_cons, List.zip_nil_left, List.foldl_cons, List.foldl_nil, Act.put, List.setIfInBounds_toArray, List.set_cons_succ, List.set_cons_zero]
      obtain ⟨s3, rfl⟩ := s2.after hC
      clear hC HGD HW2 s2
      by_cases hx : x = shaL l
      · have d1 : decide (x = shaL l) = true := decide_eq_true hx
        have HX := Lib.hid hx
        rw [d1]
        clear d1 hx
        go_wp2_with fail
        have hgd := s3.blocks (w.heap.size, deltaO D) (by simp)
        have HGD := Lib.hid (fun (W : World) (hW : Below s3.w.heap.size s3.w W) => heap_below hgd hW)
        have HW3 := Lib.hid (fun (W : World) (hW : Below s3.w.heap.size s3.w W) => s3.below.trans (hW.mono s3.below.size))
        clear hgd
        refine wp_region_loose
          [IsV (.pointer (some ⟨w.heap.size, 34, none⟩)), IsV (.agg (byteA y)), IsV (.slice a LL cap), IsV (.agg D), IsV (.agg (byteA (shaL F))), IsV (.bool (!decide (y = shaL F))), IsV (.bool (!decide (y = shaL F)))]
          [⟨30, [], [3]⟩, ⟨31, [(0, 30)], []⟩, ⟨32, [], [0]⟩, ⟨33, [], [3]⟩, ⟨34, [(2, 32), (3, 33)], []⟩, ⟨35, [(1, 31), (4, 34)], []⟩, ⟨29, [(5, 35)], []⟩]
          (fun W => Below s3.w.heap.size s3.w W) (fun W W' => Below W.heap.size W W') (by kernel_rfl) (by kernel_rfl) rfl rfl (Below.refl _ s3.w).drew ?_
          ⟨?_, ?_, ?_, ?_, ?_, ?_, ?_, trivial⟩ ?_
        · repeat (first | (intro _ h; cases h; done) | refine List.forall_mem_cons.2 ⟨stable_V _ _, ?_⟩)
        · intro A W hC hd hx
          have hk : ∀ v, A.eval (.const v) = v := fun _ => rfl
          have hy0 : A.eval (.tmp 3) = .pointer (some ⟨w.heap.size, 0, none⟩) := hx 3 (by simp)
          clear hd
          generalize A.eval = ρ at hk hy0 ⊢
          simp [go_sem, looseUpon, factOf, hk, hy0]
          exact ⟨hC, Below.refl _ _⟩
        · intro A W hC hd hx
          simp [factOf] at hd
          have hld := HLY.out W (HGD.out W hC)
          refine ⟨fun g hg => (by cases hg), ?_⟩
          generalize A.eval = ρ at hd ⊢
          simp [execOp, hd, hld, looseUpon, factOf]
          exact ⟨hC, Below.refl _ _⟩
        · intro A W hC hd hx
          have hk : ∀ v, A.eval (.const v) = v := fun _ => rfl
          have hy0 : A.eval (.tmp 0) = .slice a LL cap := hx 0 (by simp)
          clear hd
          generalize A.eval = ρ at hk hy0 ⊢
          simp [go_sem, looseUpon, factOf, hk, hy0]
          exact ⟨hC, Below.refl _ _⟩
        · intro A W hC hd hx
          have hy0 : A.eval (.tmp 3) = .pointer (some ⟨w.heap.size, 0, none⟩) := hx 3 (by simp)
          have hld := HLD.out W (HGD.out W hC)
          refine ⟨fun g hg => (by cases hg), ?_⟩
          clear hd
          generalize A.eval = ρ at hy0 ⊢
          simp [execOp, hy0, hld, looseUpon, factOf]
          exact ⟨hC, Below.refl _ _⟩
        · intro A W hC hd hx
          simp [factOf] at hd
          obtain ⟨hd0, hd1⟩ := hd
          refine ⟨fun g hg => (by cases hg), ?_⟩
          refine loose_call rfl Tryz.func33 (by kernel_rfl) (by kernel_rfl) ?_
          simp only [List.map_toArray, List.map_cons, List.map_nil, hd0, hd1]
          refine (HNH.out W (HW3.out W hC)).mono ?_
          rintro e' W' ⟨rfl, h4⟩
          exact ⟨_, rfl, rfl, hC.trans (h4.mono hC.size), h4⟩
        · intro A W hC hd hx
          have heq := equal32 y (shaL F) hyl hlf W
          have hge := guard_arr32
          simp [factOf] at hd
          generalize A.eval = ρ at hd ⊢
          simp [go_sem, looseUpon, factOf, hd, heq, hge]
          exact ⟨hC, Below.refl _ _⟩
        · intro A W hC hd hx
          have hk : ∀ v, A.eval (.const v) = v := fun _ => rfl
          simp [factOf] at hd
          generalize A.eval = ρ at hd hk ⊢
          simp [go_sem, looseUpon, factOf, hd, hk]
          exact ⟨hC, Below.refl _ _⟩
        intro W hC
        simp only [ends]
        rintro _ rfl _ rfl _ rfl _ rfl _ rfl _ rfl _ rfl
        simp only [putAll, List.zip_cons_cons, List.zip_nil_left, List.foldl_cons, List.foldl_nil, Act.put, List.setIfInBounds_toArray, List.set_cons_succ, List.set_cons_zero]
        obtain ⟨s4, rfl⟩ := s3.after hC
        clear hC HGD HW3 s3
        by_cases hy : y = shaL F
        · have d1 : decide (y = shaL F) = true := decide_eq_true hy
          have HY := Lib.hid hy
          rw [d1]
          clear d1 hy
          have hst := s4.blocks (w.heap.size + 1, flt8 0 0) (by simp)
          dsimp only at hst
          have hone : (#[.int .i64 0, .int .i64 0] : Array Value).all (·.oneCell') = true := by simp [Value.oneCell']
          obtain ⟨hbw, hhp⟩ := s4.ret8 (g := w.heap.size + 1) (by omega) (e := 0) (a := 0) (by simp) 0 0
          have HBW := Lib.hid (And.intro hbw hhp)
          clear hbw hhp
          go_wp2_with (refine wpList_store_rowTo rfl 30 (.tmp 4) (.tmp 37) rfl rfl (w.heap.size + 1) #[.int .i64 0, .int .i64 0] rfl rfl 30 #[.int .i64 0, .int .i64 0] hst hfi rfl hone ?_)
          refine bodyPost_ret (v := faultV 0 0) ?_ rfl (HQ0.out HX.out HY.out _ HBW.out.1)
          exact results_cell_row Tryz.results16 _ _ (w.heap.size + 1) 30 _ (0, 0) _ rfl HBW.out.2 Tryz.underlying30 rfl hfi
        · have d1 : decide (y = shaL F) = false := decide_eq_false hy
          have HY := Lib.hid hy
          rw [d1]
          clear d1 hy
          have hst := s4.blocks (w.heap.size + 1, flt8 0 0) (by simp)
          dsimp only at hst
          have hone : (#[.int .i64 15, .int .i64 0] : Array Value).all (·.oneCell') = true := by simp [Value.oneCell']
          obtain ⟨hbw, hhp⟩ := s4.ret8 (g := w.heap.size + 1) (by omega) (e := 0) (a := 0) (by simp) 15 0
          have HBW := Lib.hid (And.intro hbw hhp)
          clear hbw hhp
          go_wp2_with (refine wpList_store_rowTo rfl 30 (.tmp 4) (.tmp 36) rfl rfl (w.heap.size + 1) #[.int .i64 15, .int .i64 0] rfl rfl 30 #[.int .i64 0, .int .i64 0] hst hfi rfl hone ?_)
          refine bodyPost_ret (v := faultV 15 0) ?_ rfl (HQ15.out HX.out HY.out _ HBW.out.1)
          exact results_cell_row Tryz.results16 _ _ (w.heap.size + 1) 30 _ (0, 0) _ rfl HBW.out.2 Tryz.underlying30 rfl hfi
      · have d1 : decide (x = shaL l) = false := decide_eq_false hx
        have HX := Lib.hid hx
        rw [d1]
        clear d1 hx
        have hst := s3.blocks (w.heap.size + 1, flt8 0 0) (by simp)
        dsimp only at hst
        have hone : (#[.int .i64 14, .int .i64 0] : Array Value).all (·.oneCell') = true := by simp [Value.oneCell']
        obtain ⟨hbw, hhp⟩ := s3.ret8 (g := w.heap.size + 1) (by omega) (e := 0) (a := 0) (by simp) 14 0
        have HBW := Lib.hid (And.intro hbw hhp)
        clear hbw hhp
        go_wp2_with (refine wpList_store_rowTo rfl 30 (.tmp 4) (.tmp 28) rfl rfl (w.heap.size + 1) #[.int .i64 14, .int .i64 0] rfl rfl 30 #[.int .i64 0, .int .i64 0] hst hfi rfl hone ?_)
        refine bodyPost_ret (v := faultV 14 0) ?_ rfl (HQ14.out HX.out _ HBW.out.1)
        exact results_cell_row Tryz.results16 _ _ (w.heap.size + 1) 30 _ (0, 0) _ rfl HBW.out.2 Tryz.underlying30 rfl hfi
    · have e2 : (o == (LL : Int)) = false := by simpa using ho
      rw [if_pos (show o ≠ (LL : Int) from ho)]
      clear ho
      go_enter Tryz.func16, Tryz.ntmps16
      go_wp2_with (refine wpList_load_row rfl 27 (.tmp 3) rfl w.heap.size rfl 27 _ (0, 0) _ hg Tryz.underlying27 rfl hinf ?_)
      rw [HS.out]
      clear hg
      refine (HeldW.call hc).mono ?_
      rintro _ _ ⟨rfl, s1, rfl⟩
      have c0 : (s1.w.alloc (flt8 e p)).cell? ⟨w.heap.size, 0, none⟩ = some (.int .i64 o) := by
        have := H0.out _ (s1.push (flt8 e p)) (by simp)
        exact this
      obtain ⟨s2, hs2⟩ : ∃ s2 : HeldW w [(w.heap.size + 1, flt8 0 0), (w.heap.size, deltaO D)], s1.w.alloc (flt8 e p) = s2.w := ⟨(s1.push (flt8 e p)).sub (fun q hq => List.mem_cons_of_mem _ (by simp only [List.mem_cons, List.not_mem_nil, or_false] at hq ⊢; rcases hq with rfl | rfl <;> simp)), rfl⟩
      have hst : (s1.w.alloc (flt8 e p)).heap[w.heap.size + 1]? = some (flt8 0 0) := by rw [hs2]; exact s2.blocks (w.heap.size + 1, flt8 0 0) (by simp)
      have hone : (#[.int .i64 13, .int .i64 (LL : Int)] : Array Value).all (·.oneCell') = true := by simp [Value.oneCell']
      obtain ⟨hbw, hhp⟩ := s2.ret8 (g := w.heap.size + 1) (by omega) (e := 0) (a := 0) (by simp) 13 (LL : Int)
      rw [← hs2] at hbw hhp
      have HBW := Lib.hid (And.intro hbw hhp)
      clear hs2 hbw hhp hc
      go_wp2_with (refine wpList_store_rowTo rfl 30 (.tmp 4) (.tmp 20) rfl rfl (w.heap.size + 1) #[.int .i64 13, .int .i64 (LL : Int)] rfl rfl 30 #[.int .i64 0, .int .i64 0] hst hfi rfl hone ?_)
      refine bodyPost_ret (v := faultV 13 (LL : Int)) ?_ rfl ⟨rfl, HBW.out.1⟩
      exact results_cell_row Tryz.results16 _ _ (w.heap.size + 1) 30 _ (0, 0) _ rfl HBW.out.2 Tryz.underlying30 rfl hfi
  · have e1 : (e == 0) = false := by simpa using he
    rw [if_pos (show e ≠ 0 from he)]
    clear he
    go_enter Tryz.func16, Tryz.ntmps16
    go_wp2_with (refine wpList_load_row rfl 27 (.tmp 3) rfl w.heap.size rfl 27 _ (0, 0) _ hg Tryz.underlying27 rfl hinf ?_)
    rw [HS.out]
    clear hg
    refine (HeldW.call hc).mono ?_
    rintro _ _ ⟨rfl, s1, rfl⟩
    obtain ⟨s2, hs2⟩ : ∃ s2 : HeldW w [(w.heap.size + 1, flt8 0 0), (w.heap.size, deltaO D)], s1.w.alloc (flt8 e p) = s2.w := ⟨(s1.push (flt8 e p)).sub (fun q hq => List.mem_cons_of_mem _ (by simp only [List.mem_cons, List.not_mem_nil, or_false] at hq ⊢; rcases hq with rfl | rfl <;> simp)), rfl⟩
    have hst : (s1.w.alloc (flt8 e p)).heap[w.heap.size + 1]? = some (flt8 0 0) := by rw [hs2]; exact s2.blocks (w.heap.size + 1, flt8 0 0) (by simp)
    have hone : (#[.int .i64 e, .int .i64 p] : Array Value).all (·.oneCell') = true := by simp [Value.oneCell']
    obtain ⟨hbw, hhp⟩ := s2.ret8 (g := w.heap.size + 1) (by omega) (e := 0) (a := 0) (by simp) e p
    rw [← hs2] at hbw hhp
    have HBW := Lib.hid (And.intro hbw hhp)
    clear hs2 hbw hhp hc
    go_wp2_with (refine wpList_store_rowTo rfl 30 (.tmp 4) (.tmp 11) rfl rfl (w.heap.size + 1) #[.int .i64 e, .int .i64 p] rfl rfl 30 #[.int .i64 0, .int .i64 0] hst hfi rfl hone ?_)
    refine bodyPost_ret (v := faultV e p) ?_ rfl ⟨rfl, HBW.out.1⟩
    exact results_cell_row Tryz.results16 _ _ (w.heap.size + 1) 30 _ (0, 0) _ rfl HBW.out.2 Tryz.underlying30 rfl hfi
end Go.Proofs.YtdedfjkenbaebaaGreatDoor

/- Apply of the reference of package patch. -/
namespace Go.Proofs.YtdedfjkenbaebaaGreatDoor
open Go.RowKit Go.Proofs.YtdedfjkenbaebaaGreatDoor.Plain01
set_option linter.unusedVariables false
set_option linter.unusedSimpArgs false

theorem valid_cover8 {o n : Int} {l : List Int} {cs : List Cmd} (ho : (l.length : Int) = o) (hv : ValidD o n cs) : ∀ c ∈ cs, okE c.tgt = true ∧ (c.k = 1 ∨ c.k = 2) := fun c hc => by
  have hs := hv.all c hc
  have h2 := (single_ok hs).2.1
  have hl := hv.lens
  unfold LensBad at hl
  exact ⟨okE_iff.2 ⟨by unfold Cmd.tgt; simp only; omega, by unfold Cmd.tgt; simp only; omega, by unfold Cmd.tgt; simp only; omega⟩, (cont_len ho hs).2⟩

/-- A row of bytes that grows. -/
abbrev GB8 (w0 : World) (bs : List (Nat × Obj)) (v : Value) (l : List Int) := Grow w0 none bs [] 5 1 v l.length (l.map (Value.int .u8))
theorem GB8.start (w0 : World) (ob : Obj) : ∃ S : GB8 w0 [(w0.heap.size, ob)] (.slice none 0 0) [], w0.alloc ob = S.w :=
  ⟨⟨w0.alloc ob, ButO.of_below ((Below.refl _ _).alloc (Nat.le_refl _) ob), World.ownsRow_nil _ w0.heap.size 5 1, (fun g hg => by cases hg), (fun p hp => by
    obtain rfl := List.mem_singleton.1 hp
    exact ⟨heap_new w0 ob rfl, by simp [Value.ownBlock]⟩), (fun p hp => by simp at hp)⟩, rfl⟩
/-- One byte out of a block of its own. -/
theorem GB8.one {w0 : World} {bs : List (Nat × Obj)} {v : Value} {l : List Int} {ops : Array Oper} {rest : List Oper} {o : Oper} {a : Act} {Q : Exit → Act → World → Prop} (S : GB8 w0 bs v l) (sO srcO : Operand)
    (hgd : o.guard = none) (ho : o.op = .call { callee := .builtin .append, args := #[sO, srcO], argTypes := #[22, 22] }) (hs : a.eval sO = v) (x : Int) (hx : a.eval srcO = .slice (some ⟨S.w.heap.size, 0, none⟩) 1 1) (hl : l.length ≤ 100000000)
    (H : ∀ v' (S' : GB8 w0 bs v' (l ++ [x])), wpList Tryz.prog ops Q rest (a.put o.dst v') S'.w) : wpList Tryz.prog ops Q (o :: rest) a (S.w.alloc (.cells #[.int .u8 x] 5)) := by
  obtain ⟨E, hE⟩ := elemW8
  obtain ⟨S1, h1⟩ := S.push (.cells #[.int .u8 x] 5 (0, 0))
  have hb := (S1.blocks (S.w.heap.size, .cells #[.int .u8 x] 5 (0, 0)) (by simp)).1
  rw [h1]
  refine Grow.append E S1 sO srcO hgd ho hs ⟨S.w.heap.size, 0, none⟩ 1 1 [.int .u8 x] rfl hx (fun j u hu => ?_) (by simp [Value.oneCell']) (by unfold maxLen; omega) (by rw [hE]; omega) (fun v' S2 => ?_)
  · rw [Addr.add_mid, Nat.zero_add, cell_of hb]
    simpa using hu
  · obtain ⟨S3, h3⟩ := S2.sub (bs' := bs) (fun p hp => List.mem_cons_of_mem _ hp)
    obtain ⟨S4, h4⟩ := S3.conv (n' := (l ++ [x]).length) (xs' := (l ++ [x]).map (Value.int .u8)) (by simp) (by simp)
    rw [h3, h4]
    exact H v' S4
/-- A new zero command. -/
def IsBox5 (base : Nat) : Value → World → Prop := fun v w => ∃ B, v = .pointer (some ⟨B, 0, none⟩) ∧ base ≤ B ∧ w.heap[B]? = some (cmdO 0 0 0 0 (.slice none 0 0))
theorem stable_Box5 (base : Nat) : Stable (fun W W' => Below W.heap.size W W') (IsBox5 base) := fun v w w' ⟨B, h1, h2, h3⟩ hE => ⟨B, h1, h2, (hE.block _ (Array.getElem?_eq_some_iff.1 h3).1).trans h3⟩
/-- A new zero command is written as a whole. -/
theorem Grow.fill5 {w0 : World} {bs : List (Nat × Obj)} {els : List Sl7} {e : TypeId} {size : Nat} {v : Value} {n : Nat} {xs : List Value} (S : Grow w0 none bs els e size v n xs) {W : World} (hW : Below S.w.heap.size S.w W) {B : Nat} (hB : S.w.heap.size ≤ B) {cells old : Array Value} {t : TypeId} (hb : W.heap[B]? = some (.cells old t (0, 0))) :
    ∃ S' : Grow w0 none ((B, .cells cells t (0, 0)) :: bs) els e size v n xs, W.setRow B cells = S'.w := by
  have hbw : Below S.w.heap.size S.w (W.setRow B cells) := below_setRow hW hB _
  exact S.keep (ButO.of_below hbw) _ (List.forall_mem_cons.2 ⟨⟨setRow_heap _ _ _ _ _ _ hb, fun hg => by have := S.ownLt hg; simp only at this; omega⟩, S.held hbw⟩)

theorem newF_step {o : Int} {n : Nat} {l : List Int} {cs : List Cmd} (ho : (l.length : Int) = o) (hv : ValidD o n cs) {k : Nat} (hk : k < n) : ∃ (fi : Nat) (c : Cmd) (i : Nat) (x : Int), findOf cs (k : Int) = fi ∧ cs[fi]? = some c ∧ (k : Int) = c.t + i ∧ (i : Int) < c.w ∧ (c.cont l)[i]? = some x ∧ (newF l n cs).take (k + 1) = (newF l n cs).take k ++ [x] := by
  have hfs := findOf_spec cs (k : Int)
  obtain ⟨j, c0, hj, hh⟩ := (hv.some (k : Int)).1 ⟨by omega, by omega⟩
  have hne : findOf cs (k : Int) ≠ -1 := fun he => hfs.no he c0 (List.mem_of_getElem? hj) hh
  obtain ⟨fi, c, hf, hfc, hc, -⟩ := hfs.yes hne
  have hm := List.mem_of_getElem? hfc
  have hs := hv.all c hm
  have hsb := (single_ok hs).2.1
  have hw := (cont_len ho hs).1
  unfold Cmd.has at hc
  obtain ⟨i, hi⟩ : ∃ i : Nat, (k : Int) = c.t + i := ⟨(k - c.t).toNat, by omega⟩
  have hat := newF_at ho hv hm (i := i) (by omega)
  have hlen : i < (c.cont l).length := by omega
  rw [List.getElem?_eq_getElem hlen, show c.t.toNat + i = k by omega] at hat
  refine ⟨fi, c, i, (c.cont l)[i], hf, hfc, hi, by omega, List.getElem?_eq_getElem hlen, ?_⟩
  rw [List.take_add_one, hat]
  rfl

set_option maxRecDepth 100000 in
set_option maxHeartbeats 4000000 in
theorem rapply8_any (l : List Int) (a : Option Addr) (cap : Nat) (D : Array Value) (o : Int) (n : Nat) (x y : List Int) (ca : Option Addr) (cs : List Cmd) (ccap : Nat) (hD : DeltaOf D o n x y (.slice ca cs.length ccap)) (w : World) (hl : BytesIn w a l cap) (h : CmdsIn w ca cs ccap) (hL : cs.length ≤ 1000000) (hn : n ≤ 1000000) (ho : (l.length : Int) = o) (hv : ValidD o n cs) :
    Calls Tryz.prog 31 #[.slice a l.length cap, .agg D] w (MakesR 5 ((newF l n cs).map (Value.int .u8)) w) := by
  have hcov := valid_cover8 ho hv
  have HFIND := Lib.hid (fun (z : Int) (W : World) (hW : Below w.heap.size w W) => rfind_any D o n x y ca cs ccap hD z W (h.below hW) (fun c hc => (hcov c hc).1))
  have HLD := Lib.hid (fun (W : World) (hW : W.heap[w.heap.size]? = some (deltaO D)) => load_delta hD hW)
  have HD1 := Lib.hid (fun (W : World) (hW : W.heap[w.heap.size]? = some (deltaO D)) => (cell_of hW 1).trans hD.c1)
  have HD66 := Lib.hid (fun (W : World) (hW : W.heap[w.heap.size]? = some (deltaO D)) => (cell_of hW 66).trans hD.c66)
  have HSTEP := Lib.hid (fun k (hk : k < n) => newF_step ho hv hk)
  have HV := Lib.hid (And.intro ho hv)
  have HC := Lib.hid h
  have HL := Lib.hid hl
  have HLEN := Lib.hid (newF_length l n cs)
  have hccap := h.capb
  have hclen := h.len
  obtain ⟨CC, hCC⟩ : ∃ m, m = cs.length := ⟨_, rfl⟩
  have HCC := Lib.hid hCC
  rw [← hCC] at HD66 hclen hL
  obtain ⟨LL, hLL⟩ : ∃ m, m = l.length := ⟨_, rfl⟩
  have HLL := Lib.hid hLL
  have hlcap := hl.capb
  have hllen := hl.len
  rw [← hLL] at hllen ⊢
  obtain ⟨F, hF⟩ : ∃ F, F = newF l n cs := ⟨_, rfl⟩
  rw [← hF] at HSTEP HLEN ⊢
  obtain ⟨POST, hP⟩ : ∃ P, P = MakesR 5 (F.map (Value.int .u8)) w := ⟨_, rfl⟩
  have HP := Lib.hid hP
  rw [← hP]
  clear hD hl h ho hv hcov hCC hLL hF hP
  go_enter Tryz.func31, Tryz.ntmps31
  go_wp2
  obtain ⟨G0, h0⟩ := GB8.start w (deltaO D)
  rw [h0]
  clear h0
  go_loopw [5, 6] (fun v i wr => ∃ k : Nat, k ≤ n ∧ i = .int .i64 k ∧ ∃ m : List Int, Hid (m = F.take k) ∧ ∃ G : GB8 w [(w.heap.size, deltaO D)] v m, wr = G.w) (fun _ i _ => n - (intOf i).toNat)
  case atStart => exact ⟨0, by omega, rfl, [], Lib.hid (by simp), G0, rfl⟩
  case round =>
    clear G0
    obtain ⟨k, hk, rfl, m, hm, G, rfl⟩ := hrel
    have hml : m.length ≤ 1000000 := by rw [hm.out, List.length_take]; omega
    have hg := (G.blocks (w.heap.size, deltaO D) (by simp)).1
    have hg1 := HD1.out _ hg
    by_cases hlt : k < n
    · obtain ⟨fi, c, i, xb, hfi, hci, hki, hiw, hxb, htk⟩ := HSTEP.out k hlt
      have hcm := List.mem_of_getElem? hci
      have hs0 := HV.out.2.all c hcm
      have hsb := (single_ok hs0).2.1
      have hlens := HV.out.2.lens
      unfold LensBad at hlens
      have hfic : fi < CC := by rw [HCC.out]; exact (List.getElem?_eq_some_iff.1 hci).1
      have HTK := Lib.hid htk
      have HFI := Lib.hid hfi
      have HGB := Lib.hid (show ∀ W, Below G.w.heap.size G.w W → Below w.heap.size w W from fun W hW => G.but.below.trans (hW.mono G.but.size))
      have HGH := Lib.hid (show ∀ W, Below G.w.heap.size G.w W → W.heap[w.heap.size]? = some (deltaO D) from fun W hW => heap_below hg hW)
      obtain ⟨b, oo, rfl, x0, x1, x2, x3, x4⟩ := HC.out.at hci
      have HX : Hid (∀ W, Below G.w.heap.size G.w W → W.cell? ⟨b, oo + fi * 5, none⟩ = some (.int .i64 c.k) ∧ W.cell? ⟨b, oo + fi * 5 + 1, none⟩ = some (.int .i64 c.t) ∧ W.cell? ⟨b, oo + fi * 5 + 2, none⟩ = some (.int .i64 c.f) ∧ W.cell? ⟨b, oo + fi * 5 + 3, none⟩ = some (.int .i64 c.n) ∧ W.cell? ⟨b, oo + fi * 5 + 4, none⟩ = some (.slice c.a c.l.length c.cap)) := Lib.hid fun W hW => by
        have hb := HGB.out W hW
        exact ⟨(hb.cell (World.block_lt_of_cell? _ _ x0)).trans x0, (hb.cell (World.block_lt_of_cell? _ _ x1)).trans x1, (hb.cell (World.block_lt_of_cell? _ _ x2)).trans x2, (hb.cell (World.block_lt_of_cell? _ _ x3)).trans x3, (hb.cell (World.block_lt_of_cell? _ _ x4)).trans x4⟩
      have HKI := Lib.hid (And.intro hki (And.intro hiw (And.intro hxb hsb)))
      clear hfi htk hg x0 x1 x2 x3 x4 hki hiw hxb hsb
      go_wp2_with fail
      clear hg1
      have HFC := Lib.hid hfic
      refine wp_region_looseT 8
        [IsV (.pointer (some ⟨w.heap.size, 66, none⟩)), IsV (.slice (some ⟨b, oo, none⟩) CC ccap), IsV (.agg D), IsV (.int .i64 (k : Int)), IsV (.int .i64 (fi : Int)), IsV (.pointer (some ⟨b, oo + fi * 5, none⟩)), IsV (cmdV c.k c.t c.f c.n (.slice c.a c.l.length c.cap)), IsBox5 G.w.heap.size]
        [⟨14, [], [3]⟩, ⟨15, [(0, 14)], []⟩, ⟨16, [], [3]⟩, ⟨17, [], [6]⟩, ⟨18, [(2, 16), (3, 17)], []⟩, ⟨19, [(1, 15), (4, 18)], []⟩, ⟨20, [(5, 19)], []⟩, ⟨7, [], []⟩]
        (fun W => Below G.w.heap.size G.w W) (fun W W' => Below W.heap.size W W') (by kernel_rfl) (by kernel_rfl) (by kernel_rfl) rfl rfl (Below.refl _ G.w).drew ?_
        ⟨?_, ?_, ?_, ?_, ?_, ?_, ?_, ?_, trivial⟩ ?_
      · repeat (first | (intro _ h; cases h; done) | refine List.forall_mem_cons.2 ⟨stable_V _ _, ?_⟩ | refine List.forall_mem_cons.2 ⟨stable_Box5 _, ?_⟩)
      · intro A W hC hd hx
        have hk : ∀ v, A.eval (.const v) = v := fun _ => rfl
        have hy0 : A.eval (.tmp 3) = .pointer (some ⟨w.heap.size, 0, none⟩) := hx 3 (by simp)
        clear hd
        generalize A.eval = ρ at hk hy0 ⊢
        simp [go_sem, looseUpon, factOf, hk, hy0]
        exact ⟨hC, Below.refl _ _⟩
      · intro A W hC hd hx
        have hk : ∀ v, A.eval (.const v) = v := fun _ => rfl
        have c0 := HD66.out W (HGH.out W hC)
        simp [factOf] at hd
        generalize A.eval = ρ at hd hk ⊢
        simp [go_sem, looseUpon, factOf, hd, hk, c0]
        exact ⟨hC, Below.refl _ _⟩
      · intro A W hC hd hx
        have hy0 : A.eval (.tmp 3) = .pointer (some ⟨w.heap.size, 0, none⟩) := hx 3 (by simp)
        have hld := HLD.out W (HGH.out W hC)
        refine ⟨fun g hg => (by cases hg), ?_⟩
        clear hd
        generalize A.eval = ρ at hy0 ⊢
        simp [execOp, hy0, hld, looseUpon, factOf]
        exact ⟨hC, Below.refl _ _⟩
      · intro A W hC hd hx
        have hk : ∀ v, A.eval (.const v) = v := fun _ => rfl
        have hy0 : A.eval (.tmp 6) = .int .i64 (k : Int) := hx 6 (by simp)
        clear hd
        generalize A.eval = ρ at hk hy0 ⊢
        simp [go_sem, looseUpon, factOf, hk, hy0]
        exact ⟨hC, Below.refl _ _⟩
      · intro A W hC hd hx
        simp [factOf] at hd
        obtain ⟨hd0, hd1⟩ := hd
        refine ⟨fun g hg => (by cases hg), ?_⟩
        refine loose_call rfl Tryz.func74 (by kernel_rfl) (by kernel_rfl) ?_
        simp only [List.map_toArray, List.map_cons, List.map_nil, hd0, hd1]
        have hw := HFIND.out (k : Int) W (HGB.out W hC)
        rw [HFI.out] at hw
        refine hw.mono ?_
        rintro e' W' ⟨rfl, h4⟩
        exact ⟨_, rfl, rfl, hC.trans (h4.mono hC.size), h4⟩
      · intro A W hC hd hx
        have hk : ∀ v, A.eval (.const v) = v := fun _ => rfl
        have c0 := HFC.out
        simp [factOf] at hd
        generalize A.eval = ρ at hd hk ⊢
        simp [go_sem, looseUpon, factOf, hd, hk, c0]
        exact ⟨hC, Below.refl _ _⟩
      · intro A W hC hd hx
        have hk : ∀ v, A.eval (.const v) = v := fun _ => rfl
        have c0 := (HX.out W hC).1
        have c1 := (HX.out W hC).2.1
        have c2 := (HX.out W hC).2.2.1
        have c3 := (HX.out W hC).2.2.2.1
        have c4 := (HX.out W hC).2.2.2.2
        simp [factOf] at hd
        generalize A.eval = ρ at hd hk ⊢
        simp [go_sem, looseUpon, factOf, hd, hk, c0, c1, c2, c3, c4]
        exact ⟨hC, Below.refl _ _⟩
      · intro A W hC hd hx
        have hk : ∀ v, A.eval (.const v) = v := fun _ => rfl
        clear hd
        generalize A.eval = ρ at hk ⊢
        simp [go_sem, looseUpon, factOf, hk]
        exact ⟨⟨_, rfl, hC.size, World.alloc_heap_new _ _⟩, hC.alloc hC.size _, (Below.refl _ _).alloc (Nat.le_refl _) _⟩
      · intro W hC
        simp only [ends]
        rintro _ rfl _ rfl _ rfl _ rfl _ rfl _ rfl _ rfl _ ⟨B, rfl, hB, hbz⟩
        simp only [putAll, List.zip_cons_cons, List.zip_nil_left, List.foldl_cons, List.foldl_nil, Act.put, List.setIfInBounds_toArray, List.set_cons_succ, List.set_cons_zero, List.drop_succ_cons, List.drop_zero]
        obtain ⟨G2, hG2⟩ := G.fill5 hC hB (cells := #[.int .i64 c.k, .int .i64 c.t, .int .i64 c.f, .int .i64 c.n, .slice c.a c.l.length c.cap]) hbz
        have HG2 := Lib.hid hG2
        clear hG2
        obtain ⟨hki, hiw, hxb, hsb⟩ := HKI.out
        have hcont := hxb
        unfold Cmd.cont contC Cmd.core at hcont
        simp only at hcont
        have hww : Hid (Below w.heap.size w G2.w) := Lib.hid G2.but.below
        have HNX := Lib.hid (show m ++ [xb] = F.take (k + 1) by rw [HTK.out, hm.out])
        have HCB := Lib.hid ((HC.out.ok c hcm).b)
        have hk12 := (cont_len HV.out.1 hs0).2
        have hcd := cmd_cells (G2.blocks (B, cmdO c.k c.t c.f c.n (.slice c.a c.l.length c.cap)) (by simp)).1
        dsimp only at hcd
        have hg2 := (G2.blocks (w.heap.size, deltaO D) (by simp)).1
        have hinf : (Tryz.prog.info? 62).map (·.size) = some (#[.int .i64 c.k, .int .i64 c.t, .int .i64 c.f, .int .i64 c.n, .slice c.a c.l.length c.cap] : Array Value).size := by
          show _ = some 5
          kernel_rfl
        have hone : (#[.int .i64 c.k, .int .i64 c.t, .int .i64 c.f, .int .i64 c.n, .slice c.a c.l.length c.cap] : Array Value).all (·.oneCell') = true := by simp [Value.oneCell']
        have hsz : (#[.int .i64 0, .int .i64 0, .int .i64 0, .int .i64 0, .slice none 0 0] : Array Value).size = (#[.int .i64 c.k, .int .i64 c.t, .int .i64 c.f, .int .i64 c.n, .slice c.a c.l.length c.cap] : Array Value).size := rfl
        rcases hk12 with hk | hk
        · obtain ⟨q1, q2⟩ := (single_ok hs0).2.2 hk
          rw [if_pos hk] at hcont
          have hwn : c.w = c.n := by unfold Cmd.w wlen; rw [if_pos hk]
          have hll : (LL : Int) = o := by rw [HLL.out]; exact HV.out.1
          obtain ⟨j, hj⟩ : ∃ j : Nat, j = c.f.toNat + i := ⟨_, rfl⟩
          have hjl : j < LL := by omega
          rw [List.getElem?_take, if_pos (by omega), List.getElem?_drop, ← hj] at hcont
          obtain ⟨bA, oA, rfl, hcA⟩ := HL.out.cells (by rw [← HLL.out]; omega)
          have hcj := hcA j (by rw [← HLL.out]; exact hjl)
          rw [hcont] at hcj
          have d5 : G2.w.cell? ⟨bA, oA + j, none⟩ = some (.int .u8 xb) := (hww.out.cell (World.block_lt_of_cell? _ _ hcj)).trans hcj
          have e1 : (c.k == 1) = true := by rw [hk]; rfl
          have e32 : c.f + (k : Int) - c.t = (j : Int) := by omega
          have hb1 : c.f ≤ 4611686018427387903 := by omega
          have hb2 : 0 ≤ c.t := by omega
          have hb3 : c.t ≤ 4611686018427387903 := by omega
          obtain ⟨d0, d1, d2, d3, d4⟩ := hcd
          clear hcont hcj hcA hj hki hiw hxb hsb hk hwn hll hs0 hlens q2
          refine wpList_store_rowTo rfl 62 (.tmp 7) (.tmp 20) rfl rfl B #[.int .i64 c.k, .int .i64 c.t, .int .i64 c.f, .int .i64 c.n, .slice c.a c.l.length c.cap] rfl rfl 62 #[.int .i64 0, .int .i64 0, .int .i64 0, .int .i64 0, .slice none 0 0] hbz hinf hsz hone ?_
          rw [HG2.out]
          go_wp2_with ((refine GB8.one G2 (.tmp 24) (.tmp 35) rfl rfl rfl xb rfl (by omega) ?_; intro v' G3))
          obtain ⟨G4, h4⟩ := G3.sub (bs' := [(w.heap.size, deltaO D)]) (by simp)
          have H4 := Lib.hid h4
          clear d0 d1 d2 d3 d4 d5 h4
          go_roundw
          case rel => exact ⟨k + 1, by omega, by go_num, _, HNX, G4, H4.out⟩
          case measure => simp [intOf]; omega
        · rw [if_neg (by omega)] at hcont
          have hil := (List.getElem?_eq_some_iff.1 hcont).1
          obtain ⟨bA, oA, hca, hcA⟩ := HCB.out.cells (by omega)
          have hcj := hcA i hil
          rw [hcont] at hcj
          have d5 : G2.w.cell? ⟨bA, oA + i, none⟩ = some (.int .u8 xb) := (hww.out.cell (World.block_lt_of_cell? _ _ hcj)).trans hcj
          have e1 : (c.k == 1) = false := by rw [hk]; rfl
          have e43 : (k : Int) - c.t = (i : Int) := by omega
          have hb2 : 0 ≤ c.t := by omega
          have hb3 : c.t ≤ 4611686018427387903 := by omega
          have hcl := HCB.out.len
          obtain ⟨d0, d1, d2, d3, d4⟩ := hcd
          replace d4 : G2.w.cell? ⟨B, 4, none⟩ = some (.slice (some ⟨bA, oA, none⟩) c.l.length c.cap) := d4.trans (by rw [hca])
          have hcc := HCB.out.capb
          clear hcont hcj hcA hki hiw hxb hsb hk hs0 hlens
          refine wpList_store_rowTo rfl 62 (.tmp 7) (.tmp 20) rfl rfl B #[.int .i64 c.k, .int .i64 c.t, .int .i64 c.f, .int .i64 c.n, .slice c.a c.l.length c.cap] rfl rfl 62 #[.int .i64 0, .int .i64 0, .int .i64 0, .int .i64 0, .slice none 0 0] hbz hinf hsz hone ?_
          rw [HG2.out]
          go_wp2_with ((refine GB8.one G2 (.tmp 37) (.tmp 46) rfl rfl rfl xb rfl (by omega) ?_; intro v' G3))
          obtain ⟨G4, h4⟩ := G3.sub (bs' := [(w.heap.size, deltaO D)]) (by simp)
          have H4 := Lib.hid h4
          clear d0 d1 d2 d3 d4 d5 h4
          go_roundw
          case rel => exact ⟨k + 1, by omega, by go_num, _, HNX, G4, H4.out⟩
          case measure => simp [intOf]; omega
    · obtain rfl : k = n := by omega
      have hmF : m = F := by rw [hm.out, ← HLEN.out, List.take_length]
      have HQ : Hid (POST (.returned u5) G.w) := Lib.hid (by
        rw [HP.out, ← hmF]
        exact ⟨u5, rfl, ⟨G.w, G.but.below, by have := G.own; rw [List.length_map]; exact this⟩, rfl⟩)
      clear hmF
      go_wp2
      exact HQ.out
end Go.Proofs.YtdedfjkenbaebaaGreatDoor

/- ShaClones returns true for all bytes, and changes nothing that was there. -/
namespace Go.Proofs.YtdedfjkenbaebaaGreatDoor
open Go.RowKit
set_option linter.unusedVariables false

theorem HeldW.src {w : World} {a : Option Addr} {l : List Int} {cap g : Nat} (h : BytesIn w a l cap) (hg : w.heap.size ≤ g) {bs : List (Nat × Obj)} (s : HeldW w bs) : Src s.w g a l := (h.src hg).below s.below

/-- Write of one part that lies in a new block. -/
theorem write1 {w : World} {bs : List (Nat × Obj)} {g P : Nat} {o : Obj} {m l : List Int} {a : Option Addr} {cap : Nat} (s : HeldW w ((P, .cells #[.slice a l.length cap] 22 (0, 0)) :: (g, o) :: bs)) (hR : Hid (Roots w)) (hi : Hid (Inv m o)) (hg : w.heap.size ≤ g) (hP : P ≠ g)
    (hne : ∀ p ∈ bs, p.1 ≠ g) (hs : Src s.w g a l) (hcap : l.length ≤ cap) (hcap2 : cap ≤ 9223372036854775807) (hm : m.length + l.length < 1000000) :
    Calls Tryz.prog 60 #[.pointer (some ⟨g, 0, none⟩), .slice (some ⟨P, 0, none⟩) 1 1] s.w fun e w'' => e = .returned (.int .i64 l.length) ∧ ∃ o', Hid (Inv (m ++ l) o') ∧ ∃ s' : HeldW w ((g, o') :: bs), w'' = s'.w := by
  have hw := write_any g m [l] o (some ⟨P, 0, none⟩) 1 s.w hi.out (s.blocks (g, o) (List.mem_cons_of_mem _ List.mem_cons_self)) (by have := hR.out.pos; omega) (hR.out.W s) (parts1 (s.blocks (_, _) List.mem_cons_self) hP hcap hcap2 hs) (by simp) (by simp; omega)
  rw [show ([l] : List (List Int)).flatten = l by simp] at hw
  exact HeldW.takes (s := s.sub (bs' := (g, o) :: bs) (fun p hp => List.mem_cons_of_mem _ hp)) hw hg hne

/-- Of of two parts that lie in a new block. -/
theorem of2 {w : World} {bs : List (Nat × Obj)} {l l' : List Int} {a a' : Option Addr} {cap cap' : Nat} (s : HeldW w bs) (hR : Hid (Roots w)) (hs : ∀ {g : Nat}, w.heap.size ≤ g → ∀ {bs : List (Nat × Obj)} (s : HeldW w bs), Src s.w g a l) (hcap : l.length ≤ cap) (hcap2 : cap ≤ 9223372036854775807)
    (hs' : ∀ {g : Nat}, w.heap.size ≤ g → ∀ {bs : List (Nat × Obj)} (s : HeldW w bs), Src s.w g a' l') (hcap' : l'.length ≤ cap') (hcap2' : cap' ≤ 9223372036854775807) (hm : l.length + l'.length < 1000000) :
    Calls Tryz.prog 24 #[.slice (some ⟨s.w.heap.size, 0, none⟩) 2 2] (s.w.alloc (.cells #[.slice a l.length cap, .slice a' l'.length cap'] 22)) fun e w'' => e = .returned (.agg (byteA (shaL (l ++ l')))) ∧ ∃ s' : HeldW w bs, w'' = s'.w := by
  have hb := (s.push (.cells #[.slice a l.length cap, .slice a' l'.length cap'] 22 (0, 0))).blocks (_, _) List.mem_cons_self
  have ho := of_any [l, l'] (some ⟨s.w.heap.size, 0, none⟩) 2 (s.push (.cells #[.slice a l.length cap, .slice a' l'.length cap'] 22 (0, 0))).w (hR.out.W _) (fun g hg => by
    have hlt := (Array.getElem?_eq_some_iff.1 hb).1
    have hw := (s.push (.cells #[.slice a l.length cap, .slice a' l'.length cap'] 22 (0, 0))).below.size
    exact parts2 hb (Nat.ne_of_lt (Nat.lt_of_lt_of_le hlt hg)) hcap hcap2 (hs (Nat.le_trans hw hg) _) hcap' hcap2' (hs' (Nat.le_trans hw hg) _)) (by simp) (by simp; omega)
  rw [show ([l, l'] : List (List Int)).flatten = l ++ l' by simp] at ho
  refine (HeldW.call ho).mono ?_
  rintro e _ ⟨rfl, s2, rfl⟩
  exact ⟨rfl, s2.sub (fun p hp => List.mem_cons_of_mem _ hp), rfl⟩
/-- Of of one part that lies in a new block. -/
theorem of1 {w : World} {bs : List (Nat × Obj)} {l : List Int} {a : Option Addr} {cap : Nat} (s : HeldW w bs) (hR : Hid (Roots w)) (hs : ∀ {g : Nat}, w.heap.size ≤ g → ∀ {bs : List (Nat × Obj)} (s : HeldW w bs), Src s.w g a l) (hcap : l.length ≤ cap) (hcap2 : cap ≤ 9223372036854775807) (hm : l.length < 1000000) :
    Calls Tryz.prog 24 #[.slice (some ⟨s.w.heap.size, 0, none⟩) 1 1] (s.w.alloc (.cells #[.slice a l.length cap] 22)) fun e w'' => e = .returned (.agg (byteA (shaL l))) ∧ ∃ s' : HeldW w bs, w'' = s'.w := by
  have hb := (s.push (.cells #[.slice a l.length cap] 22 (0, 0))).blocks (_, _) List.mem_cons_self
  have ho := of_any [l] (some ⟨s.w.heap.size, 0, none⟩) 1 (s.push (.cells #[.slice a l.length cap] 22 (0, 0))).w (hR.out.W _) (fun g hg => by
    have hlt := (Array.getElem?_eq_some_iff.1 hb).1
    have hw := (s.push (.cells #[.slice a l.length cap] 22 (0, 0))).below.size
    exact parts1 hb (Nat.ne_of_lt (Nat.lt_of_lt_of_le hlt hg)) hcap hcap2 (hs (Nat.le_trans hw hg) _)) (by simp) (by simp; omega)
  rw [show ([l] : List (List Int)).flatten = l by simp] at ho
  refine (HeldW.call ho).mono ?_
  rintro e _ ⟨rfl, s2, rfl⟩
  exact ⟨rfl, s2.sub (fun p hp => List.mem_cons_of_mem _ hp), rfl⟩

end Go.Proofs.YtdedfjkenbaebaaGreatDoor

/- ShaNil returns true for all bytes, and changes nothing that was there. -/
namespace Go.Proofs.YtdedfjkenbaebaaGreatDoor
open Go.RowKit
set_option linter.unusedVariables false

end Go.Proofs.YtdedfjkenbaebaaGreatDoor
