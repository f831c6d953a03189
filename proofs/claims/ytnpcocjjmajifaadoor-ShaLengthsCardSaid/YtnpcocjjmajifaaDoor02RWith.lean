/- With of the reference. -/
import Derived.Deep.RegionWith
import Derived.Test.YtnpcocjjmajifaaDoor02RTable
namespace Go.Proofs.YtnpcocjjmajifaaDoor
open Go.RowKit
set_option linter.unusedVariables false

/-- Eight words of a state that lie somewhere. -/
def StateAt (w : World) (v : V8) (x : Value) : Prop := ∃ g o c, x = .slice (some ⟨g, o, none⟩) 8 c ∧ 8 ≤ c ∧ c ≤ 9223372036854775807 ∧ ∀ i, i < 8 → w.cell? ⟨g, o + i, none⟩ = some (.int .u32 (v.at i))

set_option maxRecDepth 100000 in
set_option maxHeartbeats 8000000 in
theorem with_any (m : List Int) (a : Option Addr) (cap : Nat) (w : World) (hb : BytesIn w a m cap) (hm : m.length ≤ 1000) (gS cS gK cK : Nat) (hk : KeysIn w gS cS gK cK) : Calls Tryd.prog 22 #[.slice a m.length cap, .agg (keysA gS cS gK cK)] w (Gives (.agg (byteA (shaL m))) w) := by
  have HB := Lib.hid hb
  have HK := Lib.hid hk
  obtain ⟨n, hn⟩ : ∃ n, n = m.length := ⟨_, rfl⟩
  have HNL := Lib.hid hn
  rw [← hn] at hm ⊢
  clear hb hk hn
  obtain ⟨s0, hs0⟩ := two_blocks w (.cells (keysA gS cS gK cK) 46 (0, 0)) (.cells (byteA zeroD) 24 (0, 0))
  have hc0 : s0.w.cell? ⟨w.heap.size, 0, none⟩ = some (.slice (some ⟨gS, 0, none⟩) 8 cS) := by rw [cell_of (s0.blocks (w.heap.size, .cells (keysA gS cS gK cK) 46 (0, 0)) (by simp))]; rfl
  have HS := Lib.hid hs0
  have hc0' : ((w.alloc (.cells (keysA gS cS gK cK) 46)).alloc (.cells zero32 24)).cell? ⟨w.heap.size, 0, none⟩ = some (.slice (some ⟨gS, 0, none⟩) 8 cS) := by rw [← hc0, hs0]; rfl
  clear hs0 hc0
  go_enter Tryd.func22, Tryd.ntmps22
  go_wp2_with fail
  obtain ⟨sP, hP⟩ : ∃ x : HeldW w [(w.heap.size + 1, .cells (byteA zeroD) 24 (0, 0)), (w.heap.size, .cells (keysA gS cS gK cK) 46 (0, 0))], (w.alloc (.cells (keysA gS cS gK cK) 46)).alloc (.cells zero32 24) = x.w := ⟨s0, HS.out.symm⟩
  rw [show (w.alloc (.cells (keysA gS cS gK cK) 46)).alloc (.cells zero32 24) = sP.w from hP]
  have hpad := rpad_any m a cap sP.w (by
    refine ⟨HB.out.len, HB.out.capb, fun h => ?_, HB.out.nil⟩
    obtain ⟨b, o, h1, h2⟩ := HB.out.cells h
    exact ⟨b, o, h1, fun i hi => (sP.below.cell (p := ⟨b, o + i, none⟩) (World.block_lt_of_cell? _ _ (h2 i hi))).trans (h2 i hi)⟩) (by rw [← HNL.out]; exact hm)
  rw [← HNL.out] at hpad
  clear hP hc0' HS s0
  refine hpad.mono ?_
  rintro e _ ⟨v, rfl, oP, rfl⟩
  clear hpad
  obtain ⟨M, hM⟩ : ∃ M, M = m ++ padL n := ⟨_, rfl⟩
  obtain ⟨Qn, hQn⟩ : ∃ Qn, M.length = 64 * Qn := ⟨M.length / 64, by rw [hM, List.length_append, padL_length, ← HNL.out]; unfold zerosOf; omega⟩
  have hQ0 : 0 < Qn := by
    have : M.length = n + (zerosOf n + 9) := by rw [hM, List.length_append, padL_length, ← HNL.out]
    omega
  have hQ1 : Qn ≤ 100 := by
    have : M.length = n + (zerosOf n + 9) := by rw [hM, List.length_append, padL_length, ← HNL.out]
    unfold zerosOf at this; omega
  obtain ⟨gP, cP, curP, rfl, hP1, hP2, hgP, hneP, HcP, s1, hs1⟩ := sP.own oP (64 * Qn) (by rw [List.length_map, ← hM, hQn]) (by omega)
  rw [show oP.w = s1.w from hs1]
  have HF := Lib.hid (show ∀ i, i < 64 * Qn → s1.w.cell? ⟨gP, i, none⟩ = some (.int .u8 (byteAt M i)) from fun i hi => by
    rw [cell_of (s1.blocks (gP, .cells curP 5 (0, 0)) (by simp))]
    refine HcP.out i _ ?_
    rw [List.getElem?_map, ← hM, byteAt, List.getElem?_eq_getElem (by rw [hQn]; exact hi)]; rfl)
  have HKS := Lib.hid (show KeysIn s1.w gS cS gK cK from ⟨HK.out.s1, HK.out.s2, HK.out.k1, HK.out.k2, fun i hi => (s1.below.cell (p := ⟨gS, 0 + i, none⟩) (World.block_lt_of_cell? _ _ (HK.out.s i hi))).trans (HK.out.s i hi), fun i hi => (s1.below.cell (p := ⟨gK, 0 + i, none⟩) (World.block_lt_of_cell? _ _ (HK.out.k i hi))).trans (HK.out.k i hi)⟩)
  have HB1 := Lib.hid (show s1.w.cell? ⟨w.heap.size, 1, none⟩ = some (.slice (some ⟨gK, 0, none⟩) 64 cK) by rw [cell_of (s1.blocks (w.heap.size, .cells (keysA gS cS gK cK) 46 (0, 0)) (by simp))]; rfl)
  have HZ := Lib.hid (s1.blocks (w.heap.size + 1, .cells (byteA zeroD) 24 (0, 0)) (by simp))
  have HBL := Lib.hid s1.below
  have HM := Lib.hid hM
  clear hs1 hM HcP hneP oP HK HB
  generalize s1.w = w2 at HF HKS HB1 HZ HBL ⊢
  clear s1 sP
  go_wp2
  go_loopw [5, 7] (fun x i wr => ∃ q : Nat, q ≤ Qn ∧ i = .int .i64 ((64 * q : Nat) : Int) ∧ ∃ s : HeldW w2 [], wr = s.w ∧ StateAt s.w (stF (byteAt M) q) x) (fun _ i _ => 64 * Qn - (intOf i).toNat)
  case atStart => exact ⟨0, by omega, rfl, HeldW.start w2, rfl, gS, 0, cS, rfl, HKS.out.s1, HKS.out.s2, HKS.out.s⟩
  case round =>
    obtain ⟨q, hq, rfl, s, rfl, g, o, c, rfl, hc1, hc2, hst⟩ := hrel
    have HST := Lib.hid hst
    clear hst
    obtain ⟨I, hI⟩ : ∃ I, I = 64 * q := ⟨_, rfl⟩
    rw [← hI]
    by_cases hlt : q < Qn
    · have hI2 : I + 64 ≤ 64 * Qn := by omega
      have hw64 : IntKind.i64.wrap ((I : Int) + 64) = (I : Int) + 64 := by simp [IntKind.wrap, IntKind.bits, IntKind.signed]; omega
      have hb1 : s.w.drew.cell? ⟨w.heap.size, 1, none⟩ = some (.slice (some ⟨gK, 0, none⟩) 64 cK) := by
        show s.w.cell? _ = _
        exact (s.below.cell (p := ⟨w.heap.size, 1, none⟩) (World.block_lt_of_cell? _ _ HB1.out)).trans HB1.out
      have hcI : ¬ cP = I := by omega
      have hI3 : (I : Int) + 64 ≤ (cP : Int) := by omega
      have hI4 : ((I : Int) + 64).toNat = I + 64 := by omega
      have hI5 : (0 : Int) ≤ (I : Int) + 64 := by omega
      have hI6 : max ((I : Int) + 64) 0 = (I : Int) + 64 := by omega
      have HI := Lib.hid hI
      have hlm : ((I : Int) < ((64 * Qn : Nat) : Int)) := by omega
      clear hI
      obtain ⟨W, hW⟩ : ∃ W, W = wl (fun i => byteAt M (64 * q + i)) 64 := ⟨_, rfl⟩
      have HLW := Lib.hid (show W.length = 64 by rw [hW, wl_length])
      have HNX := Lib.hid (show stF (byteAt M) (q + 1) = mixW (stF (byteAt M) q) W by rw [hW]; rfl)
      have hsch : Calls Tryd.prog 32 #[.slice (some ⟨gP, I, none⟩) 64 (cP - I)] s.w.drew (fun e w' => ∃ gw cw, e = .returned (.slice (some ⟨gw, 0, none⟩) 64 cw) ∧
          Hid (64 ≤ cw ∧ cw ≤ 9223372036854775807 ∧ (∀ i, i < 64 → w'.cell? ⟨gw, 0 + i, none⟩ = some (.int .u32 (W[i]?.getD 0))) ∧ (∀ i, i < 8 → w'.cell? ⟨g, o + i, none⟩ = some (.int .u32 ((stF (byteAt M) q).at i)))) ∧ ∃ x : HeldW w2 [], w' = x.w) := by
        have h := rsched_any gP I (cP - I) (fun i => byteAt M (64 * q + i)) (by omega) (by omega) s.w.drew (fun i hi => by
          have h := HF.out (64 * q + i) (by omega)
          rw [HI.out, ← h]
          exact s.below.cell (p := ⟨gP, 64 * q + i, none⟩) (World.block_lt_of_cell? w2 _ h))
        rw [← hW] at h
        refine h.mono ?_
        rintro e w' ⟨v, rfl, oS, rfl⟩
        obtain ⟨gw, cw, rfl, hgw, hcw, hcm, hcells⟩ := oS.row 64 (by rw [List.length_map, HLW.out]) (by omega)
        refine ⟨gw, cw, rfl, ⟨hcw, by unfold maxLen at hcm; omega, fun i hi => ?_, fun i hi => ?_⟩, ⟨oS.w, s.below.drew.trans (oS.below.mono s.below.drew.size), fun p hp => by cases hp⟩, rfl⟩
        · rw [Nat.zero_add]
          refine hcells i _ ?_
          rw [List.getElem?_map, List.getElem?_eq_getElem (by rw [HLW.out]; exact hi)]; rfl
        · have h := HST.out i hi
          have h2 : s.w.drew.cell? ⟨g, o + i, none⟩ = some (.int .u32 ((stF (byteAt M) q).at i)) := h
          rw [← h2]
          exact oS.below.cell (p := ⟨g, o + i, none⟩) (World.block_lt_of_cell? _ _ h2)
      have hb2 : ∀ x : HeldW w2 [], x.w.cell? ⟨w.heap.size, 1, none⟩ = some (.slice (some ⟨gK, 0, none⟩) 64 cK) := fun x =>
        (x.below.cell (p := ⟨w.heap.size, 1, none⟩) (World.block_lt_of_cell? _ _ HB1.out)).trans HB1.out
      have hblk : ∀ (gw cw : Nat) (x : HeldW w2 []), Hid (64 ≤ cw ∧ cw ≤ 9223372036854775807 ∧ (∀ i, i < 64 → x.w.cell? ⟨gw, 0 + i, none⟩ = some (.int .u32 (W[i]?.getD 0))) ∧ (∀ i, i < 8 → x.w.cell? ⟨g, o + i, none⟩ = some (.int .u32 ((stF (byteAt M) q).at i)))) →
          Calls Tryd.prog 31 #[.slice (some ⟨g, o, none⟩) 8 c, .slice (some ⟨gw, 0, none⟩) 64 cw, .slice (some ⟨gK, 0, none⟩) 64 cK] x.w (fun e w' => ∃ v, e = .returned v ∧ ∃ y : HeldW w2 [], w' = y.w ∧ Hid (StateAt y.w (stF (byteAt M) (q + 1)) v)) := fun gw cw x hx => by
        have h := rblock_any (stF (byteAt M) q) W HLW.out g o c gw 0 cw gK 0 cK hc1 hc2 hx.out.1 hx.out.2.1 HKS.out.k1 HKS.out.k2 x.w hx.out.2.2.2 hx.out.2.2.1 (fun i hi =>
          (x.below.cell (p := ⟨gK, 0 + i, none⟩) (World.block_lt_of_cell? _ _ (HKS.out.k i hi))).trans (HKS.out.k i hi))
        refine h.mono ?_
        rintro e w' ⟨v, rfl, oS, rfl⟩
        refine ⟨v, rfl, ⟨oS.w, x.below.trans (oS.below.mono x.below.size), fun p hp => by cases hp⟩, rfl, ?_⟩
        rw [HNX.out]
        obtain ⟨gv, cv, rfl, hgv, hcv, hcm, hcells⟩ := oS.row 8 (by rw [List.length_map]; rfl) (by omega)
        refine ⟨gv, 0, cv, rfl, hcv, by unfold maxLen at hcm; omega, fun i hi => ?_⟩
        rw [Nat.zero_add]
        refine hcells i _ ?_
        rw [List.getElem?_map, V8.at, List.getElem?_eq_getElem (show i < (mixW (stF (byteAt M) q) W).list.length from hi)]; rfl
      have HS := Lib.hid hsch
      have HBK := Lib.hid hblk
      clear hsch hblk hW
      go_wp2
      go_region_with (first | (go_at_call 32; refine HS.out.mono ?_; rintro e _ ⟨gw, cw, rfl, hx, x, rfl⟩) | (go_at_call 31; refine (HBK.out _ _ _ hx).mono ?_; rintro e _ ⟨v, rfl, y, rfl, hst⟩))
      all_goals
        clear hb1 hb2 hcI hI3 hI4 hI5 hI6 hw64
        have hw64 : IntKind.i64.wrap ((I : Int) + 64) = (I : Int) + 64 := by simp [IntKind.wrap, IntKind.bits, IntKind.signed]; omega
        go_wp2
        go_roundw
        case rel => exact ⟨q + 1, by omega, by have := HI.out; subst this; go_num, y, rfl, hst.out⟩
        case measure => simp [intOf]; omega
    · obtain rfl : q = Qn := by omega
      have HI := Lib.hid hI
      have hle : ¬ ((I : Int) < ((64 * q : Nat) : Int)) := by omega
      clear hI
      have HBS := Lib.hid s.below
      have HZS := Lib.hid (show s.w.heap[w.heap.size + 1]? = some (.cells (byteA zeroD) 24 (0, 0)) from (s.below.block _ (Array.getElem?_eq_some_iff.1 HZ.out).1).trans HZ.out)
      have HGE := Lib.hid (show w.heap.size ≤ s.w.heap.size from Nat.le_trans HBL.out.size s.below.size)
      have HRES := Lib.hid (show shaL m = digL (stF (byteAt M) q) 32 by
        unfold shaL
        rw [← HNL.out, ← HM.out, hQn, Nat.mul_comm, Nat.mul_div_cancel _ (by omega)])
      generalize stF (byteAt M) q = v at HST HRES
      generalize s.w = w3 at HST HBS HZS HGE ⊢
      clear s
      go_wp2
      go_loopw [9] (fun i wr => ∃ k : Nat, k ≤ 32 ∧ i = .int .i64 k ∧ ∃ s : HeldW w3 [(w3.heap.size, .cells (byteA (digK v k)) 24 (0, 0))], wr = s.w) (fun i _ => 32 - (intOf i).toNat)
      case atStart => exact ⟨0, by omega, rfl, (HeldW.start w3).push (.cells (byteA (digK v 0)) 24 (0, 0)), rfl⟩
      case round =>
        obtain ⟨k, hk, rfl, s, rfl⟩ := hrel
        have hblk : s.w.heap[w3.heap.size]? = some (.cells (byteA (digK v k)) 24 (0, 0)) := s.blocks (_, _) List.mem_cons_self
        by_cases hlt : k < 32
        · obtain ⟨d, j, hkd, hj, hd⟩ : ∃ d j : Nat, k = 4 * d + j ∧ j < 4 ∧ d < 8 := ⟨k / 4, k % 4, by omega, by omega, by omega⟩
          have hst := HST.out d hd
          have hc : s.w.cell? ⟨g, o + d, none⟩ = some (.int .u32 (v.at d)) := (s.below.cell (p := ⟨g, o + d, none⟩) (World.block_lt_of_cell? _ _ hst)).trans hst
          have hdiv : (k : Int) / 4 = (d : Int) := by omega
          have hmod : (k : Int) % 4 = (j : Int) := by omega
          have hcell : s.w.cell? ⟨w3.heap.size, k, none⟩ = some (.int .u8 ((digK v k)[k]?.getD 0)) := by
            rw [cell_of hblk, byteA_get _ (by rw [digK_length _ (by omega)]; omega)]
          have hfree := free_of hblk k
          have HKK := Lib.hid (show (byteA (digK v k)).setIfInBounds k (.int .u8 (v.at d / 2 ^ (24 - 8 * j) % 256)) = byteA (digK v (k + 1)) by
            rw [digB_at v d hj, ← hkd, byteA_set, digK_set v hlt])
          have HKD := Lib.hid hkd
          clear hblk hst hkd
          go_wp2
          go_roundw
          case rel => exact ⟨k + 1, by omega, by go_num, s.store (Nat.le_refl _) (by simp) HKK.out, rfl⟩
          case measure => simp [intOf]; omega
        · obtain rfl : k = 32 := by omega
          have hst : s.w.heap[w3.heap.size]? = some (.cells (byteA (digL v 32)) 24 (0, 0)) := hblk.trans (by rw [digK_end])
          have hrs : s.w.heap[w.heap.size + 1]? = some (.cells (byteA zeroD) 24 (0, 0)) := (s.below.block _ (Array.getElem?_eq_some_iff.1 HZS.out).1).trans HZS.out
          have hsz : (byteA (digL v 32)).size = 32 := by rw [byteA_size, digL_length]
          have hsr : (byteA zeroD).size = (byteA (digL v 32)).size := by rw [hsz]; rfl
          have hinf : (Tryd.prog.info? 24).map (·.size) = some (byteA (digL v 32)).size := by rw [hsz]; kernel_rfl
          have hone := byteA_one (digL v 32)
          clear hsz hblk
          go_wp2_with (first
            | (refine wpList_load_row rfl 24 (.tmp 8) rfl w3.heap.size rfl 24 _ (0, 0) _ hst Tryd.underlying24 rfl hinf ?_)
            | (refine wpList_store_rowTo rfl 24 (.tmp 4) (.tmp 47) rfl rfl (w.heap.size + 1) (byteA (digL v 32)) rfl rfl 24 (byteA zeroD) hrs hinf hsr hone ?_))
          refine bodyPost_ret (v := .agg (byteA (digL v 32))) ?_ rfl ⟨by rw [HRES.out], below_setRow (HBL.out.trans ((HBS.out.mono HBL.out.size).trans (s.below.mono HGE.out))) (by omega) _⟩
          exact results_cell_row Tryd.results22 _ _ (w.heap.size + 1) 24 _ (0, 0) _ rfl (setRow_heap _ _ _ _ _ _ hrs) Tryd.underlying24 rfl hinf
end Go.Proofs.YtnpcocjjmajifaaDoor
