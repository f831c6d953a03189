import Derived.Deep.RegionWith
import Derived.Test.YtdedfjkenbaebaaDoorE08m5
import Derived.Test.YtdedfjkenbaebaaDoorE08m3
import Derived.Test.YtdedfjkenbaebaaDoorE08a26
import Derived.Great.BuildSlice
import Derived.Laws.Tables
import Derived.Test.YtdedfjkenbaebaaDoorE08a25
import Derived.Test.YtdedfjkenbaebaaDoorE08a12
import Derived.Test.YtdedfjkenbaebaaDoorE08m2
import Derived.Test.YtdedfjkenbaebaaDoorE08a17
/- With of the reference. -/
namespace Go.Proofs.YtdedfjkenbaebaaDoor
open Go.RowKit
set_option linter.unusedVariables false

/-- Eight words of a state that lie somewhere. -/
def StateAt (w : World) (v : V8) (x : Value) : Prop := ∃ g o c, x = .slice (some ⟨g, o, none⟩) 8 c ∧ 8 ≤ c ∧ c ≤ 9223372036854775807 ∧ ∀ i, i < 8 → w.cell? ⟨g, o + i, none⟩ = some (.int .u32 (v.at i))

set_option maxRecDepth 100000 in
set_option maxHeartbeats 8000000 in
theorem with_any (m : List Int) (a : Option Addr) (cap : Nat) (w : World) (hb : BytesIn w a m cap) (hm : m.length ≤ 1000000) (gS cS gK cK : Nat) (hk : KeysIn w gS cS gK cK) : Calls Tryd.prog 34 #[.slice a m.length cap, .agg (keysA gS cS gK cK)] w (Gives (.agg (byteA (shaL m))) w) := by
  have HB := Lib.hid hb
  have HK := Lib.hid hk
  obtain ⟨n, hn⟩ : ∃ n, n = m.length := ⟨_, rfl⟩
  have HNL := Lib.hid hn
  rw [← hn] at hm ⊢
  clear hb hk hn
  obtain ⟨s0, hs0⟩ := two_blocks w (.cells (keysA gS cS gK cK) 58 (0, 0)) (.cells (byteA zeroD) 23 (0, 0))
  have hc0 : s0.w.cell? ⟨w.heap.size, 0, none⟩ = some (.slice (some ⟨gS, 0, none⟩) 8 cS) := by rw [cell_of (s0.blocks (w.heap.size, .cells (keysA gS cS gK cK) 58 (0, 0)) (by simp))]; rfl
  have HS := Lib.hid hs0
  have hc0' : ((w.alloc (.cells (keysA gS cS gK cK) 58)).alloc (.cells zero32 23)).cell? ⟨w.heap.size, 0, none⟩ = some (.slice (some ⟨gS, 0, none⟩) 8 cS) := by rw [← hc0, hs0]; rfl
  clear hs0 hc0
  go_enter Tryd.func34, Tryd.ntmps34
  go_wp2_with fail
  obtain ⟨sP, hP⟩ : ∃ x : HeldW w [(w.heap.size + 1, .cells (byteA zeroD) 23 (0, 0)), (w.heap.size, .cells (keysA gS cS gK cK) 58 (0, 0))], (w.alloc (.cells (keysA gS cS gK cK) 58)).alloc (.cells zero32 23) = x.w := ⟨s0, HS.out.symm⟩
  rw [show (w.alloc (.cells (keysA gS cS gK cK) 58)).alloc (.cells zero32 23) = sP.w from hP]
  have hpad := rpad_any m a cap sP.w (by
    refine ⟨HB.out.len, HB.out.capb, fun h => ?_, HB.out.nil⟩
    obtain ⟨b, o, h1, h2⟩ := HB.out.cells h
    exact ⟨b, o, h1, fun i hi => (sP.below.cell (p := ⟨b, o + i, none⟩) (World.block_lt_of_cell? _ _ (h2 i hi))).trans (h2 i hi)⟩) (by rw [← HNL.out]; exact hm)
  rw [← HNL.out] at hpad
  clear hP hc0' HS s0
  refine hpad.mono ?_
  rintro e _ ⟨v, rfl, oP, rfl⟩
  clear hpad
  obtain ⟨M, hM⟩ : ∃ M, M = m ++ padL n := ⟨_, rfl⟩
  obtain ⟨Qn, hQn⟩ : ∃ Qn, M.length = 64 * Qn := ⟨M.length / 64, by rw [hM, List.length_append, padL_length, ← HNL.out]; unfold zerosOf; omega⟩
  have hQ0 : 0 < Qn := by
    have : M.length = n + (zerosOf n + 9) := by rw [hM, List.length_append, padL_length, ← HNL.out]
    omega
  have hQ1 : Qn ≤ 100000 := by
    have : M.length = n + (zerosOf n + 9) := by rw [hM, List.length_append, padL_length, ← HNL.out]
    unfold zerosOf at this; omega
  obtain ⟨gP, cP, curP, rfl, hP1, hP2, hgP, hneP, HcP, s1, hs1⟩ := sP.own oP (64 * Qn) (by rw [List.length_map, ← hM, hQn]) (by omega)
  rw [show oP.w = s1.w from hs1]
  have HF := Lib.hid (show ∀ i, i < 64 * Qn → s1.w.cell? ⟨gP, i, none⟩ = some (.int .u8 (byteAt M i)) from fun i hi => by
    rw [cell_of (s1.blocks (gP, .cells curP 5 (0, 0)) (by simp))]
    refine HcP.out i _ ?_
    rw [List.getElem?_map, ← hM, byteAt, List.getElem?_eq_getElem (by rw [hQn]; exact hi)]; rfl)
  have HKS := Lib.hid (show KeysIn s1.w gS cS gK cK from ⟨HK.out.s1, HK.out.s2, HK.out.k1, HK.out.k2, fun i hi => (s1.below.cell (p := ⟨gS, 0 + i, none⟩) (World.block_lt_of_cell? _ _ (HK.out.s i hi))).trans (HK.out.s i hi), fun i hi => (s1.below.cell (p := ⟨gK, 0 + i, none⟩) (World.block_lt_of_cell? _ _ (HK.out.k i hi))).trans (HK.out.k i hi)⟩)
  have HB1 := Lib.hid (show s1.w.cell? ⟨w.heap.size, 1, none⟩ = some (.slice (some ⟨gK, 0, none⟩) 64 cK) by rw [cell_of (s1.blocks (w.heap.size, .cells (keysA gS cS gK cK) 58 (0, 0)) (by simp))]; rfl)
  have HZ := Lib.hid (s1.blocks (w.heap.size + 1, .cells (byteA zeroD) 23 (0, 0)) (by simp))
  have HBL := Lib.hid s1.below
  have HM := Lib.hid hM
  clear hs1 hM HcP hneP oP HK HB
  generalize s1.w = w2 at HF HKS HB1 HZ HBL ⊢
  clear s1 sP
  go_wp2
  go_loopw [5, 7] (fun x i wr => ∃ q : Nat, q ≤ Qn ∧ i = .int .i64 ((64 * q : Nat) : Int) ∧ ∃ s : HeldW w2 [], wr = s.w ∧ StateAt s.w (stF (byteAt M) q) x) (fun _ i _ => 64 * Qn - (intOf i).toNat)
  case atStart => exact ⟨0, by omega, rfl, HeldW.start w2, rfl, gS, 0, cS, rfl, HKS.out.s1, HKS.out.s2, HKS.out.s⟩
  case round =>
    obtain ⟨q, hq, rfl, s, rfl, g, o, c, rfl, hc1, hc2, hst⟩ := hrel
    have HST := Lib.hid hst
    clear hst
    obtain ⟨I, hI⟩ : ∃ I, I = 64 * q := ⟨_, rfl⟩
    rw [← hI]
    by_cases hlt : q < Qn
    · have hI2 : I + 64 ≤ 64 * Qn := by omega
      have hw64 : IntKind.i64.wrap ((I : Int) + 64) = (I : Int) + 64 := by simp [IntKind.wrap, IntKind.bits, IntKind.signed]; omega
      have hb1 : s.w.drew.cell? ⟨w.heap.size, 1, none⟩ = some (.slice (some ⟨gK, 0, none⟩) 64 cK) := by
        show s.w.cell? _ = _
        exact (s.below.cell (p := ⟨w.heap.size, 1, none⟩) (World.block_lt_of_cell? _ _ HB1.out)).trans HB1.out
      have hcI : ¬ cP = I := by omega
      have hI3 : (I : Int) + 64 ≤ (cP : Int) := by omega
      have hI4 : ((I : Int) + 64).toNat = I + 64 := by omega
      have hI5 : (0 : Int) ≤ (I : Int) + 64 := by omega
      have hI6 : max ((I : Int) + 64) 0 = (I : Int) + 64 := by omega
      have HI := Lib.hid hI
      have hlm : ((I : Int) < ((64 * Qn : Nat) : Int)) := by omega
      clear hI
      obtain ⟨W, hW⟩ : ∃ W, W = wl (fun i => byteAt M (64 * q + i)) 64 := ⟨_, rfl⟩
      have HLW := Lib.hid (show W.length = 64 by rw [hW, wl_length])
      have HNX := Lib.hid (show stF (byteAt M) (q + 1) = mixW (stF (byteAt M) q) W by rw [hW]; rfl)
      have hsch : Calls Tryd.prog 57 #[.slice (some ⟨gP, I, none⟩) 64 (cP - I)] s.w.drew (fun e w' => ∃ gw cw, e = .returned (.slice (some ⟨gw, 0, none⟩) 64 cw) ∧
          Hid (64 ≤ cw ∧ cw ≤ 9223372036854775807 ∧ (∀ i, i < 64 → w'.cell? ⟨gw, 0 + i, none⟩ = some (.int .u32 (W[i]?.getD 0))) ∧ (∀ i, i < 8 → w'.cell? ⟨g, o + i, none⟩ = some (.int .u32 ((stF (byteAt M) q).at i)))) ∧ ∃ x : HeldW w2 [], w' = x.w) := by
        have h := rsched_any gP I (cP - I) (fun i => byteAt M (64 * q + i)) (by omega) (by omega) s.w.drew (fun i hi => by
          have h := HF.out (64 * q + i) (by omega)
          rw [HI.out, ← h]
          exact s.below.cell (p := ⟨gP, 64 * q + i, none⟩) (World.block_lt_of_cell? w2 _ h))
        rw [← hW] at h
        refine h.mono ?_
        rintro e w' ⟨v, rfl, oS, rfl⟩
        obtain ⟨gw, cw, rfl, hgw, hcw, hcm, hcells⟩ := oS.row 64 (by rw [List.length_map, HLW.out]) (by omega)
        refine ⟨gw, cw, rfl, ⟨hcw, by unfold maxLen at hcm; omega, fun i hi => ?_, fun i hi => ?_⟩, ⟨oS.w, s.below.drew.trans (oS.below.mono s.below.drew.size), fun p hp => by cases hp⟩, rfl⟩
        · rw [Nat.zero_add]
          refine hcells i _ ?_
          rw [List.getElem?_map, List.getElem?_eq_getElem (by rw [HLW.out]; exact hi)]; rfl
        · have h := HST.out i hi
          have h2 : s.w.drew.cell? ⟨g, o + i, none⟩ = some (.int .u32 ((stF (byteAt M) q).at i)) := h
          rw [← h2]
          exact oS.below.cell (p := ⟨g, o + i, none⟩) (World.block_lt_of_cell? _ _ h2)
      have hb2 : ∀ x : HeldW w2 [], x.w.cell? ⟨w.heap.size, 1, none⟩ = some (.slice (some ⟨gK, 0, none⟩) 64 cK) := fun x =>
        (x.below.cell (p := ⟨w.heap.size, 1, none⟩) (World.block_lt_of_cell? _ _ HB1.out)).trans HB1.out
      have hblk : ∀ (gw cw : Nat) (x : HeldW w2 []), Hid (64 ≤ cw ∧ cw ≤ 9223372036854775807 ∧ (∀ i, i < 64 → x.w.cell? ⟨gw, 0 + i, none⟩ = some (.int .u32 (W[i]?.getD 0))) ∧ (∀ i, i < 8 → x.w.cell? ⟨g, o + i, none⟩ = some (.int .u32 ((stF (byteAt M) q).at i)))) →
          Calls Tryd.prog 56 #[.slice (some ⟨g, o, none⟩) 8 c, .slice (some ⟨gw, 0, none⟩) 64 cw, .slice (some ⟨gK, 0, none⟩) 64 cK] x.w (fun e w' => ∃ v, e = .returned v ∧ ∃ y : HeldW w2 [], w' = y.w ∧ Hid (StateAt y.w (stF (byteAt M) (q + 1)) v)) := fun gw cw x hx => by
        have h := rblock_any (stF (byteAt M) q) W HLW.out g o c gw 0 cw gK 0 cK hc1 hc2 hx.out.1 hx.out.2.1 HKS.out.k1 HKS.out.k2 x.w hx.out.2.2.2 hx.out.2.2.1 (fun i hi =>
          (x.below.cell (p := ⟨gK, 0 + i, none⟩) (World.block_lt_of_cell? _ _ (HKS.out.k i hi))).trans (HKS.out.k i hi))
        refine h.mono ?_
        rintro e w' ⟨v, rfl, oS, rfl⟩
        refine ⟨v, rfl, ⟨oS.w, x.below.trans (oS.below.mono x.below.size), fun p hp => by cases hp⟩, rfl, ?_⟩
        rw [HNX.out]
        obtain ⟨gv, cv, rfl, hgv, hcv, hcm, hcells⟩ := oS.row 8 (by rw [List.length_map]; rfl) (by omega)
        refine ⟨gv, 0, cv, rfl, hcv, by unfold maxLen at hcm; omega, fun i hi => ?_⟩
        rw [Nat.zero_add]
        refine hcells i _ ?_
        rw [List.getElem?_map, V8.at, List.getElem?_eq_getElem (show i < (mixW (stF (byteAt M) q) W).list.length from hi)]; rfl
      have HS := Lib.hid hsch
      have HBK := Lib.hid hblk
      clear hsch hblk hW
      go_wp2
      go_region_with (first | (go_at_call 57; refine HS.out.mono ?_; rintro e _ ⟨gw, cw, rfl, hx, x, rfl⟩) | (go_at_call 56; refine (HBK.out _ _ _ hx).mono ?_; rintro e _ ⟨v, rfl, y, rfl, hst⟩))
      all_goals
        clear hb1 hb2 hcI hI3 hI4 hI5 hI6 hw64
        have hw64 : IntKind.i64.wrap ((I : Int) + 64) = (I : Int) + 64 := by simp [IntKind.wrap, IntKind.bits, IntKind.signed]; omega
        go_wp2
        go_roundw
        case rel => exact ⟨q + 1, by omega, by have := HI.out; subst this; go_num, y, rfl, hst.out⟩
        case measure => simp [intOf]; omega
    · obtain rfl : q = Qn := by omega
      have HI := Lib.hid hI
      have hle : ¬ ((I : Int) < ((64 * q : Nat) : Int)) := by omega
      clear hI
      have HBS := Lib.hid s.below
      have HZS := Lib.hid (show s.w.heap[w.heap.size + 1]? = some (.cells (byteA zeroD) 23 (0, 0)) from (s.below.block _ (Array.getElem?_eq_some_iff.1 HZ.out).1).trans HZ.out)
      have HGE := Lib.hid (show w.heap.size ≤ s.w.heap.size from Nat.le_trans HBL.out.size s.below.size)
      have HRES := Lib.hid (show shaL m = digL (stF (byteAt M) q) 32 by
        unfold shaL
        rw [← HNL.out, ← HM.out, hQn, Nat.mul_comm, Nat.mul_div_cancel _ (by omega)])
      generalize stF (byteAt M) q = v at HST HRES
      generalize s.w = w3 at HST HBS HZS HGE ⊢
      clear s
      go_wp2
      go_loopw [9] (fun i wr => ∃ k : Nat, k ≤ 32 ∧ i = .int .i64 k ∧ ∃ s : HeldW w3 [(w3.heap.size, .cells (byteA (digK v k)) 23 (0, 0))], wr = s.w) (fun i _ => 32 - (intOf i).toNat)
      case atStart => exact ⟨0, by omega, rfl, (HeldW.start w3).push (.cells (byteA (digK v 0)) 23 (0, 0)), rfl⟩
      case round =>
        obtain ⟨k, hk, rfl, s, rfl⟩ := hrel
        have hblk : s.w.heap[w3.heap.size]? = some (.cells (byteA (digK v k)) 23 (0, 0)) := s.blocks (_, _) List.mem_cons_self
        by_cases hlt : k < 32
        · obtain ⟨d, j, hkd, hj, hd⟩ : ∃ d j : Nat, k = 4 * d + j ∧ j < 4 ∧ d < 8 := ⟨k / 4, k % 4, by omega, by omega, by omega⟩
          have hst := HST.out d hd
          have hc : s.w.cell? ⟨g, o + d, none⟩ = some (.int .u32 (v.at d)) := (s.below.cell (p := ⟨g, o + d, none⟩) (World.block_lt_of_cell? _ _ hst)).trans hst
          have hdiv : (k : Int) / 4 = (d : Int) := by omega
          have hmod : (k : Int) % 4 = (j : Int) := by omega
          have hcell : s.w.cell? ⟨w3.heap.size, k, none⟩ = some (.int .u8 ((digK v k)[k]?.getD 0)) := by
            rw [cell_of hblk, byteA_get _ (by rw [digK_length _ (by omega)]; omega)]
          have hfree := free_of hblk k
          have HKK := Lib.hid (show (byteA (digK v k)).setIfInBounds k (.int .u8 (v.at d / 2 ^ (24 - 8 * j) % 256)) = byteA (digK v (k + 1)) by
            rw [digB_at v d hj, ← hkd, byteA_set, digK_set v hlt])
          have HKD := Lib.hid hkd
          clear hblk hst hkd
          go_wp2
          go_roundw
          case rel => exact ⟨k + 1, by omega, by go_num, s.store (Nat.le_refl _) (by simp) HKK.out, rfl⟩
          case measure => simp [intOf]; omega
        · obtain rfl : k = 32 := by omega
          have hst : s.w.heap[w3.heap.size]? = some (.cells (byteA (digL v 32)) 23 (0, 0)) := hblk.trans (by rw [digK_end])
          have hrs : s.w.heap[w.heap.size + 1]? = some (.cells (byteA zeroD) 23 (0, 0)) := (s.below.block _ (Array.getElem?_eq_some_iff.1 HZS.out).1).trans HZS.out
          have hsz : (byteA (digL v 32)).size = 32 := by rw [byteA_size, digL_length]
          have hsr : (byteA zeroD).size = (byteA (digL v 32)).size := by rw [hsz]; rfl
          have hinf : (Tryd.prog.info? 23).map (·.size) = some (byteA (digL v 32)).size := by rw [hsz]; kernel_rfl
          have hone := byteA_one (digL v 32)
          clear hsz hblk
          go_wp2_with (first
            | (refine wpList_load_row rfl 23 (.tmp 8) rfl w3.heap.size rfl 23 _ (0, 0) _ hst Tryd.underlying23 rfl hinf ?_)
            | (refine wpList_store_rowTo rfl 23 (.tmp 4) (.tmp 47) rfl rfl (w.heap.size + 1) (byteA (digL v 32)) rfl rfl 23 (byteA zeroD) hrs hinf hsr hone ?_))
          refine bodyPost_ret (v := .agg (byteA (digL v 32))) ?_ rfl ⟨by rw [HRES.out], below_setRow (HBL.out.trans ((HBS.out.mono HBL.out.size).trans (s.below.mono HGE.out))) (by omega) _⟩
          exact results_cell_row Tryd.results34 _ _ (w.heap.size + 1) 23 _ (0, 0) _ rfl (setRow_heap _ _ _ _ _ _ hrs) Tryd.underlying23 rfl hinf
end Go.Proofs.YtdedfjkenbaebaaDoor

/- Verify of the reference of package patch. -/
namespace Go.Proofs.YtdedfjkenbaebaaDoor
open Go.RowKit Go.Shelf Go.Proofs.YtdedfjkenbaebaaDoor.Plain01
set_option linter.unusedVariables false
set_option linter.unusedSimpArgs false

theorem KeysIn.below8 {w w' : World} {gS cS gK cK : Nat} (h : KeysIn w gS cS gK cK) (hb : Below w.heap.size w w') : KeysIn w' gS cS gK cK :=
  ⟨h.s1, h.s2, h.k1, h.k2, fun i hi => (hb.cell (World.block_lt_of_cell? _ _ (h.s i hi))).trans (h.s i hi), fun i hi => (hb.cell (World.block_lt_of_cell? _ _ (h.k i hi))).trans (h.k i hi)⟩
/-- Bytes, somewhere. -/
def IsBy8 (l : List Int) : Value → World → Prop := fun v w => ∃ A C, v = .slice A l.length C ∧ BytesIn w A l C
theorem stable_by8 (l : List Int) : Stable (fun W W' => Below W.heap.size W W') (IsBy8 l) := fun v w w' ⟨A, C, h1, h2⟩ hE => ⟨A, C, h1, h2.below hE⟩

end Go.Proofs.YtdedfjkenbaebaaDoor

/- Describe of the reference of package patch. -/
namespace Go.Proofs.YtdedfjkenbaebaaDoor
open Go.RowKit
set_option linter.unusedVariables false
set_option linter.unusedSimpArgs false

set_option maxRecDepth 100000 in
set_option maxHeartbeats 4000000 in
theorem built_delta5 (o n : Int) (x y : List Int) (A : Option Addr) (L C : Nat) (hx : x.length = 32) (hy : y.length = 32) :
    Tryd.prog.built 26 [(0, .int .i64 o), (1, .int .i64 n), (2, .agg (byteA x)), (3, .agg (byteA y)), (4, .slice A L C)] = some (deltaA o n x y (.slice A L C)) := by
  obtain ⟨a0, at0, rfl, ah0⟩ := uncons8 hx
  obtain ⟨a1, at1, rfl, ah1⟩ := uncons8 ah0
  obtain ⟨a2, at2, rfl, ah2⟩ := uncons8 ah1
  obtain ⟨a3, at3, rfl, ah3⟩ := uncons8 ah2
  obtain ⟨a4, at4, rfl, ah4⟩ := uncons8 ah3
  obtain ⟨a5, at5, rfl, ah5⟩ := uncons8 ah4
  obtain ⟨a6, at6, rfl, ah6⟩ := uncons8 ah5
  obtain ⟨a7, at7, rfl, ah7⟩ := uncons8 ah6
  obtain ⟨a8, at8, rfl, ah8⟩ := uncons8 ah7
  obtain ⟨a9, at9, rfl, ah9⟩ := uncons8 ah8
  obtain ⟨a10, at10, rfl, ah10⟩ := uncons8 ah9
  obtain ⟨a11, at11, rfl, ah11⟩ := uncons8 ah10
  obtain ⟨a12, at12, rfl, ah12⟩ := uncons8 ah11
  obtain ⟨a13, at13, rfl, ah13⟩ := uncons8 ah12
  obtain ⟨a14, at14, rfl, ah14⟩ := uncons8 ah13
  obtain ⟨a15, at15, rfl, ah15⟩ := uncons8 ah14
  obtain ⟨a16, at16, rfl, ah16⟩ := uncons8 ah15
  obtain ⟨a17, at17, rfl, ah17⟩ := uncons8 ah16
  obtain ⟨a18, at18, rfl, ah18⟩ := uncons8 ah17
  obtain ⟨a19, at19, rfl, ah19⟩ := uncons8 ah18
  obtain ⟨a20, at20, rfl, ah20⟩ := uncons8 ah19
  obtain ⟨a21, at21, rfl, ah21⟩ := uncons8 ah20
  obtain ⟨a22, at22, rfl, ah22⟩ := uncons8 ah21
  obtain ⟨a23, at23, rfl, ah23⟩ := uncons8 ah22
  obtain ⟨a24, at24, rfl, ah24⟩ := uncons8 ah23
  obtain ⟨a25, at25, rfl, ah25⟩ := uncons8 ah24
  obtain ⟨a26, at26, rfl, ah26⟩ := uncons8 ah25
  obtain ⟨a27, at27, rfl, ah27⟩ := uncons8 ah26
  obtain ⟨a28, at28, rfl, ah28⟩ := uncons8 ah27
  obtain ⟨a29, at29, rfl, ah29⟩ := uncons8 ah28
  obtain ⟨a30, at30, rfl, ah30⟩ := uncons8 ah29
  obtain ⟨a31, at31, rfl, ah31⟩ := uncons8 ah30
  obtain rfl := List.eq_nil_of_length_eq_zero ah31
  obtain ⟨b0, bt0, rfl, bh0⟩ := uncons8 hy
  obtain ⟨b1, bt1, rfl, bh1⟩ := uncons8 bh0
  obtain ⟨b2, bt2, rfl, bh2⟩ := uncons8 bh1
  obtain ⟨b3, bt3, rfl, bh3⟩ := uncons8 bh2
  obtain ⟨b4, bt4, rfl, bh4⟩ := uncons8 bh3
  obtain ⟨b5, bt5, rfl, bh5⟩ := uncons8 bh4
  obtain ⟨b6, bt6, rfl, bh6⟩ := uncons8 bh5
  obtain ⟨b7, bt7, rfl, bh7⟩ := uncons8 bh6
  obtain ⟨b8, bt8, rfl, bh8⟩ := uncons8 bh7
  obtain ⟨b9, bt9, rfl, bh9⟩ := uncons8 bh8
  obtain ⟨b10, bt10, rfl, bh10⟩ := uncons8 bh9
  obtain ⟨b11, bt11, rfl, bh11⟩ := uncons8 bh10
  obtain ⟨b12, bt12, rfl, bh12⟩ := uncons8 bh11
  obtain ⟨b13, bt13, rfl, bh13⟩ := uncons8 bh12
  obtain ⟨b14, bt14, rfl, bh14⟩ := uncons8 bh13
  obtain ⟨b15, bt15, rfl, bh15⟩ := uncons8 bh14
  obtain ⟨b16, bt16, rfl, bh16⟩ := uncons8 bh15
  obtain ⟨b17, bt17, rfl, bh17⟩ := uncons8 bh16
  obtain ⟨b18, bt18, rfl, bh18⟩ := uncons8 bh17
  obtain ⟨b19, bt19, rfl, bh19⟩ := uncons8 bh18
  obtain ⟨b20, bt20, rfl, bh20⟩ := uncons8 bh19
  obtain ⟨b21, bt21, rfl, bh21⟩ := uncons8 bh20
  obtain ⟨b22, bt22, rfl, bh22⟩ := uncons8 bh21
  obtain ⟨b23, bt23, rfl, bh23⟩ := uncons8 bh22
  obtain ⟨b24, bt24, rfl, bh24⟩ := uncons8 bh23
  obtain ⟨b25, bt25, rfl, bh25⟩ := uncons8 bh24
  obtain ⟨b26, bt26, rfl, bh26⟩ := uncons8 bh25
  obtain ⟨b27, bt27, rfl, bh27⟩ := uncons8 bh26
  obtain ⟨b28, bt28, rfl, bh28⟩ := uncons8 bh27
  obtain ⟨b29, bt29, rfl, bh29⟩ := uncons8 bh28
  obtain ⟨b30, bt30, rfl, bh30⟩ := uncons8 bh29
  obtain ⟨b31, bt31, rfl, bh31⟩ := uncons8 bh30
  obtain rfl := List.eq_nil_of_length_eq_zero bh31
  kernel_rfl

set_option maxRecDepth 100000 in
set_option maxHeartbeats 8000000 in
theorem rdescribe8_any (a b : Option Addr) (l x : List Int) (cap capx : Nat) (ca : Option Addr) (L ccap : Nat) (w : World) (hl : BytesIn w a l cap) (hx : BytesIn w b x capx) (hL : l.length ≤ 1000) (hX : x.length ≤ 1000) :
    Calls Tryd.prog 17 #[.slice a l.length cap, .slice b x.length capx, .slice ca L ccap] w (fun e w' => ∃ D', e = .returned (.agg D') ∧ DeltaOf D' l.length x.length (shaL l) (shaL x) (.slice ca L ccap) ∧ Below w.heap.size w w') := by
  have hz := zero_delta
  obtain ⟨S, hS⟩ := start1 w (deltaO zeroDel)
  have ht := table_any S.w
  have hD1 : DeltaOf (deltaA (l.length : Int) (x.length : Int) (shaL l) (shaL x) (.slice ca L ccap)) l.length x.length (shaL l) (shaL x) (.slice ca L ccap) := ⟨rfl, shaL_length _, shaL_length _⟩
  have hbl := built_delta5 (l.length : Int) (x.length : Int) (shaL l) (shaL x) ca L ccap (shaL_length _) (shaL_length _)
  obtain ⟨D1, hDe⟩ : ∃ D, D = deltaA (l.length : Int) (x.length : Int) (shaL l) (shaL x) (.slice ca L ccap) := ⟨_, rfl⟩
  rw [← hDe] at hbl hD1
  have hinf := infoDelta hD1
  have hone := hD1.one rfl
  have hsz : zeroDel.size = D1.size := by rw [zeroDel_of.size, hD1.size]
  have HBL := Lib.hid hbl
  have HD1 := Lib.hid hD1
  have HWI := Lib.hid (fun (gS cS gK cK : Nat) (W : World) (hW : Below w.heap.size w W) (hk : KeysIn W gS cS gK cK) => And.intro (with_any l a cap W (hl.below hW) (by omega) gS cS gK cK hk) (with_any x b capx W (hx.below hW) (by omega) gS cS gK cK hk))
  have HS := Lib.hid hS
  have HQ : Hid (∀ W, Below w.heap.size w W → (fun (e : Ending) (w' : World) => ∃ D', e = .returned (.agg D') ∧ DeltaOf D' l.length x.length (shaL l) (shaL x) (.slice ca L ccap) ∧ Below w.heap.size w w') (.returned (.agg D1)) W) := Lib.hid fun W hW => ⟨D1, rfl, hD1, hW⟩
  generalize (fun (e : Ending) (w' : World) => ∃ D', e = .returned (.agg D') ∧ DeltaOf D' l.length x.length (shaL l) (shaL x) (.slice ca L ccap) ∧ Below w.heap.size w w') = POST at HQ ⊢
  clear hDe hbl hD1 hl hx hS
  generalize shaL l = dl at *
  generalize shaL x = dx at *
  generalize l.length = LL at *
  generalize x.length = XX at *
  go_enter Tryd.func17, Tryd.ntmps17
  go_wp2_with fail
  rw [HS.out]
  refine ht.mono ?_
  rintro e W1 ⟨gS, cS, gK, cK, rfl, hk, hb1⟩
  obtain ⟨s1, rfl⟩ := S.after hb1
  unfold keysA
  obtain ⟨B2, s2, hB2, hB20, hlt2, hS2⟩ := s1.more1 (.cells #[.slice (some ⟨gS, 0, none⟩) 8 cS, .slice (some ⟨gK, 0, none⟩) 64 cK] 58 (0, 0))
  have HS2 := Lib.hid (And.intro hS2 hB2)
  have HKW := Lib.hid (show KeysIn s2.w gS cS gK cK from hk.below8 (by rw [← hS2]; exact (Below.refl _ _).alloc (Nat.le_refl _) _))
  clear ht hk hb1 hS2 hB2
  go_wp2_with fail
  rw [HS2.out.1, ← HS2.out.2]
  have hgk := s2.blocks (B2, .cells #[.slice (some ⟨gS, 0, none⟩) 8 cS, .slice (some ⟨gK, 0, none⟩) 64 cK] 58 (0, 0)) (by simp)
  have HGK := Lib.hid (fun (W : World) (hW : Below s2.w.heap.size s2.w W) => (show W.cell? ⟨B2, 0, none⟩ = some (.slice (some ⟨gS, 0, none⟩) 8 cS) ∧ W.cell? ⟨B2, 1, none⟩ = some (.slice (some ⟨gK, 0, none⟩) 64 cK) from ⟨cell_of (heap_below hgk hW) 0, cell_of (heap_below hgk hW) 1⟩))
  have HW2 := Lib.hid (fun (W : World) (hW : Below s2.w.heap.size s2.w W) => s2.below.trans (hW.mono s2.below.size))
  have HKW2 := Lib.hid (fun (W : World) (hW : Below s2.w.heap.size s2.w W) => HKW.out.below8 hW)
  clear hgk
  refine wp_region_looseT 12
    [IsV (.slice a LL cap), IsV (.int .i64 (LL : Int)), IsV (.slice b XX capx), IsV (.int .i64 (XX : Int)), IsV (.slice a LL cap), IsV (.agg #[.slice (some ⟨gS, 0, none⟩) 8 cS, .slice (some ⟨gK, 0, none⟩) 64 cK]), IsV (.agg (byteA dl)),
     IsV (.slice b XX capx), IsV (.agg #[.slice (some ⟨gS, 0, none⟩) 8 cS, .slice (some ⟨gK, 0, none⟩) 64 cK]), IsV (.agg (byteA dx)), IsV (.slice ca L ccap), IsV (.agg D1)]
    [⟨9, [], [0]⟩, ⟨10, [(0, 9)], []⟩, ⟨11, [], [1]⟩, ⟨12, [(2, 11)], []⟩, ⟨13, [], [0]⟩, ⟨14, [], [7]⟩, ⟨15, [(4, 13), (5, 14)], []⟩, ⟨16, [], [1]⟩, ⟨17, [], [7]⟩, ⟨18, [(7, 16), (8, 17)], []⟩, ⟨19, [], [2]⟩, ⟨20, [(1, 10), (3, 12), (6, 15), (9, 18), (10, 19)], []⟩]
    (fun W => Below s2.w.heap.size s2.w W) (fun W W' => Below W.heap.size W W') (by kernel_rfl) (by kernel_rfl) (by kernel_rfl) rfl rfl (Below.refl _ s2.w).drew ?_
    ⟨?_, ?_, ?_, ?_, ?_, ?_, ?_, ?_, ?_, ?_, ?_, ?_, trivial⟩ ?_
  · repeat (first | (intro _ h; cases h; done) | refine List.forall_mem_cons.2 ⟨stable_V _ _, ?_⟩)
  · intro A W hC hd hx
    have hk : ∀ v, A.eval (.const v) = v := fun _ => rfl
    have hy0 : A.eval (.tmp 0) = .slice a LL cap := hx 0 (by simp)
    clear hd
    generalize A.eval = ρ at hk hy0 ⊢
    simp [go_sem, looseUpon, factOf, hk, hy0]
    exact ⟨hC, Below.refl _ _⟩
  · intro A W hC hd hx
    have hk : ∀ v, A.eval (.const v) = v := fun _ => rfl
    simp [factOf] at hd
    generalize A.eval = ρ at hd hk ⊢
    simp [go_sem, looseUpon, factOf, hd, hk]
    exact ⟨hC, Below.refl _ _⟩
  · intro A W hC hd hx
    have hk : ∀ v, A.eval (.const v) = v := fun _ => rfl
    have hy0 : A.eval (.tmp 1) = .slice b XX capx := hx 1 (by simp)
    clear hd
    generalize A.eval = ρ at hk hy0 ⊢
    simp [go_sem, looseUpon, factOf, hk, hy0]
    exact ⟨hC, Below.refl _ _⟩
  · intro A W hC hd hx
    have hk : ∀ v, A.eval (.const v) = v := fun _ => rfl
    simp [factOf] at hd
    generalize A.eval = ρ at hd hk ⊢
    simp [go_sem, looseUpon, factOf, hd, hk]
    exact ⟨hC, Below.refl _ _⟩
  · intro A W hC hd hx
    have hk : ∀ v, A.eval (.const v) = v := fun _ => rfl
    have hy0 : A.eval (.tmp 0) = .slice a LL cap := hx 0 (by simp)
    clear hd
    generalize A.eval = ρ at hk hy0 ⊢
    simp [go_sem, looseUpon, factOf, hk, hy0]
    exact ⟨hC, Below.refl _ _⟩
  · intro A W hC hd hx
    have hk : ∀ v, A.eval (.const v) = v := fun _ => rfl
    have hy0 : A.eval (.tmp 7) = .pointer (some ⟨B2, 0, none⟩) := hx 7 (by simp)
    have c0 := (HGK.out W hC).1
    have c1 := (HGK.out W hC).2
    clear hd
    generalize A.eval = ρ at hk hy0 ⊢
    simp [go_sem, looseUpon, factOf, hk, hy0, c0, c1]
    exact ⟨hC, Below.refl _ _⟩
  · intro A W hC hd hx
    simp [factOf] at hd
    obtain ⟨hd0, hd1⟩ := hd
    refine ⟨fun g hg => (by cases hg), ?_⟩
    refine loose_call rfl Tryd.func34 (by kernel_rfl) (by kernel_rfl) ?_
    simp only [List.map_toArray, List.map_cons, List.map_nil, hd0, hd1]
    have hw := (HWI.out gS cS gK cK W (HW2.out W hC) (HKW2.out W hC)).1
    unfold keysA at hw
    refine hw.mono ?_
    rintro e' W' ⟨rfl, h4⟩
    exact ⟨_, rfl, rfl, hC.trans (h4.mono hC.size), h4⟩
  · intro A W hC hd hx
    have hk : ∀ v, A.eval (.const v) = v := fun _ => rfl
    have hy0 : A.eval (.tmp 1) = .slice b XX capx := hx 1 (by simp)
    clear hd
    generalize A.eval = ρ at hk hy0 ⊢
    simp [go_sem, looseUpon, factOf, hk, hy0]
    exact ⟨hC, Below.refl _ _⟩
  · intro A W hC hd hx
    have hk : ∀ v, A.eval (.const v) = v := fun _ => rfl
    have hy0 : A.eval (.tmp 7) = .pointer (some ⟨B2, 0, none⟩) := hx 7 (by simp)
    have c0 := (HGK.out W hC).1
    have c1 := (HGK.out W hC).2
    clear hd
    generalize A.eval = ρ at hk hy0 ⊢
    simp [go_sem, looseUpon, factOf, hk, hy0, c0, c1]
    exact ⟨hC, Below.refl _ _⟩
  · intro A W hC hd hx
    simp [factOf] at hd
    obtain ⟨hd0, hd1⟩ := hd
    refine ⟨fun g hg => (by cases hg), ?_⟩
    refine loose_call rfl Tryd.func34 (by kernel_rfl) (by kernel_rfl) ?_
    simp only [List.map_toArray, List.map_cons, List.map_nil, hd0, hd1]
    have hw := (HWI.out gS cS gK cK W (HW2.out W hC) (HKW2.out W hC)).2
    unfold keysA at hw
    refine hw.mono ?_
    rintro e' W' ⟨rfl, h4⟩
    exact ⟨_, rfl, rfl, hC.trans (h4.mono hC.size), h4⟩
  · intro A W hC hd hx
    have hk : ∀ v, A.eval (.const v) = v := fun _ => rfl
    have hy0 : A.eval (.tmp 2) = .slice ca L ccap := hx 2 (by simp)
    clear hd
    generalize A.eval = ρ at hk hy0 ⊢
    simp [go_sem, looseUpon, factOf, hk, hy0]
    exact ⟨hC, Below.refl _ _⟩
  · intro A W hC hd hx
    have hbl := run_build (P := Tryd.prog) W 26 #[(0, .int .i64 (LL : Int)), (1, .int .i64 (XX : Int)), (2, .agg (byteA dl)), (3, .agg (byteA dx)), (4, .slice ca L ccap)] D1 HBL.out
    simp [factOf] at hd
    obtain ⟨hd0, hd1, hd2, hd3, hd4⟩ := hd
    refine ⟨fun g hg => (by cases hg), ?_⟩
    generalize A.eval = ρ at hd0 hd1 hd2 hd3 hd4 ⊢
    simp [execOp, hd0, hd1, hd2, hd3, hd4, hbl, looseUpon, factOf]
    exact ⟨hC, Below.refl _ _⟩
  intro W hC
  simp only [ends]
  rintro _ rfl _ rfl _ rfl _ rfl _ rfl _ rfl _ rfl _ rfl _ rfl _ rfl _ rfl _ rfl
  simp only [putAll, List.zip_cons_cons, List.zip_nil_left, List.foldl_cons, List.foldl_nil, Act.put, List.setIfInBounds_toArray, List.set_cons_succ, List.set_cons_zero, List.drop_succ_cons, List.drop_zero]
  obtain ⟨s3, rfl⟩ := s2.after hC
  have hz3 := s3.blocks (w.heap.size, deltaO zeroDel) (by simp)
  dsimp only at hz3
  have HR := Lib.hid (HQ.out _ (below_setRow s3.below (Nat.le_refl _) D1))
  clear hC HGK HW2 HKW2 HKW s2 HS2
  refine wpList_store_rowTo rfl 26 (.tmp 6) (.tmp 20) rfl rfl w.heap.size D1 rfl rfl 26 zeroDel hz3 hinf hsz hone ?_
  go_wp2
  refine bodyPost_ret (v := .agg D1) ?_ rfl HR.out
  exact results_cell_row Tryd.results17 _ _ w.heap.size 26 _ (0, 0) _ rfl (setRow_heap _ _ _ _ _ _ hz3) Tryd.underlying26 rfl hinf
end Go.Proofs.YtdedfjkenbaebaaDoor

/- PatchMakes returns true for all files and block lengths, and changes nothing that was there. -/
namespace Go.Proofs.YtdedfjkenbaebaaDoor
open Go.RowKit
set_option linter.unusedVariables false
set_option linter.unusedSimpArgs false

set_option maxRecDepth 100000 in
set_option maxHeartbeats 4000000 in
theorem patchMakes_big (a b : Option Addr) (l x : List Int) (cap capx : Nat) (block : Int) (w : World) (hR : Roots w) (hbig : ¬ (l.length ≤ 200 ∧ x.length ≤ 200)) :
    Calls Tryd.prog 5 #[.slice a l.length cap, .slice b x.length capx, .int .i64 block] w (Gives (.bool true) w) := by
  have hA := alive08_any w hR
  obtain ⟨L, hL⟩ : ∃ L, L = l.length := ⟨_, rfl⟩
  obtain ⟨X, hX⟩ : ∃ X, X = x.length := ⟨_, rfl⟩
  rw [← hL, ← hX] at hbig ⊢
  clear hR hL hX
  by_cases h1 : 200 < L
  · have d9 : decide ((200 : Int) < (L : Int)) = true := by simp; omega
    clear hbig
    go_enter Tryd.func5, Tryd.ntmps5
    go_wp2_with fail
    refine (HeldW.call (s := HeldW.start w) hA).mono ?_
    rintro e _ ⟨rfl, s3, rfl⟩
    go_wp2
    go_ret
    exact ⟨rfl, s3.below⟩
  · have d9 : decide ((200 : Int) < (L : Int)) = false := by simp; omega
    have d14 : decide ((200 : Int) < (X : Int)) = true := by simp; omega
    clear hbig
    go_enter Tryd.func5, Tryd.ntmps5
    go_wp2_with fail
    refine (HeldW.call (s := HeldW.start w) hA).mono ?_
    rintro e _ ⟨rfl, s3, rfl⟩
    go_wp2
    go_ret
    exact ⟨rfl, s3.below⟩

/-- The commands that Make would return. -/
def IsCmds8 (L : List Core8) : Value → World → Prop := fun v w => ∃ ca cs ccap, v = .slice ca cs.length ccap ∧ CmdsIn w ca cs ccap ∧ cores cs = L
theorem stable_cmds8 (L : List Core8) : Stable (fun W W' => Below W.heap.size W W') (IsCmds8 L) := fun v w w' ⟨ca, cs, ccap, h1, h2, h3⟩ hE => ⟨ca, cs, ccap, h1, h2.below hE, h3⟩
/-- A delta with those commands. -/
def IsDel8 (o n : Int) (x y : List Int) (L : List Core8) : Value → World → Prop := fun v w => ∃ (D : Array Value) (ca : Option Addr) (cs : List Cmd) (ccap : Nat), v = .agg D ∧ DeltaOf D o n x y (.slice ca cs.length ccap) ∧ CmdsIn w ca cs ccap ∧ cores cs = L
theorem stable_del8 (o n : Int) (x y : List Int) (L : List Core8) : Stable (fun W W' => Below W.heap.size W W') (IsDel8 o n x y L) := fun v w w' ⟨D, ca, cs, ccap, h1, h2, h3, h4⟩ hE => ⟨D, ca, cs, ccap, h1, h2, h3.below hE, h4⟩

set_option maxRecDepth 100000 in
set_option maxHeartbeats 8000000 in
theorem patchMakes_small (a b : Option Addr) (l x : List Int) (cap capx : Nat) (block : Int) (w : World) (hR : Roots w) (hl : BytesIn w a l cap) (hx : BytesIn w b x capx) (ol : OkB l) (ox : OkB x) (h1 : l.length ≤ 200) (h2 : x.length ≤ 200) :
    Calls Tryd.prog 5 #[.slice a l.length cap, .slice b x.length capx, .int .i64 block] w (Gives (.bool true) w) := by
  have hmk := make8_any a b l x cap capx block w hR hl hx ol ox (by omega) (by omega)
  have HR := Lib.hid hR
  have HRC := Lib.hid (fun (W : World) (hW : Below w.heap.size w W) => rcommands8_any a b l x cap capx block W (hl.below hW) (hx.below hW) ol ox (by omega) (by omega))
  have HRD := Lib.hid (fun (ca : Option Addr) (L ccap : Nat) (W : World) (hW : Below w.heap.size w W) => rdescribe8_any a b l x cap capx ca L ccap W (hl.below hW) (hx.below hW) (by omega) (by omega))
  obtain ⟨L, hL⟩ : ∃ L, L = l.length := ⟨_, rfl⟩
  obtain ⟨X, hX⟩ : ∃ X, X = x.length := ⟨_, rfl⟩
  have d9 : decide ((200 : Int) < (L : Int)) = false := by simp; omega
  have d14 : decide ((200 : Int) < (X : Int)) = false := by simp; omega
  unfold MakePost at hmk
  rw [← hL] at hmk HRC HRD h1 ⊢
  rw [← hX] at hmk HRC HRD h2 ⊢
  clear hR hL hX hl hx
  go_enter Tryd.func5, Tryd.ntmps5
  go_wp2_with fail
  refine hmk.mono ?_
  rintro e W1 ⟨D, g, ds, rfl, hD, hds, hco, hb, hge, hap⟩
  have hinf := infoDelta hD
  have hz := zero_delta
  have hone := hD.one rfl
  have hsz : zeroDel.size = D.size := by rw [zeroDel_of.size, hD.size]
  have hzb : (W1.alloc (deltaO zeroDel)).heap[W1.heap.size]? = some (deltaO zeroDel) := heap_new W1 _ rfl
  have hbz : Below W1.heap.size W1 ((W1.alloc (deltaO zeroDel)).setRow W1.heap.size D) := below_setRow ((Below.refl _ _).alloc (Nat.le_refl _) _) (Nat.le_refl _) _
  obtain ⟨s1, hs1⟩ : ∃ s1 : HeldW w [(W1.heap.size, deltaO D)], (W1.alloc (deltaO zeroDel)).setRow W1.heap.size D = s1.w := ⟨⟨_, hb.trans (hbz.mono hb.size), all1 (setRow_heap _ _ _ _ _ _ hzb)⟩, rfl⟩
  have hBW : Below W1.heap.size W1 s1.w := by rw [← hs1]; exact hbz
  have HDS := Lib.hid (hds.below hBW)
  have HD := Lib.hid (And.intro hD hco)
  have HS1 := Lib.hid hs1
  clear hmk hD hds hco hb hge hap hBW hs1 hbz
  go_wp2_with (refine wpList_store_rowTo rfl 26 (.tmp 7) (.tmp 20) rfl rfl W1.heap.size D rfl rfl 26 zeroDel hzb hinf hsz hone ?_)
  rw [HS1.out]
  have hbk := s1.blocks (W1.heap.size, deltaO D) (by simp)
  dsimp only at hbk
  have HB1 := Lib.hid s1.below
  clear HS1 hzb
  generalize s1.w = W2 at HDS HB1 hbk ⊢
  clear s1
  have HLD := Lib.hid (fun (W : World) (hW : Below W2.heap.size W2 W) => load_delta HD.out.1 (heap_below hbk hW))
  have HBW := Lib.hid (fun (W : World) (hW : Below W2.heap.size W2 W) => HB1.out.trans (hW.mono HB1.out.size))
  clear hbk
  refine wp_region_loose
    [IsV (.bool true), IsV (.bool true), IsV (.agg D), IsV (.slice a L cap), IsV (.slice b X capx), IsV (.slice a L cap), IsV (.slice b X capx), IsV (.int .i64 block), IsCmds8 (makeC l x block), IsDel8 L X (shaL l) (shaL x) (makeC l x block), IsV (.bool true), IsV (.bool true), IsV (.bool true)]
    [⟨21, [], []⟩, ⟨22, [(0, 21)], []⟩, ⟨23, [(1, 22)], [7]⟩, ⟨24, [(1, 22)], [0]⟩, ⟨25, [(1, 22)], [1]⟩, ⟨26, [(1, 22)], [0]⟩, ⟨27, [(1, 22)], [1]⟩, ⟨28, [(1, 22)], [2]⟩, ⟨29, [(1, 22), (5, 26), (6, 27), (7, 28)], []⟩, ⟨30, [(1, 22), (3, 24), (4, 25), (8, 29)], []⟩, ⟨31, [(1, 22), (2, 23), (9, 30)], []⟩, ⟨32, [(1, 22), (10, 31)], []⟩, ⟨6, [(11, 32)], []⟩]
    (fun W => Below W2.heap.size W2 W) (fun W W' => Below W.heap.size W W') (by kernel_rfl) (by kernel_rfl) rfl rfl (Below.refl _ W2).drew ?_
    ⟨?_, ?_, ?_, ?_, ?_, ?_, ?_, ?_, ?_, ?_, ?_, ?_, ?_, trivial⟩ ?_
  · repeat (first | (intro _ h; cases h; done) | refine List.forall_mem_cons.2 ⟨stable_V _ _, ?_⟩ | refine List.forall_mem_cons.2 ⟨stable_cmds8 _, ?_⟩ | refine List.forall_mem_cons.2 ⟨stable_del8 _ _ _ _ _, ?_⟩)
  · intro A W hC hd hx
    refine ⟨fun g hg => (by cases hg), ?_⟩
    refine loose_call rfl Tryd.func9 (by kernel_rfl) (by kernel_rfl) ?_
    rw [show (#[] : Array Operand).map A.eval = #[] by simp]
    refine (alive08_any W (HR.out.below (HBW.out W hC))).mono ?_
    rintro e' W' ⟨rfl, h4⟩
    exact ⟨_, rfl, rfl, hC.trans (h4.mono hC.size), h4⟩
  · intro A W hC hd hx
    have hk : ∀ v, A.eval (.const v) = v := fun _ => rfl
    simp [factOf] at hd
    generalize A.eval = ρ at hd hk ⊢
    simp [go_sem, looseUpon, factOf, hd, hk]
    exact ⟨hC, Below.refl _ _⟩
  · intro A W hC hd hx
    have hy0 : A.eval (.tmp 7) = .pointer (some ⟨W1.heap.size, 0, none⟩) := hx 7 (by simp)
    have hld := HLD.out W hC
    simp [factOf] at hd
    refine ⟨fun g hg => (by cases hg; simp [hd]), ?_⟩
    generalize A.eval = ρ at hd hy0 ⊢
    simp [execOp, hy0, hld, looseUpon, factOf]
    exact ⟨hC, Below.refl _ _⟩
  · intro A W hC hd hx
    have hk : ∀ v, A.eval (.const v) = v := fun _ => rfl
    have hy0 : A.eval (.tmp 0) = .slice a L cap := hx 0 (by simp)
    simp [factOf] at hd
    generalize A.eval = ρ at hd hk hy0 ⊢
    simp [go_sem, looseUpon, factOf, hd, hk, hy0]
    exact ⟨hC, Below.refl _ _⟩
  · intro A W hC hd hx
    have hk : ∀ v, A.eval (.const v) = v := fun _ => rfl
    have hy0 : A.eval (.tmp 1) = .slice b X capx := hx 1 (by simp)
    simp [factOf] at hd
    generalize A.eval = ρ at hd hk hy0 ⊢
    simp [go_sem, looseUpon, factOf, hd, hk, hy0]
    exact ⟨hC, Below.refl _ _⟩
  · intro A W hC hd hx
    have hk : ∀ v, A.eval (.const v) = v := fun _ => rfl
    have hy0 : A.eval (.tmp 0) = .slice a L cap := hx 0 (by simp)
    simp [factOf] at hd
    generalize A.eval = ρ at hd hk hy0 ⊢
    simp [go_sem, looseUpon, factOf, hd, hk, hy0]
    exact ⟨hC, Below.refl _ _⟩
  · intro A W hC hd hx
    have hk : ∀ v, A.eval (.const v) = v := fun _ => rfl
    have hy0 : A.eval (.tmp 1) = .slice b X capx := hx 1 (by simp)
    simp [factOf] at hd
    generalize A.eval = ρ at hd hk hy0 ⊢
    simp [go_sem, looseUpon, factOf, hd, hk, hy0]
    exact ⟨hC, Below.refl _ _⟩
  · intro A W hC hd hx
    have hk : ∀ v, A.eval (.const v) = v := fun _ => rfl
    have hy0 : A.eval (.tmp 2) = .int .i64 block := hx 2 (by simp)
    simp [factOf] at hd
    generalize A.eval = ρ at hd hk hy0 ⊢
    simp [go_sem, looseUpon, factOf, hd, hk, hy0]
    exact ⟨hC, Below.refl _ _⟩
  · intro A W hC hd hx
    simp [factOf] at hd
    obtain ⟨hd0, hd1, hd2, hd3⟩ := hd
    refine ⟨fun g hg => (by cases hg; simp [hd0]), ?_⟩
    refine loose_call rfl Tryd.func18 (by kernel_rfl) (by kernel_rfl) ?_
    simp only [List.map_toArray, List.map_cons, List.map_nil, hd1, hd2, hd3]
    refine (HRC.out W (HBW.out W hC)).mono ?_
    rintro e' W' ⟨v', rfl, ⟨R⟩⟩
    have hRB := R.below
    obtain ⟨cs, ca, ccap, rfl, hcs, hco⟩ := R.slice
    exact ⟨_, rfl, ⟨ca, cs, ccap, rfl, hcs, hco⟩, hC.trans (hRB.mono hC.size), hRB⟩
  · intro A W hC hd hx
    simp [factOf] at hd
    obtain ⟨hd0, hd1, hd2, ca, cs, ccap, hd3, hcs, hco⟩ := hd
    refine ⟨fun g hg => (by cases hg; simp [hd0]), ?_⟩
    refine loose_call rfl Tryd.func17 (by kernel_rfl) (by kernel_rfl) ?_
    simp only [List.map_toArray, List.map_cons, List.map_nil, hd1, hd2, hd3]
    refine (HRD.out ca cs.length ccap W (HBW.out W hC)).mono ?_
    rintro e' W' ⟨D', rfl, hD', h4⟩
    exact ⟨_, rfl, ⟨D', ca, cs, ccap, rfl, hD', hcs.below h4, hco⟩, hC.trans (h4.mono hC.size), h4⟩
  · intro A W hC hd hx
    simp [factOf] at hd
    obtain ⟨hd0, hd1, D', ca, cs, ccap, hd2, hD', hcs, hco⟩ := hd
    refine ⟨fun g hg => (by cases hg; simp [hd0]), ?_⟩
    refine loose_call rfl Tryd.func16 (by kernel_rfl) (by kernel_rfl) ?_
    simp only [List.map_toArray, List.map_cons, List.map_nil, hd1, hd2]
    have hs := rdsame_any D D' _ _ _ _ _ _ _ _ _ _ _ _ _ _ HD.out.1 hD' W (HDS.out.below hC) hcs
    rw [show sameD (L : Int) (X : Int) (shaL l) (shaL x) ds (L : Int) (X : Int) (shaL l) (shaL x) cs = true by unfold sameD; simp [HD.out.2, hco]] at hs
    refine hs.mono ?_
    rintro e' W' ⟨rfl, h4⟩
    exact ⟨_, rfl, rfl, hC.trans (h4.mono hC.size), h4⟩
  · intro A W hC hd hx
    have hk : ∀ v, A.eval (.const v) = v := fun _ => rfl
    simp [factOf] at hd
    generalize A.eval = ρ at hd hk ⊢
    simp [go_sem, looseUpon, factOf, hd, hk]
    exact ⟨hC, Below.refl _ _⟩
  · intro A W hC hd hx
    have hk : ∀ v, A.eval (.const v) = v := fun _ => rfl
    simp [factOf] at hd
    generalize A.eval = ρ at hd hk ⊢
    simp [go_sem, looseUpon, factOf, hd, hk]
    exact ⟨hC, Below.refl _ _⟩
  intro W hC
  simp only [ends]
  rintro _ rfl _ rfl _ rfl _ rfl _ rfl _ rfl _ rfl _ rfl _ ⟨-, -, -, -⟩ _ ⟨-, -, -, -, -⟩ _ rfl _ rfl _ rfl
  simp only [putAll, List.zip_cons_cons, List.zip_nil_left, List.foldl_cons, List.foldl_nil, Act.put, List.setIfInBounds_toArray, List.set_cons_succ, List.set_cons_zero]
  have HF := Lib.hid (HBW.out W hC)
  clear HLD HBW HRC HRD
  go_wp2
  go_ret
  exact ⟨rfl, HF.out⟩

theorem patchMakes_walk (a : Option Addr) (l : List Int) (cap : Nat) (b : Option Addr) (x : List Int) (capx : Nat) (block : Int) (w : World) (hR : Roots w) (hl : BytesIn w a l cap) (ol : OkB l) (hx : BytesIn w b x capx) (ox : OkB x) (hbl : -9223372036854775808 ≤ block ∧ block ≤ 9223372036854775807) :
    Calls Tryd.prog 5 #[.slice a l.length cap, .slice b x.length capx, .int .i64 block] w (Gives (.bool true) w) := by
  by_cases h : l.length ≤ 200 ∧ x.length ≤ 200
  · exact patchMakes_small a b l x cap capx block w hR hl hx ol ox h.1 h.2
  · exact patchMakes_big a b l x cap capx block w hR h
end Go.Proofs.YtdedfjkenbaebaaDoor
