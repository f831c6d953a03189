import Derived.Deep.RegionWith
import Derived.Test.YtdedfjkenbaebaaGreatDoorE08v29
import Derived.Test.YtdedfjkenbaebaaGreatDoorE08v27
/- With of the reference. -/
namespace Go.Proofs.YtdedfjkenbaebaaGreatDoor
open Go.RowKit
set_option linter.unusedVariables false

/-- Eight words of a state that lie somewhere. -/
def StateAt (w : World) (v : V8) (x : Value) : Prop := ∃ g o c, x = .slice (some ⟨g, o, none⟩) 8 c ∧ 8 ≤ c ∧ c ≤ 9223372036854775807 ∧ ∀ i, i < 8 → w.cell? ⟨g, o + i, none⟩ = some (.int .u32 (v.at i))

set_option maxRecDepth 100000 in
set_option maxHeartbeats 8000000 in
theorem with_any (m : List Int) (a : Option Addr) (cap : Nat) (w : World) (hb : BytesIn w a m cap) (hm : m.length ≤ 1000000) (gS cS gK cK : Nat) (hk : KeysIn w gS cS gK cK) : Calls Tryz.prog 30 #[.slice a m.length cap, .agg (keysA gS cS gK cK)] w (Gives (.agg (byteA (shaL m))) w) := by
  have HB := Lib.hid hb
  have HK := Lib.hid hk
  obtain ⟨n, hn⟩ : ∃ n, n = m.length := ⟨_, rfl⟩
  have HNL := Lib.hid hn
  rw [← hn] at hm ⊢
  clear hb hk hn
  obtain ⟨s0, hs0⟩ := two_blocks w (.cells (keysA gS cS gK cK) 45 (0, 0)) (.cells (byteA zeroD) 24 (0, 0))
  have hc0 : s0.w.cell? ⟨w.heap.size, 0, none⟩ = some (.slice (some ⟨gS, 0, none⟩) 8 cS) := by rw [cell_of (s0.blocks (w.heap.size, .cells (keysA gS cS gK cK) 45 (0, 0)) (by simp))]; rfl
  have HS := Lib.hid hs0
  have hc0' : ((w.alloc (.cells (keysA gS cS gK cK) 45)).alloc (.cells zero32 24)).cell? ⟨w.heap.size, 0, none⟩ = some (.slice (some ⟨gS, 0, none⟩) 8 cS) := by rw [← hc0, hs0]; rfl
  clear hs0 hc0
  go_enter Tryz.func30, Tryz.ntmps30
  go_wp2_with fail
  obtain ⟨sP, hP⟩ : ∃ x : HeldW w [(w.heap.size + 1, .cells (byteA zeroD) 24 (0, 0)), (w.heap.size, .cells (keysA gS cS gK cK) 45 (0, 0))], (w.alloc (.cells (keysA gS cS gK cK) 45)).alloc (.cells zero32 24) = x.w := ⟨s0, HS.out.symm⟩
  rw [show (w.alloc (.cells (keysA gS cS gK cK) 45)).alloc (.cells zero32 24) = sP.w from hP]
  have hpad := rpad_any m a cap sP.w (by
    refine ⟨HB.out.len, HB.out.capb, fun h => ?_, HB.out.nil⟩
    obtain ⟨b, o, h1, h2⟩ := HB.out.cells h
    exact ⟨b, o, h1, fun i hi => (sP.below.cell (p := ⟨b, o + i, none⟩) (World.block_lt_of_cell? _ _ (h2 i hi))).trans (h2 i hi)⟩) (by rw [← HNL.out]; exact hm)
  rw [← HNL.out] at hpad
  clear hP hc0' HS s0
  refine hpad.mono ?_
  rintro e _ ⟨v, rfl, oP, rfl⟩
  clear hpad
  obtain ⟨M, hM⟩ : ∃ M, M = m ++ padL n := ⟨_, rfl⟩
  obtain ⟨Qn, hQn⟩ : ∃ Qn, M.length = 64 * Qn := ⟨M.length / 64, by rw [hM, List.length_append, padL_length, ← HNL.out]; unfold zerosOf; omega⟩
  have hQ0 : 0 < Qn := by
    have : M.length = n + (zerosOf n + 9) := by rw [hM, List.length_append, padL_length, ← HNL.out]
    omega
  have hQ1 : Qn ≤ 100000 := by
    have : M.length = n + (zerosOf n + 9) := by rw [hM, List.length_append, padL_length, ← HNL.out]
    unfold zerosOf at this; omega
  obtain ⟨gP, cP, curP, rfl, hP1, hP2, hgP, hneP, HcP, s1, hs1⟩ := sP.own oP (64 * Qn) (by rw [List.length_map, ← hM, hQn]) (by omega)
  rw [show oP.w = s1.w from hs1]
  have HF := Lib.hid (show ∀ i, i < 64 * Qn → s1.w.cell? ⟨gP, i, none⟩ = some (.int .u8 (byteAt M i)) from fun i hi => by
    rw [cell_of (s1.blocks (gP, .cells curP 5 (0, 0)) (by simp))]
    refine HcP.out i _ ?_
    rw [List.getElem?_map, ← hM, byteAt, List.getElem?_eq_getElem (by rw [hQn]; exact hi)]; rfl)
  have HKS := Lib.hid (show KeysIn s1.w gS cS gK cK from ⟨HK.out.s1, HK.out.s2, HK.out.k1, HK.out.k2, fun i hi => (s1.below.cell (p := ⟨gS, 0 + i, none⟩) (World.block_lt_of_cell? _ _ (HK.out.s i hi))).trans (HK.out.s i hi), fun i hi => (s1.below.cell (p := ⟨gK, 0 + i, none⟩) (World.block_lt_of_cell? _ _ (HK.out.k i hi))).trans (HK.out.k i hi)⟩)
  have HB1 := Lib.hid (show s1.w.cell? ⟨w.heap.size, 1, none⟩ = some (.slice (some ⟨gK, 0, none⟩) 64 cK) by rw [cell_of (s1.blocks (w.heap.size, .cells (keysA gS cS gK cK) 45 (0, 0)) (by simp))]; rfl)
  have HZ := Lib.hid (s1.blocks (w.heap.size + 1, .cells (byteA zeroD) 24 (0, 0)) (by simp))
  have HBL := Lib.hid s1.below
  have HM := Lib.hid hM
  clear hs1 hM HcP hneP oP HK HB
  generalize s1.w = w2 at HF HKS HB1 HZ HBL ⊢
  clear s1 sP
  go_wp2
  go_loopw [5, 7] (fun x i wr => ∃ q : Nat, q ≤ Qn ∧ i = .int .i64 ((64 * q : Nat) : Int) ∧ ∃ s : HeldW w2 [], wr = s.w ∧ StateAt s.w (stF (byteAt M) q) x) (fun _ i _ => 64 * Qn - (intOf i).toNat)
  case atStart => exact ⟨0, by omega, rfl, HeldW.start w2, rfl, gS, 0, cS, rfl, HKS.out.s1, HKS.out.s2, HKS.out.s⟩
  case round =>
    obtain ⟨q, hq, rfl, s, rfl, g, o, c, rfl, hc1, hc2, hst⟩ := hrel
    have HST := Lib.hid hst
    clear hst
    obtain ⟨I, hI⟩ : ∃ I, I = 64 * q := ⟨_, rfl⟩
    rw [← hI]
    by_cases hlt : q < Qn
    · have hI2 : I + 64 ≤ 64 * Qn := by omega
      have hw64 : IntKind.i64.wrap ((I : Int) + 64) = (I : Int) + 64 := by simp [IntKind.wrap, IntKind.bits, IntKind.signed]; omega
      have hb1 : s.w.drew.cell? ⟨w.heap.size, 1, none⟩ = some (.slice (some ⟨gK, 0, none⟩) 64 cK) := by
        show s.w.cell? _ = _
        exact (s.below.cell (p := ⟨w.heap.size, 1, none⟩) (World.block_lt_of_cell? _ _ HB1.out)).trans HB1.out
      have hcI : ¬ cP = I := by omega
      have hI3 : (I : Int) + 64 ≤ (cP : Int) := by omega
      have hI4 : ((I : Int) + 64).toNat = I + 64 := by omega
      have hI5 : (0 : Int) ≤ (I : Int) + 64 := by omega
      have hI6 : max ((I : Int) + 64) 0 = (I : Int) + 64 := by omega
      have HI := Lib.hid hI
      have hlm : ((I : Int) < ((64 * Qn : Nat) : Int)) := by omega
      clear hI
      obtain ⟨W, hW⟩ : ∃ W, W = wl (fun i => byteAt M (64 * q + i)) 64 := ⟨_, rfl⟩
      have HLW := Lib.hid (show W.length = 64 by rw [hW, wl_length])
      have HNX := Lib.hid (show stF (byteAt M) (q + 1) = mixW (stF (byteAt M) q) W by rw [hW]; rfl)
      have hsch : Calls Tryz.prog 73 #[.slice (some ⟨gP, I, none⟩) 64 (cP - I)] s.w.drew (fun e w' => ∃ gw cw, e = .returned (.slice (some ⟨gw, 0, none⟩) 64 cw) ∧
          Hid (64 ≤ cw ∧ cw ≤ 9223372036854775807 ∧ (∀ i, i < 64 → w'.cell? ⟨gw, 0 + i, none⟩ = some (.int .u32 (W[i]?.getD 0))) ∧ (∀ i, i < 8 → w'.cell? ⟨g, o + i, none⟩ = some (.int .u32 ((stF (byteAt M) q).at i)))) ∧ ∃ x : HeldW w2 [], w' = x.w) := by
        have h := rsched_any gP I (cP - I) (fun i => byteAt M (64 * q + i)) (by omega) (by omega) s.w.drew (fun i hi => by
          have h := HF.out (64 * q + i) (by omega)
          rw [HI.out, ← h]
          exact s.below.cell (p := ⟨gP, 64 * q + i, none⟩) (World.block_lt_of_cell? w2 _ h))
        rw [← hW] at h
        refine h.mono ?_
        rintro e w' ⟨v, rfl, oS, rfl⟩
        obtain ⟨gw, cw, rfl, hgw, hcw, hcm, hcells⟩ := oS.row 64 (by rw [List.length_map, HLW.out]) (by omega)
        refine ⟨gw, cw, rfl, ⟨hcw, by unfold maxLen at hcm; omega, fun i hi => ?_, fun i hi => ?_⟩, ⟨oS.w, s.below.drew.trans (oS.below.mono s.below.drew.size), fun p hp => by cases hp⟩, rfl⟩
        · rw [Nat.zero_add]
          refine hcells i _ ?_
          rw [List.getElem?_map, List.getElem?_eq_getElem (by rw [HLW.out]; exact hi)]; rfl
        · have h := HST.out i hi
          have h2 : s.w.drew.cell? ⟨g, o + i, none⟩ = some (.int .u32 ((stF (byteAt M) q).at i)) := h
          rw [← h2]
          exact oS.below.cell (p := ⟨g, o + i, none⟩) (World.block_lt_of_cell? _ _ h2)
      have hb2 : ∀ x : HeldW w2 [], x.w.cell? ⟨w.heap.size, 1, none⟩ = some (.slice (some ⟨gK, 0, none⟩) 64 cK) := fun x =>
        (x.below.cell (p := ⟨w.heap.size, 1, none⟩) (World.block_lt_of_cell? _ _ HB1.out)).trans HB1.out
      have hblk : ∀ (gw cw : Nat) (x : HeldW w2 []), Hid (64 ≤ cw ∧ cw ≤ 9223372036854775807 ∧ (∀ i, i < 64 → x.w.cell? ⟨gw, 0 + i, none⟩ = some (.int .u32 (W[i]?.getD 0))) ∧ (∀ i, i < 8 → x.w.cell? ⟨g, o + i, none⟩ = some (.int .u32 ((stF (byteAt M) q).at i)))) →
          Calls Tryz.prog 72 #[.slice (some ⟨g, o, none⟩) 8 c, .slice (some ⟨gw, 0, none⟩) 64 cw, .slice (some ⟨gK, 0, none⟩) 64 cK] x.w (fun e w' => ∃ v, e = .returned v ∧ ∃ y : HeldW w2 [], w' = y.w ∧ Hid (StateAt y.w (stF (byteAt M) (q + 1)) v)) := fun gw cw x hx => by
        have h := rblock_any (stF (byteAt M) q) W HLW.out g o c gw 0 cw gK 0 cK hc1 hc2 hx.out.1 hx.out.2.1 HKS.out.k1 HKS.out.k2 x.w hx.out.2.2.2 hx.out.2.2.1 (fun i hi =>
          (x.below.cell (p := ⟨gK, 0 + i, none⟩) (World.block_lt_of_cell? _ _ (HKS.out.k i hi))).trans (HKS.out.k i hi))
        refine h.mono ?_
        rintro e w' ⟨v, rfl, oS, rfl⟩
        refine ⟨v, rfl, ⟨oS.w, x.below.trans (oS.below.mono x.below.size), fun p hp => by cases hp⟩, rfl, ?_⟩
        rw [HNX.out]
        obtain ⟨gv, cv, rfl, hgv, hcv, hcm, hcells⟩ := oS.row 8 (by rw [List.length_map]; rfl) (by omega)
        refine ⟨gv, 0, cv, rfl, hcv, by unfold maxLen at hcm; omega, fun i hi => ?_⟩
        rw [Nat.zero_add]
        refine hcells i _ ?_
        rw [List.getElem?_map, V8.at, List.getElem?_eq_getElem (show i < (mixW (stF (byteAt M) q) W).list.length from hi)]; rfl
      have HS := Lib.hid hsch
      have HBK := Lib.hid hblk
      clear hsch hblk hW
      go_wp2
      go_region_with (first | (go_at_call 73; refine HS.out.mono ?_; rintro e _ ⟨gw, cw, rfl, hx, x, rfl⟩) | (go_at_call 72; refine (HBK.out _ _ _ hx).mono ?_; rintro e _ ⟨v, rfl, y, rfl, hst⟩))
      all_goals
        clear hb1 hb2 hcI hI3 hI4 hI5 hI6 hw64
        have hw64 : IntKind.i64.wrap ((I : Int) + 64) = (I : Int) + 64 := by simp [IntKind.wrap, IntKind.bits, IntKind.signed]; omega
        go_wp2
        go_roundw
        case rel => exact ⟨q + 1, by omega, by have := HI.out; subst this; go_num, y, rfl, hst.out⟩
        case measure => simp [intOf]; omega
    · obtain rfl : q = Qn := by omega
      have HI := Lib.hid hI
      have hle : ¬ ((I : Int) < ((64 * q : Nat) : Int)) := by omega
      clear hI
      have HBS := Lib.hid s.below
      have HZS := Lib.hid (show s.w.heap[w.heap.size + 1]? = some (.cells (byteA zeroD) 24 (0, 0)) from (s.below.block _ (Array.getElem?_eq_some_iff.1 HZ.out).1).trans HZ.out)
      have HGE := Lib.hid (show w.heap.size ≤ s.w.heap.size from Nat.le_trans HBL.out.size s.below.size)
      have HRES := Lib.hid (show shaL m = digL (stF (byteAt M) q) 32 by
        unfold shaL
        rw [← HNL.out, ← HM.out, hQn, Nat.mul_comm, Nat.mul_div_cancel _ (by omega)])
      generalize stF (byteAt M) q = v at HST HRES
      generalize s.w = w3 at HST HBS HZS HGE ⊢
      clear s
      go_wp2
      go_loopw [9] (fun i wr => ∃ k : Nat, k ≤ 32 ∧ i = .int .i64 k ∧ ∃ s : HeldW w3 [(w3.heap.size, .cells (byteA (digK v k)) 24 (0, 0))], wr = s.w) (fun i _ => 32 - (intOf i).toNat)
      case atStart => exact ⟨0, by omega, rfl, (HeldW.start w3).push (.cells (byteA (digK v 0)) 24 (0, 0)), rfl⟩
      case round =>
        obtain ⟨k, hk, rfl, s, rfl⟩ := hrel
        have hblk : s.w.heap[w3.heap.size]? = some (.cells (byteA (digK v k)) 24 (0, 0)) := s.blocks (_, _) List.mem_cons_self
        by_cases hlt : k < 32
        · obtain ⟨d, j, hkd, hj, hd⟩ : ∃ d j : Nat, k = 4 * d + j ∧ j < 4 ∧ d < 8 := ⟨k / 4, k % 4, by omega, by omega, by omega⟩
          have hst := HST.out d hd
          have hc : s.w.cell? ⟨g, o + d, none⟩ = some (.int .u32 (v.at d)) := (s.below.cell (p := ⟨g, o + d, none⟩) (World.block_lt_of_cell? _ _ hst)).trans hst
          have hdiv : (k : Int) / 4 = (d : Int) := by omega
          have hmod : (k : Int) % 4 = (j : Int) := by omega
          have hcell : s.w.cell? ⟨w3.heap.size, k, none⟩ = some (.int .u8 ((digK v k)[k]?.getD 0)) := by
            rw [cell_of hblk, byteA_get _ (by rw [digK_length _ (by omega)]; omega)]
          have hfree := free_of hblk k
          have HKK := Lib.hid (show (byteA (digK v k)).setIfInBounds k (.int .u8 (v.at d / 2 ^ (24 - 8 * j) % 256)) = byteA (digK v (k + 1)) by
            rw [digB_at v d hj, ← hkd, byteA_set, digK_set v hlt])
          have HKD := Lib.hid hkd
          clear hblk hst hkd
          go_wp2
          go_roundw
          case rel => exact ⟨k + 1, by omega, by go_num, s.store (Nat.le_refl _) (by simp) HKK.out, rfl⟩
          case measure => simp [intOf]; omega
        · obtain rfl : k = 32 := by omega
          have hst : s.w.heap[w3.heap.size]? = some (.cells (byteA (digL v 32)) 24 (0, 0)) := hblk.trans (by rw [digK_end])
          have hrs : s.w.heap[w.heap.size + 1]? = some (.cells (byteA zeroD) 24 (0, 0)) := (s.below.block _ (Array.getElem?_eq_some_iff.1 HZS.out).1).trans HZS.out
          have hsz : (byteA (digL v 32)).size = 32 := by rw [byteA_size, digL_length]
          have hsr : (byteA zeroD).size = (byteA (digL v 32)).size := by rw [hsz]; rfl
          have hinf : (Tryz.prog.info? 24).map (·.size) = some (byteA (digL v 32)).size := by rw [hsz]; kernel_rfl
          have hone := byteA_one (digL v 32)
          clear hsz hblk
          go_wp2_with (first
            | (refine wpList_load_row rfl 24 (.tmp 8) rfl w3.heap.size rfl 24 _ (0, 0) _ hst Tryz.underlying24 rfl hinf ?_)
            | (refine wpList_store_rowTo rfl 24 (.tmp 4) (.tmp 47) rfl rfl (w.heap.size + 1) (byteA (digL v 32)) rfl rfl 24 (byteA zeroD) hrs hinf hsr hone ?_))
          refine bodyPost_ret (v := .agg (byteA (digL v 32))) ?_ rfl ⟨by rw [HRES.out], below_setRow (HBL.out.trans ((HBS.out.mono HBL.out.size).trans (s.below.mono HGE.out))) (by omega) _⟩
          exact results_cell_row Tryz.results30 _ _ (w.heap.size + 1) 24 _ (0, 0) _ rfl (setRow_heap _ _ _ _ _ _ hrs) Tryz.underlying24 rfl hinf
end Go.Proofs.YtdedfjkenbaebaaGreatDoor

/- Verify of the reference of package patch. -/
namespace Go.Proofs.YtdedfjkenbaebaaGreatDoor
open Go.RowKit Go.Shelf Go.Proofs.YtdedfjkenbaebaaGreatDoor.Plain01
set_option linter.unusedVariables false
set_option linter.unusedSimpArgs false

theorem KeysIn.below8 {w w' : World} {gS cS gK cK : Nat} (h : KeysIn w gS cS gK cK) (hb : Below w.heap.size w w') : KeysIn w' gS cS gK cK :=
  ⟨h.s1, h.s2, h.k1, h.k2, fun i hi => (hb.cell (World.block_lt_of_cell? _ _ (h.s i hi))).trans (h.s i hi), fun i hi => (hb.cell (World.block_lt_of_cell? _ _ (h.k i hi))).trans (h.k i hi)⟩
/-- Bytes, somewhere. -/
def IsBy8 (l : List Int) : Value → World → Prop := fun v w => ∃ A C, v = .slice A l.length C ∧ BytesIn w A l C
theorem stable_by8 (l : List Int) : Stable (fun W W' => Below W.heap.size W W') (IsBy8 l) := fun v w w' ⟨A, C, h1, h2⟩ hE => ⟨A, C, h1, h2.below hE⟩

set_option maxRecDepth 100000 in
set_option maxHeartbeats 8000000 in
theorem rverify8_any (l : List Int) (a : Option Addr) (cap : Nat) (D : Array Value) (o n : Int) (x y : List Int) (ca : Option Addr) (cs : List Cmd) (ccap : Nat) (gS cS gK cK : Nat) (hD : DeltaOf D o n x y (.slice ca cs.length ccap)) (w : World) (hl : BytesIn w a l cap) (h : CmdsIn w ca cs ccap) (hk : KeysIn w gS cS gK cK) (hL : cs.length ≤ 1000000) (hlb : l.length ≤ 1000000) (hn : n ≤ 1000000) :
    Calls Tryz.prog 14 #[.slice a l.length cap, .agg D, .agg (keysA gS cS gK cK)] w (Gives (pairV (verF l o n x y cs).1 (verF l o n x y cs).2) w) := by
  obtain ⟨S, hS⟩ := start2 w (deltaO D) (.cells (keysA gS cS gK cK) 45 (0, 0))
  have hc := rdcheck_any D o n x y ca cs ccap hD S.w (h.W S)
  have HG := Lib.hid (fun (bs : List (Nat × Obj)) (s : HeldW w bs) (hm : (w.heap.size, deltaO D) ∈ bs) => s.blocks (w.heap.size, deltaO D) hm)
  have H0 := Lib.hid (fun (W : World) (hW : W.heap[w.heap.size]? = some (deltaO D)) => (cell_of hW 0).trans hD.c0)
  have HLX := Lib.hid (fun (W : World) (hW : W.heap[w.heap.size]? = some (deltaO D)) => load_x hD hW)
  have HLY := Lib.hid (fun (W : World) (hW : W.heap[w.heap.size]? = some (deltaO D)) => load_y hD hW)
  have HLD := Lib.hid (fun (W : World) (hW : W.heap[w.heap.size]? = some (deltaO D)) => load_delta hD hW)
  have HKY := Lib.hid (fun (W : World) (hW : W.heap[w.heap.size + 1]? = some (.cells (keysA gS cS gK cK) 45 (0, 0))) => (show W.cell? ⟨w.heap.size + 1, 0, none⟩ = some (.slice (some ⟨gS, 0, none⟩) 8 cS) ∧ W.cell? ⟨w.heap.size + 1, 1, none⟩ = some (.slice (some ⟨gK, 0, none⟩) 64 cK) from ⟨cell_of hW 0, cell_of hW 1⟩))
  have HWI := Lib.hid (fun (m : List Int) (A : Option Addr) (C : Nat) (W : World) (hW : Below w.heap.size w W) (hb : BytesIn W A m C) (hm : m.length ≤ 1000000) => with_any m A C W hb hm gS cS gK cK (hk.below8 hW))
  have HB := Lib.hid hl
  have hxl := hD.xl
  have hyl := hD.yl
  have HRA : Hid ((faultOf o n cs).1 = 0 → o = (l.length : Int) → ∀ W, Below w.heap.size w W → Calls Tryz.prog 31 #[.slice a l.length cap, .agg D] W (MakesR 5 ((newF l n.toNat cs).map (Value.int .u8)) W)) := Lib.hid fun h1 h2 W hW => by
    have hv := faultOf_zero.1 h1
    obtain ⟨m, rfl⟩ : ∃ m : Nat, n = m := ⟨n.toNat, by have := hv.lens; unfold LensBad at this; omega⟩
    rw [Int.toNat_natCast]
    exact rapply8_any l a cap D o m x y ca cs ccap hD W (hl.below hW) (h.below hW) hL (by omega) h2.symm hv
  have hinf := infoDelta hD
  have hg : ((w.alloc (deltaO D)).alloc (.cells (keysA gS cS gK cK) 45 (0, 0))).heap[w.heap.size]? = some (deltaO D) := heap_old (heap_new w _ rfl) _
  have HS := Lib.hid hS
  have hls := shaL_length l
  have hlf := shaL_length (newF l n.toNat cs)
  have hcap := hl.capb
  have hcl := hl.len
  have HFL := Lib.hid (newF_length l n.toNat cs)
  obtain ⟨V, hV⟩ : ∃ V, V = verF l o n x y cs := ⟨_, rfl⟩
  rw [← hV]
  unfold verF at hV
  obtain ⟨F, hF⟩ : ∃ F, F = newF l n.toNat cs := ⟨_, rfl⟩
  obtain ⟨f, hf⟩ : ∃ f, f = faultOf o n cs := ⟨_, rfl⟩
  rw [← hF] at HRA hlf hV HFL
  rw [← hf] at hc HRA hV
  obtain ⟨e, p⟩ := f
  simp only at hc HRA
  have hlb2 := hlb
  obtain ⟨LL, hLL⟩ : ∃ m, m = l.length := ⟨_, rfl⟩
  have HLL := Lib.hid hLL
  rw [← hLL] at hlb hcl HRA hV ⊢
  obtain ⟨POST, hP⟩ : ∃ P, P = Gives (pairV V.1 V.2) w := ⟨_, rfl⟩
  rw [← hP]
  have HQ : Hid (∀ e' a', V = (e', a') → ∀ W, Below w.heap.size w W → POST (.returned (pairV e' a')) W) := Lib.hid fun e' a' hv W hW => by rw [hP, hv]; exact ⟨rfl, hW⟩
  have HV := Lib.hid hV
  clear hF hf hD hl h hL hS hk hLL hV hP
  by_cases he : e = 0
  · have e1 : (e == 0) = true := by simpa using he
    have HE := Lib.hid he
    by_cases ho : o = (LL : Int)
    · have e2 : (o == (LL : Int)) = true := by simpa using ho
      have hra := HRA.out he ho
      have HO := Lib.hid ho
      have HRA2 := Lib.hid hra
      clear he ho hra
      go_enter Tryz.func14, Tryz.ntmps14
      go_wp2_with (refine wpList_load_row rfl 27 (.tmp 4) rfl w.heap.size rfl 27 _ (0, 0) _ hg Tryz.underlying27 rfl hinf ?_)
      rw [HS.out]
      clear hg
      refine (HeldW.call hc).mono ?_
      rintro _ _ ⟨rfl, s2, rfl⟩
      have c0 := H0.out s2.w (HG.out _ s2 (by simp))
      clear hc
      go_wp2_with fail
      clear c0
      have hgd := s2.blocks (w.heap.size, deltaO D) (by simp)
      have hgk := s2.blocks (w.heap.size + 1, .cells (keysA gS cS gK cK) 45 (0, 0)) (by simp)
      have HGD := Lib.hid (fun (W : World) (hW : Below s2.w.heap.size s2.w W) => heap_below hgd hW)
      have HGK := Lib.hid (fun (W : World) (hW : Below s2.w.heap.size s2.w W) => HKY.out W (heap_below hgk hW))
      have HW2 := Lib.hid (fun (W : World) (hW : Below s2.w.heap.size s2.w W) => s2.below.trans (hW.mono s2.below.size))
      clear hgd hgk
      refine wp_region_loose
        [IsV (.slice a LL cap), IsV (.agg #[.slice (some ⟨gS, 0, none⟩) 8 cS, .slice (some ⟨gK, 0, none⟩) 64 cK]), IsV (.agg (byteA (shaL l))), IsV (.pointer (some ⟨w.heap.size, 2, none⟩)), IsV (.agg (byteA x)), IsV (.bool (!decide (shaL l = x)))]
        [⟨26, [], [0]⟩, ⟨27, [], [5]⟩, ⟨28, [(0, 26), (1, 27)], []⟩, ⟨29, [], [4]⟩, ⟨30, [(3, 29)], []⟩, ⟨31, [(2, 28), (4, 30)], []⟩]
        (fun W => Below s2.w.heap.size s2.w W) (fun W W' => Below W.heap.size W W') (by kernel_rfl) (by kernel_rfl) rfl rfl (Below.refl _ s2.w).drew ?_
        ⟨?_, ?_, ?_, ?_, ?_, ?_, trivial⟩ ?_
      · repeat (first | (intro _ h; cases h; done) | refine List.forall_mem_cons.2 ⟨stable_V _ _, ?_⟩)
      · intro A W hC hd hx
        have hk : ∀ v, A.eval (.const v) = v := fun _ => rfl
        have hy0 : A.eval (.tmp 0) = .slice a LL cap := hx 0 (by simp)
        clear hd
        generalize A.eval = ρ at hk hy0 ⊢
        simp [go_sem, looseUpon, factOf, hk, hy0]
        exact ⟨hC, Below.refl _ _⟩
      · intro A W hC hd hx
        have hk : ∀ v, A.eval (.const v) = v := fun _ => rfl
        have hy0 : A.eval (.tmp 5) = .pointer (some ⟨w.heap.size + 1, 0, none⟩) := hx 5 (by simp)
        have c0 := (HGK.out W hC).1
        have c1 := (HGK.out W hC).2
        clear hd
        generalize A.eval = ρ at hk hy0 ⊢
        simp [go_sem, looseUpon, factOf, hk, hy0, c0, c1]
        exact ⟨hC, Below.refl _ _⟩
      · intro A W hC hd hx
        simp [factOf] at hd
        obtain ⟨hd0, hd1⟩ := hd
        refine ⟨fun g hg => (by cases hg), ?_⟩
        refine loose_call rfl Tryz.func30 (by kernel_rfl) (by kernel_rfl) ?_
        simp only [List.map_toArray, List.map_cons, List.map_nil, hd0, hd1]
        have hw := HWI.out l a cap W (HW2.out W hC) (HB.out.below (HW2.out W hC)) hlb2
        unfold keysA at hw
        rw [← HLL.out] at hw
        refine hw.mono ?_
        rintro e' W' ⟨rfl, h4⟩
        exact ⟨_, rfl, rfl, hC.trans (h4.mono hC.size), h4⟩
      · intro A W hC hd hx
        have hk : ∀ v, A.eval (.const v) = v := fun _ => rfl
        have hy0 : A.eval (.tmp 4) = .pointer (some ⟨w.heap.size, 0, none⟩) := hx 4 (by simp)
        clear hd
        generalize A.eval = ρ at hk hy0 ⊢
        simp [go_sem, looseUpon, factOf, hk, hy0]
        exact ⟨hC, Below.refl _ _⟩
      · intro A W hC hd hx
        simp [factOf] at hd
        have hld := HLX.out W (HGD.out W hC)
        refine ⟨fun g hg => (by cases hg), ?_⟩
        generalize A.eval = ρ at hd ⊢
        simp [execOp, hd, hld, looseUpon, factOf]
        exact ⟨hC, Below.refl _ _⟩
      · intro A W hC hd hx
        have heq := equal32 (shaL l) x hls hxl W
        have hge := guard_arr32
        simp [factOf] at hd
        generalize A.eval = ρ at hd ⊢
        simp [go_sem, looseUpon, factOf, hd, heq, hge]
        exact ⟨hC, Below.refl _ _⟩
      intro W hC
      simp only [ends]
      rintro _ rfl _ rfl _ rfl _ rfl _ rfl _ rfl
      simp only [putAll, List.zip_cons_cons, List.zip_nil_left, List.foldl_cons, List.foldl_nil, Act.put, List.setIfInBounds_toArray, List.set_cons_succ, List.set_cons_zero]
      obtain ⟨s3, rfl⟩ := s2.after hC
      clear hC HGD HW2 HGK s2
      by_cases hx : shaL l = x
      · have d1 : decide (shaL l = x) = true := decide_eq_true hx
        have HX := Lib.hid hx
        rw [d1]
        clear d1 hx
        go_wp2_with fail
        have hgd := s3.blocks (w.heap.size, deltaO D) (by simp)
        have hgk := s3.blocks (w.heap.size + 1, .cells (keysA gS cS gK cK) 45 (0, 0)) (by simp)
        have HGD := Lib.hid (fun (W : World) (hW : Below s3.w.heap.size s3.w W) => heap_below hgd hW)
        have HGK := Lib.hid (fun (W : World) (hW : Below s3.w.heap.size s3.w W) => HKY.out W (heap_below hgk hW))
        have HW3 := Lib.hid (fun (W : World) (hW : Below s3.w.heap.size s3.w W) => s3.below.trans (hW.mono s3.below.size))
        clear hgd hgk
        refine wp_region_loose
          [IsV (.slice a LL cap), IsV (.agg D), IsBy8 F, IsV (.agg #[.slice (some ⟨gS, 0, none⟩) 8 cS, .slice (some ⟨gK, 0, none⟩) 64 cK]), IsV (.agg (byteA (shaL F))), IsV (.pointer (some ⟨w.heap.size, 34, none⟩)), IsV (.agg (byteA y)), IsV (.bool (!decide (shaL F = y)))]
          [⟨32, [], [0]⟩, ⟨33, [], [4]⟩, ⟨34, [(0, 32), (1, 33)], []⟩, ⟨35, [], [5]⟩, ⟨36, [(2, 34), (3, 35)], []⟩, ⟨37, [], [4]⟩, ⟨38, [(5, 37)], []⟩, ⟨39, [(4, 36), (6, 38)], []⟩]
          (fun W => Below s3.w.heap.size s3.w W) (fun W W' => Below W.heap.size W W') (by kernel_rfl) (by kernel_rfl) rfl rfl (Below.refl _ s3.w).drew ?_
          ⟨?_, ?_, ?_, ?_, ?_, ?_, ?_, ?_, trivial⟩ ?_
        · repeat (first | (intro _ h; cases h; done) | refine List.forall_mem_cons.2 ⟨stable_V _ _, ?_⟩ | refine List.forall_mem_cons.2 ⟨stable_by8 _, ?_⟩)
        · intro A W hC hd hx
          have hk : ∀ v, A.eval (.const v) = v := fun _ => rfl
          have hy0 : A.eval (.tmp 0) = .slice a LL cap := hx 0 (by simp)
          clear hd
          generalize A.eval = ρ at hk hy0 ⊢
          simp [go_sem, looseUpon, factOf, hk, hy0]
          exact ⟨hC, Below.refl _ _⟩
        · intro A W hC hd hx
          have hy0 : A.eval (.tmp 4) = .pointer (some ⟨w.heap.size, 0, none⟩) := hx 4 (by simp)
          have hld := HLD.out W (HGD.out W hC)
          refine ⟨fun g hg => (by cases hg), ?_⟩
          clear hd
          generalize A.eval = ρ at hy0 ⊢
          simp [execOp, hy0, hld, looseUpon, factOf]
          exact ⟨hC, Below.refl _ _⟩
        · intro A W hC hd hx
          simp [factOf] at hd
          obtain ⟨hd0, hd1⟩ := hd
          refine ⟨fun g hg => (by cases hg), ?_⟩
          refine loose_call rfl Tryz.func31 (by kernel_rfl) (by kernel_rfl) ?_
          simp only [List.map_toArray, List.map_cons, List.map_nil, hd0, hd1]
          refine (HRA2.out W (HW3.out W hC)).mono ?_
          rintro e' W' ⟨v', rfl, s', rfl⟩
          obtain ⟨A', C', rfl, hb'⟩ := s'.bytes
          exact ⟨_, rfl, ⟨A', C', rfl, hb'⟩, hC.trans (s'.below.mono hC.size), s'.below⟩
        · intro A W hC hd hx
          have hk : ∀ v, A.eval (.const v) = v := fun _ => rfl
          have hy0 : A.eval (.tmp 5) = .pointer (some ⟨w.heap.size + 1, 0, none⟩) := hx 5 (by simp)
          have c0 := (HGK.out W hC).1
          have c1 := (HGK.out W hC).2
          clear hd
          generalize A.eval = ρ at hk hy0 ⊢
          simp [go_sem, looseUpon, factOf, hk, hy0, c0, c1]
          exact ⟨hC, Below.refl _ _⟩
        · intro A W hC hd hx
          simp [factOf] at hd
          obtain ⟨⟨A', C', hd0, hb'⟩, hd1⟩ := hd
          refine ⟨fun g hg => (by cases hg), ?_⟩
          refine loose_call rfl Tryz.func30 (by kernel_rfl) (by kernel_rfl) ?_
          simp only [List.map_toArray, List.map_cons, List.map_nil, hd0, hd1]
          have hw := HWI.out F A' C' W (HW3.out W hC) hb' (by rw [HFL.out]; omega)
          unfold keysA at hw
          refine hw.mono ?_
          rintro e' W' ⟨rfl, h4⟩
          exact ⟨_, rfl, rfl, hC.trans (h4.mono hC.size), h4⟩
        · intro A W hC hd hx
          have hk : ∀ v, A.eval (.const v) = v := fun _ => rfl
          have hy0 : A.eval (.tmp 4) = .pointer (some ⟨w.heap.size, 0, none⟩) := hx 4 (by simp)
          clear hd
          generalize A.eval = ρ at hk hy0 ⊢
          simp [go_sem, looseUpon, factOf, hk, hy0]
          exact ⟨hC, Below.refl _ _⟩
        · intro A W hC hd hx
          simp [factOf] at hd
          have hld := HLY.out W (HGD.out W hC)
          refine ⟨fun g hg => (by cases hg), ?_⟩
          generalize A.eval = ρ at hd ⊢
          simp [execOp, hd, hld, looseUpon, factOf]
          exact ⟨hC, Below.refl _ _⟩
        · intro A W hC hd hx
          have heq := equal32 (shaL F) y hlf hyl W
          have hge := guard_arr32
          simp [factOf] at hd
          generalize A.eval = ρ at hd ⊢
          simp [go_sem, looseUpon, factOf, hd, heq, hge]
          exact ⟨hC, Below.refl _ _⟩
        intro W hC
        simp only [ends]
        rintro _ rfl _ rfl _ ⟨A', C', rfl, -⟩ _ rfl _ rfl _ rfl _ rfl _ rfl
        simp only [putAll, List.zip_cons_cons, List.zip_nil_left, List.foldl_cons, List.foldl_nil, Act.put, List.setIfInBounds_toArray, List.set_cons_succ, List.set_cons_zero]
        obtain ⟨s4, rfl⟩ := s3.after hC
        clear hC HGD HW3 HGK s3
        by_cases hy : shaL F = y
        · have d1 : decide (shaL F = y) = true := decide_eq_true hy
          have HR := Lib.hid (HQ.out 0 0 (by rw [HV.out, if_neg (show ¬ e ≠ 0 from fun h => h HE.out), if_neg (show ¬ o ≠ (LL : Int) from fun h => h HO.out), if_neg (show ¬ x ≠ shaL l from fun h => h HX.out.symm), if_neg (show ¬ y ≠ shaL F from fun h => h hy.symm)]) s4.w s4.below)
          rw [d1]
          clear d1 hy
          go_wp2
          exact HR.out
        · have d1 : decide (shaL F = y) = false := decide_eq_false hy
          have HR := Lib.hid (HQ.out 15 0 (by rw [HV.out, if_neg (show ¬ e ≠ 0 from fun h => h HE.out), if_neg (show ¬ o ≠ (LL : Int) from fun h => h HO.out), if_neg (show ¬ x ≠ shaL l from fun h => h HX.out.symm), if_pos (show y ≠ shaL F from fun h => hy h.symm)]) s4.w s4.below)
          rw [d1]
          clear d1 hy
          go_wp2
          exact HR.out
      · have d1 : decide (shaL l = x) = false := decide_eq_false hx
        have HR := Lib.hid (HQ.out 14 0 (by rw [HV.out, if_neg (show ¬ e ≠ 0 from fun h => h HE.out), if_neg (show ¬ o ≠ (LL : Int) from fun h => h HO.out), if_pos (show x ≠ shaL l from fun h => hx h.symm)]) s3.w s3.below)
        rw [d1]
        clear d1 hx
        go_wp2
        exact HR.out
    · have e2 : (o == (LL : Int)) = false := by simpa using ho
      have HO := Lib.hid ho
      clear he ho
      go_enter Tryz.func14, Tryz.ntmps14
      go_wp2_with (refine wpList_load_row rfl 27 (.tmp 4) rfl w.heap.size rfl 27 _ (0, 0) _ hg Tryz.underlying27 rfl hinf ?_)
      rw [HS.out]
      clear hg
      refine (HeldW.call hc).mono ?_
      rintro _ _ ⟨rfl, s2, rfl⟩
      have c0 := H0.out s2.w (HG.out _ s2 (by simp))
      have HR := Lib.hid (HQ.out 13 (LL : Int) (by rw [HV.out, if_neg (show ¬ e ≠ 0 from fun h => h HE.out), if_pos (show o ≠ (LL : Int) from HO.out)]) s2.w s2.below)
      clear hc
      go_wp2
      exact HR.out
  · have e1 : (e == 0) = false := by simpa using he
    have HE := Lib.hid he
    clear he
    go_enter Tryz.func14, Tryz.ntmps14
    go_wp2_with (refine wpList_load_row rfl 27 (.tmp 4) rfl w.heap.size rfl 27 _ (0, 0) _ hg Tryz.underlying27 rfl hinf ?_)
    rw [HS.out]
    clear hg
    refine (HeldW.call hc).mono ?_
    rintro _ _ ⟨rfl, s2, rfl⟩
    have HR := Lib.hid (HQ.out e p (by rw [HV.out, if_pos (show e ≠ 0 from HE.out)]) s2.w s2.below)
    clear hc
    go_wp2
    exact HR.out
end Go.Proofs.YtdedfjkenbaebaaGreatDoor
