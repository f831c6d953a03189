/- WireInverse returns true for all fields, and changes nothing that was there. -/
import Derived.Deep.RegionWith
import Derived.Laws.BitsLemmas
import Derived.Laws.Bits64
import Derived.Test.Ytclalbiggnalfaa06Fields
namespace Go.Proofs.Ytclalbiggnalfaa
open Go.RowKit
set_option linter.unusedVariables false
set_option linter.unusedSimpArgs false

/-- One more digit, in numbers. -/
theorem stepU_eq {x d : Int} (hx : 0 ≤ x) (hx2 : x * 256 < 18446744073709551616) (hd : 0 ≤ d ∧ d < 256) : stepU x d = x * 256 + d := by
  unfold stepU
  rw [IntKind.wrap_u64, IntKind.wrap_u64, Int.emod_eq_of_lt (by omega) hx2, Int.emod_eq_of_lt hd.1 (by omega)]
  exact bits_join .u64 64 (by decide) (fun n h0 h1 => by rw [IntKind.wrap_u64]; omega) 8 _ _ (by omega) (by omega) (by omega) hd.1 (by omega) (by omega)
theorem div_step (v : Int) (j : Nat) : v / 2 ^ (8 * (j + 1)) = v / 2 ^ (8 * j) / 256 := by
  rw [Int.ediv_ediv_of_nonneg (Int.pow_nonneg (by omega)), show 8 * (j + 1) = 8 * j + 8 by omega, Int.pow_add]
  rfl
/-- What the digits make. -/
theorem beval_digs (v : Int) (n : Nat) (hv : 0 ≤ v ∧ v < 18446744073709551616) (hf : v / 2 ^ (8 * n) = 0) : ∀ k, k ≤ n → beval (digs v n k) = v / 2 ^ (8 * (n - k)) := by
  intro k
  induction k with
  | zero => intro _; rw [Nat.sub_zero, hf]; rfl
  | succ k ih =>
    intro hk
    have h1 := ih (by omega)
    obtain ⟨j, hj⟩ : ∃ j, n - k = j + 1 := ⟨n - k - 1, by omega⟩
    rw [hj] at h1
    rw [show n - (k + 1) = j by omega, digs_succ, show n - 1 - k = j by omega]
    have h2 := div_step v j
    have hp : (0 : Int) < 2 ^ (8 * j) := Int.pow_pos (by omega)
    have h3 : 0 ≤ v / 2 ^ (8 * j) := Int.ediv_nonneg hv.1 (Int.le_of_lt hp)
    have h4 : v / 2 ^ (8 * j) ≤ v := Int.ediv_le_self _ hv.1
    have h5 : beval (digs v n k ++ [v / 2 ^ (8 * j) % 256]) = stepU (beval (digs v n k)) (v / 2 ^ (8 * j) % 256) := by simp only [beval, List.foldl_append, List.foldl_cons, List.foldl_nil]
    rw [h5, h1, h2, stepU_eq (by omega) (by omega) (by omega)]
    omega
theorem beval_enc1 {v z : Int} (hv : 0 ≤ v ∧ v < 18446744073709551616) (h : fitB v z = true) : beval (enc1 v z.toNat) = v := by
  have hz := fitB_size h
  have hf : v / 2 ^ (8 * z.toNat) = 0 := by
    unfold fitB at h
    simp only [Bool.and_eq_true, beq_iff_eq] at h
    have := h.2
    rwa [show (8 * z).toNat = 8 * z.toNat by omega] at this
  rw [beval_digs v z.toNat hv hf z.toNat (Nat.le_refl _), Nat.sub_self]
  simp

/-- The bytes of the k-th field. -/
theorem encs_part {fs : List (Int × Int)} {k : Nat} {f : Int × Int} (h : fs[k]? = some f) : ((encs fs).drop (encs (fs.take k)).length).take f.2.toNat = enc1 f.1 f.2.toNat ∧ (encs (fs.take k)).length + f.2.toNat ≤ (encs fs).length := by
  obtain ⟨hk, rfl⟩ := List.getElem?_eq_some_iff.1 h
  have h1 : encs fs = encs (fs.take k) ++ (enc1 fs[k].1 fs[k].2.toNat ++ encs (fs.drop (k + 1))) := by
    have : fs = fs.take k ++ (fs[k] :: fs.drop (k + 1)) := by rw [List.getElem_cons_drop, List.take_append_drop]
    conv => lhs; rw [this]
    unfold encs
    rw [List.flatMap_append, List.flatMap_cons]
  have h2 : (enc1 fs[k].1 fs[k].2.toNat).length = fs[k].2.toNat := digs_length _ _ _
  constructor
  · conv => lhs; rw [h1, List.drop_left]
    rw [List.take_append_of_le_length (by omega), List.take_of_length_le (by omega)]
  · rw [h1, List.length_append, List.length_append, h2]
    omega

theorem inverse_big (fs : List (Int × Int)) (fa : Option Addr) (fcap : Nat) (w : World) (hf : fs.length ≤ 9223372036854775807) (hbig : 60 < fs.length) : Calls Try.prog 4 #[.slice fa fs.length fcap] w (Gives (.bool true) w) := by
  have ha := alive06_gives
  have d1 : decide ((60 : Int) < fs.length) = true := by simp; omega
  clear hbig
  go_enter Try.func4, Try.ntmps4
  go_wp2_with fail
  refine (HeldW.call (s := HeldW.start w) (ha _)).mono ?_
  rintro e _ ⟨rfl, s1, rfl⟩
  go_wp2
  go_ret
  exact ⟨rfl, s1.below⟩

/-- A draw, in the class of a reader's block. -/
abbrev HeldX.drawC {w0 : World} {h : Nat} {bs : List (Nat × Obj)} (s : HeldX w0 h bs) : HeldX w0 h bs := ⟨s.w.drew, ⟨s.but.os, s.but.tape, s.but.output, s.but.size, s.but.block⟩, s.blocks⟩
theorem nil_in (w : World) : BytesIn w none [] 0 := ⟨by simp, by omega, fun h => absurd h (by simp), fun _ => rfl⟩

set_option maxRecDepth 100000 in
set_option maxHeartbeats 4000000 in
theorem inverse_small (fs : List (Int × Int)) (fa : Option Addr) (fcap : Nat) (w : World) (hf : FieldsIn w fa fs fcap) (h2 : fs.length ≤ 60) : Calls Try.prog 4 #[.slice fa fs.length fcap] w (Gives (.bool true) w) := by
  have hfi := fields_out fs fa fcap fs.length w hf rfl h2
  have HF := Lib.hid hf
  obtain ⟨N, hN⟩ : ∃ N, N = fs.length := ⟨_, rfl⟩
  rw [← hN] at h2 hfi ⊢
  have HN := Lib.hid hN
  have d2 : decide ((60 : Int) < N) = false := by simp; omega
  clear hf hN
  go_enter Try.func4, Try.ntmps4
  go_wp2_with fail
  refine hfi.mono ?_
  rintro e W ⟨Z, all, ws, fA, fC, wA, wC, rfl, HO⟩
  clear hfi d2
  have hap := append_any [] none 0 fs fA fC W (nil_in W) (by simp) HO.out.f (by rw [← HN.out]; omega)
  rw [← HN.out] at hap
  go_wp2_with fail
  refine hap.mono ?_
  rintro e w3 HPO
  replace HPO := Lib.hid HPO
  clear hap
  cases all with
  | true =>
    obtain ⟨v3, rfl, s3, rfl⟩ := append_yes HO.out.all.symm HPO.out
    clear HPO
    obtain ⟨L, hL⟩ : ∃ L, (encs fs).length = L := ⟨_, rfl⟩
    obtain ⟨A3, C3, rfl, hG⟩ := (s3.as (by rw [List.nil_append] : ([] ++ encs fs).map (Value.int .u8) = (encs fs).map (Value.int .u8))).bytesN hL
    have hLb : L ≤ 480 := by have := encs_length HO.out.all.symm; rw [hL, ← HN.out] at this; omega
    have hnw := wnew_any (encs fs) A3 C3 s3.w hG (by omega)
    rw [hL] at hnw
    have HL := Lib.hid hL
    have HB3 := Lib.hid (show Below w.heap.size w s3.w from HO.out.below.trans (s3.below.mono HO.out.below.size))
    have HFW3 := Lib.hid (show FieldsIn s3.w fA fs fC from HO.out.f.below s3.below)
    clear hL hG
    go_wp2_with fail
    refine hnw.mono ?_
    rintro e X ⟨g, da, dcap, rfl, hg, hb4, hr, hD, hne⟩
    clear hnw
    rw [HL.out] at hr
    have HR := Lib.hid hr
    have HD := Lib.hid hD
    have HNE := Lib.hid (fun b o h => (hne b o h).2)
    have HX := Lib.hid (show Below w.heap.size w X from HB3.out.trans (hb4.mono HB3.out.size))
    have HG := Lib.hid (show w.heap.size ≤ g from Nat.le_trans HB3.out.size hg)
    have HFX := Lib.hid (HFW3.out.below hb4)
    have HFN := Lib.hid (show ∀ b o, fA = some ⟨b, o, none⟩ → 0 < N → b ≠ g from fun b o h hp => by
      subst h
      obtain ⟨f, hf⟩ : ∃ f, fs[0]? = some f := ⟨_, List.getElem?_eq_getElem (by rw [← HN.out]; exact hp)⟩
      obtain ⟨b', o', h1, hc, -⟩ := HFW3.out.at hf
      cases h1
      have := World.block_lt_of_cell? _ _ hc
      simp only at this
      omega)
    clear hr hD hne hg hb4
    go_wp2
    go_loopw [10, 40] (fun _ i wr => ∃ k : Nat, k ≤ N ∧ i = .int .i64 k ∧ ∃ t : Nat, Hid (t = (encs (fs.take k)).length) ∧ ∃ S : HeldX X g [(g, rdO t L da dcap 0 0)], wr = S.w) (fun _ i _ => N - (intOf i).toNat)
    case atStart => exact ⟨0, by omega, rfl, 0, Lib.hid (by simp [encs]), HeldX.start HR.out, rfl⟩
    case round =>
      obtain ⟨k, hk, rfl, t, ht, S, rfl⟩ := hrel
      by_cases hlt : k < N
      · obtain ⟨f, hfk⟩ : ∃ f, fs[k]? = some f := ⟨_, List.getElem?_eq_getElem (by rw [← HN.out]; exact hlt)⟩
        have hfit := List.all_eq_true.1 HO.out.all.symm f (List.mem_of_getElem? hfk)
        have hsz := fitB_size hfit
        obtain ⟨hv, hz⟩ := HF.out.ok _ (List.mem_of_getElem? hfk)
        obtain ⟨b, o, hfA, x0, x1⟩ := HFX.out.at hfk
        have hbg := HFN.out b o hfA (by omega)
        subst hfA
        replace x0 := src_cellX hbg x0 S
        replace x1 := src_cellX hbg x1 S
        have hpart := encs_part hfk
        have hbe := beval_enc1 hv hfit
        have hsn := encs_snoc hfk
        obtain ⟨v, z⟩ := f
        simp only at x0 x1 hv hz hsz hpart hbe hsn
        obtain ⟨n, rfl⟩ : ∃ n : Nat, z = n := ⟨z.toNat, by omega⟩
        simp only [Int.toNat_natCast] at hpart hbe hsn
        rw [← ht.out] at hpart
        have HU := Lib.hid (fun (W' : World) (h : W'.heap[g]? = some (rdO t L da dcap 0 0)) (hd : BytesIn W' da (encs fs) dcap) => by
          have := uint_ok g t dcap da W' (encs fs) 0 n (by rw [HL.out]; exact h) (by omega) hpart.2 hd
          rw [hpart.1, hbe, HL.out] at this
          exact this)
        have HT := Lib.hid (show t + n = (encs (fs.take (k + 1))).length by rw [hsn, List.length_append, digs_length, ht.out])
        clear hfk hfit hpart hbe hsn hv hz hbg
        obtain ⟨S1, hS1⟩ : ∃ S1 : HeldX X g [(S.w.heap.size, .cells #[.int .u64 v, .int .i64 n] 36 (0, 0)), (g, rdO t L da dcap 0 0)], S.w.alloc (.cells #[.int .u64 v, .int .i64 n] 36) = S1.w := ⟨S.push _, rfl⟩
        go_wp2_with fail
        clear x0 x1 hS1
        have hBg : S.w.heap.size ≠ g := fun h => by
          have := (Array.getElem?_eq_some_iff.1 (S.blocks (g, rdO t L da dcap 0 0) (by simp))).1
          simp only at this
          omega
        generalize S.w.heap.size = B at S1 hBg ⊢
        have y0 : S1.w.drew.cell? ⟨B, 0, none⟩ = some (.int .u64 v) := by rw [cell_of (S1.drawC.blocks (B, .cells #[.int .u64 v, .int .i64 n] 36 (0, 0)) (by simp))]; rfl
        have y1 : S1.w.drew.cell? ⟨B, 1, none⟩ = some (.int .i64 n) := by rw [cell_of (S1.drawC.blocks (B, .cells #[.int .u64 v, .int .i64 n] 36 (0, 0)) (by simp))]; rfl
        have hu := HeldX.puts (s := S1.drawC.sub (bs' := [(g, rdO t L da dcap 0 0), (B, .cells #[.int .u64 v, .int .i64 n] 36 (0, 0))]) (by simp)) (HU.out S1.w.drew (S1.drawC.blocks (g, _) (by simp)) (HD.out.X HNE.out S1.drawC)) (.inl rfl) (all1 (Q := fun p : Nat × Obj => p.1 ≠ g) hBg)
        go_region_with (go_at_call 12; refine hu.mono ?_; rintro e _ ⟨rfl, S2, rfl⟩; have z0 : S2.w.cell? ⟨B, 0, none⟩ = some (.int .u64 v) := (by rw [cell_of (S2.blocks (B, .cells #[.int .u64 v, .int .i64 n] 36 (0, 0)) (by simp))]; rfl))
        all_goals (
          clear y0 y1 z0 hu
          go_wp2
          go_roundw
          case rel => exact ⟨k + 1, by omega, by go_num, t + n, HT, S2.sub (by simp), rfl⟩
          case measure => simp [intOf]; omega)
      · obtain rfl : N = k := by omega
        have htL : t = L := by rw [ht.out, HN.out, List.take_length, HL.out]
        subst htL
        clear ht
        go_wp2_with fail
        refine (HeldX.call (s := S) (alive06_gives _)).mono ?_
        rintro e _ ⟨rfl, S2, rfl⟩
        go_wp2_with fail
        refine (HeldX.call (s := S2) (rest_any g t t dcap da 0 0 _ (S2.blocks (g, _) (by simp)) (by omega) (by omega))).mono ?_
        rintro e _ ⟨rfl, S3, rfl⟩
        go_wp2_with fail
        refine (HeldX.call (s := S3) (gives_same (at_any g t t dcap da 0 0 _ (S3.blocks (g, _) (by simp))))).mono ?_
        rintro e _ ⟨rfl, S4, rfl⟩
        go_wp2_with fail
        refine (HeldX.call (s := S4) (fault_any g t t dcap da 0 0 _ (S4.blocks (g, _) (by simp)))).mono ?_
        rintro e _ ⟨rfl, S5, rfl⟩
        go_wp2
        go_ret
        exact ⟨rfl, S5.below0 HX.out HG.out⟩
  | false =>
    obtain ⟨rfl, hb3⟩ := append_not HO.out.all.symm HPO.out
    clear HPO
    have hnw := wnew_any [] none 0 w3 (nil_in w3) (by simp)
    go_wp2_with fail
    refine hnw.mono ?_
    rintro e w4 ⟨g, da, dcap, rfl, hg, hb4, -, -, -⟩
    clear hnw
    have hb0 : Below w.heap.size w w3 := HO.out.below.trans (hb3.mono HO.out.below.size)
    have hb1 : Below w.heap.size w w4 := hb0.trans (hb4.mono hb0.size)
    go_wp2_with fail
    refine (HeldW.call (s := (⟨w4, hb1, by simp⟩ : HeldW w [])) (alive06_gives w4)).mono ?_
    rintro e _ ⟨rfl, s4, rfl⟩
    go_wp2
    go_ret
    exact ⟨rfl, s4.below⟩

theorem wireInverse_walk (fa : Option Addr) (fs : List (Int × Int)) (fcap : Nat) (w : World) (hf : FieldsIn w fa fs fcap) : Calls Try.prog 4 #[.slice fa fs.length fcap] w (Gives (.bool true) w) := by
  by_cases h : fs.length ≤ 60
  · exact inverse_small fs fa fcap w hf h
  · have h3 := hf.len
    have h4 := hf.capb
    exact inverse_big fs fa fcap w (by omega) (by omega)
end Go.Proofs.Ytclalbiggnalfaa
