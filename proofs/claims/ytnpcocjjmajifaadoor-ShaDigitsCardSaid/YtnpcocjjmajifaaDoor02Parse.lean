/- Parse of package sha, at every string. -/
import Derived.Laws.ResultCell
import Derived.Test.YtnpcocjjmajifaaDoor02Hex
namespace Go.Proofs.YtnpcocjjmajifaaDoor
open Go.RowKit
set_option linter.unusedVariables false

abbrev digS : ByteArray := ⟨#[48, 49, 50, 51, 52, 53, 54, 55, 56, 57, 97, 98, 99, 100, 101, 102]⟩
theorem index_num : ∀ n : Fin 256, Lib.indexByte digS.data.toList n.val.toUInt8 = hexV (n.val : Int) := by decide +kernel

set_option maxRecDepth 100000 in
theorem indexLite (c : Int) (h0 : 0 ≤ c) (h1 : c < 256) (w : World) : Calls Tryd.prog 35 #[.string digS, .int .u8 c] w fun e w' => e = .returned (.int .i64 (hexV c)) ∧ w' = w := by
  have hv : Lib.indexByte digS.data.toList c.toNat.toUInt8 = hexV c := by
    have := index_num ⟨c.toNat, by omega⟩
    simp only at this
    rw [this, Int.toNat_of_nonneg h0]
  obtain ⟨S, hS⟩ : ∃ S, S = digS := ⟨_, rfl⟩
  rw [← hS] at hv ⊢
  have HV := Lib.hid hv
  clear hv hS
  go_enter Tryd.func35, Tryd.ntmps35
  go_wp2
  rw [run_callFunc_extern Tryd.func41 (by kernel_rfl) (by kernel_rfl) (by kernel_rfl) (e := Extern.BytealgIndexByte.indexByte) (by kernel_rfl), Lib.run_indexByteString, HV.out]
  simp only [Result.andThen]
  rw [Oper.upon_value]
  go_wp2
  go_ret
  exact ⟨rfl, rfl⟩
theorem indexDigit (c : Int) (h0 : 0 ≤ c) (h1 : c < 256) (w : World) : Calls Tryd.prog 28 #[.string digS, .int .u8 c] w fun e w' => e = .returned (.int .i64 (hexV c)) ∧ w' = w := by
  go_enter Tryd.func28, Tryd.ntmps28
  go_wp2_with (go_at_call 35; refine (indexLite _ h0 h1 _).mono ?_; rintro e w' ⟨rfl, rfl⟩)
  go_ret
  exact ⟨rfl, rfl⟩

theorem index_char (s : ByteArray) {i : Nat} (hi : i < s.size) (w : World) : (Instr.index 9 (.string s) (.int .i64 (i : Int))).run Tryd.prog w = .ok (.int .u8 ((chars s)[i]?.getD 0)) w := by
  rw [run_index_string w 9 s .i64 i Tryd.underlying9, dif_pos ⟨by omega, by omega⟩]
  unfold chars
  rw [List.getElem?_map, List.getElem?_eq_getElem (by rw [Array.length_toList]; exact hi)]
  rfl

theorem or_nibble : ∀ h l : Fin 16, bits .or .i64 ((h.val : Int) * 16) (l.val : Int) = (h.val : Int) * 16 + (l.val : Int) := by decide +kernel

/-- The cells of the digest while they come. -/
def parseK (cs : List Int) (k : Nat) : List Int := parseL cs k ++ List.replicate (32 - k) 0
theorem parseK_length (cs : List Int) {k : Nat} (h : k ≤ 32) : (parseK cs k).length = 32 := by unfold parseK; rw [List.length_append, parseL_length, List.length_replicate]; omega
theorem parseK_set (cs : List Int) {k : Nat} (h : k < 32) : (parseK cs k).set k (parseB cs k) = parseK cs (k + 1) := by
  unfold parseK
  obtain ⟨n, hn⟩ : ∃ n, 32 - k = n + 1 := ⟨31 - k, by omega⟩
  rw [hn, show 32 - (k + 1) = n by omega, List.set_append_right _ _ (by rw [parseL_length]; omega), parseL_length, Nat.sub_self, List.replicate_succ, List.set_cons_zero]
  unfold parseL
  rw [List.range_succ, List.map_append]
  simp
theorem parseK_end (cs : List Int) : parseK cs 32 = parseL cs 32 := by unfold parseK; simp
abbrev par0 (w : World) (cs : List Int) (k : Nat) : List (Nat × Obj) := [(w.heap.size + 1, .cells (byteA (parseK cs k)) 24 (0, 0)), (w.heap.size, .cells (byteA zeroD) 24 (0, 0))]
theorem parStart (cs : List Int) (w : World) : ∃ s : HeldW w (par0 w cs 0), s.w = (w.alloc (.cells (byteA zeroD) 24)).alloc (.cells (byteA zeroD) 24) := two_blocks w _ _
/-- What Parse says. -/
def parseV (cs : List Int) : Value := .tuple #[.agg (byteA (if rightB cs then parseL cs 32 else zeroD)), .bool (rightB cs)]
theorem parseV_no {cs : List Int} (h : rightB cs = false) : parseV cs = .tuple #[.agg (byteA zeroD), .bool false] := by unfold parseV; rw [h]; rfl
theorem parseV_yes {cs : List Int} (h : rightB cs = true) : parseV cs = .tuple #[.agg (byteA (parseL cs 32)), .bool true] := by unfold parseV; rw [h]; rfl
/-- The two results. -/
theorem parse_res {w1 : World} {D : List Int} {b : Bool} (hD : D.length = 32) (tmps : Array Value) (g : Nat) (h2 : tmps.getD 2 undef = .pointer (some ⟨g, 0, none⟩)) (h3 : tmps.getD 3 undef = .bool b) (hg : w1.heap[g]? = some (.cells (byteA D) 24 (0, 0))) :
    (results Tryd.f17 tmps).run Tryd.prog w1 = .ok (.tuple #[.agg (byteA D), .bool b]) w1 := by
  rw [results_cell_tmp (p := 2) (u := 3) (ty := 24) Tryd.results17, h2, h3]
  simp only [asAddr, Sem.run_pure, Result.andThen]
  rw [run_loadVar_row w1 g 24 24 (byteA D) (0, 0) _ hg Tryd.underlying24 rfl (by rw [byteA_size, hD]; kernel_rfl)]
theorem not_right {cs : List Int} {j : Nat} (hj : j < cs.length) (h : hexV (cs[j]?.getD 0) < 0) : rightB cs = false := by
  unfold rightB
  rw [Bool.and_eq_false_iff]
  left
  rw [List.all_eq_false]
  refine ⟨_, List.getElem_mem hj, ?_⟩
  rw [List.getElem?_eq_getElem hj] at h
  simp only [Option.getD_some] at h
  simp
  omega

set_option maxRecDepth 100000 in
set_option maxHeartbeats 4000000 in
theorem parse_len (s : ByteArray) (hs : s.size ≤ 300) (hl : s.size ≠ 64) (w : World) : Calls Tryd.prog 17 #[.string s] w (Gives (parseV (chars s)) w) := by
  have hno : rightB (chars s) = false := by
    unfold rightB
    rw [Bool.and_eq_false_iff]
    right
    rw [chars_length]
    simpa using hl
  rw [parseV_no hno]
  have hne : ((s.size : Int) != 64) = true := by rw [bne_iff_ne]; omega
  obtain ⟨s0, hs0⟩ := parStart (chars s) w
  have hrs := s0.blocks (w.heap.size, .cells (byteA zeroD) 24 (0, 0)) (by simp)
  have hinf : (Tryd.prog.info? 24).map (·.size) = some (byteA zeroD).size := by kernel_rfl
  have hone := byteA_one zeroD
  have hn : ((w.alloc (.cells zero32 24)).alloc (.cells zero32 24)).heap[w.heap.size]? = some (.cells (byteA zeroD) 24 (0, 0)) := by rw [show (w.alloc (.cells zero32 24)).alloc (.cells zero32 24) = s0.w from hs0.symm]; exact hrs
  have HS := Lib.hid hs0
  clear hs0 hno hl
  go_enter Tryd.func17, Tryd.ntmps17
  go_wp2_with (first
    | (refine wpList_buildTo rfl 24 _ rfl (some 11) rfl (byteA zeroD) (by kernel_rfl) ?_)
    | (refine wpList_store_rowTo rfl 24 (.tmp 2) (.tmp 11) rfl rfl w.heap.size (byteA zeroD) rfl rfl 24 (byteA zeroD) hn hinf rfl hone ?_))
  rw [show (w.alloc (.cells zero32 24)).alloc (.cells zero32 24) = s0.w from HS.out.symm]
  refine bodyPost_ret (v := .tuple #[.agg (byteA zeroD), .bool false]) (parse_res rfl _ w.heap.size rfl rfl (setRow_heap _ _ _ _ _ _ hrs)) rfl ⟨rfl, below_setRow s0.below (Nat.le_refl _) _⟩

set_option maxRecDepth 100000 in
set_option maxHeartbeats 4000000 in
theorem parse_64 (s : ByteArray) (hl : s.size = 64) (w : World) : Calls Tryd.prog 17 #[.string s] w (Gives (parseV (chars s)) w) := by
  have hne : ((s.size : Int) != 64) = false := by rw [hl]; rfl
  have hl1 : 64 ≤ s.size := by omega
  have HC := Lib.hid (show (chars s).length = 64 by rw [chars_length, hl])
  have HX := Lib.hid (fun (i : Nat) (hi : i < 64) => index_char s (i := i) (by omega))
  have HB := Lib.hid (fun (i : Nat) (hi : i < 64) => show 0 ≤ (chars s)[i]?.getD 0 ∧ (chars s)[i]?.getD 0 < 256 by
    rw [List.getElem?_eq_getElem (by rw [chars_length, hl]; exact hi)]
    exact chars_bd s _ (List.getElem_mem _))
  clear hl
  generalize chars s = cs at HC HX HB ⊢
  go_enter Tryd.func17, Tryd.ntmps17
  go_wp2
  go_loopw [5, 6, 7, 12] (fun _ _ _ i wr => ∃ k : Nat, k ≤ 32 ∧ i = .int .i64 k ∧ Hid (∀ j, j < 2 * k → 0 ≤ hexV (cs[j]?.getD 0)) ∧ ∃ s : HeldW w (par0 w cs k), wr = s.w) (fun _ _ _ i _ => 32 - (intOf i).toNat)
  case atStart =>
    obtain ⟨s0, hs0⟩ := parStart cs w
    exact ⟨0, by omega, rfl, fun j hj => by omega, s0, by rw [hs0]; rfl⟩
  case round =>
    obtain ⟨k, hk, rfl, hall, s1, rfl⟩ := hrel
    by_cases hlt : k < 32
    · have hx0 := HX.out (2 * k) (by omega)
      have hx1 := HX.out (2 * k + 1) (by omega)
      obtain ⟨b00, b01⟩ := HB.out (2 * k) (by omega)
      obtain ⟨b10, b11⟩ := HB.out (2 * k + 1) (by omega)
      rw [show ((2 * k : Nat) : Int) = 2 * (k : Int) by omega] at hx0
      rw [show ((2 * k + 1 : Nat) : Int) = 2 * (k : Int) + 1 by omega] at hx1
      have HPB := Lib.hid (show parseB cs k = 16 * hexV (cs[2 * k]?.getD 0) + hexV (cs[2 * k + 1]?.getD 0) from rfl)
      have HN0 := Lib.hid (fun (h : hexV (cs[2 * k]?.getD 0) < 0) => not_right (cs := cs) (by rw [HC.out]; omega) h)
      have HN1 := Lib.hid (fun (h : hexV (cs[2 * k + 1]?.getD 0) < 0) => not_right (cs := cs) (by rw [HC.out]; omega) h)
      have HAL := Lib.hid (fun (h0 : 0 ≤ hexV (cs[2 * k]?.getD 0)) (h1 : 0 ≤ hexV (cs[2 * k + 1]?.getD 0)) => show ∀ j, j < 2 * (k + 1) → 0 ≤ hexV (cs[j]?.getD 0) from fun j hj => by
        by_cases h : j < 2 * k
        · exact hall.out j h
        · have : j = 2 * k ∨ j = 2 * k + 1 := by omega
          rcases this with rfl | rfl
          · exact h0
          · exact h1)
      have v00 := hexV_bd (cs[2 * k]?.getD 0)
      have v10 := hexV_bd (cs[2 * k + 1]?.getD 0)
      have i0 := indexDigit _ b00 b01
      have i1 := indexDigit _ b10 b11
      generalize cs[2 * k]?.getD 0 = c0 at *
      generalize cs[2 * k + 1]?.getD 0 = c1 at *
      generalize hexV c0 = v0 at *
      generalize hexV c1 = v1 at *
      go_wp2
      refine wp_region_class _ _ (by kernel_rfl) (by kernel_rfl) s1.below s1.blocks (fun hne => ?_)
      clear s1
      repeat (go_big_quiet_step ((go_at_call 28; first | exact HeldW.call (gives_same (i0 _)) | exact HeldW.call (gives_same (i1 _)))))
      refine wpQuiet_nil ?_
      rintro _ ⟨s1, rfl⟩
      clear hne hx0 hx1 i0 i1
      by_cases hv0 : v0 < 0
      · have HNO := Lib.hid (parseV_no (HN0.out hv0))
        have d0 : decide (v0 < 0) = true := by simpa using hv0
        have hrs := s1.blocks (w.heap.size, .cells (byteA zeroD) 24 (0, 0)) (by simp)
        have hinf : (Tryd.prog.info? 24).map (·.size) = some (byteA zeroD).size := by kernel_rfl
        have hone := byteA_one zeroD
        go_wp2_with (first
          | (refine wpList_buildTo rfl 24 _ rfl (some 32) rfl (byteA zeroD) (by kernel_rfl) ?_)
          | (refine wpList_store_rowTo rfl 24 (.tmp 2) (.tmp 32) rfl rfl w.heap.size (byteA zeroD) rfl rfl 24 (byteA zeroD) hrs hinf rfl hone ?_))
        rw [HNO.out]
        refine bodyPost_ret (v := .tuple #[.agg (byteA zeroD), .bool false]) (parse_res rfl _ w.heap.size rfl rfl (setRow_heap _ _ _ _ _ _ hrs)) rfl ⟨rfl, below_setRow s1.below (Nat.le_refl _) _⟩
      · have d0 : decide (v0 < 0) = false := by simpa using hv0
        by_cases hv1 : v1 < 0
        · have HNO := Lib.hid (parseV_no (HN1.out hv1))
          have d1 : decide (v1 < 0) = true := by simpa using hv1
          have hrs := s1.blocks (w.heap.size, .cells (byteA zeroD) 24 (0, 0)) (by simp)
          have hinf : (Tryd.prog.info? 24).map (·.size) = some (byteA zeroD).size := by kernel_rfl
          have hone := byteA_one zeroD
          go_wp2_with (first
            | (refine wpList_buildTo rfl 24 _ rfl (some 32) rfl (byteA zeroD) (by kernel_rfl) ?_)
            | (refine wpList_store_rowTo rfl 24 (.tmp 2) (.tmp 32) rfl rfl w.heap.size (byteA zeroD) rfl rfl 24 (byteA zeroD) hrs hinf rfl hone ?_))
          rw [HNO.out]
          refine bodyPost_ret (v := .tuple #[.agg (byteA zeroD), .bool false]) (parse_res rfl _ w.heap.size rfl rfl (setRow_heap _ _ _ _ _ _ hrs)) rfl ⟨rfl, below_setRow s1.below (Nat.le_refl _) _⟩
        · have d1 : decide (v1 < 0) = false := by simpa using hv1
          have hor : bits .or .i64 (v0 * 16) v1 = v0 * 16 + v1 := by
            have := or_nibble ⟨v0.toNat, by omega⟩ ⟨v1.toNat, by omega⟩
            simp only at this
            rw [Int.toNat_of_nonneg (by omega), Int.toNat_of_nonneg (by omega)] at this
            exact this
          have hst : s1.w.heap[w.heap.size + 1]? = some (.cells (byteA (parseK cs k)) 24 (0, 0)) := s1.blocks (_, _) List.mem_cons_self
          have hcell : s1.w.cell? ⟨w.heap.size + 1, k, none⟩ = some (.int .u8 ((parseK cs k)[k]?.getD 0)) := by rw [cell_of hst, byteA_get _ (by rw [parseK_length _ hk]; exact hlt)]
          have hfree := free_of hst k
          have HK := Lib.hid (fun (x : Int) (hx : x = 16 * v0 + v1) => show (byteA (parseK cs k)).setIfInBounds k (.int .u8 x) = byteA (parseK cs (k + 1)) by
            rw [hx, ← HPB.out, byteA_set, parseK_set cs hlt])
          have HALL := Lib.hid (HAL.out (by omega) (by omega))
          have w0 : 0 ≤ v0 := by omega
          have w1 : 0 ≤ v1 := by omega
          clear hst hall
          go_wp2
          go_roundw
          case rel => exact ⟨k + 1, by omega, by go_num, HALL.out, s1.store (by simp) (by simp) (HK.out _ (by omega)), rfl⟩
          case measure => simp [intOf]; omega
    · obtain rfl : k = 32 := by omega
      have hst : s1.w.heap[w.heap.size + 1]? = some (.cells (byteA (parseL cs 32)) 24 (0, 0)) := by rw [← parseK_end]; exact s1.blocks (w.heap.size + 1, .cells (byteA (parseK cs 32)) 24 (0, 0)) List.mem_cons_self
      have hrs := s1.blocks (w.heap.size, .cells (byteA zeroD) 24 (0, 0)) (by simp)
      have hyes : rightB cs = true := by
        unfold rightB
        rw [Bool.and_eq_true, List.all_eq_true, HC.out]
        refine ⟨fun c hc => ?_, rfl⟩
        obtain ⟨j, hj, rfl⟩ := List.mem_iff_getElem.1 hc
        have := hall.out j (by rw [HC.out] at hj; omega)
        rw [List.getElem?_eq_getElem hj] at this
        simpa using this
      have HY := Lib.hid (parseV_yes hyes)
      have hD := parseL_length cs 32
      generalize parseL cs 32 = D at hst HY hD
      have HD := Lib.hid hD
      have hsz : (byteA D).size = 32 := by rw [byteA_size, hD]
      have hinf : (Tryd.prog.info? 24).map (·.size) = some (byteA D).size := by rw [hsz]; kernel_rfl
      have hsr : (byteA zeroD).size = (byteA D).size := by rw [hsz]; rfl
      have hone := byteA_one D
      clear hsz hD hyes
      go_wp2_with (first
        | (refine wpList_load_row rfl 24 (.tmp 4) rfl (w.heap.size + 1) rfl 24 _ (0, 0) _ hst Tryd.underlying24 rfl hinf ?_)
        | (refine wpList_store_rowTo rfl 24 (.tmp 2) (.tmp 41) rfl rfl w.heap.size (byteA D) rfl rfl 24 (byteA zeroD) hrs hinf hsr hone ?_))
      rw [HY.out]
      refine bodyPost_ret (v := .tuple #[.agg (byteA D), .bool true]) (parse_res HD.out _ w.heap.size rfl rfl (setRow_heap _ _ _ _ _ _ hrs)) rfl ⟨rfl, below_setRow s1.below (Nat.le_refl _) _⟩

theorem parse_any (s : ByteArray) (hs : s.size ≤ 300) (w : World) : Calls Tryd.prog 17 #[.string s] w (Gives (parseV (chars s)) w) := by
  by_cases hl : s.size = 64
  · exact parse_64 s hl w
  · exact parse_len s hs hl w
end Go.Proofs.YtnpcocjjmajifaaDoor
