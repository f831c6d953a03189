/- Format and Right of the reference. -/
import Derived.Lib.SmallJoins
import Derived.Test.YtnpcocjjmajifaaDoor02Parse
namespace Go.Proofs.YtnpcocjjmajifaaDoor
open Go.RowKit
set_option linter.unusedVariables false

theorem slice_hex {x : Int} (h0 : 0 ≤ x) (h1 : x < 16) (w : World) : (Instr.sliceAt 9 (.string digS) (some (.int .u8 x)) (some (.int .u8 (x + 1))) none).run Tryd.prog w = .ok (.string (strOf [hexD x])) w := by
  rcases lt16 h0 h1 with rfl | rfl | rfl | rfl | rfl | rfl | rfl | rfl | rfl | rfl | rfl | rfl | rfl | rfl | rfl | rfl <;> kernel_rfl

theorem strOf_size (l : List Int) : (strOf l).size = l.length := by
  have key : ∀ (l : List Int) (r : ByteArray), (l.foldl (fun r n => r.push (UInt8.ofNat n.toNat)) r).size = r.size + l.length := by
    intro l
    induction l with
    | nil => intro r; simp
    | cons x l ih => intro r; rw [List.foldl_cons, ih, ByteArray.size_push, List.length_cons]; omega
  unfold strOf
  rw [key]
  simp
theorem strOf_add (l : List Int) (a b : Int) : strOf (l ++ [a, b]) = strOf l ++ strOf [a] ++ strOf [b] := by
  rw [show l ++ [a, b] = (l ++ [a]) ++ [b] by simp, strOf_snoc, strOf_snoc]
  apply chars_inj
  have h : ∀ (x y : ByteArray), chars (x ++ y) = chars x ++ chars y := fun x y => by unfold chars; rw [Joins.data_append, List.map_append]
  rw [chars_push, chars_push, h, h]
  rfl

set_option maxRecDepth 100000 in
set_option maxHeartbeats 4000000 in
theorem rformat_any (d : List Int) (hd : d.length = 32) (hb : ∀ i, i < 32 → 0 ≤ d[i]?.getD 0 ∧ d[i]?.getD 0 < 256) (w : World) : Calls Tryd.prog 19 #[.agg (byteA d)] w (Gives (.string (strOf (hexL d))) w) := by
  have HB := Lib.hid hb
  have HD := Lib.hid hd
  clear hb hd
  go_enter Tryd.func19, Tryd.ntmps19
  go_wp2
  go_loopw [3, 4] (fun t i wr => ∃ k : Nat, k ≤ 32 ∧ i = .int .i64 k ∧ t = .string (strOf (hexL (d.take k))) ∧ ∃ s : HeldW w [(w.heap.size, .cells (byteA d) 24 (0, 0))], wr = s.w) (fun _ i _ => 32 - (intOf i).toNat)
  case atStart => exact ⟨0, by omega, rfl, rfl, (HeldW.start w).push _, rfl⟩
  case round =>
    obtain ⟨k, hk, rfl, rfl, s, rfl⟩ := hrel
    by_cases hlt : k < 32
    · have hc := fun (s : HeldW w [(w.heap.size, .cells (byteA d) 24 (0, 0))]) => show s.w.cell? ⟨w.heap.size, k, none⟩ = some (.int .u8 (d[k]?.getD 0)) by
        rw [cell_of (s.blocks (_, _) List.mem_cons_self), byteA_get d (by rw [HD.out]; exact hlt)]
      have hsn := Lib.hid (hexL_succ d (k := k) (by rw [HD.out]; exact hlt))
      obtain ⟨b0, b1⟩ := HB.out k hlt
      generalize d[k]?.getD 0 = b at hc hsn b0 b1
      have q0 : 0 ≤ b / 16 := by omega
      have q1 : b / 16 < 16 := by omega
      have r0 : 0 ≤ b % 16 := by omega
      have r1 : b % 16 < 16 := by omega
      have hq := slice_hex q0 q1
      have hr := slice_hex r0 r1
      have sS : (strOf (hexL (d.take k))).size ≤ 64 := by rw [strOf_size, hexL_length, List.length_take]; omega
      have HA := Lib.hid (strOf_add (hexL (d.take k)) (hexD (b / 16)) (hexD (b % 16)))
      have sX : (strOf [hexD (b / 16)]).size ≤ 1 := by rw [strOf_size]; simp
      have sY : (strOf [hexD (b % 16)]).size ≤ 1 := by rw [strOf_size]; simp
      generalize strOf (hexL (d.take k)) = S at sS HA ⊢
      generalize strOf [hexD (b / 16)] = X at sX HA hq
      generalize strOf [hexD (b % 16)] = Y at sY HA hr
      have sSX : (S ++ X).size ≤ 65 := by rw [ByteArray.size_append]; omega
      go_wp2
      refine wp_region_class _ _ (by kernel_rfl) (by kernel_rfl) s.below s.blocks (fun hne => ?_)
      clear s
      repeat (go_big_quiet_step (fail))
      refine wpQuiet_nil ?_
      rintro _ ⟨s, rfl⟩
      clear hne hc hq hr
      go_wp2
      go_roundw
      case rel => exact ⟨k + 1, by omega, by go_num, by rw [hsn.out, HA.out], s, rfl⟩
      case measure => simp [intOf]; omega
    · obtain rfl : k = 32 := by omega
      have htk : d.take 32 = d := List.take_of_length_le (Nat.le_of_eq HD.out)
      have HTK := Lib.hid htk
      clear htk
      go_wp2
      go_ret
      exact ⟨by rw [HTK.out]; rfl, s.below⟩

/-- Right says whether a string is the format of a digest. -/
theorem rright_any (s : ByteArray) (hs : s.size ≤ 300) (w : World) : Calls Tryd.prog 20 #[.string s] w fun e w' => e = .returned (.bool (rightB (chars s))) ∧ w' = w := by
  have HX := Lib.hid (fun (i : Nat) (hi : i < s.size) => index_char s (i := i) hi)
  have HB := Lib.hid (fun (i : Nat) (hi : i < s.size) => show 0 ≤ (chars s)[i]?.getD 0 ∧ (chars s)[i]?.getD 0 < 256 by
    rw [List.getElem?_eq_getElem (by rw [chars_length]; exact hi)]
    exact chars_bd s _ (List.getElem_mem _))
  have HL := Lib.hid (chars_length s)
  generalize chars s = cs at HX HB HL ⊢
  go_enter Tryd.func20, Tryd.ntmps20
  go_wp2
  go_loop [3] (fun i => ∃ k : Nat, k ≤ s.size ∧ i = .int .i64 k ∧ Hid (∀ j, j < k → 0 ≤ hexV (cs[j]?.getD 0))) (fun i => s.size - (intOf i).toNat)
  case atStart => exact ⟨0, by omega, rfl, fun j hj => by omega⟩
  case round =>
    obtain ⟨k, hk, rfl, hall⟩ := hrel
    by_cases hlt : k < s.size
    · have hx := HX.out k hlt
      obtain ⟨b0, b1⟩ := HB.out k hlt
      have HN := Lib.hid (fun (h : hexV (cs[k]?.getD 0) < 0) => not_right (cs := cs) (by rw [HL.out]; exact hlt) h)
      have HAL := Lib.hid (fun (h0 : 0 ≤ hexV (cs[k]?.getD 0)) => show ∀ j, j < k + 1 → 0 ≤ hexV (cs[j]?.getD 0) from fun j hj => by
        by_cases h : j < k
        · exact hall.out j h
        · obtain rfl : j = k := by omega
          exact h0)
      generalize cs[k]?.getD 0 = c at hx b0 b1 HN HAL
      clear hall
      by_cases c1 : 48 ≤ c
      · by_cases c2 : c ≤ 57
        · have hv : 0 ≤ hexV c := by unfold hexV; rw [if_pos ⟨c1, c2⟩]; omega
          have HALL := Lib.hid (HAL.out hv)
          have d1 : decide (48 ≤ c) = true := by simp; omega
          have d2 : decide (c ≤ 57) = true := by simp; omega
          clear hv
          go_wp2
          go_round
          case rel => exact ⟨k + 1, by omega, by go_num, HALL.out⟩
          case measure => simp [intOf]; omega
        · by_cases c3 : 97 ≤ c
          · by_cases c4 : c ≤ 102
            · have hv : 0 ≤ hexV c := by unfold hexV; rw [if_neg (by omega), if_pos ⟨c3, c4⟩]; omega
              have HALL := Lib.hid (HAL.out hv)
              have d1 : decide (48 ≤ c) = true := by simp; omega
              have d2 : decide (c ≤ 57) = false := by simp; omega
              have d3 : decide (97 ≤ c) = true := by simp; omega
              have d4 : decide (c ≤ 102) = true := by simp; omega
              clear hv
              go_wp2
              go_round
              case rel => exact ⟨k + 1, by omega, by go_num, HALL.out⟩
              case measure => simp [intOf]; omega
            · have hv : hexV c < 0 := by unfold hexV; rw [if_neg (by omega), if_neg (by omega)]; omega
              have HNO := Lib.hid (HN.out hv)
              have d1 : decide (48 ≤ c) = true := by simp; omega
              have d2 : decide (c ≤ 57) = false := by simp; omega
              have d3 : decide (97 ≤ c) = true := by simp; omega
              have d4 : decide (c ≤ 102) = false := by simp; omega
              clear hv
              go_wp2
              go_ret
              exact ⟨by rw [HNO.out]; rfl, rfl⟩
          · have hv : hexV c < 0 := by unfold hexV; rw [if_neg (by omega), if_neg (by omega)]; omega
            have HNO := Lib.hid (HN.out hv)
            have d1 : decide (48 ≤ c) = true := by simp; omega
            have d2 : decide (c ≤ 57) = false := by simp; omega
            have d3 : decide (97 ≤ c) = false := by simp; omega
            clear hv
            go_wp2
            go_ret
            exact ⟨by rw [HNO.out]; rfl, rfl⟩
      · have hv : hexV c < 0 := by unfold hexV; rw [if_neg (by omega), if_neg (by omega)]; omega
        have HNO := Lib.hid (HN.out hv)
        have d1 : decide (48 ≤ c) = false := by simp; omega
        have d3 : decide (97 ≤ c) = false := by simp; omega
        clear hv
        go_wp2
        go_ret
        exact ⟨by rw [HNO.out]; rfl, rfl⟩
    · obtain rfl : k = s.size := by omega
      by_cases h64 : s.size = 64
      · have hb : rightB cs = true := by
          unfold rightB
          rw [Bool.and_eq_true, List.all_eq_true, HL.out]
          refine ⟨fun c hc => ?_, by simpa using h64⟩
          obtain ⟨j, hj, rfl⟩ := List.mem_iff_getElem.1 hc
          have := hall.out j (by rw [HL.out] at hj; exact hj)
          rw [List.getElem?_eq_getElem hj] at this
          simpa using this
        have HBB := Lib.hid hb
        have he : ((s.size : Int) == 64) = true := by rw [beq_iff_eq]; omega
        clear hb h64
        go_wp2
        go_ret
        exact ⟨by rw [HBB.out]; rfl, rfl⟩
      · have hb : rightB cs = false := by
          unfold rightB
          rw [Bool.and_eq_false_iff, HL.out]
          right
          simpa using h64
        have HBB := Lib.hid hb
        have he : ((s.size : Int) == 64) = false := by simp; omega
        clear hb h64
        go_wp2
        go_ret
        exact ⟨by rw [HBB.out]; rfl, rfl⟩
end Go.Proofs.YtnpcocjjmajifaaDoor
