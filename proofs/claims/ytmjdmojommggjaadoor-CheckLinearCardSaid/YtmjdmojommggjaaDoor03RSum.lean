/- Extend and Of of the reference. -/
import Derived.Test.YtmjdmojommggjaaDoor03Sum
namespace Go.Proofs.YtmjdmojommggjaaDoor
open Go.RowKit
set_option linter.unusedVariables false

theorem and1 {r : Nat} (h : r < 4294967296) : bits .and .u32 (r : Int) 1 = ((r % 2 : Nat) : Int) := bits_and32 h 1 (by omega)
theorem st_odd {r : Nat} (h : r < 4294967296) (h1 : r % 2 = 1) : bits .xor .u32 ((r : Int) / 2) 3988292384 = (st r : Int) := by
  unfold st
  rw [if_pos h1, show ((r : Int) / 2) = ((r / 2 : Nat) : Int) from rfl, show (3988292384 : Int) = ((pol : Nat) : Int) from rfl, bits_xor32 (by omega) (by decide)]
theorem st_even {r : Nat} (h1 : ¬ r % 2 = 1) : ((r : Int) / 2) = (st r : Int) := by
  unfold st
  rw [if_neg h1]; rfl

set_option maxRecDepth 100000 in
set_option maxHeartbeats 4000000 in
theorem rextend_any (s : Nat) (hs : s < 4294967296) (l : List Int) (a : Option Addr) (cap : Nat) (w : World) (hb : BytesIn w a l cap) :
    Calls Tryd.prog 20 #[.int .u32 s, .slice a l.length cap] w fun e w' => e = .returned (.int .u32 (ext s l : Int)) ∧ w' = w := by
  have n1 := not32 hs
  have hi := inv32_lt hs
  have HB := Lib.hid hb.cells
  have hle : l.length ≤ 9223372036854775807 := Nat.le_trans hb.len hb.capb
  rw [show ext s l = inv32 (reg (inv32 s) l) from rfl]
  generalize inv32 s = r0 at n1 hi
  clear hb
  go_enter Tryd.func20, Tryd.ntmps20
  go_wp2
  go_loop [5, 6, 7, 8] (fun r i _ _ => ∃ k : Nat, k ≤ l.length ∧ i = .int .i64 k ∧ r = .int .u32 (reg r0 (l.take k) : Int)) (fun _ i _ _ => l.length - (intOf i).toNat)
  case atStart => exact ⟨0, by omega, rfl, rfl⟩
  case round =>
    obtain ⟨k, hk, rfl, rfl⟩ := hrel
    have hR := reg_lt (l.take k) hi
    by_cases hlt : k < l.length
    · obtain ⟨b, o, rfl, hc⟩ := HB.out (by omega)
      have hcell := hc k hlt
      have HF := Lib.hid (reg_take r0 l hlt)
      have x1 := xor_in hR (l[k]?.getD 0)
      have hx : reg r0 (l.take k) ^^^ ((l[k]?.getD 0) % 4294967296).toNat < 4294967296 := xor32 hR (by omega)
      have HU := Lib.hid (show upd (reg r0 (l.take k)) (l[k]?.getD 0) = stN 8 (reg r0 (l.take k) ^^^ ((l[k]?.getD 0) % 4294967296).toNat) from rfl)
      clear hc
      generalize reg r0 (l.take k) ^^^ ((l[k]?.getD 0) % 4294967296).toNat = X at x1 hx HU
      generalize reg r0 (l.take k) = R at hR x1 HF HU
      generalize l[k]?.getD 0 = x at x1 HF hcell HU
      go_wp2
      clear hcell x1
      go_loop [5, 7, 8] (fun r j _ => ∃ q : Nat, q ≤ 8 ∧ j = .int .i64 q ∧ r = .int .u32 (stN q X : Int)) (fun _ j _ => 8 - (intOf j).toNat)
      case atStart => exact ⟨0, by omega, rfl, rfl⟩
      case round =>
        obtain ⟨q, hq, rfl, rfl⟩ := hrel
        by_cases hlq : q < 8
        · have hs1 := stN_succ q X
          have hY : stN q X < 4294967296 := stN_lt q hx
          have HS := Lib.hid hs1
          clear hs1
          generalize stN q X = Y at hY HS
          have a1 := and1 hY
          by_cases hodd : Y % 2 = 1
          · have a2 := st_odd hY hodd
            rw [hodd] at a1
            rw [show ((1 : Nat) : Int) = 1 from rfl] at a1
            go_wp2
            go_round
            case rel => exact ⟨q + 1, by omega, by go_num, by rw [HS.out]⟩
            case measure => simp [intOf]; omega
          · have a2 := st_even hodd
            have a3 : (((Y % 2 : Nat) : Int) == 1) = false := by simp; omega
            generalize ((Y % 2 : Nat) : Int) = z at a1 a3
            go_wp2
            go_round
            case rel => exact ⟨q + 1, by omega, by go_num, by rw [HS.out]⟩
            case measure => simp [intOf]; omega
        · obtain rfl : q = 8 := by omega
          go_wp2
          go_round
          case rel => exact ⟨k + 1, by omega, by go_num, by rw [← HF.out, HU.out]⟩
          case measure => simp [intOf]; omega
    · obtain rfl : k = l.length := by omega
      rw [List.take_length] at hR ⊢
      have n2 := not32 hR
      go_wp2
      go_ret
      exact ⟨rfl, rfl⟩

set_option maxRecDepth 100000 in
theorem rcof_any (l : List Int) (a : Option Addr) (cap : Nat) (w : World) (hb : BytesIn w a l cap) :
    Calls Tryd.prog 11 #[.slice a l.length cap] w fun e w' => e = .returned (.int .u32 (crc l : Int)) ∧ w' = w := by
  have he := rextend_any 0 (by omega) l a cap w hb
  rw [ext_zero] at he
  rw [show (((0 : Nat) : Int)) = 0 from rfl] at he
  generalize crc l = c at he
  clear hb
  go_enter Tryd.func11, Tryd.ntmps11
  go_wp2_with (go_at_call 20; refine he.mono ?_; rintro e w' ⟨rfl, rfl⟩)
  go_ret
  exact ⟨rfl, rfl⟩
end Go.Proofs.YtmjdmojommggjaaDoor
