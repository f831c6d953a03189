/- Extend and Of of package check. -/
import Derived.LoopTactic
import Derived.Test.YtmjdmojommggjaaDoor03Take
namespace Go.Proofs.YtmjdmojommggjaaDoor
open Go.RowKit
set_option linter.unusedVariables false

theorem not32 {r : Nat} (h : r < 4294967296) : bits .xor .u32 (if IntKind.u32.signed = true then -1 else IntKind.u32.max) (r : Int) = (inv32 r : Int) := by
  rw [show (if IntKind.u32.signed = true then -1 else IntKind.u32.max) = ((allF : Nat) : Int) by decide +kernel, bits_xor32 allF_lt h, inv32_eq]

set_option maxRecDepth 100000 in
set_option maxHeartbeats 4000000 in
theorem extend_any (s : Nat) (hs : s < 4294967296) (ls : List (List Int)) (pa : Option Addr) (pcap : Nat) (w : World) (hT : Tab w) (hp : PartsIn w pa ls) :
    Calls Tryd.prog 12 #[.int .u32 s, .slice pa ls.length pcap] w fun e w' => e = .returned (.int .u32 (ext s ls.flatten : Int)) ∧ w' = w := by
  have n1 := not32 hs
  have hi := inv32_lt hs
  have HP := Lib.hid hp
  have HT := Lib.hid hT
  have hle := hp.len
  rw [show ext s ls.flatten = inv32 (reg (inv32 s) ls.flatten) from rfl]
  generalize inv32 s = r0 at n1 hi
  clear hp hT
  go_enter Tryd.func12, Tryd.ntmps12
  go_wp2
  go_loop [5, 7, 9, 14, 20] (fun r _ _ i _ => ∃ k : Nat, k ≤ ls.length ∧ i = .int .i64 k ∧ r = .int .u32 (reg r0 (ls.take k).flatten : Int)) (fun _ _ _ i _ => ls.length - (intOf i).toNat)
  case atStart => exact ⟨0, by omega, rfl, rfl⟩
  case round =>
    obtain ⟨k, hk, rfl, rfl⟩ := hrel
    have hlt2 := reg_lt (ls.take k).flatten hi
    by_cases hlt : k < ls.length
    · obtain ⟨b, o, rfl, hc⟩ := HP.out.cells (by omega)
      obtain ⟨a, cap, hcell, hbytes⟩ := hc k hlt
      have HF := Lib.hid (show reg r0 (ls.take (k + 1)).flatten = reg (reg r0 (ls.take k).flatten) (partOf ls k) by rw [take_flat ls hlt, reg_append])
      have hmax : (partOf ls k).length ≤ 9223372036854775807 := Nat.le_trans hbytes.len hbytes.capb
      have HB := Lib.hid hbytes.cells
      clear hc hbytes
      generalize reg r0 (ls.take k).flatten = R at hlt2 HF
      generalize partOf ls k = l at HF hmax HB hcell
      go_wp2
      clear hcell
      go_loop [5, 9, 20] (fun r _ j => ∃ q : Nat, q ≤ l.length ∧ j = .int .i64 q ∧ r = .int .u32 (reg R (l.take q) : Int)) (fun _ _ j => l.length - (intOf j).toNat)
      case atStart => exact ⟨0, by omega, rfl, rfl⟩
      case round =>
        obtain ⟨q, hq, rfl, rfl⟩ := hrel
        by_cases hlq : q < l.length
        · obtain ⟨b', o', rfl, hc⟩ := HB.out (by omega)
          have hcell := hc q hlq
          have ht := take_any (reg R (l.take q)) (reg_lt _ hlt2) (l[q]?.getD 0) w HT.out
          rw [reg_take R l hlq] at ht
          clear hc
          generalize reg R (l.take q) = R1 at ht
          generalize h2 : reg R (l.take (q + 1)) = R2 at ht
          have HR2 := Lib.hid h2
          clear h2
          generalize l[q]?.getD 0 = x at hcell ht
          go_wp2_with (go_at_call 21; refine ht.mono ?_; rintro e w' ⟨rfl, rfl⟩)
          go_round
          case rel => exact ⟨q + 1, by omega, by go_num, by rw [HR2.out]⟩
          case measure => simp [intOf]; omega
        · obtain rfl : q = l.length := by omega
          go_wp2
          go_round
          case rel => exact ⟨k + 1, by omega, by go_num, by rw [HF.out, List.take_length]⟩
          case measure => simp [intOf]; omega
    · obtain rfl : k = ls.length := by omega
      rw [List.take_length] at hlt2 ⊢
      have n2 := not32 hlt2
      go_wp2
      go_ret
      exact ⟨rfl, rfl⟩

theorem extend_gives {s : Nat} (hs : s < 4294967296) {ls : List (List Int)} {pa : Option Addr} (pcap : Nat) {w : World} (hT : Tab w) (hp : PartsIn w pa ls) {n : Nat} (hn : ls.length = n) :
    Calls Tryd.prog 12 #[.int .u32 s, .slice pa n pcap] w (Gives (.int .u32 (ext s ls.flatten : Int)) w) := by subst hn; exact gives_same (extend_any s hs ls pa pcap w hT hp)

set_option maxRecDepth 100000 in
theorem cof_any (ls : List (List Int)) (pa : Option Addr) (pcap : Nat) (w : World) (hT : Tab w) (hp : PartsIn w pa ls) :
    Calls Tryd.prog 10 #[.slice pa ls.length pcap] w fun e w' => e = .returned (.int .u32 (crc ls.flatten : Int)) ∧ w' = w := by
  have he := extend_any 0 (by omega) ls pa pcap w hT hp
  rw [ext_zero] at he
  rw [show (((0 : Nat) : Int)) = 0 from rfl] at he
  generalize crc ls.flatten = c at he
  clear hT hp
  go_enter Tryd.func10, Tryd.ntmps10
  go_wp2_with (go_at_call 12; refine he.mono ?_; rintro e w' ⟨rfl, rfl⟩)
  go_ret
  exact ⟨rfl, rfl⟩
end Go.Proofs.YtmjdmojommggjaaDoor
