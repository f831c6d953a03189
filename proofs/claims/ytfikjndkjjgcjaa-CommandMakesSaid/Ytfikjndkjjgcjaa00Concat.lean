/- slices.Grow of no bytes, slices.Concat of slices of bytes: a new slice of its own. -/
import Derived.Laws.Append
import Derived.Lib.AppendZerosOnto
import Derived.Lib.Walk
import Derived.Lib.SliceRun
import Derived.LoopTactic
import Derived.Test.Ytfikjndkjjgcjaa00Clone8
import Derived.Test.Ytfikjndkjjgcjaa00Cut
namespace Go.Proofs.Ytfikjndkjjgcjaa
open Go.RowKit
set_option linter.unusedVariables false

set_option maxRecDepth 100000 in
set_option maxHeartbeats 4000000 in
theorem grow8_any (n : Nat) (hn : n ≤ 140737488355328) (w : World) : Calls Try.prog 38 #[.slice none 0 0, .int .i64 n] w fun e w' => ∃ v, e = .returned v ∧ ∃ s : OwnW w 5 v [], w' = s.w := by
  by_cases h0 : n = 0
  · subst h0
    go_enter Try.func38, Try.ntmps38
    go_wp2
    go_ret
    exact ⟨_, rfl, ⟨w, Below.refl _ _, World.ownsRow_nil w w.heap.size 5 1⟩, rfl⟩
  · obtain ⟨E, hEb⟩ := elem8
    have hold : (Builtin.firstCells E.i.size 0 (.slice none 0 0)).run Try.prog w.drew = .ok ([] : List Value).toArray w.drew := run_firstCells_none w.drew E.i.size 0 0 0
    have hfit : Builtin.nextslicecap (0 + n) 0 * E.i.bytes ≤ 281474976710656 := growslice_fits (by omega) (by rw [E.hby, hEb]; omega)
    have hrun := fun ty => Lib.run_append_grow_zeros (P := Try.prog) w 25 3 ty 5 E.i E.z .i64 .i64 E.ht Try.underlying3 E.hi E.hz none 0 0 [] hold n (by omega) (by rw [E.hsize]; omega) (by omega) (by omega) (by rw [E.hby, hEb]; omega) hfit
    rw [Nat.zero_add] at hrun
    have hG := grownCap_ge w n 0 5
    have hG2 := grownCap_le_maxLen w n 0 5 (by unfold maxLen; omega)
    generalize grownCap w n 0 5 = G at hrun hG hG2
    obtain ⟨cs, hcs⟩ : ∃ cs : Array Value, cs = ([] : List Value).toArray ++ Builtin.zeroCells E.z.cells n ++ Builtin.zeroCells E.z.cells (G - n) := ⟨_, rfl⟩
    have hsz : cs.size = G * 1 := by
      rw [hcs, Array.size_append, Array.size_append, size_zeroCells, size_zeroCells, E.hzs]
      simp
      omega
    rw [← hcs] at hrun
    have hG3 : G ≤ 9223372036854775807 := by unfold maxLen at hG2; omega
    have HSZ := Lib.hid hsz
    have HG2 := Lib.hid hG2
    have hd : decide ((0 : Int) < (n : Int)) = true := by simp; omega
    clear hold hfit hcs hsz hG2
    go_enter Try.func38, Try.ntmps38
    go_wp2_with (refine Lib.wpList_append_run _ rfl _ _ _ _ rfl _ _ rfl rfl _ _ (hrun _) ?_)
    go_ret
    exact ⟨_, rfl, ⟨w.drew.alloc (.cells cs 5), ((Below.refl _ w).drew).alloc (Nat.le_refl _) _, World.ownsRow_made (base := w.heap.size) (e := 5) (size := 1) w.drew cs G (Nat.le_refl _) HG2.out HSZ.out⟩, rfl⟩

/-- How long some parts are, all in all. -/
theorem sum_take (ls : List (List Int)) {k : Nat} (hk : k < ls.length) : (ls.take (k + 1)).flatten.length = (ls.take k).flatten.length + (partOf ls k).length := by rw [take_flat ls hk, List.length_append]

set_option maxRecDepth 100000 in
set_option maxHeartbeats 4000000 in
theorem concat8_any (ls : List (List Int)) (pa : Option Addr) (pcap : Nat) (w : World) (hp : PartsIn w pa ls) (hm : ls.flatten.length ≤ 140737488351232) :
    Calls Try.prog 26 #[.slice pa ls.length pcap] w (MakesR 5 (ls.flatten.map (Value.int .u8)) w) := by
  obtain ⟨E, hEb⟩ := elem8
  have HEB := Lib.hid hEb
  have HP := Lib.hid hp
  have HF := Lib.hid (show ∀ k, (ls.take k).flatten.length ≤ 140737488351232 from fun k => Nat.le_trans (take_flat_le ls k) hm)
  have hle := hp.len
  have HM := Lib.hid hm
  clear hp hm hEb
  go_enter Try.func26, Try.ntmps26
  go_wp2
  go_loop [3, 5, 11] (fun z _ i => ∃ k : Nat, k ≤ ls.length ∧ i = .int .i64 k ∧ z = .int .i64 ((ls.take k).flatten.length : Nat)) (fun _ _ i => ls.length - (intOf i).toNat)
  case atStart => exact ⟨0, by omega, rfl, rfl⟩
  case round =>
    obtain ⟨k, hk, rfl, rfl⟩ := hrel
    by_cases hlt : k < ls.length
    · obtain ⟨b, o, rfl, hc⟩ := HP.out.cells (by omega)
      obtain ⟨a, cap, hcell, hbytes⟩ := hc k hlt
      have hsum := sum_take ls hlt
      have hb1 := HF.out (k + 1)
      clear hc hbytes
      generalize hz : (ls.take (k + 1)).flatten.length = z1 at hsum hb1
      generalize (ls.take k).flatten.length = z0 at hsum
      generalize (partOf ls k).length = m at hsum hcell
      have HZ := Lib.hid (show (ls.take (k + 1)).flatten.length = z0 + m from hz.trans hsum)
      clear hz
      have hd : decide (((z0 : Int) + (m : Int)) < 0) = false := by simp; omega
      go_wp2
      go_round
      case rel => exact ⟨k + 1, by omega, by go_num, by rw [HZ.out]; go_num⟩
      case measure => simp [intOf]; omega
    · obtain rfl : k = ls.length := by omega
      rw [List.take_length]
      have hN := HM.out
      generalize hz : ls.flatten.length = N at hN
      have HZ := Lib.hid hz
      clear hz
      have hg := grow8_any N (by omega) w
      go_wp2_with fail
      refine hg.mono ?_
      rintro e _ ⟨v0, rfl, s0, rfl⟩
      clear hg
      go_wp2
      go_loopw [6, 8, 27] (fun v _ i wr => ∃ k : Nat, k ≤ ls.length ∧ i = .int .i64 k ∧ ∃ s : OwnW w 5 v ((ls.take k).flatten.map (Value.int .u8)), wr = s.w) (fun _ _ i _ => ls.length - (intOf i).toNat)
      case atStart => exact ⟨0, by omega, rfl, s0, rfl⟩
      case round =>
        clear s0
        obtain ⟨k, hk, rfl, s, rfl⟩ := hrel
        by_cases hlt : k < ls.length
        · obtain ⟨b, o, rfl, hc⟩ := HP.out.cells (by omega)
          obtain ⟨a, cap, hcell0, hbytes⟩ := hc k hlt
          have hbk := World.block_lt_of_cell? w _ hcell0
          have hcell : s.w.cell? ⟨b, o + k, none⟩ = some (.slice a (partOf ls k).length cap) := by rw [s.below.cell (p := ⟨b, o + k, none⟩) hbk, hcell0]
          have hb2 := hbytes.below s.below
          have hsum := sum_take ls hlt
          have hb1 := HF.out (k + 1)
          have HN := Lib.hid (hb2.nil2 (n := (partOf ls k).length) rfl)
          have HSRC := Lib.hid hb2.news
          have HML := Lib.hid (show (partOf ls k).length = ((partOf ls k).map (Value.int .u8)).length from (List.length_map _).symm)
          have HLN := Lib.hid (show ((((ls.take k).flatten.map (Value.int .u8)).length + ((partOf ls k).map (Value.int .u8)).length) * E.bytes ≤ 140737488355328 ∧ ((ls.take k).flatten.map (Value.int .u8)).length + ((partOf ls k).map (Value.int .u8)).length ≤ maxLen) from by
            rw [List.length_map, List.length_map, HEB.out]; unfold maxLen; omega)
          have HX := Lib.hid (show (ls.take k).flatten.map (Value.int .u8) ++ (partOf ls k).map (Value.int .u8) = (ls.take (k + 1)).flatten.map (Value.int .u8) by rw [← List.map_append, ← take_flat ls hlt])
          clear hc hcell0 hbk hb2 hbytes hsum hb1
          generalize partOf ls k = l at hcell HN HSRC HML HLN HX
          go_wp2_with (refine wpList_append_srcB E s (l.map (Value.int .u8)) (.tmp 31) (.tmp 32) rfl rfl rfl a l.length cap HML.out rfl HN.out HSRC.out (one_bytes _) HLN.out.1 HLN.out.2 ?_; intro v' s2)
          go_roundw
          case rel => exact ⟨k + 1, by omega, by go_num, s2.as HX.out, rfl⟩
          case measure => simp [intOf]; omega
        · obtain rfl : k = ls.length := by omega
          have HT := Lib.hid (show (ls.take ls.length).flatten.map (Value.int .u8) = ls.flatten.map (Value.int .u8) by rw [List.take_length])
          go_wp2
          go_ret
          exact ⟨_, rfl, s.as HT.out, rfl⟩
end Go.Proofs.Ytfikjndkjjgcjaa
