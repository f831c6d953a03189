/- Constants and Table of the reference. -/
import Derived.Test.YtnpcocjjmajifaaDoor02Primes
namespace Go.Proofs.YtnpcocjjmajifaaDoor
open Go.RowKit
set_option linter.unusedVariables false

def OwnW.rebase {w0 w1 : World} {e : TypeId} {v : Value} {xs : List Value} (s : OwnW w1 e v xs) (b : Below w0.heap.size w0 w1) : OwnW w0 e v xs :=
  ⟨s.w, b.trans (s.below.mono b.size), ⟨s.own.1, by
    rcases s.own.2 with h0 | ⟨g, cap, cur, h1, h2, h3, h4⟩
    · exact .inl h0
    · exact .inr ⟨g, cap, cur, h1, Nat.le_trans b.size h2, h3, h4⟩⟩⟩
def constL (n : Nat) (cubes : Bool) : List Int := (primeL.take n).map fun p => rootI p cubes

set_option maxRecDepth 100000 in
set_option maxHeartbeats 8000000 in
theorem constants_any (n : Nat) (hn : n ≤ 64) (cubes : Bool) (w : World) : Calls Tryd.prog 33 #[.int .i64 n, .bool cubes] w (MakesR 48 ((constL n cubes).map (Value.int .u32)) w) := by
  obtain ⟨E⟩ := elem_of (P := Tryd.prog) (t := 44) (e := 48) (z := .int .u32 0) (n := 4) Tryd.underlying44 (by kernel_rfl) rfl (by omega)
  have hp := primes_any n hn w
  have HLP := Lib.hid (show (primeL.take n).length = n by rw [List.length_take]; have : primeL.length = 64 := rfl; omega)
  unfold constL
  generalize primeL.take n = l at hp HLP
  go_enter Tryd.func33, Tryd.ntmps33
  go_wp2_with fail
  refine hp.mono ?_
  rintro e _ ⟨v, rfl, s1, rfl⟩
  clear hp
  obtain ⟨a, cap, rfl, hc, hcb, hrow⟩ := s1.view n (by rw [List.length_map, HLP.out])
  go_wp2
  go_loopw [5, 7] (fun out i wr => ∃ k : Nat, k ≤ n ∧ i = .int .i64 k ∧ ∃ s : OwnW s1.w 48 out (((l.take k).map fun p => rootI p cubes).map (Value.int .u32)), wr = s.w) (fun _ i _ => n - (intOf i).toNat)
  case atStart => exact ⟨0, by omega, rfl, ⟨s1.w, Below.refl _ _, World.ownsRow_nil s1.w s1.w.heap.size 48 1⟩, rfl⟩
  case round =>
    obtain ⟨k, hk, rfl, s, rfl⟩ := hrel
    by_cases hlt : k < n
    · obtain ⟨g, cur, rfl, hg, hb, hcur⟩ := hrow.out (by omega)
      have hlen : k < l.length := by rw [HLP.out]; exact hlt
      have hcell0 := s1.all k (.int .u64 l[k]) (by rw [List.getElem?_map, List.getElem?_eq_getElem hlen]; rfl)
      have hcell : s.w.cell? ⟨g, k, none⟩ = some (.int .u64 l[k]) := (s.below.cell (p := ⟨g, k, none⟩) (World.block_lt_of_cell? _ _ hcell0)).trans hcell0
      have HTK := Lib.hid (List.take_succ_eq_append_getElem hlen)
      generalize l[k] = q at hcell HTK
      have hr := root_any q cubes
      clear hcell0
      go_wp2_with fail
      refine (OwnW.call (s := s) (hr s.w)).mono ?_
      rintro e _ ⟨rfl, s2, rfl⟩
      clear hr hcell s
      have HLN := Lib.hid (show (((l.take k).map fun p => rootI p cubes).map (Value.int .u32)).length + ([Value.int .u32 (rootI q cubes)] : List Value).length ≤ 1099511627776 by rw [List.length_map, List.length_map, List.length_take]; simp; omega)
      go_wp2_with (refine wpList_append_O E s2 [.int .u32 (rootI q cubes)] _ rfl (.tmp 16) (.tmp 23) rfl rfl rfl 1 1 rfl rfl (by simp [Value.oneCell']) HLN.out ?_; intro v' s3)
      go_roundw
      case rel => exact ⟨k + 1, by omega, by go_num, s3.as (by rw [HTK.out, List.map_append, List.map_append]; rfl), rfl⟩
      case measure => simp [intOf]; omega
    · obtain rfl : k = n := by omega
      have HTL := Lib.hid (show l.take k = l from List.take_of_length_le (Nat.le_of_eq HLP.out))
      go_wp2
      go_ret
      exact ⟨_, rfl, (s.as (by rw [HTL.out])).rebase s1.below, rfl⟩
theorem const8 : constL 8 false = [1779033703, 3144134277, 1013904242, 2773480762, 1359893119, 2600822924, 528734635, 1541459225] := squares
theorem const64 : constL 64 true = rootsL := by
  rw [← cubesAll]; rfl
end Go.Proofs.YtnpcocjjmajifaaDoor
