/- Rotations: math/bits.RotateLeft32, sha's right, the reference's rotate: one function of plain numbers. No condition but the ten amounts that SHA-256 uses. -/
import Derived.WalkKit
import Derived.BigQuiet
import Derived.Deep.QuietTactic
import Derived.Outline
import Derived.Test.YtnpcocjjmajifaaDoorChecked
import Derived.Test.YtnpcocjjmajifaaDoor00Base
namespace Go.Proofs.YtnpcocjjmajifaaDoor
open Go.RowKit
set_option linter.unusedVariables false

/-- A word rotated to the right. -/
def ror (x n : Int) : Int := bits .or .u32 (x / 2 ^ n.toNat) (x * 2 ^ (32 - n.toNat) % 4294967296)
theorem bits_or_comm (a b : Int) : bits .or .u32 a b = bits .or .u32 b a := by unfold bits; simp only [BitVec.or_comm]
/-- The amounts that are used. -/
def Amt (n : Int) : Prop := n = 2 ∨ n = 6 ∨ n = 7 ∨ n = 11 ∨ n = 13 ∨ n = 17 ∨ n = 18 ∨ n = 19 ∨ n = 22 ∨ n = 25

theorem rotl_2 (x : Int) (w : World) : Calls Tryd.prog 43 #[.int .u32 x, .int .i64 (-2)] w fun e w' => e = .returned (.int .u32 (ror x 2)) ∧ w' = w := by
  have hb : bits .and .u64 (IntKind.u64.wrap (-2)) 31 = 30 := by decide +kernel
  go_enter Tryd.func43, Tryd.ntmps43
  go_wp2
  go_ret
  exact ⟨congrArg (fun v => Ending.returned (Value.int .u32 v)) (bits_or_comm _ _), rfl⟩
theorem right_2 (x : Int) (w : World) : Calls Tryd.prog 40 #[.int .u32 x, .int .i64 2] w fun e w' => e = .returned (.int .u32 (ror x 2)) ∧ w' = w := by
  go_enter Tryd.func40, Tryd.ntmps40
  go_wp2_with (go_at_call 43; refine (rotl_2 _ _).mono ?_; rintro e w' ⟨rfl, rfl⟩)
  go_ret
  exact ⟨rfl, rfl⟩
theorem rotate_2 (x : Int) (w : World) : Calls Tryd.prog 36 #[.int .u32 x, .int .i64 2] w fun e w' => e = .returned (.int .u32 (ror x 2)) ∧ ∃ nq, w' = w.drewN nq := by
  go_enter Tryd.func36, Tryd.ntmps36
  go_wp2
  go_quiet (fail)
  go_wp2
  go_ret
  exact ⟨rfl, _, rfl⟩

theorem rotl_6 (x : Int) (w : World) : Calls Tryd.prog 43 #[.int .u32 x, .int .i64 (-6)] w fun e w' => e = .returned (.int .u32 (ror x 6)) ∧ w' = w := by
  have hb : bits .and .u64 (IntKind.u64.wrap (-6)) 31 = 26 := by decide +kernel
  go_enter Tryd.func43, Tryd.ntmps43
  go_wp2
  go_ret
  exact ⟨congrArg (fun v => Ending.returned (Value.int .u32 v)) (bits_or_comm _ _), rfl⟩
theorem right_6 (x : Int) (w : World) : Calls Tryd.prog 40 #[.int .u32 x, .int .i64 6] w fun e w' => e = .returned (.int .u32 (ror x 6)) ∧ w' = w := by
  go_enter Tryd.func40, Tryd.ntmps40
  go_wp2_with (go_at_call 43; refine (rotl_6 _ _).mono ?_; rintro e w' ⟨rfl, rfl⟩)
  go_ret
  exact ⟨rfl, rfl⟩
theorem rotate_6 (x : Int) (w : World) : Calls Tryd.prog 36 #[.int .u32 x, .int .i64 6] w fun e w' => e = .returned (.int .u32 (ror x 6)) ∧ ∃ nq, w' = w.drewN nq := by
  go_enter Tryd.func36, Tryd.ntmps36
  go_wp2
  go_quiet (fail)
  go_wp2
  go_ret
  exact ⟨rfl, _, rfl⟩

theorem rotl_7 (x : Int) (w : World) : Calls Tryd.prog 43 #[.int .u32 x, .int .i64 (-7)] w fun e w' => e = .returned (.int .u32 (ror x 7)) ∧ w' = w := by
  have hb : bits .and .u64 (IntKind.u64.wrap (-7)) 31 = 25 := by decide +kernel
  go_enter Tryd.func43, Tryd.ntmps43
  go_wp2
  go_ret
  exact ⟨congrArg (fun v => Ending.returned (Value.int .u32 v)) (bits_or_comm _ _), rfl⟩
theorem right_7 (x : Int) (w : World) : Calls Tryd.prog 40 #[.int .u32 x, .int .i64 7] w fun e w' => e = .returned (.int .u32 (ror x 7)) ∧ w' = w := by
  go_enter Tryd.func40, Tryd.ntmps40
  go_wp2_with (go_at_call 43; refine (rotl_7 _ _).mono ?_; rintro e w' ⟨rfl, rfl⟩)
  go_ret
  exact ⟨rfl, rfl⟩
theorem rotate_7 (x : Int) (w : World) : Calls Tryd.prog 36 #[.int .u32 x, .int .i64 7] w fun e w' => e = .returned (.int .u32 (ror x 7)) ∧ ∃ nq, w' = w.drewN nq := by
  go_enter Tryd.func36, Tryd.ntmps36
  go_wp2
  go_quiet (fail)
  go_wp2
  go_ret
  exact ⟨rfl, _, rfl⟩

theorem rotl_11 (x : Int) (w : World) : Calls Tryd.prog 43 #[.int .u32 x, .int .i64 (-11)] w fun e w' => e = .returned (.int .u32 (ror x 11)) ∧ w' = w := by
  have hb : bits .and .u64 (IntKind.u64.wrap (-11)) 31 = 21 := by decide +kernel
  go_enter Tryd.func43, Tryd.ntmps43
  go_wp2
  go_ret
  exact ⟨congrArg (fun v => Ending.returned (Value.int .u32 v)) (bits_or_comm _ _), rfl⟩
theorem right_11 (x : Int) (w : World) : Calls Tryd.prog 40 #[.int .u32 x, .int .i64 11] w fun e w' => e = .returned (.int .u32 (ror x 11)) ∧ w' = w := by
  go_enter Tryd.func40, Tryd.ntmps40
  go_wp2_with (go_at_call 43; refine (rotl_11 _ _).mono ?_; rintro e w' ⟨rfl, rfl⟩)
  go_ret
  exact ⟨rfl, rfl⟩
theorem rotate_11 (x : Int) (w : World) : Calls Tryd.prog 36 #[.int .u32 x, .int .i64 11] w fun e w' => e = .returned (.int .u32 (ror x 11)) ∧ ∃ nq, w' = w.drewN nq := by
  go_enter Tryd.func36, Tryd.ntmps36
  go_wp2
  go_quiet (fail)
  go_wp2
  go_ret
  exact ⟨rfl, _, rfl⟩

theorem rotl_13 (x : Int) (w : World) : Calls Tryd.prog 43 #[.int .u32 x, .int .i64 (-13)] w fun e w' => e = .returned (.int .u32 (ror x 13)) ∧ w' = w := by
  have hb : bits .and .u64 (IntKind.u64.wrap (-13)) 31 = 19 := by decide +kernel
  go_enter Tryd.func43, Tryd.ntmps43
  go_wp2
  go_ret
  exact ⟨congrArg (fun v => Ending.returned (Value.int .u32 v)) (bits_or_comm _ _), rfl⟩
theorem right_13 (x : Int) (w : World) : Calls Tryd.prog 40 #[.int .u32 x, .int .i64 13] w fun e w' => e = .returned (.int .u32 (ror x 13)) ∧ w' = w := by
  go_enter Tryd.func40, Tryd.ntmps40
  go_wp2_with (go_at_call 43; refine (rotl_13 _ _).mono ?_; rintro e w' ⟨rfl, rfl⟩)
  go_ret
  exact ⟨rfl, rfl⟩
theorem rotate_13 (x : Int) (w : World) : Calls Tryd.prog 36 #[.int .u32 x, .int .i64 13] w fun e w' => e = .returned (.int .u32 (ror x 13)) ∧ ∃ nq, w' = w.drewN nq := by
  go_enter Tryd.func36, Tryd.ntmps36
  go_wp2
  go_quiet (fail)
  go_wp2
  go_ret
  exact ⟨rfl, _, rfl⟩

theorem rotl_17 (x : Int) (w : World) : Calls Tryd.prog 43 #[.int .u32 x, .int .i64 (-17)] w fun e w' => e = .returned (.int .u32 (ror x 17)) ∧ w' = w := by
  have hb : bits .and .u64 (IntKind.u64.wrap (-17)) 31 = 15 := by decide +kernel
  go_enter Tryd.func43, Tryd.ntmps43
  go_wp2
  go_ret
  exact ⟨congrArg (fun v => Ending.returned (Value.int .u32 v)) (bits_or_comm _ _), rfl⟩
theorem right_17 (x : Int) (w : World) : Calls Tryd.prog 40 #[.int .u32 x, .int .i64 17] w fun e w' => e = .returned (.int .u32 (ror x 17)) ∧ w' = w := by
  go_enter Tryd.func40, Tryd.ntmps40
  go_wp2_with (go_at_call 43; refine (rotl_17 _ _).mono ?_; rintro e w' ⟨rfl, rfl⟩)
  go_ret
  exact ⟨rfl, rfl⟩
theorem rotate_17 (x : Int) (w : World) : Calls Tryd.prog 36 #[.int .u32 x, .int .i64 17] w fun e w' => e = .returned (.int .u32 (ror x 17)) ∧ ∃ nq, w' = w.drewN nq := by
  go_enter Tryd.func36, Tryd.ntmps36
  go_wp2
  go_quiet (fail)
  go_wp2
  go_ret
  exact ⟨rfl, _, rfl⟩

theorem rotl_18 (x : Int) (w : World) : Calls Tryd.prog 43 #[.int .u32 x, .int .i64 (-18)] w fun e w' => e = .returned (.int .u32 (ror x 18)) ∧ w' = w := by
  have hb : bits .and .u64 (IntKind.u64.wrap (-18)) 31 = 14 := by decide +kernel
  go_enter Tryd.func43, Tryd.ntmps43
  go_wp2
  go_ret
  exact ⟨congrArg (fun v => Ending.returned (Value.int .u32 v)) (bits_or_comm _ _), rfl⟩
theorem right_18 (x : Int) (w : World) : Calls Tryd.prog 40 #[.int .u32 x, .int .i64 18] w fun e w' => e = .returned (.int .u32 (ror x 18)) ∧ w' = w := by
  go_enter Tryd.func40, Tryd.ntmps40
  go_wp2_with (go_at_call 43; refine (rotl_18 _ _).mono ?_; rintro e w' ⟨rfl, rfl⟩)
  go_ret
  exact ⟨rfl, rfl⟩
theorem rotate_18 (x : Int) (w : World) : Calls Tryd.prog 36 #[.int .u32 x, .int .i64 18] w fun e w' => e = .returned (.int .u32 (ror x 18)) ∧ ∃ nq, w' = w.drewN nq := by
  go_enter Tryd.func36, Tryd.ntmps36
  go_wp2
  go_quiet (fail)
  go_wp2
  go_ret
  exact ⟨rfl, _, rfl⟩

theorem rotl_19 (x : Int) (w : World) : Calls Tryd.prog 43 #[.int .u32 x, .int .i64 (-19)] w fun e w' => e = .returned (.int .u32 (ror x 19)) ∧ w' = w := by
  have hb : bits .and .u64 (IntKind.u64.wrap (-19)) 31 = 13 := by decide +kernel
  go_enter Tryd.func43, Tryd.ntmps43
  go_wp2
  go_ret
  exact ⟨congrArg (fun v => Ending.returned (Value.int .u32 v)) (bits_or_comm _ _), rfl⟩
theorem right_19 (x : Int) (w : World) : Calls Tryd.prog 40 #[.int .u32 x, .int .i64 19] w fun e w' => e = .returned (.int .u32 (ror x 19)) ∧ w' = w := by
  go_enter Tryd.func40, Tryd.ntmps40
  go_wp2_with (go_at_call 43; refine (rotl_19 _ _).mono ?_; rintro e w' ⟨rfl, rfl⟩)
  go_ret
  exact ⟨rfl, rfl⟩
theorem rotate_19 (x : Int) (w : World) : Calls Tryd.prog 36 #[.int .u32 x, .int .i64 19] w fun e w' => e = .returned (.int .u32 (ror x 19)) ∧ ∃ nq, w' = w.drewN nq := by
  go_enter Tryd.func36, Tryd.ntmps36
  go_wp2
  go_quiet (fail)
  go_wp2
  go_ret
  exact ⟨rfl, _, rfl⟩

theorem rotl_22 (x : Int) (w : World) : Calls Tryd.prog 43 #[.int .u32 x, .int .i64 (-22)] w fun e w' => e = .returned (.int .u32 (ror x 22)) ∧ w' = w := by
  have hb : bits .and .u64 (IntKind.u64.wrap (-22)) 31 = 10 := by decide +kernel
  go_enter Tryd.func43, Tryd.ntmps43
  go_wp2
  go_ret
  exact ⟨congrArg (fun v => Ending.returned (Value.int .u32 v)) (bits_or_comm _ _), rfl⟩
theorem right_22 (x : Int) (w : World) : Calls Tryd.prog 40 #[.int .u32 x, .int .i64 22] w fun e w' => e = .returned (.int .u32 (ror x 22)) ∧ w' = w := by
  go_enter Tryd.func40, Tryd.ntmps40
  go_wp2_with (go_at_call 43; refine (rotl_22 _ _).mono ?_; rintro e w' ⟨rfl, rfl⟩)
  go_ret
  exact ⟨rfl, rfl⟩
theorem rotate_22 (x : Int) (w : World) : Calls Tryd.prog 36 #[.int .u32 x, .int .i64 22] w fun e w' => e = .returned (.int .u32 (ror x 22)) ∧ ∃ nq, w' = w.drewN nq := by
  go_enter Tryd.func36, Tryd.ntmps36
  go_wp2
  go_quiet (fail)
  go_wp2
  go_ret
  exact ⟨rfl, _, rfl⟩

theorem rotl_25 (x : Int) (w : World) : Calls Tryd.prog 43 #[.int .u32 x, .int .i64 (-25)] w fun e w' => e = .returned (.int .u32 (ror x 25)) ∧ w' = w := by
  have hb : bits .and .u64 (IntKind.u64.wrap (-25)) 31 = 7 := by decide +kernel
  go_enter Tryd.func43, Tryd.ntmps43
  go_wp2
  go_ret
  exact ⟨congrArg (fun v => Ending.returned (Value.int .u32 v)) (bits_or_comm _ _), rfl⟩
theorem right_25 (x : Int) (w : World) : Calls Tryd.prog 40 #[.int .u32 x, .int .i64 25] w fun e w' => e = .returned (.int .u32 (ror x 25)) ∧ w' = w := by
  go_enter Tryd.func40, Tryd.ntmps40
  go_wp2_with (go_at_call 43; refine (rotl_25 _ _).mono ?_; rintro e w' ⟨rfl, rfl⟩)
  go_ret
  exact ⟨rfl, rfl⟩
theorem rotate_25 (x : Int) (w : World) : Calls Tryd.prog 36 #[.int .u32 x, .int .i64 25] w fun e w' => e = .returned (.int .u32 (ror x 25)) ∧ ∃ nq, w' = w.drewN nq := by
  go_enter Tryd.func36, Tryd.ntmps36
  go_wp2
  go_quiet (fail)
  go_wp2
  go_ret
  exact ⟨rfl, _, rfl⟩

theorem right_any (x n : Int) (hn : Amt n) (w : World) : Calls Tryd.prog 40 #[.int .u32 x, .int .i64 n] w fun e w' => e = .returned (.int .u32 (ror x n)) ∧ w' = w := by
  rcases hn with rfl | rfl | rfl | rfl | rfl | rfl | rfl | rfl | rfl | rfl
  · exact right_2 x w
  · exact right_6 x w
  · exact right_7 x w
  · exact right_11 x w
  · exact right_13 x w
  · exact right_17 x w
  · exact right_18 x w
  · exact right_19 x w
  · exact right_22 x w
  · exact right_25 x w
theorem rotate_any (x n : Int) (hn : Amt n) (w : World) : Calls Tryd.prog 36 #[.int .u32 x, .int .i64 n] w fun e w' => e = .returned (.int .u32 (ror x n)) ∧ ∃ nq, w' = w.drewN nq := by
  rcases hn with rfl | rfl | rfl | rfl | rfl | rfl | rfl | rfl | rfl | rfl
  · exact rotate_2 x w
  · exact rotate_6 x w
  · exact rotate_7 x w
  · exact rotate_11 x w
  · exact rotate_13 x w
  · exact rotate_17 x w
  · exact rotate_18 x w
  · exact rotate_19 x w
  · exact rotate_22 x w
  · exact rotate_25 x w
end Go.Proofs.YtnpcocjjmajifaaDoor
