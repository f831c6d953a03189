/- Plain mathematics for package extent: the number of pieces, and the pieces. No Go text. -/
namespace Go.Proofs.Ytifdeeaoaekokaa.Plain01

/-- How many pieces of a size an extent of a length has (without the greatest number). -/
def cnt (len size : Int) : Int := if len < 1 ∨ size < 1 then 0 else (len - 1) / size + 1

theorem cnt_none {len size : Int} (h : len < 1 ∨ size < 1) : cnt len size = 0 := by unfold cnt; rw [if_pos h]
theorem cnt_some {len size : Int} (h : 1 ≤ len) (h' : 1 ≤ size) : cnt len size = (len - 1) / size + 1 := by unfold cnt; rw [if_neg (by omega)]

theorem div_bd (len size : Int) (h : 1 ≤ len) (h' : 1 ≤ size) : 0 ≤ (len - 1) / size ∧ (len - 1) / size ≤ len - 1 :=
  ⟨Int.ediv_nonneg (by omega) (by omega), Int.ediv_le_self _ (by omega)⟩

theorem cnt_bd (len size : Int) : 0 ≤ cnt len size ∧ (0 ≤ len → cnt len size ≤ len) := by
  by_cases h : len < 1 ∨ size < 1
  · rw [cnt_none h]; omega
  · have := div_bd len size (by omega) (by omega)
    rw [cnt_some (by omega) (by omega)]; omega

/-- The piece of a number. -/
def piece (off len size : Int) (i : Nat) : Int × Int := (off + (i : Int) * size, min size (len - (i : Int) * size))

/-- A number below the count times the size lies below the length. -/
theorem mul_lt {len size : Int} {i : Nat} (h : (i : Int) < cnt len size) : 1 ≤ len ∧ 1 ≤ size ∧ 0 ≤ (i : Int) * size ∧ (i : Int) * size ≤ len - 1 := by
  by_cases hc : len < 1 ∨ size < 1
  · rw [cnt_none hc] at h; omega
  · rw [cnt_some (by omega) (by omega)] at h
    refine ⟨by omega, by omega, Int.mul_nonneg (by omega) (by omega), ?_⟩
    have h1 : (i : Int) * size ≤ (len - 1) / size * size := Int.mul_le_mul_of_nonneg_right (by omega) (by omega)
    have h2 := Int.ediv_mul_le (len - 1) (b := size) (by omega)
    omega

theorem piece_full {off len size : Int} {i : Nat} (h : size ≤ len - (i : Int) * size) : piece off len size i = (off + (i : Int) * size, size) := by unfold piece; rw [Int.min_eq_left h]
theorem piece_rest {off len size : Int} {i : Nat} (h : len - (i : Int) * size ≤ size) : piece off len size i = (off + (i : Int) * size, len - (i : Int) * size) := by unfold piece; rw [Int.min_eq_right h]

/-- How many pieces Split returns. -/
def nsp (len size : Int) : Nat := if 1048576 < cnt len size then 0 else (cnt len size).toNat
theorem nsp_big {len size : Int} (h : 1048576 < cnt len size) : nsp len size = 0 := by unfold nsp; rw [if_pos h]
theorem nsp_few {len size : Int} (h : cnt len size ≤ 1048576) : nsp len size = (cnt len size).toNat := by unfold nsp; rw [if_neg (by omega)]

end Go.Proofs.Ytifdeeaoaekokaa.Plain01
