/- Changes within 32 consecutive bits, and the register. -/
import Derived.Test.YtmjdmojommggjaaDoor03LinM
import Derived.Test.YtmjdmojommggjaaDoor03Open
namespace Go.Proofs.YtmjdmojommggjaaDoor
open Go.RowKit
set_option linter.unusedVariables false

/-- The register of a sealed record. -/
theorem sealed_reg {l : List Int} (h : isSealed l = true) : reg allF l = stN 32 allF := by
  unfold isSealed at h
  simp only [Bool.and_eq_true, decide_eq_true_eq] at h
  have hl : l = bodyOf l ++ tailOf l := (List.take_append_drop _ l).symm
  conv => lhs; rw [hl]
  rw [reg_append, ← h.2, reg_le4 _ _ (crc_lt _)]
  congr 1
  unfold crc
  rw [inv32_eq, ← Nat.xor_assoc, Nat.xor_comm (reg allF (bodyOf l)), Nat.xor_assoc, Nat.xor_self, Nat.xor_zero]
/-- One bit at place f + k of m bytes. -/
theorem bit_place (m f k : Nat) (h : f + 32 ≤ 8 * m) (hk : k < 32) : stN (8 * (m - (f + k) / 8)) (2 ^ ((f + k) % 8)) = stN (8 * m - f) (2 ^ k) := by
  have e1 : 8 * (m - (f + k) / 8) = (8 * m - f - k) + (f + k) % 8 := by omega
  have e2 : 8 * m - f = (8 * m - f - k) + k := by omega
  have s1 := stN_shift ((f + k) % 8) 1
  have s2 := stN_shift k 1
  rw [Nat.one_mul] at s1 s2
  rw [e1, stN_add, s1]
  conv => rhs; rw [e2]
  rw [stN_add, s2]
theorem mod_one {c k : Nat} (h : c / 2 ^ k % 2 = 1) : c % 2 ^ (k + 1) = c % 2 ^ k ^^^ 2 ^ k := by
  have hp := parted k 1 (c % 2 ^ k) (Nat.mod_lt _ (Nat.pow_pos (by omega)))
  rw [Nat.one_mul] at hp
  rw [Nat.xor_comm, ← hp, Nat.pow_succ, Nat.mod_mul, h]
  omega
theorem mod_none {c k : Nat} (h : ¬ c / 2 ^ k % 2 = 1) : c % 2 ^ (k + 1) = c % 2 ^ k := by
  rw [Nat.pow_succ, Nat.mod_mul]
  have : c / 2 ^ k % 2 = 0 := by omega
  rw [this]; omega

/-- What k of the bits have made of a sealed record. -/
structure Burst (l : List Int) (m f c k : Nat) (S : List Int) : Prop where
  len : S.length = m
  ok : OkB S
  reg : reg allF S = reg allF (sealL l) ^^^ stN (8 * m - f) (c % 2 ^ k)
theorem Burst.start {l : List Int} (hl : OkB (sealL l)) {m f c : Nat} (hm : (sealL l).length = m) : Burst l m f c 0 (sealL l) :=
  ⟨hm, hl, by rw [Nat.pow_zero, Nat.mod_one, stN_zero, Nat.xor_zero]⟩
theorem Burst.skip {l S : List Int} {m f c k : Nat} (h : Burst l m f c k S) (hc : ¬ c / 2 ^ k % 2 = 1) : Burst l m f c (k + 1) S :=
  ⟨h.len, h.ok, by rw [h.reg, mod_none hc]⟩
theorem Burst.flip {l S : List Int} {m f c k : Nat} (h : Burst l m f c k S) (hc : c / 2 ^ k % 2 = 1) (hf : f + 32 ≤ 8 * m) (hk : k < 32) : Burst l m f c (k + 1) (S.set ((f + k) / 8) (flipB (S[(f + k) / 8]?.getD 0) ((f + k) % 8))) := by
  have hq : (f + k) / 8 < S.length := by rw [h.len]; omega
  have hok := flipB_ok (okB_at h.ok ((f + k) / 8)) (k := (f + k) % 8) (by omega)
  refine ⟨by rw [List.length_set, h.len], fun x hx => ?_, ?_⟩
  · rcases List.mem_or_eq_of_mem_set hx with hx | rfl
    · exact h.ok x hx
    · exact hok
  · have hn : nb (flipB (S[(f + k) / 8]?.getD 0) ((f + k) % 8)) = nb (S[(f + k) / 8]?.getD 0) ^^^ 2 ^ ((f + k) % 8) := by
      unfold flipB at hok ⊢
      exact nb_nat (by omega)
    rw [reg_set _ _ hq, h.reg, hn, xor_twice, h.len, bit_place m f k hf hk, Nat.xor_assoc, ← stN_xor, mod_one hc]
theorem Burst.stop {l S : List Int} {m f c : Nat} (h : Burst l m f c 32 S) (hs : isSealed (sealL l) = true) (hc : c < 4294967296) (h0 : c ≠ 0) : isSealed S = false := by
  cases hS : isSealed S with
  | false => rfl
  | true =>
    exfalso
    have h1 := h.reg
    rw [sealed_reg hS, sealed_reg hs, Nat.mod_eq_of_lt (by omega)] at h1
    have h2 : stN (8 * m - f) c = 0 := by
      have h3 : stN 32 allF ^^^ 0 = stN 32 allF ^^^ stN (8 * m - f) c := by rw [Nat.xor_zero]; exact h1
      exact (xor_cancel h3).symm
    exact stN_ne _ hc h0 h2
end Go.Proofs.YtmjdmojommggjaaDoor
