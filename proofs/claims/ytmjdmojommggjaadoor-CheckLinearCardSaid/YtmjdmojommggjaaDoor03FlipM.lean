/- Flipped bits and the register: plain mathematics. -/
import Derived.Test.YtmjdmojommggjaaDoor03Crc
namespace Go.Proofs.YtmjdmojommggjaaDoor
open Go.RowKit
set_option linter.unusedVariables false

theorem xor_swap (a b c d : Nat) : (a ^^^ b) ^^^ (c ^^^ d) = (a ^^^ c) ^^^ (b ^^^ d) := by
  rw [Nat.xor_assoc, Nat.xor_assoc, ← Nat.xor_assoc b c d, Nat.xor_comm b c, Nat.xor_assoc c b d]
/-- A byte as the register takes it. -/
def nb (b : Int) : Nat := (b % 4294967296).toNat
theorem nb_of {b : Int} (h : 0 ≤ b ∧ b < 256) : (nb b : Int) = b := by unfold nb; omega
theorem nb_lt {b : Int} (h : 0 ≤ b ∧ b < 256) : nb b < 256 := by unfold nb; omega
theorem nb_nat {k : Nat} (h : k < 256) : nb (k : Int) = k := by unfold nb; omega
theorem upd_eq (r : Nat) (b : Int) : upd r b = stN 8 (r ^^^ nb b) := rfl
theorem upd_xor (a d : Nat) (b : Int) : upd (a ^^^ d) b = upd a b ^^^ stN 8 d := by
  rw [upd_eq, upd_eq, Nat.xor_assoc, Nat.xor_comm d, ← Nat.xor_assoc, stN_xor]
theorem reg_xor (l : List Int) : ∀ a d, reg (a ^^^ d) l = reg a l ^^^ stN (8 * l.length) d := by
  induction l with
  | nil => intro a d; rfl
  | cons b l ih =>
    intro a d
    show reg (upd (a ^^^ d) b) l = reg (upd a b) l ^^^ stN (8 * (l.length + 1)) d
    rw [upd_xor, ih, Nat.mul_add, Nat.mul_one, stN_add]
theorem reg_cons (r : Nat) (b : Int) (l : List Int) : reg r (b :: l) = reg (upd r b) l := rfl
theorem upd_change (r : Nat) (x y : Int) : upd r y = upd r x ^^^ stN 8 (nb x ^^^ nb y) := by
  rw [upd_eq, upd_eq, ← stN_xor, Nat.xor_assoc, xor_twice]
theorem reg_set (r : Nat) (l : List Int) {i : Nat} (h : i < l.length) (y : Int) : reg r (l.set i y) = reg r l ^^^ stN (8 * (l.length - i)) (nb (l[i]?.getD 0) ^^^ nb y) := by
  induction l generalizing r i with
  | nil => simp at h
  | cons x l ih =>
    cases i with
    | zero =>
      rw [List.set_cons_zero, reg_cons, reg_cons, upd_change r x y, reg_xor, List.length_cons, Nat.sub_zero, Nat.mul_add, Nat.mul_one, stN_add]
      rfl
    | succ i =>
      rw [List.set_cons_succ, reg_cons, reg_cons, ih _ (by simpa using h), List.length_cons, Nat.add_sub_add_right]
      rfl
theorem crc_set (l : List Int) {i : Nat} (h : i < l.length) (y : Int) : crc (l.set i y) = crc l ^^^ stN (8 * (l.length - i)) (nb (l[i]?.getD 0) ^^^ nb y) := by
  unfold crc
  rw [reg_set _ _ h, inv32_eq, inv32_eq, Nat.xor_assoc]

/-- The change of the checksum of n bytes when bit B is flipped. -/
def flipN (n B : Nat) : Nat := stN (8 * (n - B / 8)) (2 ^ (B % 8))
theorem pow8 {k : Nat} (h : k < 8) : 2 ^ k < 256 := Nat.lt_of_lt_of_le (Nat.pow_lt_pow_right (by omega) h) (by decide)
theorem flipN_lt (n B : Nat) : flipN n B < 4294967296 := stN_lt _ (Nat.lt_of_lt_of_le (pow8 (by omega)) (by decide))
theorem flipN_ne (n B : Nat) : flipN n B ≠ 0 := stN_ne _ (Nat.lt_of_lt_of_le (pow8 (by omega)) (by decide)) (by have := Nat.pow_pos (n := B % 8) (show 0 < 2 by omega); omega)
/-- The flipped bit in a byte. -/
def flipB (b : Int) (k : Nat) : Int := ((nb b ^^^ 2 ^ k : Nat) : Int)
theorem flipB_ok {b : Int} (h : 0 ≤ b ∧ b < 256) {k : Nat} (hk : k < 8) : 0 ≤ flipB b k ∧ flipB b k < 256 := by
  have : nb b ^^^ 2 ^ k < 256 := Nat.xor_lt_two_pow (n := 8) (nb_lt h) (pow8 hk)
  unfold flipB; omega
theorem crc_flip (l : List Int) {B : Nat} (h : B / 8 < l.length) (hb : 0 ≤ l[B / 8]?.getD 0 ∧ l[B / 8]?.getD 0 < 256) : crc (l.set (B / 8) (flipB (l[B / 8]?.getD 0) (B % 8))) = crc l ^^^ flipN l.length B := by
  rw [crc_set l h]
  have h2 : nb (flipB (l[B / 8]?.getD 0) (B % 8)) = nb (l[B / 8]?.getD 0) ^^^ 2 ^ (B % 8) := by
    have := flipB_ok hb (k := B % 8) (by omega)
    unfold flipB at this ⊢
    exact nb_nat (by omega)
  rw [h2, xor_twice]; rfl
theorem crc_flip_zero {n B : Nat} (h : B / 8 < n) : crc ((List.replicate n (0 : Int)).set (B / 8) ((2 ^ (B % 8) : Nat) : Int)) = crc (List.replicate n 0) ^^^ flipN n B := by
  have hz : (List.replicate n (0 : Int))[B / 8]?.getD 0 = 0 := by rw [List.getElem?_replicate, if_pos h]; rfl
  have := crc_flip (List.replicate n (0 : Int)) (B := B) (by rw [List.length_replicate]; exact h) (by rw [hz]; omega)
  rw [hz, List.length_replicate] at this
  rw [← this]
  congr 2
  unfold flipB
  rw [show nb 0 = 0 from rfl, Nat.zero_xor]

/-- The low byte of what is combined goes in first. -/
theorem low8 (a y : Nat) : stN 8 (a ^^^ y) = stN 8 (a ^^^ y % 256) ^^^ (y / 256) := by
  have p := parted 8 (y / 256) (y % 256) (Nat.mod_lt _ (by decide))
  have h := stN_shift 8 (y / 256)
  rw [show (2 : Nat) ^ 8 = 256 from rfl] at p h
  rw [Nat.div_add_mod'] at p
  conv => lhs; rw [p]
  rw [Nat.xor_comm (y / 256 * 256), ← Nat.xor_assoc, stN_xor, h]
theorem stN_four (r : Nat) : stN 32 r = stN 8 (stN 8 (stN 8 (stN 8 r))) := by
  rw [← stN_add, ← stN_add, ← stN_add]
/-- The register of a record, behind its checksum. -/
theorem reg_le4 (r x : Nat) (hx : x < 4294967296) : reg r (le4 x) = stN 32 (r ^^^ x) := by
  have n0 : nb ((x : Int) % 256) = x % 256 := by unfold nb; omega
  have n1 : nb ((x : Int) / 256 % 256) = x / 256 % 256 := by unfold nb; omega
  have n2 : nb ((x : Int) / 65536 % 256) = x / 256 / 256 % 256 := by unfold nb; omega
  have n3 : nb ((x : Int) / 16777216 % 256) = x / 256 / 256 / 256 := by unfold nb; omega
  show upd (upd (upd (upd r ((x : Int) % 256)) ((x : Int) / 256 % 256)) ((x : Int) / 65536 % 256)) ((x : Int) / 16777216 % 256) = _
  rw [upd_eq, upd_eq, upd_eq, upd_eq, n0, n1, n2, n3, stN_four, low8 r x, low8 _ (x / 256), low8 _ (x / 256 / 256)]
end Go.Proofs.YtmjdmojommggjaaDoor
