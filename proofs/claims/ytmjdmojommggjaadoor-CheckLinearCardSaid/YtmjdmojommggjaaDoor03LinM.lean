/- The exclusive or of three lists of bytes, and the register. -/
import Derived.Test.YtmjdmojommggjaaDoor00Open
import Derived.Test.YtmjdmojommggjaaDoor03FlipM
namespace Go.Proofs.YtmjdmojommggjaaDoor
open Go.RowKit
set_option linter.unusedVariables false

theorem okB_at {l : List Int} (h : OkB l) (i : Nat) : 0 ≤ l[i]?.getD 0 ∧ l[i]?.getD 0 < 256 := by
  by_cases hi : i < l.length
  · rw [List.getElem?_eq_getElem hi]; exact h _ (List.getElem_mem hi)
  · rw [List.getElem?_eq_none (by omega)]; simp
theorem bits_nb {x y : Int} (hx : 0 ≤ x ∧ x < 256) (hy : 0 ≤ y ∧ y < 256) : bits .xor .u8 x y = ((nb x ^^^ nb y : Nat) : Int) := by
  have := bits_xor8 (nb_lt hx) (nb_lt hy)
  rwa [nb_of hx, nb_of hy] at this
/-- Byte i of the three. -/
def x3 (a b c : List Int) (i : Nat) : Int := ((nb (a[i]?.getD 0) ^^^ nb (b[i]?.getD 0) ^^^ nb (c[i]?.getD 0) : Nat) : Int)
theorem x3_walk {a b c : List Int} (ha : OkB a) (hb : OkB b) (hc : OkB c) (i : Nat) : bits .xor .u8 (bits .xor .u8 (a[i]?.getD 0) (b[i]?.getD 0)) (c[i]?.getD 0) = x3 a b c i := by
  have h1 : nb (a[i]?.getD 0) ^^^ nb (b[i]?.getD 0) < 256 := Nat.xor_lt_two_pow (n := 8) (nb_lt (okB_at ha i)) (nb_lt (okB_at hb i))
  rw [bits_nb (okB_at ha i) (okB_at hb i), bits_nb (by omega) (okB_at hc i), nb_nat h1]
  rfl
theorem x3_nb {a b c : List Int} (ha : OkB a) (hb : OkB b) (hc : OkB c) (i : Nat) : nb (x3 a b c i) = nb (a[i]?.getD 0) ^^^ nb (b[i]?.getD 0) ^^^ nb (c[i]?.getD 0) :=
  nb_nat (Nat.xor_lt_two_pow (n := 8) (Nat.xor_lt_two_pow (n := 8) (nb_lt (okB_at ha i)) (nb_lt (okB_at hb i))) (nb_lt (okB_at hc i)))
def x3L (a b c : List Int) (k : Nat) : List Int := (List.range k).map (x3 a b c)
theorem x3L_length (a b c : List Int) (k : Nat) : (x3L a b c k).length = k := by simp [x3L]
/-- While it comes. -/
def x3K (a b c : List Int) (n k : Nat) : List Int := x3L a b c k ++ List.replicate (n - k) 0
theorem x3K_length (a b c : List Int) {n k : Nat} (h : k ≤ n) : (x3K a b c n k).length = n := by unfold x3K; rw [List.length_append, x3L_length, List.length_replicate]; omega
theorem x3K_set (a b c : List Int) {n k : Nat} (h : k < n) : (x3K a b c n k).set k (x3 a b c k) = x3K a b c n (k + 1) := by
  unfold x3K
  obtain ⟨m, hm⟩ : ∃ m, n - k = m + 1 := ⟨n - k - 1, by omega⟩
  rw [hm, show n - (k + 1) = m by omega, List.set_append_right _ _ (by rw [x3L_length]; omega), x3L_length, Nat.sub_self, List.replicate_succ, List.set_cons_zero]
  unfold x3L
  rw [List.range_succ, List.map_append]
  simp
theorem x3K_end (a b c : List Int) (n : Nat) : x3K a b c n n = x3L a b c n := by unfold x3K; simp
theorem x3K_zero (a b c : List Int) (n : Nat) : x3K a b c n 0 = List.replicate n 0 := rfl

theorem xor_three (F a b c : Nat) : (F ^^^ a) ^^^ (F ^^^ b) ^^^ (F ^^^ c) = F ^^^ (a ^^^ b ^^^ c) := by
  rw [xor_swap F a F b, Nat.xor_self, Nat.zero_xor, Nat.xor_comm (a ^^^ b), Nat.xor_assoc F c, Nat.xor_comm c]
theorem stN_three (k a b c : Nat) : stN k (a ^^^ b ^^^ c) = stN k a ^^^ stN k b ^^^ stN k c := by rw [stN_xor, stN_xor]
theorem reg_x3 {a b c : List Int} (ha : OkB a) (hb : OkB b) (hc : OkB c) (F : Nat) (k : Nat) (h1 : k ≤ a.length) (h2 : k ≤ b.length) (h3 : k ≤ c.length) : reg F (x3L a b c k) = reg F (a.take k) ^^^ reg F (b.take k) ^^^ reg F (c.take k) := by
  induction k with
  | zero =>
    show F = F ^^^ F ^^^ F
    rw [Nat.xor_self, Nat.zero_xor]
  | succ k ih =>
    rw [← reg_take F a (by omega), ← reg_take F b (by omega), ← reg_take F c (by omega)]
    have hs : x3L a b c (k + 1) = x3L a b c k ++ [x3 a b c k] := by unfold x3L; rw [List.range_succ, List.map_append]; rfl
    rw [hs, reg_append, ih (by omega) (by omega) (by omega), reg_cons, upd_eq, upd_eq, upd_eq, upd_eq, x3_nb ha hb hc]
    show stN 8 _ = _
    rw [← stN_three]
    congr 1
    generalize reg F (a.take k) = A
    generalize reg F (b.take k) = B
    generalize reg F (c.take k) = C
    generalize nb (a[k]?.getD 0) = x
    generalize nb (b[k]?.getD 0) = y
    generalize nb (c[k]?.getD 0) = z
    rw [xor_swap (A ^^^ B) C (x ^^^ y) z, xor_swap A B x y]
theorem crc_x3 {a b c : List Int} (ha : OkB a) (hb : OkB b) (hc : OkB c) (k : Nat) (h1 : k ≤ a.length) (h2 : k ≤ b.length) (h3 : k ≤ c.length) : crc (a.take k) ^^^ crc (b.take k) ^^^ crc (c.take k) = crc (x3L a b c k) := by
  unfold crc
  rw [inv32_eq, inv32_eq, inv32_eq, inv32_eq, xor_three, reg_x3 ha hb hc allF k h1 h2 h3]
end Go.Proofs.YtmjdmojommggjaaDoor
