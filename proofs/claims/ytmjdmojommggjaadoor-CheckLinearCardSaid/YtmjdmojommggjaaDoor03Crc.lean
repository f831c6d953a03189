/- Plain mathematics for package check: the register of CRC-32. -/
import Derived.WalkKit
namespace Go.Proofs.YtmjdmojommggjaaDoor
open Go.RowKit
set_option linter.unusedVariables false

/-- The polynomial; one step of the register; many steps. -/
def pol : Nat := 3988292384
def st (r : Nat) : Nat := if r % 2 = 1 then (r / 2) ^^^ pol else r / 2
def stN : Nat → Nat → Nat
  | 0, r => r
  | k + 1, r => stN k (st r)

theorem xor_mod2 (a b : Nat) : (a ^^^ b) % 2 = (a % 2 + b % 2) % 2 := by
  rw [show (a ^^^ b) % 2 = (a ^^^ b) % 2 ^ 1 from rfl, Nat.xor_mod_two_pow]
  rcases Nat.mod_two_eq_zero_or_one a with h | h <;> rcases Nat.mod_two_eq_zero_or_one b with h' | h' <;> simp [h, h']
theorem xor_div2 (a b : Nat) : (a ^^^ b) / 2 = (a / 2) ^^^ (b / 2) := by
  have := Nat.xor_div_two_pow (a := a) (b := b) (n := 1)
  simpa using this
theorem xor_xy (a b p : Nat) : (a ^^^ p) ^^^ (b ^^^ p) = a ^^^ b := by
  rw [Nat.xor_assoc, Nat.xor_comm b p, ← Nat.xor_assoc p p b, Nat.xor_self, Nat.zero_xor]
theorem st_xor (a b : Nat) : st (a ^^^ b) = st a ^^^ st b := by
  unfold st
  rw [xor_mod2, xor_div2]
  rcases Nat.mod_two_eq_zero_or_one a with h | h <;> rcases Nat.mod_two_eq_zero_or_one b with h' | h' <;> simp [h, h']
  · rw [Nat.xor_assoc]
  · rw [Nat.xor_assoc, Nat.xor_comm (b / 2) pol, ← Nat.xor_assoc]
  · rw [xor_xy]
theorem stN_xor (k : Nat) : ∀ a b, stN k (a ^^^ b) = stN k a ^^^ stN k b := by
  induction k with
  | zero => intro a b; rfl
  | succ k ih => intro a b; rw [stN, st_xor, ih]; rfl
theorem stN_add (k l r : Nat) : stN (k + l) r = stN k (stN l r) := by
  induction l generalizing r with
  | zero => rfl
  | succ l ih => rw [← Nat.add_assoc, stN, ih]; rfl
theorem stN_succ (k r : Nat) : stN (k + 1) r = st (stN k r) := by rw [Nat.add_comm, stN_add]; rfl
theorem st_zero : st 0 = 0 := rfl
theorem stN_zero (k : Nat) : stN k 0 = 0 := by induction k with | zero => rfl | succ k ih => rw [stN, st_zero, ih]
theorem st_lt {r : Nat} (h : r < 4294967296) : st r < 4294967296 := by
  unfold st
  split
  · exact Nat.xor_lt_two_pow (n := 32) (by omega) (by decide)
  · omega
theorem stN_lt (k : Nat) : ∀ {r : Nat}, r < 4294967296 → stN k r < 4294967296 := by
  induction k with
  | zero => intro r h; exact h
  | succ k ih => intro r h; exact ih (st_lt h)
theorem st_two (r : Nat) : st (2 * r) = r := by unfold st; rw [if_neg (by omega)]; omega
theorem stN_shift (k r : Nat) : stN k (r * 2 ^ k) = r := by
  induction k with
  | zero => rw [Nat.pow_zero, Nat.mul_one]; rfl
  | succ k ih => rw [stN, Nat.pow_succ, Nat.mul_comm (2 ^ k) 2, ← Nat.mul_assoc, Nat.mul_comm r 2, Nat.mul_assoc, st_two, ih]
theorem st_inj0 {r : Nat} (hr : r < 4294967296) (h : st r = 0) : r = 0 := by
  unfold st at h
  split at h
  · have h2 : r / 2 = pol := by
      have h3 : ((r / 2) ^^^ pol) ^^^ pol = 0 ^^^ pol := by rw [h]
      rwa [Nat.xor_assoc, Nat.xor_self, Nat.xor_zero, Nat.zero_xor] at h3
    unfold pol at h2
    omega
  · omega
theorem stN_ne (k : Nat) : ∀ {r : Nat}, r < 4294967296 → r ≠ 0 → stN k r ≠ 0 := by
  induction k with
  | zero => intro r _ h; exact h
  | succ k ih => intro r hr h; exact ih (st_lt hr) (fun h0 => h (st_inj0 hr h0))
theorem xor32 {a b : Nat} (ha : a < 4294967296) (hb : b < 4294967296) : a ^^^ b < 4294967296 := Nat.xor_lt_two_pow (n := 32) ha hb
theorem xor_cancel {a b c : Nat} (h : a ^^^ b = a ^^^ c) : b = c := by
  have h2 : a ^^^ (a ^^^ b) = a ^^^ (a ^^^ c) := by rw [h]
  rwa [← Nat.xor_assoc, ← Nat.xor_assoc, Nat.xor_self, Nat.zero_xor, Nat.zero_xor] at h2

theorem xor_twice (a b : Nat) : a ^^^ (a ^^^ b) = b := by rw [← Nat.xor_assoc, Nat.xor_self, Nat.zero_xor]

/-- A number parted into high and low bits. -/
theorem parted (k a b : Nat) (hb : b < 2 ^ k) : a * 2 ^ k + b = (a * 2 ^ k) ^^^ b := by
  have h1 : a * 2 ^ k = a <<< k := (Nat.shiftLeft_eq a k).symm
  rw [h1, Nat.shiftLeft_add_eq_or_of_lt hb]
  apply Nat.eq_of_testBit_eq
  intro i
  rw [Nat.testBit_or, Nat.testBit_xor, Nat.testBit_shiftLeft]
  by_cases hi : k ≤ i
  · rw [Nat.testBit_lt_two_pow (Nat.lt_of_lt_of_le hb (Nat.pow_le_pow_right (by omega) hi))]; simp
  · simp [hi]

/-- The table of the program. -/
def tabL : List Int := [0, 498536548, 997073096, 651767980, 1994146192, 1802195444, 1303535960, 1342533948, 3988292384, 4027552580, 3604390888, 3412177804, 2607071920, 2262029012, 2685067896, 3183342108]
def tabN (i : Nat) : Nat := stN 4 i
theorem tabL_at : ∀ i, i < 16 → tabL[i]?.getD 0 = (tabN i : Int) := by decide +kernel
theorem step4 (r : Nat) : stN 4 r = (r / 16) ^^^ tabN (r % 16) := by
  have h := parted 4 (r / 16) (r % 16) (by omega)
  have h2 : r / 16 * 2 ^ 4 + r % 16 = r := by omega
  rw [h2] at h
  conv => lhs; rw [h]
  rw [stN_xor, stN_shift]; rfl
theorem tabN_lt (i : Nat) (h : i < 16) : tabN i < 4294967296 := stN_lt 4 (by omega)

/-- The register behind a byte; behind bytes. -/
def upd (r : Nat) (b : Int) : Nat := stN 8 (r ^^^ (b % 4294967296).toNat)
def reg (r : Nat) (l : List Int) : Nat := l.foldl upd r
theorem reg_append (r : Nat) (l m : List Int) : reg r (l ++ m) = reg (reg r l) m := by unfold reg; rw [List.foldl_append]
theorem upd_lt {r : Nat} (h : r < 4294967296) (b : Int) : upd r b < 4294967296 := stN_lt 8 (xor32 h (by omega))
theorem reg_lt (l : List Int) : ∀ {r : Nat}, r < 4294967296 → reg r l < 4294967296 := by
  induction l with
  | nil => intro r h; exact h
  | cons b l ih => intro r h; exact ih (upd_lt h b)
theorem upd_step (r : Nat) (b : Int) : upd r b = stN 4 (stN 4 (r ^^^ (b % 4294967296).toNat)) := rfl
/-- All bits inverted. -/
def allF : Nat := 4294967295
def inv32 (r : Nat) : Nat := allF ^^^ r
theorem inv32_eq (r : Nat) : inv32 r = allF ^^^ r := rfl
theorem inv32_lt {r : Nat} (h : r < 4294967296) : inv32 r < 4294967296 := xor32 (by unfold allF; omega) h
theorem inv32_inv (r : Nat) : inv32 (inv32 r) = r := by rw [inv32_eq, inv32_eq]; exact xor_twice _ r
/-- The checksum. -/
def crc (l : List Int) : Nat := inv32 (reg allF l)
theorem allF_lt : allF < 4294967296 := by unfold allF; omega
theorem crc_lt (l : List Int) : crc l < 4294967296 := inv32_lt (reg_lt l allF_lt)
/-- The checksum of longer bytes. -/
def ext (s : Nat) (l : List Int) : Nat := inv32 (reg (inv32 s) l)
theorem ext_lt {s : Nat} (hs : s < 4294967296) (l : List Int) : ext s l < 4294967296 := inv32_lt (reg_lt l (inv32_lt hs))
theorem inv32_zero : inv32 0 = allF := Nat.xor_zero _
theorem ext_zero (l : List Int) : ext 0 l = crc l := by unfold ext crc; rw [inv32_zero]
theorem ext_crc (l m : List Int) : ext (crc l) m = crc (l ++ m) := by unfold ext crc; rw [inv32_inv, reg_append]

/-- The walk's spelling of the operations. -/
theorem bits_xor32 {a b : Nat} (ha : a < 4294967296) (hb : b < 4294967296) : bits .xor .u32 (a : Int) (b : Int) = ((a ^^^ b : Nat) : Int) := by
  have h := xor32 ha hb
  show IntKind.u32.wrap ((BitVec.ofInt 32 (a : Int) ^^^ BitVec.ofInt 32 (b : Int) : BitVec 32).toNat : Int) = _
  rw [BitVec.ofInt_natCast, BitVec.ofInt_natCast, BitVec.toNat_xor, BitVec.toNat_ofNat, BitVec.toNat_ofNat, Nat.mod_eq_of_lt ha, Nat.mod_eq_of_lt hb, IntKind.wrap_u32]
  omega
theorem bits_and32 {a : Nat} (ha : a < 4294967296) (k : Nat) (hk : k ≤ 32) : bits .and .u32 (a : Int) ((2 ^ k - 1 : Nat) : Int) = ((a % 2 ^ k : Nat) : Int) := by
  have hk2 : 2 ^ k ≤ 2 ^ 32 := Nat.pow_le_pow_right (by omega) hk
  have h1 : 2 ^ k - 1 < 4294967296 := by omega
  have h2 : a % 2 ^ k ≤ a := Nat.mod_le _ _
  show IntKind.u32.wrap ((BitVec.ofInt 32 (a : Int) &&& BitVec.ofInt 32 ((2 ^ k - 1 : Nat) : Int) : BitVec 32).toNat : Int) = _
  rw [BitVec.ofInt_natCast, BitVec.ofInt_natCast, BitVec.toNat_and, BitVec.toNat_ofNat, BitVec.toNat_ofNat, Nat.mod_eq_of_lt ha, Nat.mod_eq_of_lt h1, IntKind.wrap_u32, Nat.and_two_pow_sub_one_eq_mod]
  omega
theorem bits_xor8 {a b : Nat} (ha : a < 256) (hb : b < 256) : bits .xor .u8 (a : Int) (b : Int) = ((a ^^^ b : Nat) : Int) := by
  have h : a ^^^ b < 256 := Nat.xor_lt_two_pow (n := 8) ha hb
  show IntKind.u8.wrap ((BitVec.ofInt 8 (a : Int) ^^^ BitVec.ofInt 8 (b : Int) : BitVec 8).toNat : Int) = _
  rw [BitVec.ofInt_natCast, BitVec.ofInt_natCast, BitVec.toNat_xor, BitVec.toNat_ofNat, BitVec.toNat_ofNat, Nat.mod_eq_of_lt ha, Nat.mod_eq_of_lt hb, IntKind.wrap_u8]
  omega
/-- A number in four bytes, the least significant one first. -/
def le4 (x : Nat) : List Int := [(x : Int) % 256, (x : Int) / 256 % 256, (x : Int) / 65536 % 256, (x : Int) / 16777216 % 256]
theorem le4_length (x : Nat) : (le4 x).length = 4 := rfl
theorem reg_take (r : Nat) (l : List Int) {q : Nat} (h : q < l.length) : upd (reg r (l.take q)) (l[q]?.getD 0) = reg r (l.take (q + 1)) := by
  rw [List.take_succ_eq_append_getElem h, reg_append, List.getElem?_eq_getElem h]; rfl
end Go.Proofs.YtmjdmojommggjaaDoor
