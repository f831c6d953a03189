/- The encoding of a delta, and what a reader makes of bytes, in numbers: plain mathematics. No Go text. -/
import Derived.Test.YtefonhnidkfbgaaE07d8
import Derived.Test.YtefonhnidkfbgaaE07d9
import Derived.Test.YtefonhnidkfbgaaE07d12
namespace Go.Proofs.Ytefonhnidkfbgaa
set_option linter.unusedVariables false
set_option linter.unusedSimpArgs false

abbrev Core7 := Int × Int × Int × Int × List Int
def inB (n : Int) : Bool := decide (0 ≤ n) && decide (n ≤ 4611686018427387903)
def kindB (c : Core7) : Bool := c.1 == 1 || c.1 == 2
def goodB (c : Core7) : Bool := inB c.2.1 && inB c.2.2.1 && inB c.2.2.2.1 && (if c.1 = 1 then c.2.2.2.2.isEmpty else c.2.2.1 == 0 && c.2.2.2.1 == 0)
/-- The error code of a delta that cannot be encoded, or 0. -/
def wrongOf (o n : Int) (cs : List Core7) : Int := if cs.all kindB = false then 11 else if (inB o && inB n) = false then 2 else if cs.all goodB = false then 2 else 0
theorem inB_iff {n : Int} : inB n = true ↔ 0 ≤ n ∧ n ≤ 4611686018427387903 := by unfold inB; simp
theorem wrong_zero {o n : Int} {cs : List Core7} : wrongOf o n cs = 0 ↔ inB o = true ∧ inB n = true ∧ ∀ c ∈ cs, kindB c = true ∧ goodB c = true := by
  unfold wrongOf
  cases hk : cs.all kindB with
  | false =>
    simp only [if_true]
    constructor
    · intro h; omega
    · intro ⟨_, _, h⟩
      rw [← Bool.not_eq_true, List.all_eq_true] at hk
      exact absurd (fun c hc => (h c hc).1) hk
  | true =>
    rw [List.all_eq_true] at hk
    simp only [Bool.true_eq_false, if_false]
    cases hi : (inB o && inB n) with
    | false =>
      simp only [if_true]
      constructor
      · intro h; omega
      · intro ⟨h1, h2, _⟩
        rw [h1, h2] at hi
        cases hi
    | true =>
      rw [Bool.and_eq_true] at hi
      simp only [Bool.true_eq_false, if_false]
      cases hg : cs.all goodB with
      | false =>
        simp only [if_true]
        constructor
        · intro h; omega
        · intro ⟨_, _, h⟩
          rw [← Bool.not_eq_true, List.all_eq_true] at hg
          exact absurd (fun c hc => (h c hc).2) hg
      | true =>
        rw [List.all_eq_true] at hg
        simp only [Bool.true_eq_false, if_false]
        exact ⟨fun _ => ⟨hi.1, hi.2, fun c hc => ⟨hk c hc, hg c hc⟩⟩, fun _ => trivial⟩

/-- The encoding of a command, of what stands ahead of the commands, of a delta. -/
def encK (c : Core7) : List Int := if c.1 = 1 then [1] ++ (enc1 c.2.1 8 ++ (enc1 c.2.2.1 8 ++ enc1 c.2.2.2.1 8)) else [2] ++ (enc1 c.2.1 8 ++ (enc1 c.2.2.2.2.length 8 ++ c.2.2.2.2))
def encH (o n : Int) (x y : List Int) (N : Nat) : List Int := [71, 82, 70, 84] ++ ([1] ++ (enc1 o 8 ++ (enc1 n 8 ++ (x ++ (y ++ enc1 N 4)))))
def encAll (o n : Int) (x y : List Int) (cs : List Core7) : List Int := encH o n x y cs.length ++ cs.flatMap encK

/-- Digits of a number, and back. -/
theorem enc1_succ (v : Int) (k : Nat) : enc1 v (k + 1) = enc1 (v / 256) k ++ [v % 256] := by
  show digs v (k + 1) (k + 1) = digs (v / 256) k k ++ [v % 256]
  unfold digs
  rw [List.range_succ, List.map_append]
  congr 1
  · apply List.map_congr_left
    intro j hj
    have hj' := List.mem_range.1 hj
    obtain ⟨i, hi⟩ : ∃ i, k + 1 - 1 - j = i + 1 := ⟨k - 1 - j, by omega⟩
    rw [hi, show k - 1 - j = i by omega]
    unfold dig
    rw [Int.ediv_ediv_of_nonneg (by omega), show 8 * (i + 1) = 8 + 8 * i by omega, Int.pow_add]
    rfl
  · simp [dig]
theorem beval_more (l : List Int) (d : Int) (h0 : 0 ≤ beval l) (h1 : beval l * 256 < 18446744073709551616) (hd : 0 ≤ d ∧ d < 256) : beval (l ++ [d]) = beval l * 256 + d := by
  have h5 : beval (l ++ [d]) = stepU (beval l) d := by simp only [beval, List.foldl_append, List.foldl_cons, List.foldl_nil]
  rw [h5, stepU_eq h0 h1 hd]
theorem pow_le7 : ∀ k : Nat, k ≤ 7 → (256 : Int) ^ k ≤ 72057594037927936 := by decide +kernel
theorem pow_le8 : ∀ k : Nat, k ≤ 8 → (256 : Int) ^ k ≤ 18446744073709551616 := by decide +kernel
theorem pow_8 : (256 : Int) ^ 8 = 18446744073709551616 := by decide +kernel
theorem pow_4 : (256 : Int) ^ 4 = 4294967296 := by decide +kernel
theorem enc1_beval : ∀ (k : Nat) (l : List Int), l.length = k → k ≤ 8 → OkB l → enc1 (beval l) k = l ∧ 0 ≤ beval l ∧ beval l < 256 ^ k := by
  intro k
  induction k with
  | zero => intro l hl _ _; obtain rfl := List.eq_nil_of_length_eq_zero hl; exact ⟨rfl, by decide, by decide⟩
  | succ k ih =>
    intro l hl hk hok
    rcases List.eq_nil_or_concat l with rfl | ⟨m, d, rfl⟩
    · simp at hl
    · rw [List.concat_eq_append] at hl hok ⊢
      have hml : m.length = k := by simp at hl; omega
      obtain ⟨h1, h2, h3⟩ := ih m hml (by omega) (fun x hx => hok x (List.mem_append_left _ hx))
      have hd := hok d (by simp)
      have hp := pow_le7 k (by omega)
      rw [beval_more m d h2 (by omega) ⟨hd.1, by omega⟩]
      refine ⟨?_, by omega, ?_⟩
      · rw [enc1_succ, show (beval m * 256 + d) / 256 = beval m by omega, show (beval m * 256 + d) % 256 = d by omega, h1]
      · rw [Int.pow_succ]; omega
theorem beval_enc (v : Int) (k : Nat) (hk : k ≤ 8) (h : 0 ≤ v ∧ v < 256 ^ k) : beval (enc1 v k) = v := by
  have hp := pow_le8 k hk
  have e : (2 : Int) ^ (8 * k) = 256 ^ k := by rw [Int.pow_mul]; rfl
  have := beval_digs v k ⟨h.1, by omega⟩ (by rw [e]; exact Int.ediv_eq_zero_of_lt h.1 h.2) k (Nat.le_refl _)
  rw [this, Nat.sub_self]
  simp
theorem enc1_ok (v : Int) (k : Nat) : OkB (enc1 v k) := fun x hx => by
  obtain ⟨j, _, rfl⟩ := List.mem_map.1 hx
  unfold dig
  omega

/-- What a reader does to a state that bears a fault: nothing. -/
theorem uintR_no (D : List Int) (k : Int) {s : RS} (h : s.c ≠ 0) : uintR D k s = (0, s) := by unfold uintR; rw [if_pos h]
theorem fail_no7 (c p : Int) {s : RS} (h : s.c ≠ 0) : s.fail c p = s := by unfold RS.fail; rw [if_neg (fun h1 => h h1.1)]
theorem lengthR_no (D : List Int) {s : RS} (h : s.c ≠ 0) : lengthR D s = (0, s) := by unfold lengthR; rw [uintR_no D 8 h, if_neg (by simp)]
theorem bytesR_no (D : List Int) (k : Int) {s : RS} (h : s.c ≠ 0) : bytesR D k s = ([], s) := by unfold bytesR; rw [if_pos h]
theorem expectR_no (D B : List Int) (code : Int) {s : RS} (h : s.c ≠ 0) : expectR D B code s = (false, s) := by unfold expectR; rw [if_pos h]

/-- One command; some; what stands ahead of them; the end. -/
def stepR (D : List Int) (q : List Core7 × RS) : List Core7 × RS :=
  if (uintR D 1 q.2).1 = 1 then
    (q.1 ++ [(1, (lengthR D (uintR D 1 q.2).2).1, (lengthR D (lengthR D (uintR D 1 q.2).2).2).1, (lengthR D (lengthR D (lengthR D (uintR D 1 q.2).2).2).2).1, [])], (lengthR D (lengthR D (lengthR D (uintR D 1 q.2).2).2).2).2)
  else if (uintR D 1 q.2).1 = 2 then
    (q.1 ++ [(2, (lengthR D (uintR D 1 q.2).2).1, 0, 0, (bytesR D (lengthR D (lengthR D (uintR D 1 q.2).2).2).1 (lengthR D (lengthR D (uintR D 1 q.2).2).2).2).1)], (bytesR D (lengthR D (lengthR D (uintR D 1 q.2).2).2).1 (lengthR D (lengthR D (uintR D 1 q.2).2).2).2).2)
  else (q.1, (uintR D 1 q.2).2.fail 11 q.2.n)
def itR (D : List Int) (q : List Core7 × RS) : Nat → List Core7 × RS
  | 0 => q
  | k + 1 => stepR D (itR D q k)
structure Head7 where
  o : Int
  n : Int
  x : List Int
  y : List Int
  N : Nat
  s : RS
def headR (D : List Int) (s : RS) : Head7 :=
  ⟨(lengthR D s).1, (lengthR D (lengthR D s).2).1, (bytesR D 32 (lengthR D (lengthR D s).2).2).1, (bytesR D 32 (bytesR D 32 (lengthR D (lengthR D s).2).2).2).1, (uintR D 4 (bytesR D 32 (bytesR D 32 (lengthR D (lengthR D s).2).2).2).2).1.toNat, (uintR D 4 (bytesR D 32 (bytesR D 32 (lengthR D (lengthR D s).2).2).2).2).2⟩
def s1P (D : List Int) : RS := (expectR D [71, 82, 70, 84] 9 ⟨0, 0, 0⟩).2
def s2P (D : List Int) : RS := (expectR D [1] 10 (s1P D)).2
def cmdsR (D : List Int) (s : RS) : List Core7 × RS := itR D ([], (headR D s).s) (headR D s).N
def finR (D : List Int) (s : RS) : RS := if s.n < D.length then s.fail 12 s.n else s
/-- The end of it all: the code and the place of the fault. -/
def endR (D : List Int) : RS := finR D (cmdsR D (s2P D)).2

theorem stepR_no (D : List Int) (l : List Core7) {s : RS} (h : s.c ≠ 0) : stepR D (l, s) = (l, s) := by
  unfold stepR
  simp only [uintR_no D 1 h, fail_no7 _ _ h]
  rw [if_neg (by omega), if_neg (by omega)]
theorem itR_no (D : List Int) (l : List Core7) {s : RS} (h : s.c ≠ 0) (k : Nat) : itR D (l, s) k = (l, s) := by
  induction k with
  | zero => rfl
  | succ k ih => rw [itR, ih, stepR_no D l h]
theorem headR_no (D : List Int) {s : RS} (h : s.c ≠ 0) : (headR D s).s = s := by unfold headR; simp only [lengthR_no D h, bytesR_no D 32 h, uintR_no D 4 h]
theorem cmdsR_no (D : List Int) {s : RS} (h : s.c ≠ 0) : cmdsR D s = ([], s) := by unfold cmdsR; rw [headR_no D h, itR_no D [] h]
theorem finR_no (D : List Int) {s : RS} (h : s.c ≠ 0) : finR D s = s := by
  unfold finR
  split
  · exact fail_no7 _ _ h
  · rfl

/-- What it means that an operation has left no fault. -/
theorem fail_zero {c p : Int} {s : RS} (hc : c ≠ 0) : (s.fail c p).c ≠ 0 := by
  unfold RS.fail
  split
  · exact hc
  · rename_i h
    intro h0
    exact h ⟨h0, hc⟩
theorem uintR_inv {D : List Int} {k : Nat} {s : RS} (h : (uintR D k s).2.c = 0) : s.c = 0 ∧ (1 ≤ k ∧ k ≤ 8) ∧ s.n + k ≤ D.length ∧ uintR D k s = (beval ((D.drop s.n).take k), ⟨s.n + k, 0, s.p⟩) := by
  unfold uintR at h ⊢
  by_cases h0 : s.c ≠ 0
  · rw [if_pos h0] at h; exact absurd h h0
  · rw [if_neg h0] at h ⊢
    by_cases h1 : ¬ (1 ≤ (k : Int) ∧ (k : Int) ≤ 8)
    · rw [if_pos h1] at h; simp at h
    · rw [if_neg h1] at h ⊢
      by_cases h2 : (D.length : Int) - s.n < k
      · rw [if_pos h2] at h; simp at h
      · rw [if_neg h2]
        exact ⟨by omega, by omega, by omega, by simp⟩
theorem lengthR_inv {D : List Int} {s : RS} (h : (lengthR D s).2.c = 0) : s.c = 0 ∧ s.n + 8 ≤ D.length ∧ beval ((D.drop s.n).take 8) ≤ 4611686018427387903 ∧ lengthR D s = (beval ((D.drop s.n).take 8), ⟨s.n + 8, 0, s.p⟩) := by
  unfold lengthR at h ⊢
  by_cases h1 : 4611686018427387903 < (uintR D 8 s).1
  · rw [if_pos h1] at h; exact absurd h (fail_zero (by omega))
  · rw [if_neg h1] at h ⊢
    obtain ⟨h2, _, h3, h4⟩ := uintR_inv (k := 8) h
    have h4' : uintR D 8 s = (beval ((D.drop s.n).take 8), ⟨s.n + 8, 0, s.p⟩) := h4
    rw [h4'] at h1 ⊢
    exact ⟨h2, h3, by simp only at h1; omega, rfl⟩
theorem bytesR_inv {D : List Int} {k : Int} {s : RS} (h : (bytesR D k s).2.c = 0) : s.c = 0 ∧ 0 ≤ k ∧ s.n + k.toNat ≤ D.length ∧ bytesR D k s = ((D.drop s.n).take k.toNat, ⟨s.n + k.toNat, 0, s.p⟩) := by
  unfold bytesR at h ⊢
  by_cases h0 : s.c ≠ 0
  · rw [if_pos h0] at h; exact absurd h h0
  · rw [if_neg h0] at h ⊢
    by_cases h1 : k < 0
    · rw [if_pos h1] at h; simp at h
    · rw [if_neg h1] at h ⊢
      by_cases h2 : (D.length : Int) - s.n < k
      · rw [if_pos h2] at h; simp at h
      · rw [if_neg h2]
        exact ⟨by omega, by omega, by omega, rfl⟩
theorem expectR_inv {D B : List Int} {code : Int} {s : RS} (hcode : code ≠ 0) (hn : s.n ≤ D.length) (h : (expectR D B code s).2.c = 0) : s.c = 0 ∧ s.n + B.length ≤ D.length ∧ (D.drop s.n).take B.length = B ∧ expectR D B code s = (true, ⟨s.n + B.length, 0, s.p⟩) := by
  unfold expectR at h ⊢
  by_cases h0 : s.c ≠ 0
  · rw [if_pos h0] at h; exact absurd h h0
  · rw [if_neg h0] at h ⊢
    by_cases h1 : (D.drop s.n).take (min B.length (D.length - s.n)) ≠ B.take (min B.length (D.length - s.n))
    · rw [if_pos h1] at h; exact absurd h (fail_zero hcode)
    · rw [if_neg h1] at h ⊢
      by_cases h2 : D.length - s.n < B.length
      · rw [if_pos h2] at h; simp at h
      · rw [if_neg h2]
        rw [show min B.length (D.length - s.n) = B.length by omega, List.take_of_length_le (Nat.le_refl B.length)] at h1
        exact ⟨by omega, by omega, by simpa using h1, rfl⟩
theorem bytesR_neg (D : List Int) (s : RS) : (bytesR D (lengthR D s).1 (lengthR D s).2) = (bytesR D (lengthR D s).1 (lengthR D s).2) := rfl

/-- What lies ahead is read. -/
theorem uintR_yes {D a r : List Int} {n k : Nat} (hk : 1 ≤ k ∧ k ≤ 8) (h : D.drop n = a ++ r) (ha : a.length = k) : uintR D k ⟨n, 0, 0⟩ = (beval a, ⟨n + k, 0, 0⟩) := by
  have hl := congrArg List.length h
  rw [List.length_drop, List.length_append] at hl
  unfold uintR
  rw [if_neg (by simp), if_neg (by simp; omega), if_neg (by simp only; omega)]
  simp only [Int.toNat_natCast, h]
  rw [List.take_append_of_le_length (by omega), List.take_of_length_le (by omega)]
theorem lengthR_yes {D r : List Int} {n : Nat} {v : Int} (hv : inB v = true) (h : D.drop n = enc1 v 8 ++ r) : lengthR D ⟨n, 0, 0⟩ = (v, ⟨n + 8, 0, 0⟩) := by
  have hv' := inB_iff.1 hv
  have hu := uintR_yes (k := 8) (by omega) h (digs_length v 8 8)
  rw [beval_enc v 8 (by omega) ⟨hv'.1, by rw [pow_8]; omega⟩] at hu
  have hu' : uintR D 8 ⟨n, 0, 0⟩ = (v, ⟨n + 8, 0, 0⟩) := hu
  unfold lengthR
  rw [hu', if_neg (by simp only; omega)]
theorem bytesR_yes {D a r : List Int} {n : Nat} (hn : n ≤ D.length) (h : D.drop n = a ++ r) : bytesR D a.length ⟨n, 0, 0⟩ = (a, ⟨n + a.length, 0, 0⟩) := by
  have hl := congrArg List.length h
  rw [List.length_drop, List.length_append] at hl
  unfold bytesR
  rw [if_neg (by simp), if_neg (by omega), if_neg (by simp only; omega)]
  simp only [Int.toNat_natCast, h]
  rw [List.take_append_of_le_length (by omega), List.take_of_length_le (by omega)]
theorem expectR_yes {D B r : List Int} {n : Nat} {code : Int} (hn : n ≤ D.length) (h : D.drop n = B ++ r) : expectR D B code ⟨n, 0, 0⟩ = (true, ⟨n + B.length, 0, 0⟩) := by
  have hl := congrArg List.length h
  rw [List.length_drop, List.length_append] at hl
  unfold expectR
  rw [if_neg (by simp)]
  simp only
  rw [show min B.length (D.length - n) = B.length by omega, h, List.take_append_of_le_length (by omega), if_neg (by simp), if_neg (by omega)]
theorem drop_more {D a r : List Int} {n : Nat} (h : D.drop n = a ++ r) : D.drop (n + a.length) = r := by rw [← List.drop_drop, h, List.drop_left]
theorem beval_one (x : Int) (h : 0 ≤ x ∧ x < 256) : beval [x] = x := by
  have := beval_more [] x (by decide) (by decide) h
  have h0 : beval [] = 0 := rfl
  rw [h0] at this
  simpa using this
theorem encK_copy {c : Core7} (h : c.1 = 1) : encK c = [1] ++ (enc1 c.2.1 8 ++ (enc1 c.2.2.1 8 ++ enc1 c.2.2.2.1 8)) := by unfold encK; rw [if_pos h]
theorem encK_lit {c : Core7} (h : c.1 = 2) : encK c = [2] ++ (enc1 c.2.1 8 ++ (enc1 c.2.2.2.2.length 8 ++ c.2.2.2.2)) := by unfold encK; rw [if_neg (by omega)]
theorem stepR_yes {D r : List Int} {n : Nat} {c : Core7} (hk : kindB c = true) (hg : goodB c = true) (hl : c.2.2.2.2.length ≤ 4611686018427387903) (h : D.drop n = encK c ++ r) (l : List Core7) : stepR D (l, ⟨n, 0, 0⟩) = (l ++ [c], ⟨n + (encK c).length, 0, 0⟩) := by
  obtain ⟨k, t, f, m, b⟩ := c
  unfold goodB at hg
  unfold kindB at hk
  simp only [Bool.and_eq_true, Bool.or_eq_true, beq_iff_eq] at hg hk hl
  obtain ⟨⟨⟨ht, hf⟩, hm⟩, hx⟩ := hg
  have len8 : ∀ v, (enc1 v 8).length = 8 := fun v => digs_length v 8 8
  rcases hk with rfl | rfl
  · rw [if_pos rfl] at hx
    obtain rfl : b = [] := by simpa using hx
    have e : encK (1, t, f, m, []) = [1] ++ (enc1 t 8 ++ (enc1 f 8 ++ enc1 m 8)) := rfl
    rw [e, List.append_assoc, List.append_assoc, List.append_assoc] at h
    have h1 := drop_more h
    have h2 := drop_more h1
    have h3 := drop_more h2
    have u0 : uintR D 1 ⟨n, 0, 0⟩ = (1, ⟨n + 1, 0, 0⟩) := uintR_yes (k := 1) (by omega) h rfl
    have a1 := lengthR_yes ht h1
    rw [len8] at h2 h3
    have a2 := lengthR_yes hf h2
    rw [len8] at h3
    have a3 := lengthR_yes hm h3
    unfold stepR
    simp only [List.length_cons, List.length_nil, Nat.zero_add] at a1 a2 a3
    simp only [u0, a1, a2, a3, if_true]
    rw [e]
    simp only [List.length_append, len8, List.length_cons, List.length_nil]
  · rw [if_neg (by omega)] at hx
    simp only [Bool.and_eq_true, beq_iff_eq] at hx
    obtain ⟨rfl, rfl⟩ := hx
    have e : encK (2, t, 0, 0, b) = [2] ++ (enc1 t 8 ++ (enc1 b.length 8 ++ b)) := rfl
    rw [e, List.append_assoc, List.append_assoc, List.append_assoc] at h
    have h1 := drop_more h
    have h2 := drop_more h1
    have h3 := drop_more h2
    have u0 : uintR D 1 ⟨n, 0, 0⟩ = (2, ⟨n + 1, 0, 0⟩) := uintR_yes (k := 1) (by omega) h rfl
    have a1 := lengthR_yes ht h1
    rw [len8] at h2 h3
    have a2 := lengthR_yes (v := b.length) (inB_iff.2 ⟨by omega, by omega⟩) h2
    rw [len8] at h3
    have hn : n + 1 + 8 + 8 ≤ D.length := by
      have h9 := congrArg List.length h
      rw [List.length_drop] at h9
      simp only [List.length_append, len8, List.length_cons, List.length_nil] at h9
      omega
    have a3 := bytesR_yes hn h3
    unfold stepR
    simp only [List.length_cons, List.length_nil, Nat.zero_add] at a1 a2 a3
    simp only [u0, a1, a2, a3, if_true]
    rw [if_neg (by omega), e]
    simp only [List.length_append, len8, List.length_cons, List.length_nil]
    congr 2
    omega
theorem itR_front (D : List Int) (q : List Core7 × RS) (k : Nat) : itR D q (k + 1) = itR D (stepR D q) k := by
  induction k with
  | zero => rfl
  | succ k ih => rw [itR, ih, itR]
theorem itR_yes {D r : List Int} : ∀ (cs : List Core7) (n : Nat) (l : List Core7), (∀ c ∈ cs, kindB c = true ∧ goodB c = true ∧ c.2.2.2.2.length ≤ 4611686018427387903) → D.drop n = cs.flatMap encK ++ r → itR D (l, ⟨n, 0, 0⟩) cs.length = (l ++ cs, ⟨n + (cs.flatMap encK).length, 0, 0⟩) := by
  intro cs
  induction cs with
  | nil => intro n l _ _; simp [itR]
  | cons c cs ih =>
    intro n l hall h
    rw [List.flatMap_cons, List.append_assoc] at h
    obtain ⟨h1, h2, h3⟩ := hall c List.mem_cons_self
    rw [List.length_cons, itR_front, stepR_yes h1 h2 h3 h l, ih _ _ (fun d hd => hall d (List.mem_cons_of_mem _ hd)) (drop_more h)]
    rw [List.flatMap_cons, List.length_append, List.append_assoc]
    simp [Nat.add_assoc]
/-- An encoding is read, whatever follows. -/
theorem dec_enc {o n : Int} {x y : List Int} {cs : List Core7} {D m : List Int} (hx : x.length = 32) (hy : y.length = 32) (hw : wrongOf o n cs = 0) (hl : ∀ c ∈ cs, c.2.2.2.2.length ≤ 4611686018427387903) (hN : cs.length < 4294967296) (hD : D = encAll o n x y cs ++ m) :
    headR D (s2P D) = ⟨o, n, x, y, cs.length, ⟨89, 0, 0⟩⟩ ∧ cmdsR D (s2P D) = (cs, ⟨(encAll o n x y cs).length, 0, 0⟩) := by
  obtain ⟨ho, hn, hcs⟩ := wrong_zero.1 hw
  have len8 : ∀ v, (enc1 v 8).length = 8 := fun v => digs_length v 8 8
  have len4 : ∀ v, (enc1 v 4).length = 4 := fun v => digs_length v 4 4
  have h0 : D.drop 0 = [71, 82, 70, 84] ++ ([1] ++ (enc1 o 8 ++ (enc1 n 8 ++ (x ++ (y ++ (enc1 cs.length 4 ++ (cs.flatMap encK ++ m))))))) := by
    rw [List.drop_zero, hD]
    unfold encAll encH
    simp only [List.append_assoc]
  have hlen : D.length = 89 + (cs.flatMap encK).length + m.length := by
    rw [hD]
    unfold encAll encH
    simp only [List.length_append, len8, len4, hx, hy, List.length_cons, List.length_nil]
    try omega
  have h1 := drop_more h0
  have h2 := drop_more h1
  have h3 := drop_more h2
  have h4 := drop_more h3
  have h5 := drop_more h4
  have h6 := drop_more h5
  have h7 := drop_more h6
  simp only [len8, len4, hx, hy, List.length_cons, List.length_nil, Nat.zero_add, Nat.reduceAdd] at h1 h2 h3 h4 h5 h6 h7
  have e1 : s1P D = ⟨4, 0, 0⟩ := by unfold s1P; rw [expectR_yes (by omega) h0]; rfl
  have e2 : s2P D = ⟨5, 0, 0⟩ := by unfold s2P; rw [e1, expectR_yes (by omega) h1]; rfl
  have e3 := lengthR_yes ho h2
  have e4 := lengthR_yes hn h3
  have e5 := bytesR_yes (by omega) h4
  have e6 := bytesR_yes (by omega) h5
  have e7 := uintR_yes (k := 4) (by omega) h6 (len4 _)
  rw [hx] at e5
  rw [hy] at e6
  rw [beval_enc _ 4 (by omega) ⟨by omega, by rw [pow_4]; omega⟩] at e7
  simp only [Nat.reduceAdd] at e3 e4 e5 e6 e7
  have e5' : bytesR D 32 ⟨21, 0, 0⟩ = (x, ⟨53, 0, 0⟩) := e5
  have e6' : bytesR D 32 ⟨53, 0, 0⟩ = (y, ⟨85, 0, 0⟩) := e6
  have e7' : uintR D 4 ⟨85, 0, 0⟩ = ((cs.length : Int), ⟨89, 0, 0⟩) := e7
  have hh : headR D (s2P D) = ⟨o, n, x, y, cs.length, ⟨89, 0, 0⟩⟩ := by
    unfold headR
    simp only [e2, e3, e4, e5', e6', e7', Int.toNat_natCast]
  refine ⟨hh, ?_⟩
  unfold cmdsR
  rw [hh]
  have := itR_yes (r := m) cs 89 [] (fun c hc => ⟨(hcs c hc).1, (hcs c hc).2, hl c hc⟩) h7
  simp only at this ⊢
  rw [this, List.nil_append]
  unfold encAll encH
  simp only [List.length_append, len8, len4, hx, hy, List.length_cons, List.length_nil, Nat.reduceAdd]
theorem end_enc {o n : Int} {x y : List Int} {cs : List Core7} {D m : List Int} (hx : x.length = 32) (hy : y.length = 32) (hw : wrongOf o n cs = 0) (hl : ∀ c ∈ cs, c.2.2.2.2.length ≤ 4611686018427387903) (hN : cs.length < 4294967296) (hD : D = encAll o n x y cs ++ m) :
    endR D = if m = [] then ⟨(encAll o n x y cs).length, 0, 0⟩ else ⟨(encAll o n x y cs).length, 12, (encAll o n x y cs).length⟩ := by
  unfold endR
  rw [(dec_enc hx hy hw hl hN hD).2]
  unfold finR
  simp only
  by_cases hm : m = []
  · rw [if_neg (by rw [hD, hm]; simp), if_pos hm]
  · have : 0 < m.length := List.length_pos_iff.2 hm
    rw [if_pos (by rw [hD, List.length_append]; omega), if_neg hm]
    unfold RS.fail
    rw [if_pos ⟨rfl, by omega⟩]

/-- No operation goes back. -/
theorem uintR_le (D : List Int) (k : Int) (s : RS) : s.n ≤ (uintR D k s).2.n := by
  unfold uintR
  split
  · exact Nat.le_refl _
  · split
    · exact Nat.le_refl _
    · split <;> simp
theorem lengthR_le (D : List Int) (s : RS) : s.n ≤ (lengthR D s).2.n := by
  unfold lengthR
  split
  · rw [RS.fail_n]; exact uintR_le D 8 s
  · exact uintR_le D 8 s
theorem bytesR_le (D : List Int) (k : Int) (s : RS) : s.n ≤ (bytesR D k s).2.n := by
  unfold bytesR
  split
  · exact Nat.le_refl _
  · split
    · exact Nat.le_refl _
    · split <;> simp
theorem stepR_le (D : List Int) (q : List Core7 × RS) : q.2.n ≤ (stepR D q).2.n := by
  have h1 := uintR_le D 1 q.2
  have h2 := lengthR_le D (uintR D 1 q.2).2
  have h3 := lengthR_le D (lengthR D (uintR D 1 q.2).2).2
  have h4 := lengthR_le D (lengthR D (lengthR D (uintR D 1 q.2).2).2).2
  have h5 := bytesR_le D (lengthR D (lengthR D (uintR D 1 q.2).2).2).1 (lengthR D (lengthR D (uintR D 1 q.2).2).2).2
  unfold stepR
  split
  · simp only; omega
  · split
    · simp only; omega
    · simp only [RS.fail_n]; exact h1
theorem itR_le (D : List Int) (q : List Core7 × RS) (k : Nat) : q.2.n ≤ (itR D q k).2.n := by
  induction k with
  | zero => exact Nat.le_refl _
  | succ k ih => exact Nat.le_trans ih (stepR_le D _)

/-- Two states of readers: of bytes, and of their first m. -/
def CutR (m : Nat) (s t : RS) : Prop := (t = s ∧ s.n ≤ m) ∨ (t.c = 8 ∧ t.p = m ∧ m < s.n)
theorem CutR.bad {m : Nat} {s t s' : RS} (h : CutR m s t) (ht : t.c ≠ 0) (hs : s.c = 0) (hle : s.n ≤ s'.n) : CutR m s' t := by
  rcases h with ⟨rfl, _⟩ | ⟨h1, h2, h3⟩
  · exact absurd hs ht
  · exact .inr ⟨h1, h2, by omega⟩
theorem cut_slice (E : List Int) (m n k : Nat) (h : n + k ≤ m) : ((E.take m).drop n).take k = (E.drop n).take k := by
  rw [List.drop_take, List.take_take, Nat.min_eq_left (by omega)]
theorem uintR_cut {E : List Int} {m k : Nat} {s t : RS} (hm : m ≤ E.length) (h : CutR m s t) (hs : (uintR E k s).2.c = 0) : CutR m (uintR E k s).2 (uintR (E.take m) k t).2 ∧ ((uintR (E.take m) k t).2.c = 0 → (uintR (E.take m) k t).1 = (uintR E k s).1) ∧ ((uintR (E.take m) k t).2.c ≠ 0 → (uintR (E.take m) k t).1 = 0) := by
  obtain ⟨h0, hk, h1, h2⟩ := uintR_inv hs
  have hlen : (E.take m).length = m := by rw [List.length_take]; omega
  rcases h with ⟨rfl, hn⟩ | ⟨hc, hp, hn⟩
  · by_cases hle : t.n + k ≤ m
    · have e : uintR (E.take m) k t = uintR E k t := by
        rw [h2]
        unfold uintR
        rw [if_neg (by omega), if_neg (by omega), if_neg (by rw [hlen]; omega), Int.toNat_natCast, cut_slice E m _ k hle]
      rw [e]
      exact ⟨.inl ⟨rfl, by rw [h2]; exact hle⟩, fun _ => rfl, fun h => absurd hs h⟩
    · have e : uintR (E.take m) k t = (0, ⟨t.n, 8, m⟩) := by
        unfold uintR
        rw [if_neg (by omega), if_neg (by omega), if_pos (by rw [hlen]; omega), hlen]
      rw [e, h2]
      exact ⟨.inr ⟨rfl, rfl, by simp only; omega⟩, fun h => by simp at h, fun _ => rfl⟩
  · have ht : t.c ≠ 0 := by omega
    rw [uintR_no _ _ ht, h2]
    exact ⟨.inr ⟨hc, hp, by simp only; omega⟩, fun h => absurd h ht, fun _ => rfl⟩
theorem lengthR_cut {E : List Int} {m : Nat} {s t : RS} (hm : m ≤ E.length) (h : CutR m s t) (hs : (lengthR E s).2.c = 0) : CutR m (lengthR E s).2 (lengthR (E.take m) t).2 ∧ ((lengthR (E.take m) t).2.c = 0 → (lengthR (E.take m) t).1 = (lengthR E s).1) := by
  obtain ⟨h0, h1, h3, h2⟩ := lengthR_inv hs
  have hsu : ¬ 4611686018427387903 < (uintR E 8 s).1 := fun hlt => by
    unfold lengthR at hs
    rw [if_pos hlt] at hs
    exact fail_zero (by omega) hs
  have e1 : lengthR E s = uintR E 8 s := by unfold lengthR; rw [if_neg hsu]
  rw [e1] at hs ⊢
  obtain ⟨c1, c2, c3⟩ := uintR_cut (k := 8) hm h hs
  have e2 : lengthR (E.take m) t = uintR (E.take m) 8 t := by
    unfold lengthR
    rw [if_neg]
    by_cases hc : (uintR (E.take m) 8 t).2.c = 0
    · have := c2 hc
      have e : (uintR (E.take m) 8 t).1 = (uintR E 8 s).1 := this
      rw [e]; exact hsu
    · have e : (uintR (E.take m) 8 t).1 = 0 := c3 hc
      rw [e]; omega
  rw [e2]
  exact ⟨c1, c2⟩
theorem bytesR_cut {E : List Int} {m : Nat} {k k' : Int} {s t : RS} (hm : m ≤ E.length) (h : CutR m s t) (hkk : t.c = 0 → k' = k) (hs : (bytesR E k s).2.c = 0) : CutR m (bytesR E k s).2 (bytesR (E.take m) k' t).2 := by
  obtain ⟨h0, hk, h1, h2⟩ := bytesR_inv hs
  have hlen : (E.take m).length = m := by rw [List.length_take]; omega
  rcases h with ⟨rfl, hn⟩ | ⟨hc, hp, hn⟩
  · rw [hkk h0, h2]
    by_cases hle : t.n + k.toNat ≤ m
    · unfold bytesR
      rw [if_neg (by omega), if_neg (by omega), if_neg (by rw [hlen]; omega)]
      exact .inl ⟨rfl, hle⟩
    · unfold bytesR
      rw [if_neg (by omega), if_neg (by omega), if_pos (by rw [hlen]; omega), hlen]
      exact .inr ⟨rfl, rfl, by simp only; omega⟩
  · have ht : t.c ≠ 0 := by omega
    rw [bytesR_no _ _ ht, h2]
    exact .inr ⟨hc, hp, by simp only; omega⟩
theorem expectR_cut {E B : List Int} {m : Nat} {code : Int} {s t : RS} (hcode : code ≠ 0) (hm : m ≤ E.length) (hsn : s.n ≤ E.length) (h : CutR m s t) (hs : (expectR E B code s).2.c = 0) : CutR m (expectR E B code s).2 (expectR (E.take m) B code t).2 := by
  obtain ⟨h0, h1, h3, h2⟩ := expectR_inv hcode hsn hs
  have hlen : (E.take m).length = m := by rw [List.length_take]; omega
  rcases h with ⟨rfl, hn⟩ | ⟨hc, hp, hn⟩
  · rw [h2]
    have he : ((E.take m).drop t.n).take (min B.length (m - t.n)) = B.take (min B.length (m - t.n)) := by
      rw [cut_slice E m _ _ (by omega)]
      have hb : B.take (min B.length (m - t.n)) = ((E.drop t.n).take B.length).take (min B.length (m - t.n)) := by rw [h3]
      rw [hb, List.take_take, show min (min B.length (m - t.n)) B.length = min B.length (m - t.n) by omega]
    unfold expectR
    rw [hlen, if_neg (by omega), if_neg (by simpa using he)]
    by_cases hle : t.n + B.length ≤ m
    · rw [if_neg (by omega)]
      exact .inl ⟨rfl, hle⟩
    · rw [if_pos (by omega)]
      exact .inr ⟨rfl, rfl, by simp only; omega⟩
  · have ht : t.c ≠ 0 := by omega
    rw [expectR_no _ _ _ ht, h2]
    exact .inr ⟨hc, hp, by simp only; omega⟩
theorem stepR_cut {E : List Int} {m : Nat} {l l' : List Core7} {s t : RS} (hm : m ≤ E.length) (h : CutR m s t) (hs : (stepR E (l, s)).2.c = 0) (hsc : s.c = 0) : CutR m (stepR E (l, s)).2 (stepR (E.take m) (l', t)).2 := by
  by_cases ht : t.c = 0
  · have hle := stepR_le E (l, s)
    obtain ⟨u, hu⟩ : ∃ u, u = uintR E 1 s := ⟨_, rfl⟩
    unfold stepR at hs hle ⊢
    simp only at hs hle ⊢
    by_cases k1 : (uintR E 1 s).1 = 1
    · rw [if_pos k1] at hs hle ⊢
      have s4 := (lengthR_inv hs).1
      have s3 := (lengthR_inv s4).1
      have s2 := (lengthR_inv s3).1
      obtain ⟨c1, v1, z1⟩ := uintR_cut (k := 1) hm h s2
      by_cases hc : (uintR (E.take m) 1 t).2.c = 0
      · have e : (uintR (E.take m) 1 t).1 = (uintR E 1 s).1 := v1 hc
        rw [if_pos (e.trans k1)]
        exact (lengthR_cut hm (lengthR_cut hm (lengthR_cut hm c1 s3).1 s4).1 hs).1
      · have e : (uintR (E.take m) 1 t).1 = 0 := z1 hc
        rw [if_neg (by rw [e]; omega), if_neg (by rw [e]; omega)]
        have e3 : ((uintR (E.take m) 1 t).2.fail 11 t.n) = (uintR (E.take m) 1 t).2 := fail_no7 _ _ hc
        rw [e3]
        have a1 := lengthR_le E (uintR E 1 s).2
        have a2 := lengthR_le E (lengthR E (uintR E 1 s).2).2
        have a3 := lengthR_le E (lengthR E (lengthR E (uintR E 1 s).2).2).2
        exact CutR.bad c1 hc s2 (Nat.le_trans a1 (Nat.le_trans a2 a3))
    · rw [if_neg k1] at hs hle ⊢
      by_cases k2 : (uintR E 1 s).1 = 2
      · rw [if_pos k2] at hs hle ⊢
        have s4 := (bytesR_inv hs).1
        have s3 := (lengthR_inv s4).1
        have s2 := (lengthR_inv s3).1
        obtain ⟨c1, v1, z1⟩ := uintR_cut (k := 1) hm h s2
        by_cases hc : (uintR (E.take m) 1 t).2.c = 0
        · have e : (uintR (E.take m) 1 t).1 = (uintR E 1 s).1 := v1 hc
          rw [if_neg (by rw [e]; exact k1), if_pos (e.trans k2)]
          obtain ⟨d1, d2⟩ := lengthR_cut hm (lengthR_cut hm c1 s3).1 s4
          exact bytesR_cut hm d1 d2 hs
        · have e : (uintR (E.take m) 1 t).1 = 0 := z1 hc
          rw [if_neg (by rw [e]; omega), if_neg (by rw [e]; omega)]
          have e3 : ((uintR (E.take m) 1 t).2.fail 11 t.n) = (uintR (E.take m) 1 t).2 := fail_no7 _ _ hc
          rw [e3]
          have a1 := lengthR_le E (uintR E 1 s).2
          have a2 := lengthR_le E (lengthR E (uintR E 1 s).2).2
          have a3 := bytesR_le E (lengthR E (lengthR E (uintR E 1 s).2).2).1 (lengthR E (lengthR E (uintR E 1 s).2).2).2
          exact CutR.bad c1 hc s2 (Nat.le_trans a1 (Nat.le_trans a2 a3))
      · rw [if_neg k2] at hs
        exact absurd hs (fail_zero (by omega))
  · rw [stepR_no _ _ ht]
    exact CutR.bad h ht hsc (stepR_le E (l, s))
theorem stepR_inv0 {D : List Int} {q : List Core7 × RS} (h : (stepR D q).2.c = 0) : q.2.c = 0 := by
  by_cases hc : q.2.c = 0
  · exact hc
  · have : stepR D q = q := stepR_no D q.1 hc
    rw [this] at h
    exact h
theorem itR_cut {E : List Int} {m : Nat} {l l' : List Core7} {s t : RS} (hm : m ≤ E.length) (h : CutR m s t) : ∀ k, (itR E (l, s) k).2.c = 0 → CutR m (itR E (l, s) k).2 (itR (E.take m) (l', t) k).2 := by
  intro k
  induction k with
  | zero => intro _; exact h
  | succ k ih =>
    intro hs
    have h0 := stepR_inv0 hs
    exact stepR_cut hm (ih h0) hs h0
/-- A proper beginning of an encoding is too short. -/
theorem end_cut {o n : Int} {x y : List Int} {cs : List Core7} {m : Nat} (hx : x.length = 32) (hy : y.length = 32) (hw : wrongOf o n cs = 0) (hl : ∀ c ∈ cs, c.2.2.2.2.length ≤ 4611686018427387903) (hN : cs.length < 4294967296) (hm : m < (encAll o n x y cs).length) :
    (endR ((encAll o n x y cs).take m)).c = 8 ∧ (endR ((encAll o n x y cs).take m)).p = m := by
  obtain ⟨E, hE⟩ : ∃ E, E = encAll o n x y cs := ⟨_, rfl⟩
  obtain ⟨d1, d2⟩ := dec_enc (D := E) (m := []) hx hy hw hl hN (by rw [hE, List.append_nil])
  rw [← hE] at hm d2 ⊢
  have hmE : m ≤ E.length := by omega
  have c0 : CutR m ⟨0, 0, 0⟩ ⟨0, 0, 0⟩ := .inl ⟨rfl, Nat.zero_le _⟩
  have hz : (headR E (s2P E)).s.c = 0 := by rw [d1]
  unfold headR at hz
  simp only at hz
  obtain ⟨z6, _⟩ := uintR_inv (k := 4) hz
  obtain ⟨z5, _⟩ := bytesR_inv z6
  obtain ⟨z4, _⟩ := bytesR_inv z5
  obtain ⟨z3, _⟩ := lengthR_inv z4
  obtain ⟨z2, _⟩ := lengthR_inv z3
  have z2' : (expectR E [1] 10 (s1P E)).2.c = 0 := z2
  have z1 : (s1P E).c = 0 := by
    by_cases hc : (s1P E).c = 0
    · exact hc
    · rw [expectR_no _ _ _ hc] at z2'; exact z2'
  have e0 := expectR_inv (s := ⟨0, 0, 0⟩) (code := 9) (B := [71, 82, 70, 84]) (by omega) (Nat.zero_le _) z1
  have n1 : (s1P E).n ≤ E.length := by
    have : (s1P E) = ⟨0 + 4, 0, 0⟩ := by unfold s1P; rw [e0.2.2.2]; rfl
    rw [this]
    exact e0.2.1
  have c1 : CutR m (s1P E) (s1P (E.take m)) := expectR_cut (by omega) hmE (Nat.zero_le _) c0 z1
  have c2 : CutR m (s2P E) (s2P (E.take m)) := expectR_cut (by omega) hmE n1 c1 z2'
  have c3 := (lengthR_cut hmE c2 z3).1
  have c4 := (lengthR_cut hmE c3 z4).1
  have c5 := bytesR_cut (k := 32) (k' := 32) hmE c4 (fun _ => rfl) z5
  have c6 := bytesR_cut (k := 32) (k' := 32) hmE c5 (fun _ => rfl) z6
  obtain ⟨c7, v7, z7⟩ := uintR_cut (k := 4) hmE c6 hz
  have hfin : (cmdsR E (s2P E)).2.c = 0 := by rw [d2]
  have hlast : CutR m (cmdsR E (s2P E)).2 (cmdsR (E.take m) (s2P (E.take m))).2 := by
    by_cases hc : (headR (E.take m) (s2P (E.take m))).s.c = 0
    · have hNN : (headR (E.take m) (s2P (E.take m))).N = (headR E (s2P E)).N := congrArg Int.toNat (v7 hc)
      unfold cmdsR
      rw [hNN]
      exact itR_cut hmE c7 _ hfin
    · have : cmdsR (E.take m) (s2P (E.take m)) = ([], (headR (E.take m) (s2P (E.take m))).s) := by
        unfold cmdsR
        rw [itR_no _ _ hc]
      rw [this]
      exact CutR.bad c7 hc hz (itR_le E ([], (headR E (s2P E)).s) (headR E (s2P E)).N)
  rw [d2] at hlast
  unfold endR
  rcases hlast with ⟨h1, h2⟩ | ⟨h1, h2, _⟩
  · simp only at h2; omega
  · rw [finR_no _ (by rw [h1]; omega)]
    exact ⟨h1, h2⟩

/-- What a reader has read without a fault is the encoding of what it yields. -/
theorem take_more (D : List Int) (n k : Nat) : D.take (n + k) = D.take n ++ (D.drop n).take k := List.take_add
theorem slice_ok {D : List Int} (hD : OkB D) (n k : Nat) : OkB ((D.drop n).take k) := fun x hx => hD x (List.mem_of_mem_drop (List.mem_of_mem_take hx))
theorem slice_len {D : List Int} {n k : Nat} (h : n + k ≤ D.length) : ((D.drop n).take k).length = k := by rw [List.length_take, List.length_drop]; omega
theorem uintR_enc {D : List Int} (hD : OkB D) {k : Nat} {s : RS} (h : (uintR D k s).2.c = 0) : s.c = 0 ∧ D.take (uintR D k s).2.n = D.take s.n ++ enc1 (uintR D k s).1 k ∧ (uintR D k s).2.p = s.p ∧ (uintR D k s).2.n ≤ D.length ∧ 0 ≤ (uintR D k s).1 ∧ (uintR D k s).1 < 256 ^ k := by
  obtain ⟨h0, hk, h1, h2⟩ := uintR_inv h
  obtain ⟨e1, e2, e3⟩ := enc1_beval k ((D.drop s.n).take k) (slice_len h1) hk.2 (slice_ok hD _ _)
  rw [h2]
  exact ⟨h0, by simp only; rw [e1, take_more], rfl, h1, e2, e3⟩
theorem uintR_enc4 {D : List Int} (hD : OkB D) {s : RS} (h : (uintR D 4 s).2.c = 0) : s.c = 0 ∧ D.take (uintR D 4 s).2.n = D.take s.n ++ enc1 (uintR D 4 s).1 4 ∧ (uintR D 4 s).2.p = s.p ∧ (uintR D 4 s).2.n ≤ D.length ∧ 0 ≤ (uintR D 4 s).1 ∧ (uintR D 4 s).1 < 256 ^ 4 := uintR_enc hD (k := 4) h
theorem lengthR_enc {D : List Int} (hD : OkB D) {s : RS} (h : (lengthR D s).2.c = 0) : s.c = 0 ∧ D.take (lengthR D s).2.n = D.take s.n ++ enc1 (lengthR D s).1 8 ∧ (lengthR D s).2.p = s.p ∧ (lengthR D s).2.n ≤ D.length ∧ inB (lengthR D s).1 = true := by
  obtain ⟨h0, h1, h3, h2⟩ := lengthR_inv h
  obtain ⟨e1, e2, e3⟩ := enc1_beval 8 ((D.drop s.n).take 8) (slice_len h1) (by omega) (slice_ok hD _ _)
  rw [h2]
  exact ⟨h0, by simp only; rw [e1, take_more], rfl, h1, inB_iff.2 ⟨e2, h3⟩⟩
theorem bytesR_enc {D : List Int} {k : Int} {s : RS} (h : (bytesR D k s).2.c = 0) : s.c = 0 ∧ D.take (bytesR D k s).2.n = D.take s.n ++ (bytesR D k s).1 ∧ (bytesR D k s).2.p = s.p ∧ (bytesR D k s).2.n ≤ D.length ∧ ((bytesR D k s).1.length : Int) = k := by
  obtain ⟨h0, hk, h1, h2⟩ := bytesR_inv h
  rw [h2]
  exact ⟨h0, by simp only; rw [take_more], rfl, h1, by simp only; rw [slice_len h1]; omega⟩
theorem stepR_enc {D : List Int} (hD : OkB D) {q : List Core7 × RS} (h : (stepR D q).2.c = 0) : ∃ c : Core7, (stepR D q).1 = q.1 ++ [c] ∧ kindB c = true ∧ goodB c = true ∧ D.take (stepR D q).2.n = D.take q.2.n ++ encK c ∧ (stepR D q).2.p = q.2.p ∧ (stepR D q).2.n ≤ D.length ∧ c.2.2.2.2.length ≤ 4611686018427387903 := by
  unfold stepR at h ⊢
  by_cases k1 : (uintR D 1 q.2).1 = 1
  · simp only [if_pos k1] at h ⊢
    obtain ⟨z3, t4, p4, l4, b4⟩ := lengthR_enc hD h
    obtain ⟨z2, t3, p3, l3, b3⟩ := lengthR_enc hD z3
    obtain ⟨z1, t2, p2, l2, b2⟩ := lengthR_enc hD z2
    obtain ⟨z0, t1, p1, l1, -⟩ := uintR_enc hD (k := 1) z1
    refine ⟨_, rfl, rfl, ?_, ?_, ?_, l4, by simp⟩
    · unfold goodB; simp only [b2, b3, b4, if_true, Bool.and_true]; rfl
    · rw [t4, t3, t2]
      have t1' : D.take (uintR D 1 q.2).2.n = D.take q.2.n ++ enc1 (uintR D 1 q.2).1 1 := t1
      rw [t1', k1, encK_copy rfl]
      simp only [List.append_assoc]
      rfl
    · rw [p4, p3, p2]; exact p1
  · simp only [if_neg k1] at h ⊢
    by_cases k2 : (uintR D 1 q.2).1 = 2
    · simp only [if_pos k2] at h ⊢
      obtain ⟨z3, t4, p4, l4, b4⟩ := bytesR_enc h
      obtain ⟨z2, t3, p3, l3, b3⟩ := lengthR_enc hD z3
      obtain ⟨z1, t2, p2, l2, b2⟩ := lengthR_enc hD z2
      obtain ⟨z0, t1, p1, l1, -⟩ := uintR_enc hD (k := 1) z1
      refine ⟨_, rfl, rfl, ?_, ?_, ?_, l4, ?_⟩
      · unfold goodB; simp only [b2]; rfl
      · rw [t4, t3, t2]
        have t1' : D.take (uintR D 1 q.2).2.n = D.take q.2.n ++ enc1 (uintR D 1 q.2).1 1 := t1
        rw [t1', k2, encK_lit rfl]
        simp only [List.append_assoc, b4]
        rfl
      · rw [p4, p3, p2]; exact p1
      · simp only
        have := inB_iff.1 b3
        omega
    · simp only [if_neg k2] at h
      exact absurd h (fail_zero (by omega))
theorem itR_enc {D : List Int} (hD : OkB D) {l : List Core7} {s : RS} (hsn : s.n ≤ D.length) : ∀ k, (itR D (l, s) k).2.c = 0 → ∃ cs : List Core7, (itR D (l, s) k).1 = l ++ cs ∧ cs.length = k ∧ (∀ c ∈ cs, kindB c = true ∧ goodB c = true ∧ c.2.2.2.2.length ≤ 4611686018427387903) ∧ D.take (itR D (l, s) k).2.n = D.take s.n ++ cs.flatMap encK ∧ (itR D (l, s) k).2.p = s.p ∧ (itR D (l, s) k).2.n ≤ D.length ∧ s.c = 0 := by
  intro k
  induction k with
  | zero => intro h; exact ⟨[], by simp [itR], rfl, fun c hc => by simp at hc, by simp [itR], rfl, hsn, h⟩
  | succ k ih =>
    intro h
    obtain ⟨c, h1, h2, h3, h4, h5, h6, h7⟩ := stepR_enc hD (q := itR D (l, s) k) h
    obtain ⟨cs, i1, i2, i3, i4, i5, i6, i7⟩ := ih (stepR_inv0 h)
    refine ⟨cs ++ [c], ?_, by simp [i2], fun d hd => ?_, ?_, ?_, h6, i7⟩
    · rw [itR, h1, i1, List.append_assoc]
    · rcases List.mem_append.1 hd with hd | hd
      · exact i3 d hd
      · obtain rfl := List.mem_singleton.1 hd; exact ⟨h2, h3, h7⟩
    · rw [itR, h4, i4, List.flatMap_append, List.append_assoc]; simp
    · rw [itR, h5, i5]
theorem enc_dec {D : List Int} (hD : OkB D) (h : (endR D).c = 0) : D = encAll (headR D (s2P D)).o (headR D (s2P D)).n (headR D (s2P D)).x (headR D (s2P D)).y (cmdsR D (s2P D)).1 ∧ wrongOf (headR D (s2P D)).o (headR D (s2P D)).n (cmdsR D (s2P D)).1 = 0 ∧ (headR D (s2P D)).x.length = 32 ∧ (headR D (s2P D)).y.length = 32 ∧ (endR D).p = 0 ∧ (∀ c ∈ (cmdsR D (s2P D)).1, c.2.2.2.2.length ≤ 4611686018427387903) := by
  have hc : (cmdsR D (s2P D)).2.c = 0 := by
    by_cases hc : (cmdsR D (s2P D)).2.c = 0
    · exact hc
    · unfold endR at h; rw [finR_no D hc] at h; exact h
  have hnn : ¬ (cmdsR D (s2P D)).2.n < D.length := fun hlt => by
    unfold endR finR at h
    rw [if_pos hlt] at h
    exact fail_zero (by omega) h
  have hend : endR D = (cmdsR D (s2P D)).2 := by unfold endR finR; rw [if_neg hnn]
  have hnb : ∀ s : RS, s.n ≤ D.length → (headR D s).s.c = 0 → (headR D s).s.n ≤ D.length := fun s hs hz => by
    unfold headR at hz ⊢
    exact (uintR_enc hD (k := 4) hz).2.2.2.1
  unfold cmdsR at hc
  have hz : (headR D (s2P D)).s.c = 0 := by
    by_cases hz : (headR D (s2P D)).s.c = 0
    · exact hz
    · rw [itR_no _ _ hz] at hc; exact hc
  have hz0 := hz
  unfold headR at hz
  simp only at hz
  obtain ⟨z6, t7, p7, l7, b7⟩ := uintR_enc4 hD hz
  obtain ⟨z5, t6, p6, l6, b6⟩ := bytesR_enc z6
  obtain ⟨z4, t5, p5, l5, b5⟩ := bytesR_enc z5
  obtain ⟨z3, t4, p4, l4, b4⟩ := lengthR_enc hD z4
  obtain ⟨z2, t3, p3, l3, b3⟩ := lengthR_enc hD z3
  have z2' : (expectR D [1] 10 (s1P D)).2.c = 0 := z2
  have z1 : (s1P D).c = 0 := by
    by_cases hc : (s1P D).c = 0
    · exact hc
    · rw [expectR_no _ _ _ hc] at z2'; exact z2'
  have e0 := expectR_inv (s := ⟨0, 0, 0⟩) (code := 9) (B := [71, 82, 70, 84]) (by omega) (Nat.zero_le _) z1
  have es1 : s1P D = ⟨4, 0, 0⟩ := by unfold s1P; rw [e0.2.2.2]; rfl
  have e1 := expectR_inv (s := s1P D) (code := 10) (B := [1]) (by omega) (by rw [es1]; exact e0.2.1) z2'
  have es2 : s2P D = ⟨5, 0, 0⟩ := by unfold s2P; rw [e1.2.2.2, es1]; rfl
  have t0 : D.take 5 = [71, 82, 70, 84] ++ [1] := by
    have := take_more D 4 1
    have h1 := e1.2.2.1
    rw [es1] at h1
    have h0 := e0.2.2.1
    simp only [List.drop_zero, List.length_cons, List.length_nil] at h0 h1
    rw [this]
    rw [show D.take 4 = [71, 82, 70, 84] from h0, show (D.drop 4).take 1 = [1] from h1]
  obtain ⟨cs, i1, i2, i3, i4, i5, i6, i7⟩ := itR_enc hD (l := []) (s := (headR D (s2P D)).s) l7 (headR D (s2P D)).N hc
  have hcs : (cmdsR D (s2P D)).1 = cs := by unfold cmdsR; rw [i1, List.nil_append]
  have hNi : (((headR D (s2P D)).N : Nat) : Int) = (uintR D 4 (bytesR D 32 (bytesR D 32 (lengthR D (lengthR D (s2P D)).2).2).2).2).1 := Int.toNat_of_nonneg b7.1
  have t3' := t3
  rw [es2] at t3'
  simp only at t3'
  rw [t0] at t3'
  have hp : (endR D).p = 0 := by
    rw [hend]
    have : (cmdsR D (s2P D)).2.p = (headR D (s2P D)).s.p := i5
    rw [this]
    have h7 : (headR D (s2P D)).s.p = (s2P D).p := by unfold headR; simp only; rw [p7, p6, p5, p4, p3]
    rw [h7, es2]
  have hD2 : D = encAll (headR D (s2P D)).o (headR D (s2P D)).n (headR D (s2P D)).x (headR D (s2P D)).y cs := by
    have hall : D.take (cmdsR D (s2P D)).2.n = D := List.take_of_length_le (by omega)
    have i4' : D.take (cmdsR D (s2P D)).2.n = D.take (headR D (s2P D)).s.n ++ cs.flatMap encK := i4
    rw [hall] at i4'
    unfold encAll encH
    rw [i2, hNi]
    refine i4'.trans ?_
    congr 1
    unfold headR
    simp only
    rw [t7, t6, t5, t4, es2, t3']
    simp only [List.append_assoc]
  refine ⟨by rw [hcs]; exact hD2, ?_, ?_, ?_, hp, by rw [hcs]; exact fun c hc => (i3 c hc).2.2⟩
  · rw [hcs]
    exact wrong_zero.2 ⟨b3, b4, fun c hc => ⟨(i3 c hc).1, (i3 c hc).2.1⟩⟩
  · have : (((headR D (s2P D)).x.length : Nat) : Int) = 32 := b5
    omega
  · have : (((headR D (s2P D)).y.length : Nat) : Int) = 32 := b6
    omega

/-- Where a fault lies. -/
structure PlaceR (D : List Int) (s : RS) : Prop where
  n : s.n ≤ D.length
  p : 0 ≤ s.p ∧ s.p ≤ D.length
  z : s.c = 0 → s.p = 0
theorem PlaceR.fail {D : List Int} {s : RS} (h : PlaceR D s) (c p : Int) (hp : 0 ≤ p ∧ p ≤ D.length) : PlaceR D (s.fail c p) := by
  unfold RS.fail
  split
  · rename_i hh
    exact ⟨h.n, hp, fun hc => absurd hc hh.2⟩
  · exact h
theorem uintR_place {D : List Int} {s : RS} (k : Int) (h : PlaceR D s) : PlaceR D (uintR D k s).2 := by
  have hn := h.n
  unfold uintR
  split
  · exact h
  · split
    · exact ⟨hn, ⟨by simp only; omega, by simp only; omega⟩, fun hc => by simp at hc⟩
    · split
      · exact ⟨hn, ⟨by simp only; omega, by simp only; omega⟩, fun hc => by simp at hc⟩
      · rename_i h0 _ _
        exact ⟨by simp only; omega, h.p, fun _ => h.z (by omega)⟩
theorem lengthR_place {D : List Int} {s : RS} (h : PlaceR D s) : PlaceR D (lengthR D s).2 := by
  have hn := h.n
  unfold lengthR
  split
  · exact (uintR_place 8 h).fail 2 s.n ⟨by omega, by omega⟩
  · exact uintR_place 8 h
theorem bytesR_place {D : List Int} {s : RS} (k : Int) (h : PlaceR D s) : PlaceR D (bytesR D k s).2 := by
  have hn := h.n
  unfold bytesR
  split
  · exact h
  · split
    · exact ⟨hn, ⟨by simp only; omega, by simp only; omega⟩, fun hc => by simp at hc⟩
    · split
      · exact ⟨hn, ⟨by simp only; omega, by simp only; omega⟩, fun hc => by simp at hc⟩
      · rename_i h0 _ _
        exact ⟨by simp only; omega, h.p, fun _ => h.z (by omega)⟩
theorem expectR_place {D B : List Int} {s : RS} (code : Int) (h : PlaceR D s) : PlaceR D (expectR D B code s).2 := by
  have hn := h.n
  unfold expectR
  split
  · exact h
  · split
    · exact h.fail code s.n ⟨by omega, by omega⟩
    · split
      · exact ⟨hn, ⟨by simp only; omega, by simp only; omega⟩, fun hc => by simp at hc⟩
      · rename_i h0 _ _
        exact ⟨by simp only; omega, h.p, fun _ => h.z (by omega)⟩
theorem stepR_place {D : List Int} {q : List Core7 × RS} (h : PlaceR D q.2) : PlaceR D (stepR D q).2 := by
  have hn := h.n
  have h1 := uintR_place 1 h
  unfold stepR
  split
  · exact lengthR_place (lengthR_place (lengthR_place h1))
  · split
    · exact bytesR_place _ (lengthR_place (lengthR_place h1))
    · exact h1.fail 11 q.2.n ⟨by omega, by omega⟩
theorem itR_place {D : List Int} {q : List Core7 × RS} (h : PlaceR D q.2) (k : Nat) : PlaceR D (itR D q k).2 := by
  induction k with
  | zero => exact h
  | succ k ih => exact stepR_place ih
theorem s1P_place (D : List Int) : PlaceR D (s1P D) := expectR_place 9 ⟨Nat.zero_le _, ⟨by simp, by simp⟩, fun _ => rfl⟩
theorem s2P_place (D : List Int) : PlaceR D (s2P D) := expectR_place 10 (s1P_place D)
theorem headR_place {D : List Int} {s : RS} (h : PlaceR D s) : PlaceR D (headR D s).s := uintR_place 4 (bytesR_place 32 (bytesR_place 32 (lengthR_place (lengthR_place h))))
theorem endR_place (D : List Int) : PlaceR D (endR D) := by
  have h : PlaceR D (cmdsR D (s2P D)).2 := itR_place (q := ([], (headR D (s2P D)).s)) (headR_place (s2P_place D)) _
  have hn := h.n
  unfold endR finR
  split
  · exact h.fail 12 _ ⟨by omega, by omega⟩
  · exact h

/-- The version read as a number. -/
def s2R (D : List Int) : RS := if (uintR D 1 (s1P D)).2.c = 0 ∧ (uintR D 1 (s1P D)).1 ≠ 1 then (uintR D 1 (s1P D)).2.fail 10 4 else (uintR D 1 (s1P D)).2
theorem s2_same {D : List Int} (hD : OkB D) : (s2P D).c = (s2R D).c ∧ (s2P D).p = (s2R D).p ∧ ((s2P D).c = 0 → s2P D = s2R D) := by
  unfold s2P s2R
  by_cases hc : (s1P D).c = 0
  · have e0 := expectR_inv (s := ⟨0, 0, 0⟩) (code := 9) (B := [71, 82, 70, 84]) (by omega) (Nat.zero_le _) hc
    have es1 : s1P D = ⟨4, 0, 0⟩ := by unfold s1P; rw [e0.2.2.2]; rfl
    have hlen : 4 ≤ D.length := e0.2.1
    rw [es1]
    by_cases h5 : D.length = 4
    · have hd : D.drop 4 = [] := List.drop_of_length_le (by omega)
      have e1 : expectR D [1] 10 ⟨4, 0, 0⟩ = (false, ⟨4, 8, D.length⟩) := by
        unfold expectR
        simp [hd, h5]
      have e2 : uintR D 1 ⟨4, 0, 0⟩ = (0, ⟨4, 8, D.length⟩) := by
        unfold uintR
        simp [h5]
      rw [e1, e2, if_neg (by simp)]
      exact ⟨rfl, rfl, fun _ => rfl⟩
    · obtain ⟨v, r, hv⟩ : ∃ v r, D.drop 4 = [v] ++ r := by
        cases hd : D.drop 4 with
        | nil => have := congrArg List.length hd; rw [List.length_drop] at this; simp at this; omega
        | cons v r => exact ⟨v, r, rfl⟩
      have hvo := hD v (List.mem_of_mem_drop (by rw [hv]; simp : v ∈ D.drop 4))
      have e2 : uintR D 1 ⟨4, 0, 0⟩ = (v, ⟨5, 0, 0⟩) := by
        have := uintR_yes (k := 1) (by omega) hv rfl
        rw [beval_one v ⟨hvo.1, by omega⟩] at this
        exact this
      by_cases h1 : v = 1
      · subst h1
        have e1 : expectR D [1] 10 ⟨4, 0, 0⟩ = (true, ⟨5, 0, 0⟩) := expectR_yes (by omega) hv
        rw [e1, e2, if_neg (by simp)]
        exact ⟨rfl, rfl, fun _ => rfl⟩
      · have e1 : expectR D [1] 10 ⟨4, 0, 0⟩ = (false, ⟨4, 10, 4⟩) := by
          unfold expectR
          rw [if_neg (by simp)]
          simp only [List.length_cons, List.length_nil]
          rw [show min (0 + 1) (D.length - 4) = 1 by omega, hv, if_pos (by simpa using h1)]
          rfl
        rw [e1, e2, if_pos ⟨rfl, h1⟩]
        exact ⟨rfl, rfl, fun h => by simp at h⟩
  · rw [expectR_no _ _ _ hc, uintR_no _ _ hc, if_neg (fun h => hc h.1)]
    exact ⟨rfl, rfl, fun _ => rfl⟩
/-- Both readers end alike. -/
theorem end_same {D : List Int} (hD : OkB D) : (finR D (cmdsR D (s2R D)).2).c = (endR D).c ∧ (finR D (cmdsR D (s2R D)).2).p = (endR D).p ∧ ((endR D).c = 0 → headR D (s2R D) = headR D (s2P D) ∧ cmdsR D (s2R D) = cmdsR D (s2P D)) := by
  obtain ⟨h1, h2, h3⟩ := s2_same hD
  unfold endR
  by_cases hc : (s2P D).c = 0
  · rw [← h3 hc]
    exact ⟨rfl, rfl, fun _ => ⟨rfl, rfl⟩⟩
  · have hc2 : (s2R D).c ≠ 0 := by rw [← h1]; exact hc
    rw [cmdsR_no D hc, cmdsR_no D hc2, finR_no D hc, finR_no D hc2]
    exact ⟨h1.symm, h2.symm, fun h => absurd h hc⟩
end Go.Proofs.Ytefonhnidkfbgaa
