/- Pieces and Piece of the reference, and the sums of pieces. -/
import Derived.Test.Ytbhpipkaojlgfaa01Totals
namespace Go.Proofs.Ytbhpipkaojlgfaa
open Go.RowKit Go.Shelf Go.Proofs.Ytbhpipkaojlgfaa.Plain01

set_option maxRecDepth 100000 in
set_option maxHeartbeats 4000000 in
theorem rpieces_gives (e : Int × Int) (size : Int) (he : okE e = true) (hs : I64 size) (w : World) : Calls Try.prog 20 #[extV e, .int .i64 size] w (Gives (.int .i64 (nsp e.2 size)) w) := by
  obtain ⟨a0, a1, a2⟩ := okE_iff.1 he
  unfold I64 at hs
  clear he
  by_cases c1 : size < 1
  · have hn : ((nsp e.2 size : Nat) : Int) = 0 := by rw [nsp_few (by rw [cnt_none (.inr c1)]; omega), cnt_none (.inr c1)]; rfl
    have HN := Lib.hid hn
    clear hn
    go_enter Try.func20, Try.ntmps20
    go_wp2
    go_ret
    exact ⟨ret_int HN.out.symm, (Below.refl _ w).alloc (Nat.le_refl _) _⟩
  · by_cases c2 : e.2 = 0
    · have hn : ((nsp e.2 size : Nat) : Int) = 0 := by rw [nsp_few (by rw [cnt_none (.inl (by omega))]; omega), cnt_none (.inl (by omega))]; rfl
      have HN := Lib.hid hn
      have d1 : decide (size < 1) = false := by simp; omega
      have d2 : (e.2 == 0) = true := by simp [c2]
      clear hn c2
      go_enter Try.func20, Try.ntmps20
      go_wp2
      go_ret
      exact ⟨ret_int HN.out.symm, (Below.refl _ w).alloc (Nat.le_refl _) _⟩
    · have hq := div_bd e.2 size (by omega) (by omega)
      have hc := cnt_some (len := e.2) (size := size) (by omega) (by omega)
      have d1 : decide (size < 1) = false := by simp; omega
      have d2 : (e.2 == 0) = false := by simp [c2]
      have d4 : 1 ≤ e.2 := by omega
      by_cases c3 : 1048576 ≤ (e.2 - 1) / size
      · have hn : ((nsp e.2 size : Nat) : Int) = 0 := by rw [nsp_big (by omega)]; rfl
        have HN := Lib.hid hn
        clear hn hc c2
        go_enter Try.func20, Try.ntmps20
        go_wp2
        go_ret
        exact ⟨ret_int HN.out.symm, (Below.refl _ w).alloc (Nat.le_refl _) _⟩
      · have hn : ((nsp e.2 size : Nat) : Int) = (e.2 - 1) / size + 1 := by rw [nsp_few (by omega)]; omega
        have HN := Lib.hid hn
        clear hn hc c2
        go_enter Try.func20, Try.ntmps20
        go_wp2
        go_ret
        exact ⟨ret_int HN.out.symm, (Below.refl _ w).alloc (Nat.le_refl _) _⟩

set_option maxRecDepth 100000 in
set_option maxHeartbeats 4000000 in
theorem rpiece_gives (e : Int × Int) (size : Int) (k : Nat) (he : okE e = true) (hs : I64 size) (hk : (k : Int) < cnt e.2 size) (w : World) : Calls Try.prog 21 #[extV e, .int .i64 size, .int .i64 k] w (Gives (extV (piece e.1 e.2 size k)) w) := by
  obtain ⟨a0, a1, a2⟩ := okE_iff.1 he
  unfold I64 at hs
  have hm := mul_lt hk
  have hcb := (cnt_bd e.2 size).2 a1
  clear he
  by_cases c : e.2 - (k : Int) * size < size
  · have hp := piece_rest (off := e.1) (len := e.2) (size := size) (i := k) (by omega)
    rw [hp]
    clear hp
    go_enter Try.func21, Try.ntmps21
    go_wp2
    refine bodyPost_ret (v := .agg #[.int .i64 _, .int .i64 _]) (by simp [results, Try.results21, go_sem]) rfl ⟨rfl, ?_⟩
    exact ((Below.refl _ w).alloc (Nat.le_refl _) _).alloc (by simp) _
  · have hp := piece_full (off := e.1) (len := e.2) (size := size) (i := k) (by omega)
    rw [hp]
    clear hp
    go_enter Try.func21, Try.ntmps21
    go_wp2
    refine bodyPost_ret (v := .agg #[.int .i64 _, .int .i64 _]) (by simp [results, Try.results21, go_sem]) rfl ⟨rfl, ?_⟩
    exact ((Below.refl _ w).alloc (Nat.le_refl _) _).alloc (by simp) _

/-- What is to know of a piece. -/
theorem piece_facts {e : Int × Int} {size : Int} {k : Nat} (he : okE e = true) (hk : (k : Int) < cnt e.2 size) :
    okE (piece e.1 e.2 size k) = true ∧ insE e (piece e.1 e.2 size k) ∧ (piece e.1 e.2 size k).1 = e.1 + (k : Int) * size ∧ 1 ≤ (piece e.1 e.2 size k).2 ∧ (piece e.1 e.2 size k).2 ≤ size := by
  rw [okE_iff] at he
  obtain ⟨h1, h2, h3, h4⟩ := mul_lt hk
  have hmin : 1 ≤ min size (e.2 - (k : Int) * size) ∧ min size (e.2 - (k : Int) * size) ≤ size ∧ min size (e.2 - (k : Int) * size) ≤ e.2 - (k : Int) * size := by omega
  rw [okE_iff]
  unfold piece insE
  simp only
  generalize min size (e.2 - (k : Int) * size) = m at hmin ⊢
  refine ⟨⟨?_, ?_, ?_⟩, ⟨?_, ?_⟩, ?_, ?_, ?_⟩ <;> first | trivial | omega

/-- The pieces before the last are full. -/
theorem sum_lt {off len size : Int} : ∀ {k : Nat}, (k : Int) < cnt len size → sumL (piece off len size) k = (k : Int) * size
  | 0, _ => by simp [sumL]
  | k + 1, h => by
    have ih := sum_lt (off := off) (len := len) (size := size) (k := k) (by omega)
    obtain ⟨h1, h2, h3, h4⟩ := mul_lt h
    have e : ((k + 1 : Nat) : Int) * size = (k : Int) * size + size := by rw [Int.natCast_add, Int.add_mul]; simp
    rw [e] at h4
    simp only [sumL]
    rw [ih, piece_full (by omega), e]

/-- All pieces have all bytes. -/
theorem sum_all {off len size : Int} {n : Nat} (h : ((n + 1 : Nat) : Int) = cnt len size) : sumL (piece off len size) (n + 1) = len := by
  have hlt : (n : Int) < cnt len size := by omega
  obtain ⟨h1, h2, h3, h4⟩ := mul_lt hlt
  have hc := cnt_some h1 h2
  have hd := Int.lt_ediv_add_one_mul_self (len - 1) (b := size) (by omega)
  have e : ((len - 1) / size + 1) * size = (n : Int) * size + size := by
    rw [show (len - 1) / size + 1 = (n : Int) + 1 by omega, Int.add_mul]; simp
  rw [e] at hd
  simp only [sumL]
  rw [sum_lt hlt, piece_rest (by omega)]
  simp only
  omega
end Go.Proofs.Ytbhpipkaojlgfaa
