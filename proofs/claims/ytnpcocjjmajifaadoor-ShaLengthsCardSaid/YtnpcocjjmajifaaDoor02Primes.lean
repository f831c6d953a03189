/- primes of the reference. -/
import Derived.Test.YtnpcocjjmajifaaDoor02LawNil
import Derived.Test.YtnpcocjjmajifaaDoor02Root
namespace Go.Proofs.YtnpcocjjmajifaaDoor
open Go.RowKit
set_option linter.unusedVariables false

/-- It returns a new slice of its own. -/
def MakesR (e : TypeId) (xs : List Value) (w : World) (en : Ending) (w' : World) : Prop := ∃ v, en = .returned v ∧ ∃ s : OwnW w e v xs, w' = s.w
/-- The primes below k + 2. -/
def sv : Nat → List Int
  | 0 => []
  | k + 1 => if (sv k).all (fun q => ((k : Int) + 2) % q != 0) then sv k ++ [(k : Int) + 2] else sv k
theorem sv_succ (k : Nat) : sv (k + 1) = if (sv k).all (fun q => ((k : Int) + 2) % q != 0) then sv k ++ [(k : Int) + 2] else sv k := rfl
theorem sv_step (k : Nat) : ∃ t, sv (k + 1) = sv k ++ t := by
  rw [sv_succ]
  split
  · exact ⟨_, rfl⟩
  · exact ⟨[], by simp⟩
theorem sv_le {k m : Nat} (h : k ≤ m) : ∃ t, sv m = sv k ++ t := by
  induction m with
  | zero => obtain rfl : k = 0 := by omega
            exact ⟨[], by simp⟩
  | succ m ih =>
    by_cases hk : k = m + 1
    · subst hk; exact ⟨[], by simp⟩
    · obtain ⟨t, ht⟩ := ih (by omega)
      obtain ⟨t2, ht2⟩ := sv_step m
      exact ⟨t ++ t2, by rw [ht2, ht, List.append_assoc]⟩
set_option maxRecDepth 100000 in
theorem sv_all : sv 310 = primeL := by decide +kernel
theorem sv_take {k n : Nat} (hk : k ≤ 310) (h : (sv k).length = n) : sv k = primeL.take n := by
  obtain ⟨t, ht⟩ := sv_le hk
  rw [← sv_all, ht, ← h, List.take_left]
theorem sv_pos (k : Nat) : ∀ q ∈ sv k, 0 < q := by
  induction k with
  | zero => intro q hq; simp [sv] at hq
  | succ k ih =>
    intro q hq
    rw [sv_succ] at hq
    split at hq
    · rcases List.mem_append.1 hq with h | h
      · exact ih q h
      · simp at h; omega
    · exact ih q hq
theorem sv_big {k : Nat} (hk : 310 ≤ k) : 64 ≤ (sv k).length := by
  obtain ⟨t, ht⟩ := sv_le hk
  rw [ht, sv_all, List.length_append]
  have : primeL.length = 64 := rfl
  omega
def okB (k : Nat) (l : List Int) : Bool := l.all (fun q => ((k : Int) + 2) % q != 0)

set_option maxRecDepth 100000 in
set_option maxHeartbeats 8000000 in
theorem primes_any (n : Nat) (hn : n ≤ 64) (w : World) : Calls Tryd.prog 37 #[.int .i64 n] w (MakesR 63 ((primeL.take n).map (Value.int .u64)) w) := by
  obtain ⟨E⟩ := elem_of (P := Tryd.prog) (t := 66) (e := 63) (z := .int .u64 0) (n := 8) Tryd.underlying66 (by kernel_rfl) rfl (by omega)
  go_enter Tryd.func37, Tryd.ntmps37
  go_wp2
  go_loopw [3, 4, 5, 6] (fun out p _ _ wr => ∃ k : Nat, k ≤ 310 ∧ p = .int .u64 ((k : Int) + 2) ∧ Hid ((sv k).length ≤ n) ∧ ∃ s : OwnW w 63 out ((sv k).map (Value.int .u64)), wr = s.w) (fun _ p _ _ _ => 400 - (intOf p).toNat)
  case atStart => exact ⟨0, by omega, rfl, by simp [Hid, sv], ⟨w, Below.refl _ _, World.ownsRow_nil w w.heap.size 63 1⟩, rfl⟩
  case round =>
    obtain ⟨k, hk, rfl, hle, s, rfl⟩ := hrel
    obtain ⟨L, hL⟩ : ∃ L, (sv k).length = L := ⟨_, rfl⟩
    obtain ⟨a, cap, rfl, hc, hcb, hrow⟩ := s.view L (by rw [List.length_map, hL])
    have hLn : L ≤ n := by have := hle.out; omega
    have HLL := Lib.hid hL
    clear hL
    by_cases hlt : L < n
    · have hkb : k < 310 := by
        have := HLL.out
        rcases Nat.lt_or_ge k 310 with h | h
        · exact h
        · have := sv_big h; omega
      go_wp2
      go_loopw [5, 6] (fun ok i wr => ∃ j : Nat, j ≤ L ∧ i = .int .i64 j ∧ ok = .bool (okB k ((sv k).take j)) ∧ wr = s.w) (fun _ i _ => L - (intOf i).toNat)
      case atStart => exact ⟨0, by omega, rfl, rfl, rfl⟩
      case round =>
        obtain ⟨j, hj, rfl, rfl, rfl⟩ := hrel
        by_cases hlj : j < L
        · obtain ⟨g, cur, rfl, hg, hb, hcur⟩ := hrow.out (by omega)
          have hlen : j < (sv k).length := by rw [HLL.out]; exact hlj
          have hcell := s.all j (.int .u64 (sv k)[j]) (by rw [List.getElem?_map, List.getElem?_eq_getElem hlen]; rfl)
          have hpos : 0 < (sv k)[j] := sv_pos k _ (List.getElem_mem hlen)
          have HTK := Lib.hid (List.take_succ_eq_append_getElem hlen)
          generalize (sv k)[j] = q at hcell hpos HTK
          by_cases hq : ((k : Int) + 2) % q = 0
          · have HQ := Lib.hid (show okB k ((sv k).take (j + 1)) = false by rw [HTK.out]; unfold okB; rw [List.all_append]; simp [hq])
            have hd : (((k : Int) + 2) % q == 0) = true := by simp [hq]
            clear hq
            go_wp2
            go_roundw
            case rel => exact ⟨j + 1, by omega, by go_num, by rw [HQ.out], trivial⟩
            case measure => simp [intOf]; omega
          · have HQ := Lib.hid (show okB k ((sv k).take (j + 1)) = okB k ((sv k).take j) by rw [HTK.out]; unfold okB; rw [List.all_append]; simp [hq])
            have hd : (((k : Int) + 2) % q == 0) = false := by simp [hq]
            clear hq
            go_wp2
            go_roundw
            case rel => exact ⟨j + 1, by omega, by go_num, by rw [HQ.out], trivial⟩
            case measure => simp [intOf]; omega
        · obtain rfl : j = L := by omega
          have HTL := Lib.hid (show (sv k).take j = sv k from List.take_of_length_le (Nat.le_of_eq HLL.out))
          rw [HTL.out]
          have HSU := Lib.hid (sv_succ k)
          by_cases hok : okB k (sv k) = true
          · have HS2 := Lib.hid (HSU.out.trans (if_pos hok))
            rw [hok]
            clear hok
            have hlen : ((sv k).map (Value.int .u64)).length + ([Value.int .u64 ((k : Int) + 2)] : List Value).length ≤ 1099511627776 := by rw [List.length_map, HLL.out]; simp; omega
            have HLN := Lib.hid hlen
            clear hlen
            go_wp2_with (refine wpList_append_O E s [.int .u64 ((k : Int) + 2)] _ rfl (.tmp 27) (.tmp 29) rfl rfl rfl 1 1 rfl rfl (by simp [Value.oneCell']) HLN.out ?_; intro v' s3)
            go_roundw
            case rel => exact ⟨k + 1, by omega, by go_num, Lib.hid (by rw [HS2.out, List.length_append, HLL.out]; simp; omega), s3.as (by rw [HS2.out, List.map_append]; rfl), rfl⟩
            case measure => simp [intOf]; omega
          · have hok2 : okB k (sv k) = false := by simpa using hok
            have HS2 := Lib.hid (HSU.out.trans (if_neg hok))
            rw [hok2]
            clear hok hok2
            go_wp2
            go_roundw
            case rel => exact ⟨k + 1, by omega, by go_num, Lib.hid (by rw [HS2.out, HLL.out]; omega), s.as (by rw [HS2.out]), rfl⟩
            case measure => simp [intOf]; omega
    · obtain rfl : L = n := by omega
      go_wp2
      go_ret
      exact ⟨_, rfl, s.as (by rw [sv_take hk HLL.out]), rfl⟩
end Go.Proofs.YtnpcocjjmajifaaDoor
