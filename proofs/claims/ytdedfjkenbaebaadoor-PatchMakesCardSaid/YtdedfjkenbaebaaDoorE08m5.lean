import Derived.Test.YtdedfjkenbaebaaDoorE08m4
import Derived.Test.YtdedfjkenbaebaaDoorE08m3
import Derived.Test.YtdedfjkenbaebaaDoorE08a3
/- root of the reference. -/
namespace Go.Proofs.YtdedfjkenbaebaaDoor
open Go.RowKit
set_option linter.unusedVariables false

theorem least_any (m n : Int) (cubes : Bool) (h0 : 0 ≤ m) (h1 : m < 18446744073709551616) (w : World) : Calls Tryd.prog 104 #[.int .u64 m, .int .u64 n, .bool cubes] w (Gives (.bool (leastB m n cubes)) w) := by
  cases cubes
  · exact least_false m n h0 h1 w
  · exact least_true m n h0 h1 w
theorem bis_end (n : Int) (cubes : Bool) (f : Nat) (lo hi : Int) (h : ¬ 1 < hi - lo) : bis n cubes f lo hi = lo := by
  cases f with
  | zero => rfl
  | succ f => unfold bis; rw [if_neg h]
theorem bis_step (n : Int) (cubes : Bool) (f : Nat) (lo hi : Int) (h : 1 < hi - lo) (hp : hi - lo ≤ 2 ^ f) : ∃ g, f = g + 1 ∧ bis n cubes f lo hi = (if leastB ((lo + hi) / 2) n cubes then bis n cubes g ((lo + hi) / 2) hi else bis n cubes g lo ((lo + hi) / 2)) ∧
    (lo + hi) / 2 - lo ≤ 2 ^ g ∧ hi - (lo + hi) / 2 ≤ 2 ^ g := by
  cases f with
  | zero => simp at hp; omega
  | succ f =>
    rw [Int.pow_succ] at hp
    exact ⟨f, rfl, by rw [bis, if_pos h], by omega, by omega⟩

set_option maxRecDepth 100000 in
set_option maxHeartbeats 4000000 in
theorem root_false (n : Int) (w : World) : Calls Tryd.prog 81 #[.int .u64 n, .bool false] w (Gives (.int .u32 (rootI n false)) w) := by
  obtain ⟨R, hR⟩ : ∃ R, R = bis n false 36 0 68719476736 := ⟨_, rfl⟩
  rw [show rootI n false = IntKind.u32.wrap R by rw [hR]; rfl]
  go_enter Tryd.func81, Tryd.ntmps81
  go_wp2
  go_loopw [5, 6, 7] (fun l h _ wr => ∃ (lo hi : Int) (f : Nat), l = .int .u64 lo ∧ h = .int .u64 hi ∧ 0 ≤ lo ∧ lo < hi ∧ hi ≤ 68719476736 ∧ Hid (hi - lo ≤ 2 ^ f) ∧ Hid (R = bis n false f lo hi) ∧ ∃ s : HeldW w [], wr = s.w) (fun l h _ _ => (intOf h - intOf l).toNat)
  case atStart => exact ⟨0, 68719476736, 36, rfl, rfl, by omega, by omega, by omega, Lib.hid (by decide), hR, HeldW.start w, rfl⟩
  case round =>
    clear hR
    obtain ⟨lo, hi, f, rfl, rfl, h0, h1, h2, hf, hres, s, rfl⟩ := hrel
    have w1 : IntKind.u64.wrap (hi - lo) = hi - lo := by rw [IntKind.wrap_u64]; omega
    have w2 : IntKind.u64.wrap (lo + hi) = lo + hi := by rw [IntKind.wrap_u64]; omega
    by_cases hgt : 1 < hi - lo
    · have hd : decide (1 < hi - lo) = true := by simp; omega
      obtain ⟨g, hfg, hst, hb1, hb2⟩ := bis_step n false f lo hi hgt hf.out
      obtain ⟨m, hm⟩ : ∃ m, m = (lo + hi) / 2 := ⟨_, rfl⟩
      have HM := Lib.hid hm
      rw [← hm] at hst hb1 hb2
      have hlo : lo < m := by omega
      have hhi : m < hi := by omega
      have HST := Lib.hid (hres.out.trans hst)
      have HB1 := Lib.hid hb1
      have HB2 := Lib.hid hb2
      have hl := least_any m n false (by omega) (by omega)
      clear hst hb1 hb2 hm hf hres hfg
      go_wp2_with fail
      rw [show (lo + hi) / 2 = m from HM.out.symm]
      refine (HeldW.call (s := s) (hl s.w)).mono ?_
      rintro e _ ⟨rfl, s2, rfl⟩
      clear hl s
      generalize leastB m n false = b at HST
      cases b with
      | true =>
        go_wp2
        go_roundw
        case rel => exact ⟨m, hi, g, rfl, rfl, by omega, by omega, by omega, HB2, Lib.hid (HST.out.trans (if_pos trivial)), s2, rfl⟩
        case measure => simp [intOf]; omega
      | false =>
        go_wp2
        go_roundw
        case rel => exact ⟨lo, m, g, rfl, rfl, by omega, by omega, by omega, HB1, Lib.hid (HST.out.trans (if_neg (by decide))), s2, rfl⟩
        case measure => simp [intOf]; omega
    · have hd : decide (1 < hi - lo) = false := by simp; omega
      have HE := Lib.hid (hres.out.trans (bis_end n false f lo hi hgt))
      clear hres hf hgt
      go_wp2
      go_ret
      exact ⟨by rw [HE.out]; rfl, s.below⟩

set_option maxRecDepth 100000 in
set_option maxHeartbeats 4000000 in
theorem root_true (n : Int) (w : World) : Calls Tryd.prog 81 #[.int .u64 n, .bool true] w (Gives (.int .u32 (rootI n true)) w) := by
  obtain ⟨R, hR⟩ : ∃ R, R = bis n true 36 0 34359738368 := ⟨_, rfl⟩
  rw [show rootI n true = IntKind.u32.wrap R by rw [hR]; rfl]
  go_enter Tryd.func81, Tryd.ntmps81
  go_wp2
  go_loopw [5, 6, 7] (fun l h _ wr => ∃ (lo hi : Int) (f : Nat), l = .int .u64 lo ∧ h = .int .u64 hi ∧ 0 ≤ lo ∧ lo < hi ∧ hi ≤ 68719476736 ∧ Hid (hi - lo ≤ 2 ^ f) ∧ Hid (R = bis n true f lo hi) ∧ ∃ s : HeldW w [], wr = s.w) (fun l h _ _ => (intOf h - intOf l).toNat)
  case atStart => exact ⟨0, 34359738368, 36, rfl, rfl, by omega, by omega, by omega, Lib.hid (by decide), hR, HeldW.start w, rfl⟩
  case round =>
    clear hR
    obtain ⟨lo, hi, f, rfl, rfl, h0, h1, h2, hf, hres, s, rfl⟩ := hrel
    have w1 : IntKind.u64.wrap (hi - lo) = hi - lo := by rw [IntKind.wrap_u64]; omega
    have w2 : IntKind.u64.wrap (lo + hi) = lo + hi := by rw [IntKind.wrap_u64]; omega
    by_cases hgt : 1 < hi - lo
    · have hd : decide (1 < hi - lo) = true := by simp; omega
      obtain ⟨g, hfg, hst, hb1, hb2⟩ := bis_step n true f lo hi hgt hf.out
      obtain ⟨m, hm⟩ : ∃ m, m = (lo + hi) / 2 := ⟨_, rfl⟩
      have HM := Lib.hid hm
      rw [← hm] at hst hb1 hb2
      have hlo : lo < m := by omega
      have hhi : m < hi := by omega
      have HST := Lib.hid (hres.out.trans hst)
      have HB1 := Lib.hid hb1
      have HB2 := Lib.hid hb2
      have hl := least_any m n true (by omega) (by omega)
      clear hst hb1 hb2 hm hf hres hfg
      go_wp2_with fail
      rw [show (lo + hi) / 2 = m from HM.out.symm]
      refine (HeldW.call (s := s) (hl s.w)).mono ?_
      rintro e _ ⟨rfl, s2, rfl⟩
      clear hl s
      generalize leastB m n true = b at HST
      cases b with
      | true =>
        go_wp2
        go_roundw
        case rel => exact ⟨m, hi, g, rfl, rfl, by omega, by omega, by omega, HB2, Lib.hid (HST.out.trans (if_pos trivial)), s2, rfl⟩
        case measure => simp [intOf]; omega
      | false =>
        go_wp2
        go_roundw
        case rel => exact ⟨lo, m, g, rfl, rfl, by omega, by omega, by omega, HB1, Lib.hid (HST.out.trans (if_neg (by decide))), s2, rfl⟩
        case measure => simp [intOf]; omega
    · have hd : decide (1 < hi - lo) = false := by simp; omega
      have HE := Lib.hid (hres.out.trans (bis_end n true f lo hi hgt))
      clear hres hf hgt
      go_wp2
      go_ret
      exact ⟨by rw [HE.out]; rfl, s.below⟩

theorem root_any (n : Int) (cubes : Bool) (w : World) : Calls Tryd.prog 81 #[.int .u64 n, .bool cubes] w (Gives (.int .u32 (rootI n cubes)) w) := by
  cases cubes
  · exact root_false n w
  · exact root_true n w
end Go.Proofs.YtdedfjkenbaebaaDoor

/- primes of the reference. -/
namespace Go.Proofs.YtdedfjkenbaebaaDoor
open Go.RowKit
set_option linter.unusedVariables false

/-- The primes below k + 2. -/
def sv : Nat → List Int
  | 0 => []
  | k + 1 => if (sv k).all (fun q => ((k : Int) + 2) % q != 0) then sv k ++ [(k : Int) + 2] else sv k
theorem sv_succ (k : Nat) : sv (k + 1) = if (sv k).all (fun q => ((k : Int) + 2) % q != 0) then sv k ++ [(k : Int) + 2] else sv k := rfl
theorem sv_step (k : Nat) : ∃ t, sv (k + 1) = sv k ++ t := by
  rw [sv_succ]
  split
  · exact ⟨_, rfl⟩
  · exact ⟨[], by simp⟩
theorem sv_le {k m : Nat} (h : k ≤ m) : ∃ t, sv m = sv k ++ t := by
  induction m with
  | zero => obtain rfl : k = 0 := by omega
            exact ⟨[], by simp⟩
  | succ m ih =>
    by_cases hk : k = m + 1
    · subst hk; exact ⟨[], by simp⟩
    · obtain ⟨t, ht⟩ := ih (by omega)
      obtain ⟨t2, ht2⟩ := sv_step m
      exact ⟨t ++ t2, by rw [ht2, ht, List.append_assoc]⟩
set_option maxRecDepth 100000 in
theorem sv_all : sv 310 = primeL := by decide +kernel
theorem sv_take {k n : Nat} (hk : k ≤ 310) (h : (sv k).length = n) : sv k = primeL.take n := by
  obtain ⟨t, ht⟩ := sv_le hk
  rw [← sv_all, ht, ← h, List.take_left]
theorem sv_pos (k : Nat) : ∀ q ∈ sv k, 0 < q := by
  induction k with
  | zero => intro q hq; simp [sv] at hq
  | succ k ih =>
    intro q hq
    rw [sv_succ] at hq
    split at hq
    · rcases List.mem_append.1 hq with h | h
      · exact ih q h
      · simp at h; omega
    · exact ih q hq
theorem sv_big {k : Nat} (hk : 310 ≤ k) : 64 ≤ (sv k).length := by
  obtain ⟨t, ht⟩ := sv_le hk
  rw [ht, sv_all, List.length_append]
  have : primeL.length = 64 := rfl
  omega
def okB (k : Nat) (l : List Int) : Bool := l.all (fun q => ((k : Int) + 2) % q != 0)

set_option maxRecDepth 100000 in
set_option maxHeartbeats 8000000 in
theorem primes_any (n : Nat) (hn : n ≤ 64) (w : World) : Calls Tryd.prog 80 #[.int .i64 n] w (MakesR 118 ((primeL.take n).map (Value.int .u64)) w) := by
  obtain ⟨E⟩ := elem_of (P := Tryd.prog) (t := 115) (e := 118) (z := .int .u64 0) (n := 8) Tryd.underlying115 (by kernel_rfl) rfl (by omega)
  go_enter Tryd.func80, Tryd.ntmps80
  go_wp2
  go_loopw [3, 4, 5, 6] (fun out p _ _ wr => ∃ k : Nat, k ≤ 310 ∧ p = .int .u64 ((k : Int) + 2) ∧ Hid ((sv k).length ≤ n) ∧ ∃ s : OwnW w 118 out ((sv k).map (Value.int .u64)), wr = s.w) (fun _ p _ _ _ => 400 - (intOf p).toNat)
  case atStart => exact ⟨0, by omega, rfl, by simp [Hid, sv], ⟨w, Below.refl _ _, World.ownsRow_nil w w.heap.size 118 1⟩, rfl⟩
  case round =>
    obtain ⟨k, hk, rfl, hle, s, rfl⟩ := hrel
    obtain ⟨L, hL⟩ : ∃ L, (sv k).length = L := ⟨_, rfl⟩
    obtain ⟨a, cap, rfl, hc, hcb, hrow⟩ := s.view L (by rw [List.length_map, hL])
    have hLn : L ≤ n := by have := hle.out; omega
    have HLL := Lib.hid hL
    clear hL
    by_cases hlt : L < n
    · have hkb : k < 310 := by
        have := HLL.out
        rcases Nat.lt_or_ge k 310 with h | h
        · exact h
        · have := sv_big h; omega
      go_wp2
      go_loopw [5, 6] (fun ok i wr => ∃ j : Nat, j ≤ L ∧ i = .int .i64 j ∧ ok = .bool (okB k ((sv k).take j)) ∧ wr = s.w) (fun _ i _ => L - (intOf i).toNat)
      case atStart => exact ⟨0, by omega, rfl, rfl, rfl⟩
      case round =>
        obtain ⟨j, hj, rfl, rfl, rfl⟩ := hrel
        by_cases hlj : j < L
        · obtain ⟨g, cur, rfl, hg, hb, hcur⟩ := hrow.out (by omega)
          have hlen : j < (sv k).length := by rw [HLL.out]; exact hlj
          have hcell := s.all j (.int .u64 (sv k)[j]) (by rw [List.getElem?_map, List.getElem?_eq_getElem hlen]; rfl)
          have hpos : 0 < (sv k)[j] := sv_pos k _ (List.getElem_mem hlen)
          have HTK := Lib.hid (List.take_succ_eq_append_getElem hlen)
          generalize (sv k)[j] = q at hcell hpos HTK
          by_cases hq : ((k : Int) + 2) % q = 0
          · have HQ := Lib.hid (show okB k ((sv k).take (j + 1)) = false by rw [HTK.out]; unfold okB; rw [List.all_append]; simp [hq])
            have hd : (((k : Int) + 2) % q == 0) = true := by simp [hq]
            clear hq
            go_wp2
            go_roundw
            case rel => exact ⟨j + 1, by omega, by go_num, by rw [HQ.out], trivial⟩
            case measure => simp [intOf]; omega
          · have HQ := Lib.hid (show okB k ((sv k).take (j + 1)) = okB k ((sv k).take j) by rw [HTK.out]; unfold okB; rw [List.all_append]; simp [hq])
            have hd : (((k : Int) + 2) % q == 0) = false := by simp [hq]
            clear hq
            go_wp2
            go_roundw
            case rel => exact ⟨j + 1, by omega, by go_num, by rw [HQ.out], trivial⟩
            case measure => simp [intOf]; omega
        · obtain rfl : j = L := by omega
          have HTL := Lib.hid (show (sv k).take j = sv k from List.take_of_length_le (Nat.le_of_eq HLL.out))
          rw [HTL.out]
          have HSU := Lib.hid (sv_succ k)
          by_cases hok : okB k (sv k) = true
          · have HS2 := Lib.hid (HSU.out.trans (if_pos hok))
            rw [hok]
            clear hok
            have hlen : ((sv k).map (Value.int .u64)).length + ([Value.int .u64 ((k : Int) + 2)] : List Value).length ≤ 1099511627776 := by rw [List.length_map, HLL.out]; simp; omega
            have HLN := Lib.hid hlen
            clear hlen
            go_wp2_with (refine wpList_append_O E s [.int .u64 ((k : Int) + 2)] _ rfl (.tmp 27) (.tmp 29) rfl rfl rfl 1 1 rfl rfl (by simp [Value.oneCell']) HLN.out ?_; intro v' s3)
            go_roundw
            case rel => exact ⟨k + 1, by omega, by go_num, Lib.hid (by rw [HS2.out, List.length_append, HLL.out]; simp; omega), s3.as (by rw [HS2.out, List.map_append]; rfl), rfl⟩
            case measure => simp [intOf]; omega
          · have hok2 : okB k (sv k) = false := by simpa using hok
            have HS2 := Lib.hid (HSU.out.trans (if_neg hok))
            rw [hok2]
            clear hok hok2
            go_wp2
            go_roundw
            case rel => exact ⟨k + 1, by omega, by go_num, Lib.hid (by rw [HS2.out, HLL.out]; omega), s.as (by rw [HS2.out]), rfl⟩
            case measure => simp [intOf]; omega
    · obtain rfl : L = n := by omega
      go_wp2
      go_ret
      exact ⟨_, rfl, s.as (by rw [sv_take hk HLL.out]), rfl⟩
end Go.Proofs.YtdedfjkenbaebaaDoor

/- Constants and Table of the reference. -/
namespace Go.Proofs.YtdedfjkenbaebaaDoor
open Go.RowKit
set_option linter.unusedVariables false

def OwnW.rebase {w0 w1 : World} {e : TypeId} {v : Value} {xs : List Value} (s : OwnW w1 e v xs) (b : Below w0.heap.size w0 w1) : OwnW w0 e v xs :=
  ⟨s.w, b.trans (s.below.mono b.size), ⟨s.own.1, by
    rcases s.own.2 with h0 | ⟨g, cap, cur, h1, h2, h3, h4⟩
    · exact .inl h0
    · exact .inr ⟨g, cap, cur, h1, Nat.le_trans b.size h2, h3, h4⟩⟩⟩
def constL (n : Nat) (cubes : Bool) : List Int := (primeL.take n).map fun p => rootI p cubes

set_option maxRecDepth 100000 in
set_option maxHeartbeats 8000000 in
theorem constants_any (n : Nat) (hn : n ≤ 64) (cubes : Bool) (w : World) : Calls Tryd.prog 54 #[.int .i64 n, .bool cubes] w (MakesR 88 ((constL n cubes).map (Value.int .u32)) w) := by
  obtain ⟨E⟩ := elem_of (P := Tryd.prog) (t := 56) (e := 88) (z := .int .u32 0) (n := 4) Tryd.underlying56 (by kernel_rfl) rfl (by omega)
  have hp := primes_any n hn w
  have HLP := Lib.hid (show (primeL.take n).length = n by rw [List.length_take]; have : primeL.length = 64 := rfl; omega)
  unfold constL
  generalize primeL.take n = l at hp HLP
  go_enter Tryd.func54, Tryd.ntmps54
  go_wp2_with fail
  refine hp.mono ?_
  rintro e _ ⟨v, rfl, s1, rfl⟩
  clear hp
  obtain ⟨a, cap, rfl, hc, hcb, hrow⟩ := s1.view n (by rw [List.length_map, HLP.out])
  go_wp2
  go_loopw [5, 7] (fun out i wr => ∃ k : Nat, k ≤ n ∧ i = .int .i64 k ∧ ∃ s : OwnW s1.w 88 out (((l.take k).map fun p => rootI p cubes).map (Value.int .u32)), wr = s.w) (fun _ i _ => n - (intOf i).toNat)
  case atStart => exact ⟨0, by omega, rfl, ⟨s1.w, Below.refl _ _, World.ownsRow_nil s1.w s1.w.heap.size 88 1⟩, rfl⟩
  case round =>
    obtain ⟨k, hk, rfl, s, rfl⟩ := hrel
    by_cases hlt : k < n
    · obtain ⟨g, cur, rfl, hg, hb, hcur⟩ := hrow.out (by omega)
      have hlen : k < l.length := by rw [HLP.out]; exact hlt
      have hcell0 := s1.all k (.int .u64 l[k]) (by rw [List.getElem?_map, List.getElem?_eq_getElem hlen]; rfl)
      have hcell : s.w.cell? ⟨g, k, none⟩ = some (.int .u64 l[k]) := (s.below.cell (p := ⟨g, k, none⟩) (World.block_lt_of_cell? _ _ hcell0)).trans hcell0
      have HTK := Lib.hid (List.take_succ_eq_append_getElem hlen)
      generalize l[k] = q at hcell HTK
      have hr := root_any q cubes
      clear hcell0
      go_wp2_with fail
      refine (OwnW.call (s := s) (hr s.w)).mono ?_
      rintro e _ ⟨rfl, s2, rfl⟩
      clear hr hcell s
      have HLN := Lib.hid (show (((l.take k).map fun p => rootI p cubes).map (Value.int .u32)).length + ([Value.int .u32 (rootI q cubes)] : List Value).length ≤ 1099511627776 by rw [List.length_map, List.length_map, List.length_take]; simp; omega)
      go_wp2_with (refine wpList_append_O E s2 [.int .u32 (rootI q cubes)] _ rfl (.tmp 16) (.tmp 23) rfl rfl rfl 1 1 rfl rfl (by simp [Value.oneCell']) HLN.out ?_; intro v' s3)
      go_roundw
      case rel => exact ⟨k + 1, by omega, by go_num, s3.as (by rw [HTK.out, List.map_append, List.map_append]; rfl), rfl⟩
      case measure => simp [intOf]; omega
    · obtain rfl : k = n := by omega
      have HTL := Lib.hid (show l.take k = l from List.take_of_length_le (Nat.le_of_eq HLP.out))
      go_wp2
      go_ret
      exact ⟨_, rfl, (s.as (by rw [HTL.out])).rebase s1.below, rfl⟩
theorem const8 : constL 8 false = [1779033703, 3144134277, 1013904242, 2773480762, 1359893119, 2600822924, 528734635, 1541459225] := squares
theorem const64 : constL 64 true = rootsL := by
  rw [← cubesAll]; rfl
end Go.Proofs.YtdedfjkenbaebaaDoor

/- schedule of the reference. -/
namespace Go.Proofs.YtdedfjkenbaebaaDoor
open Go.RowKit
set_option linter.unusedVariables false

theorem rot_gives (x n : Int) (hn : Amt n) (w : World) : Calls Tryd.prog 82 #[.int .u32 x, .int .i64 n] w (Gives (.int .u32 (ror x n)) w) := gives_drawn (rotate_any x n hn w)

set_option maxRecDepth 100000 in
set_option maxHeartbeats 8000000 in
theorem rsched_any (b o cap : Nat) (f : Nat → Int) (hcap : 64 ≤ cap) (hcap2 : cap ≤ 9223372036854775807) (w : World) (hf : ∀ i, i < 64 → w.cell? ⟨b, o + i, none⟩ = some (.int .u8 (f i))) :
    Calls Tryd.prog 57 #[.slice (some ⟨b, o, none⟩) 64 cap] w (MakesR 88 ((wl f 64).map (Value.int .u32)) w) := by
  obtain ⟨E⟩ := elem_of (P := Tryd.prog) (t := 56) (e := 88) (z := .int .u32 0) (n := 4) Tryd.underlying56 (by kernel_rfl) rfl (by omega)
  have HF := Lib.hid hf
  clear hf
  go_enter Tryd.func57, Tryd.ntmps57
  go_wp2
  go_loopw [3, 4] (fun out i wr => ∃ k : Nat, k ≤ 16 ∧ i = .int .i64 k ∧ ∃ s : OwnW w 88 out ((wl f k).map (Value.int .u32)), wr = s.w) (fun _ i _ => 16 - (intOf i).toNat)
  case atStart => exact ⟨0, by omega, rfl, ⟨w, Below.refl _ _, World.ownsRow_nil w w.heap.size 88 1⟩, rfl⟩
  case round =>
    obtain ⟨k, hk, rfl, s, rfl⟩ := hrel
    by_cases hlt : k < 16
    · skip
      have hc : ∀ j, j < 4 → ∀ s : OwnW w 88 u3 ((wl f k).map (Value.int .u32)), s.w.cell? ⟨b, o + (4 * k + j), none⟩ = some (.int .u8 (f (4 * k + j))) := fun j hj s => by
        have h := HF.out (4 * k + j) (by omega)
        rw [← h]
        exact s.below.cell (p := ⟨b, _, none⟩) (World.block_lt_of_cell? w _ h)
      have hc0 := hc 0 (by omega)
      rw [Nat.add_zero] at hc0
      have hc1 := hc 1 (by omega)
      have hc2 := hc 2 (by omega)
      have hc3 := hc 3 (by omega)
      clear hc
      have HLN := Lib.hid (show ((wl f k).map (Value.int .u32)).length + ([Value.int .u32 (word0 f k)] : List Value).length ≤ 1099511627776 by rw [List.length_map, wl_length]; simp; omega)
      go_wp2
      refine wp_region_O_tail1 34 s (.tmp 3) rfl rfl (by kernel_rfl) (by kernel_rfl) (fun _ _ _ h => h) (fun hne => ?_)
      simp only [List.take_succ_cons, List.take_zero, List.drop_succ_cons, List.drop_zero]
      clear s
      repeat (go_big_quiet_step (fail))
      refine wpQuiet_nil ?_
      rintro _ ⟨s, rfl⟩
      clear hne hc0 hc1 hc2 hc3
      go_wp2_with (refine wpList_append_O E s [.int .u32 (word0 f k)] _ rfl (.tmp 14) (.tmp 48) rfl rfl rfl 1 1 rfl rfl (by simp [Value.oneCell']) HLN.out ?_; intro v' s3)
      go_roundw
      case rel => exact ⟨k + 1, by omega, by go_num, s3.as (by rw [wl_low f hlt, List.map_append]; rfl), rfl⟩
      case measure => simp [intOf]; omega
    · obtain rfl : k = 16 := by omega
      go_wp2
      rw [show ((16 : Nat) : Int) = 16 from rfl]
      go_loopw [3, 5, 6, 7, 8, 9] (fun out i _ _ _ _ wr => ∃ k : Nat, 16 ≤ k ∧ k ≤ 64 ∧ i = .int .i64 k ∧ ∃ s : OwnW w 88 out ((wl f k).map (Value.int .u32)), wr = s.w) (fun _ i _ _ _ _ _ => 64 - (intOf i).toNat)
      case atStart => exact ⟨16, by omega, by omega, rfl, s, rfl⟩
      case round =>
        clear s
        obtain ⟨k, hk0, hk, rfl, s, rfl⟩ := hrel
        by_cases hlt : k < 64
        · obtain ⟨g, cap3, rfl, hg, hcp, hcm, hxx⟩ := s.row k (by rw [List.length_map, wl_length]) (by omega)
          have hc : ∀ j, j < k → ∀ s : OwnW w 88 (.slice (some ⟨g, 0, none⟩) k cap3) ((wl f k).map (Value.int .u32)), s.w.cell? ⟨g, j, none⟩ = some (.int .u32 ((wl f k)[j]?.getD 0)) := fun j hj s => by
            refine s.all j _ ?_
            rw [List.getElem?_map, List.getElem?_eq_getElem (by rw [wl_length]; exact hj)]; rfl
          have hs2 := hc (k - 2) (by omega) s
          have hs15 := hc (k - 15) (by omega) s
          have hc7 := hc (k - 7) (by omega)
          have hc16 := hc (k - 16) (by omega)
          have HLN := Lib.hid (show ((wl f k).map (Value.int .u32)).length + ([Value.int .u32 (word1 (wl f k) k)] : List Value).length ≤ 1099511627776 by rw [List.length_map, wl_length]; simp; omega)
          have hcx : cap3 ≤ 9223372036854775807 := by unfold maxLen at hcm; omega
          clear hc hcm hxx
          obtain ⟨s0, hs0⟩ : ∃ s0, s0 = s := ⟨_, rfl⟩
          rw [← hs0] at hs2 hs15 ⊢
          clear hs0 s
          go_wp2_with fail
          refine (OwnW.call (s := s0) (rot_gives _ _ (by unfold Amt; simp) s0.w)).mono ?_
          rintro e _ ⟨rfl, s1, rfl⟩
          clear hs2 hs15 s0
          go_wp2_with fail
          refine (OwnW.call (s := s1) (rot_gives _ _ (by unfold Amt; simp) s1.w)).mono ?_
          rintro e _ ⟨rfl, s2, rfl⟩
          clear s1
          go_wp2_with fail
          refine (OwnW.call (s := s2) (rot_gives _ _ (by unfold Amt; simp) s2.w)).mono ?_
          rintro e _ ⟨rfl, s3, rfl⟩
          clear s2
          go_wp2_with fail
          refine (OwnW.call (s := s3) (rot_gives _ _ (by unfold Amt; simp) s3.w)).mono ?_
          rintro e _ ⟨rfl, s4, rfl⟩
          clear s3
          go_wp2
          refine wp_region_O_tail1 16 s4 (.tmp 3) rfl rfl (by kernel_rfl) (by kernel_rfl) (fun _ _ _ h => h) (fun hne => ?_)
          simp only [List.take_succ_cons, List.take_zero, List.drop_succ_cons, List.drop_zero]
          clear s4
          repeat (go_big_quiet_step (fail))
          refine wpQuiet_nil ?_
          rintro _ ⟨s, rfl⟩
          clear hne hc7 hc16
          go_wp2_with (refine wpList_append_O E s [.int .u32 (word1 (wl f k) k)] _ rfl (.tmp 80) (.tmp 96) rfl rfl rfl 1 1 rfl rfl (by simp [Value.oneCell']) HLN.out ?_; intro v' s3)
          go_roundw
          case rel => exact ⟨k + 1, by omega, by omega, by go_num, s3.as (by rw [wl_high f hk0, List.map_append]; rfl), rfl⟩
          case measure => simp [intOf]; omega
        · obtain rfl : k = 64 := by omega
          go_wp2
          go_ret
          exact ⟨_, rfl, s, rfl⟩
end Go.Proofs.YtdedfjkenbaebaaDoor

/- block of the reference. -/
namespace Go.Proofs.YtdedfjkenbaebaaDoor
open Go.RowKit
set_option linter.unusedVariables false

theorem own_empty32 (w : World) : ∃ s : OwnW w 88 (.slice (some ⟨w.heap.size, 0, none⟩) 0 0) [], w.alloc (.cells #[] 88) = s.w :=
  ⟨⟨_, (Below.refl _ w).alloc (Nat.le_refl _) _, by
    have := World.ownsRow_made (base := w.heap.size) (e := 88) (size := 1) w #[] 0 (Nat.le_refl _) (by unfold maxLen; omega) rfl
    simpa using this⟩, rfl⟩
theorem one_words (l : List Int) : ∀ u ∈ l.map (Value.int .u32), u.oneCell' = true := fun u hu => by
  obtain ⟨x, _, rfl⟩ := List.mem_map.1 hu; rfl
/-- A literal of eight words. -/
theorem own8 {w0 : World} (u : V8) {v : Value} {xs : List Value} (s : OwnW w0 88 v xs) : ∃ s2 : OwnW w0 88 (.slice (some ⟨s.w.heap.size, 0, none⟩) 8 8) (u.list.map (Value.int .u32)),
    s.w.alloc (.cells #[.int .u32 u.a, .int .u32 u.b, .int .u32 u.c, .int .u32 u.d, .int .u32 u.e, .int .u32 u.f, .int .u32 u.g, .int .u32 u.h] 88) = s2.w :=
  ⟨⟨_, s.below.alloc s.below.size _, ⟨rfl, .inr ⟨s.w.heap.size, 8, _, rfl, s.below.size, heap_new _ _ rfl, Nat.le_refl 8, by unfold maxLen; omega, by rfl, by rfl⟩⟩⟩, rfl⟩
/-- Eight words that lie somewhere. -/
def Words (w : World) (a : Option Addr) (l : List Int) : Prop := ∃ b o, a = some ⟨b, o, none⟩ ∧ ∀ i, i < l.length → w.cell? ⟨b, o + i, none⟩ = some (.int .u32 (l[i]?.getD 0))
def sumL (v u : V8) (k : Nat) : List Int := (List.range k).map fun i => (v.at i + u.at i) % 4294967296
theorem sum8 (v u : V8) : sumL v u 8 = (addK v u 8).list := rfl

set_option maxRecDepth 100000 in
set_option maxHeartbeats 8000000 in
theorem rblock_any (v : V8) (W : List Int) (hW : W.length = 64) (gs os cs gw ow cw gk ok ck : Nat) (hcs : 8 ≤ cs) (hcs2 : cs ≤ 9223372036854775807) (hcw : 64 ≤ cw) (hcw2 : cw ≤ 9223372036854775807) (hck : 64 ≤ ck) (hck2 : ck ≤ 9223372036854775807) (w : World)
    (hs : ∀ i, i < 8 → w.cell? ⟨gs, os + i, none⟩ = some (.int .u32 (v.at i))) (hw : ∀ i, i < 64 → w.cell? ⟨gw, ow + i, none⟩ = some (.int .u32 (W[i]?.getD 0))) (hk : ∀ i, i < 64 → w.cell? ⟨gk, ok + i, none⟩ = some (.int .u32 (rootsL[i]?.getD 0))) :
    Calls Tryd.prog 56 #[.slice (some ⟨gs, os, none⟩) 8 cs, .slice (some ⟨gw, ow, none⟩) 64 cw, .slice (some ⟨gk, ok, none⟩) 64 ck] w (MakesR 88 ((mixW v W).list.map (Value.int .u32)) w) := by
  obtain ⟨E⟩ := elem_of (P := Tryd.prog) (t := 56) (e := 88) (z := .int .u32 0) (n := 4) Tryd.underlying56 (by kernel_rfl) rfl (by omega)
  have HW := Lib.hid hw
  have HK := Lib.hid hk
  have HSV := Lib.hid hs
  have HL := Lib.hid hW
  obtain ⟨so, hso⟩ := own_empty32 w
  have HSO := Lib.hid hso
  have HSRC := Lib.hid (show ∀ ad, some (⟨gs, os, none⟩ : Addr) = some ad → ∀ j u, (v.list.map (Value.int .u32))[j]? = some u → so.w.cell? (ad.add j) = some u from fun ad had j u hu => by
    obtain rfl := Option.some.inj had
    have hj := (List.getElem?_eq_some_iff.1 hu).1
    rw [List.length_map] at hj
    have hj8 : j < 8 := hj
    have hcj := hs j hj8
    rw [Addr.add_mid, so.below.cell (p := ⟨gs, os + j, none⟩) (World.block_lt_of_cell? _ _ hcj), hcj]
    rw [List.getElem?_map, List.getElem?_eq_getElem hj] at hu
    rw [← Option.some.inj hu, V8.at, List.getElem?_eq_getElem hj]; rfl)
  clear hs hw hk hso hW
  go_enter Tryd.func56, Tryd.ntmps56
  go_wp2_with (rw [HSO.out]; refine wpList_append_src E so (v.list.map (Value.int .u32)) (.tmp 15) (.tmp 16) rfl rfl rfl (some ⟨gs, os, none⟩) 8 cs rfl rfl (fun h => by cases h) HSRC.out (one_words _) (by simp [V8.list]) ?_; intro v' s2)
  clear HSRC HSO so
  go_loopw [7, 8, 9, 10, 11, 12] (fun vv i _ _ _ _ wr => ∃ k : Nat, k ≤ 64 ∧ i = .int .i64 k ∧ ∃ u : V8, Hid (u = rounds W v k) ∧ ∃ s : OwnW w 88 vv (u.list.map (Value.int .u32)), wr = s.w) (fun _ i _ _ _ _ _ => 64 - (intOf i).toNat)
  case atStart => exact ⟨0, by omega, rfl, v, rfl, s2.as (by simp), rfl⟩
  case round =>
    clear s2
    obtain ⟨k, hk, rfl, u, hu, s, rfl⟩ := hrel
    obtain ⟨g, cap3, rfl, hg, hcp, hcm, hxx⟩ := s.row 8 (by simp [V8.list]) (by omega)
    have hcx : cap3 ≤ 9223372036854775807 := by unfold maxLen at hcm; omega
    clear hcm hxx
    by_cases hlt : k < 64
    · have c0 := fun s : OwnW w 88 (.slice (some ⟨g, 0, none⟩) 8 cap3) (u.list.map (Value.int .u32)) => s.all 0 (.int .u32 u.a) rfl
      have c1 := fun s : OwnW w 88 (.slice (some ⟨g, 0, none⟩) 8 cap3) (u.list.map (Value.int .u32)) => s.all 1 (.int .u32 u.b) rfl
      have c2 := fun s : OwnW w 88 (.slice (some ⟨g, 0, none⟩) 8 cap3) (u.list.map (Value.int .u32)) => s.all 2 (.int .u32 u.c) rfl
      have c3 := fun s : OwnW w 88 (.slice (some ⟨g, 0, none⟩) 8 cap3) (u.list.map (Value.int .u32)) => s.all 3 (.int .u32 u.d) rfl
      have c4 := fun s : OwnW w 88 (.slice (some ⟨g, 0, none⟩) 8 cap3) (u.list.map (Value.int .u32)) => s.all 4 (.int .u32 u.e) rfl
      have c5 := fun s : OwnW w 88 (.slice (some ⟨g, 0, none⟩) 8 cap3) (u.list.map (Value.int .u32)) => s.all 5 (.int .u32 u.f) rfl
      have c6 := fun s : OwnW w 88 (.slice (some ⟨g, 0, none⟩) 8 cap3) (u.list.map (Value.int .u32)) => s.all 6 (.int .u32 u.g) rfl
      have c7 := fun s : OwnW w 88 (.slice (some ⟨g, 0, none⟩) 8 cap3) (u.list.map (Value.int .u32)) => s.all 7 (.int .u32 u.h) rfl
      have cr : ∀ s : OwnW w 88 (.slice (some ⟨g, 0, none⟩) 8 cap3) (u.list.map (Value.int .u32)), s.w.cell? ⟨gk, ok + k, none⟩ = some (.int .u32 (rootsL[k]?.getD 0)) := fun s => by
        have h := HK.out k hlt
        rw [← h]; exact s.below.cell (p := ⟨gk, _, none⟩) (World.block_lt_of_cell? w _ h)
      have cw : ∀ s : OwnW w 88 (.slice (some ⟨g, 0, none⟩) 8 cap3) (u.list.map (Value.int .u32)), s.w.cell? ⟨gw, ow + k, none⟩ = some (.int .u32 (W[k]?.getD 0)) := fun s => by
        have h := HW.out k hlt
        rw [← h]; exact s.below.cell (p := ⟨gw, _, none⟩) (World.block_lt_of_cell? w _ h)
      have d0 := c0 s
      have d4 := c4 s
      go_wp2
      clear d0 d4
      refine wp_region_O s (by kernel_rfl) (by kernel_rfl) (fun hne => ?_)
      clear s
      repeat (go_big_quiet_step ((go_at_call 82; exact OwnW.call (rot_gives _ _ (by unfold Amt; simp) _))))
      refine wpQuiet_nil ?_
      rintro _ ⟨s, rfl⟩
      clear hne
      rw [allOnes]
      go_wp2
      refine wp_region_O s (by kernel_rfl) (by kernel_rfl) (fun hne => ?_)
      clear s
      repeat (go_big_quiet_step ((go_at_call 82; exact OwnW.call (rot_gives _ _ (by unfold Amt; simp) _))))
      refine wpQuiet_nil ?_
      rintro _ ⟨s, rfl⟩
      clear hne cr cw
      go_wp2
      refine wp_region_O_tail 26 s (by kernel_rfl) (by kernel_rfl) (fun hne => ?_)
      simp only [List.take_succ_cons, List.take_zero, List.drop_succ_cons, List.drop_zero]
      clear s
      repeat (go_big_quiet_step (fail))
      refine wpQuiet_nil ?_
      rintro _ ⟨s, rfl⟩
      clear hne c0 c1 c2 c3 c4 c5 c6 c7
      obtain ⟨s3, hs3⟩ := own8 (rnd u (rootsL[k]?.getD 0) (W[k]?.getD 0)) s
      have HS3 := Lib.hid hs3
      clear hs3
      go_wp2
      go_roundw
      case rel => exact ⟨k + 1, by omega, by go_num, rnd u (rootsL[k]?.getD 0) (W[k]?.getD 0), Lib.hid (by rw [hu.out]; rfl), s3, by rw [← HS3.out]; simp [rnd, tOne, tTwo]⟩
      case measure => simp [intOf]; omega
    · obtain rfl : k = 64 := by omega
      go_wp2
      rw [show ((64 : Nat) : Int) = 64 from rfl]
      have HB := Lib.hid s.below
      have HC := Lib.hid (show ∀ i, i < 8 → s.w.cell? ⟨g, i, none⟩ = some (.int .u32 (u.at i)) from fun i hi => by
        refine s.all i _ ?_
        rw [List.getElem?_map, V8.at, List.getElem?_eq_getElem (show i < u.list.length from hi)]; rfl)
      have HD := Lib.hid (show ∀ i, i < 8 → s.w.cell? ⟨gs, os + i, none⟩ = some (.int .u32 (v.at i)) from fun i hi => by
        have h := HSV.out i hi
        rw [← h]; exact s.below.cell (p := ⟨gs, _, none⟩) (World.block_lt_of_cell? w _ h))
      generalize s.w = w1 at HB HC HD ⊢
      clear s
      go_loopw [13, 14] (fun out i wr => ∃ k : Nat, k ≤ 8 ∧ i = .int .i64 k ∧ ∃ s : OwnW w1 88 out ((sumL v u k).map (Value.int .u32)), wr = s.w) (fun _ i _ => 8 - (intOf i).toNat)
      case atStart => exact ⟨0, by omega, rfl, ⟨w1, Below.refl _ _, World.ownsRow_nil w1 w1.heap.size 88 1⟩, rfl⟩
      case round =>
        obtain ⟨k, hk, rfl, s, rfl⟩ := hrel
        by_cases hlt : k < 8
        · have cu : ∀ s : OwnW w1 88 u13 ((sumL v u k).map (Value.int .u32)), s.w.cell? ⟨g, k, none⟩ = some (.int .u32 (u.at k)) := fun s => by
            have h := HC.out k hlt
            rw [← h]; exact s.below.cell (p := ⟨g, _, none⟩) (World.block_lt_of_cell? w1 _ h)
          have cv : ∀ s : OwnW w1 88 u13 ((sumL v u k).map (Value.int .u32)), s.w.cell? ⟨gs, os + k, none⟩ = some (.int .u32 (v.at k)) := fun s => by
            have h := HD.out k hlt
            rw [← h]; exact s.below.cell (p := ⟨gs, _, none⟩) (World.block_lt_of_cell? w1 _ h)
          have HLN := Lib.hid (show ((sumL v u k).map (Value.int .u32)).length + ([Value.int .u32 ((v.at k + u.at k) % 4294967296)] : List Value).length ≤ 1099511627776 by unfold sumL; simp; omega)
          have HSU := Lib.hid (show sumL v u (k + 1) = sumL v u k ++ [(v.at k + u.at k) % 4294967296] by unfold sumL; rw [List.range_succ, List.map_append]; rfl)
          go_wp2
          refine wp_region_O_tail1 10 s (.tmp 13) rfl rfl (by kernel_rfl) (by kernel_rfl) (fun _ _ _ h => h) (fun hne => ?_)
          simp only [List.take_succ_cons, List.take_zero, List.drop_succ_cons, List.drop_zero]
          clear s
          repeat (go_big_quiet_step (fail))
          refine wpQuiet_nil ?_
          rintro _ ⟨s, rfl⟩
          clear hne cu cv
          go_wp2_with (refine wpList_append_O E s [.int .u32 ((v.at k + u.at k) % 4294967296)] _ rfl (.tmp 122) (.tmp 132) rfl rfl rfl 1 1 rfl rfl (by simp [Value.oneCell']) HLN.out ?_; intro v' s3)
          go_roundw
          case rel => exact ⟨k + 1, by omega, by go_num, s3.as (by rw [HSU.out, List.map_append]; rfl), rfl⟩
          case measure => simp [intOf]; omega
        · obtain rfl : k = 8 := by omega
          go_wp2
          go_ret
          exact ⟨_, rfl, (s.as (by rw [sum8, hu.out]; rfl)).rebase HB.out, rfl⟩
end Go.Proofs.YtdedfjkenbaebaaDoor

/- pad of the reference. -/
namespace Go.Proofs.YtdedfjkenbaebaaDoor
open Go.RowKit
set_option linter.unusedVariables false

theorem low_val (b j : Nat) : (b : Int) / 2 ^ (8 * j) % 256 = ((b / 256 ^ j % 256 : Nat) : Int) := by
  have h : ((2 : Int) ^ (8 * j)) = ((2 ^ (8 * j) : Nat) : Int) := (Int.natCast_pow 2 (8 * j)).symm
  have h2 : (2 : Nat) ^ (8 * j) = 256 ^ j := Nat.pow_mul 2 8 j
  rw [h, h2]
  generalize (256 : Nat) ^ j = x
  rfl
set_option maxRecDepth 100000 in
set_option maxHeartbeats 8000000 in
theorem rpad_any (m : List Int) (a : Option Addr) (cap : Nat) (w : World) (hb : BytesIn w a m cap) (hm : m.length ≤ 1000000) : Calls Tryd.prog 55 #[.slice a m.length cap] w (MakesR 5 ((m ++ padL m.length).map (Value.int .u8)) w) := by
  obtain ⟨E⟩ := elem_of (P := Tryd.prog) (t := 22) (e := 5) (z := .int .u8 0) (n := 1) Tryd.underlying22 (by kernel_rfl) rfl (by omega)
  obtain ⟨so, hso⟩ := own_empty w
  have HSO := Lib.hid hso
  have hml : m.length = (m.map (Value.int .u8)).length := (List.length_map _).symm
  have HML := Lib.hid hml
  have HN := Lib.hid (show a = none → m.length = 0 ∧ cap = 0 from fun h => ⟨by have := hb.nil h; have := hb.len; omega, hb.nil h⟩)
  have HSRC := Lib.hid (show ∀ ad, a = some ad → ∀ j u, (m.map (Value.int .u8))[j]? = some u → so.w.cell? (ad.add j) = some u from fun ad had j u hu => by
    have hj := (List.getElem?_eq_some_iff.1 hu).1
    rw [List.length_map] at hj
    obtain ⟨b, o, h1, hc⟩ := hb.cells (by omega)
    obtain rfl := Option.some.inj (had.symm.trans h1)
    have hcj := hc j hj
    rw [Addr.add_mid, so.below.cell (p := ⟨b, o + j, none⟩) (World.block_lt_of_cell? _ _ hcj), hcj]
    rw [List.getElem?_map] at hu
    obtain ⟨x, hx, rfl⟩ := Option.map_eq_some_iff.1 hu
    rw [hx]; rfl)
  have HPL := Lib.hid (show m ++ padL m.length = (m ++ 128 :: List.replicate (zerosOf m.length) 0) ++ lowB (m.length * 8) 8 by unfold padL padK; simp)
  have HLM := Lib.hid (show m.length = m.length from rfl)
  obtain ⟨n, hn⟩ : ∃ n, n = m.length := ⟨_, rfl⟩
  rw [← hn] at HPL HML HN hm ⊢
  have HNL := Lib.hid hn
  clear hso hb hml hn HLM
  go_enter Tryd.func55, Tryd.ntmps55
  go_wp2_with (first
    | (rw [HSO.out]; refine wpList_append_src E so (m.map (Value.int .u8)) (.tmp 6) (.tmp 7) rfl rfl rfl a n cap HML.out rfl HN.out HSRC.out (one_bytes _) (by rw [← HML.out]; simp; omega) ?_; intro v' s2)
    | (refine wpList_append_O E s2 [.int .u8 128] _ rfl (.tmp 9) (.tmp 10) rfl rfl rfl 1 1 rfl rfl (by simp [Value.oneCell']) (by simp; rw [← HNL.out]; omega) ?_; intro v2 s3))
  clear HSRC HN HSO so
  obtain ⟨z, hz⟩ : ∃ z, z = zerosOf n := ⟨_, rfl⟩
  rw [← hz] at HPL
  have HZ := Lib.hid (show ∀ t, t ≤ z → ((n + 1 + t) % 64 = 56 ↔ t = z) from fun t ht => by unfold zerosOf at hz; omega)
  have hz64 : z < 64 := by unfold zerosOf at hz; omega
  clear hz
  go_loopw [3] (fun out wr => ∃ t : Nat, t ≤ z ∧ ∃ s : OwnW w 5 out ((m ++ 128 :: List.replicate t 0).map (Value.int .u8)), wr = s.w) (fun out _ => 2000000 - lenOf out)
  case atStart => exact ⟨0, by omega, s3.as (by simp), rfl⟩
  case round =>
    clear s3
    obtain ⟨t, ht, s, rfl⟩ := hrel
    obtain ⟨L, hL⟩ : ∃ L, L = n + 1 + t := ⟨_, rfl⟩
    have HLL := Lib.hid (show ((m ++ 128 :: List.replicate t 0).map (Value.int .u8)).length = L by rw [List.length_map, List.length_append, List.length_cons, List.length_replicate, ← HNL.out]; omega)
    obtain ⟨a3, cap3, rfl, hc3, hcb3, hrow⟩ := s.view L HLL.out
    by_cases hlt : t < z
    · have hne : ((L : Int) % 64 != 56) = true := by
        rw [bne_iff_ne]
        have := HZ.out t ht
        omega
      have hL2 : L < 2000000 := by omega
      clear hL hc3 hcb3 hrow
      go_wp2_with (refine wpList_append_O E s [.int .u8 0] _ rfl (.tmp 16) (.tmp 17) rfl rfl rfl 1 1 rfl rfl (by simp [Value.oneCell']) (by rw [HLL.out]; simp; omega) ?_; intro v' s4)
      obtain ⟨a4, cap4, rfl, _, _, _⟩ := s4.view (L + 1) (by rw [List.length_append, HLL.out]; rfl)
      go_roundw
      case rel => exact ⟨t + 1, by omega, s4.as (by simp [List.replicate_succ']), rfl⟩
      case measure => simp [lenOf]; omega
    · obtain rfl : t = z := by omega
      have hne : ((L : Int) % 64 != 56) = false := by
        have := (HZ.out t ht).2 rfl
        simp; omega
      have w1 : IntKind.u64.wrap (n : Int) = n := by rw [IntKind.wrap_u64]; omega
      have w2 : IntKind.u64.wrap ((n : Int) * 8) = n * 8 := by rw [IntKind.wrap_u64]; omega
      clear hL hrow
      go_wp2
      clear w1 w2
      have HPR := Lib.hid (show (m ++ 128 :: List.replicate t 0).length ≤ 100 + 1000000 by rw [List.length_append, List.length_cons, List.length_replicate, ← HNL.out]; omega)
      go_loopw [3, 5] (fun out i wr => ∃ (pre : List Int) (q : Nat), q ≤ 8 ∧ ((q = 0 ∧ i = .int .i64 (-1)) ∨ ∃ j : Nat, q = j + 1 ∧ i = .int .i64 j) ∧ Hid (pre ++ lowB (n * 8) q = m ++ padL n) ∧ Hid (pre.length + q ≤ 1001200) ∧ ∃ s : OwnW w 5 out (pre.map (Value.int .u8)), wr = s.w) (fun _ i _ => (intOf i + 1).toNat)
      case atStart => exact ⟨_, 8, by omega, .inr ⟨7, rfl, rfl⟩, HPL.out.symm, Lib.hid (by have := HPR.out; omega), s, rfl⟩
      case round =>
        clear s
        obtain ⟨pre, q, hq, hi, hT, hpl, s, rfl⟩ := hrel
        rcases hi with ⟨rfl, rfl⟩ | ⟨j, rfl, rfl⟩
        · have HT := Lib.hid (show pre = m ++ padL n by rw [← hT.out]; simp [lowB])
          clear hT hpl
          go_wp2
          go_ret
          exact ⟨_, rfl, s.as (by rw [HT.out]), rfl⟩
        · have HV := Lib.hid (show ((n : Int) * 8) / 2 ^ (8 * j) % 256 = ((n * 8 / 256 ^ j % 256 : Nat) : Int) by have := low_val (n * 8) j; rw [← this]; simp)
          have HT := Lib.hid (show (pre ++ [((n * 8 / 256 ^ j % 256 : Nat) : Int)]) ++ lowB (n * 8) j = m ++ padL n by rw [← hT.out, lowB]; simp)
          have hj8 : j < 8 := by omega
          clear hT
          go_wp2_with (refine wpList_append_O E s [.int .u8 (((n : Int) * 8) / 2 ^ (8 * j) % 256)] _ rfl (.tmp 27) (.tmp 33) rfl rfl rfl 1 1 rfl rfl (by simp [Value.oneCell']) (by rw [List.length_map]; have := hpl.out; simp; omega) ?_; intro v' s4)
          go_roundw
          case rel =>
            refine ⟨pre ++ [((n * 8 / 256 ^ j % 256 : Nat) : Int)], j, by omega, ?_, HT, Lib.hid (by have := hpl.out; rw [List.length_append]; simp; omega), s4.as (by rw [HV.out, List.map_append]; rfl), rfl⟩
            cases j with
            | zero => exact .inl ⟨rfl, rfl⟩
            | succ j => exact .inr ⟨j, rfl, by go_num⟩
          case measure => simp [intOf]; try omega
end Go.Proofs.YtdedfjkenbaebaaDoor

/- Table of the reference: the constants. -/
namespace Go.Proofs.YtdedfjkenbaebaaDoor
open Go.RowKit
set_option linter.unusedVariables false

def keysA (gS cS gK cK : Nat) : Array Value := #[.slice (some ⟨gS, 0, none⟩) 8 cS, .slice (some ⟨gK, 0, none⟩) 64 cK]
/-- What Table hands out. -/
structure KeysIn (w : World) (gS cS gK cK : Nat) : Prop where
  s1 : 8 ≤ cS
  s2 : cS ≤ 9223372036854775807
  k1 : 64 ≤ cK
  k2 : cK ≤ 9223372036854775807
  s : ∀ i, i < 8 → w.cell? ⟨gS, 0 + i, none⟩ = some (.int .u32 (initV.at i))
  k : ∀ i, i < 64 → w.cell? ⟨gK, 0 + i, none⟩ = some (.int .u32 (rootsL[i]?.getD 0))

set_option maxRecDepth 100000 in
set_option maxHeartbeats 8000000 in
theorem table_any (w : World) : Calls Tryd.prog 33 #[] w fun e w' => ∃ gS cS gK cK, e = .returned (.agg (keysA gS cS gK cK)) ∧ KeysIn w' gS cS gK cK ∧ Below w.heap.size w w' := by
  have h8 := fun w => constants_any 8 (by omega) false w
  have h64 := fun w => constants_any 64 (by omega) true w
  rw [const8] at h8
  rw [const64] at h64
  have H8 := Lib.hid h8
  have H64 := Lib.hid h64
  obtain ⟨s0, hs0⟩ : ∃ s0 : HeldW w [(w.heap.size, .cells #[.slice none 0 0, .slice none 0 0] 58 (0, 0))], w.alloc (.cells #[.slice none 0 0, .slice none 0 0] 58) = s0.w := ⟨(HeldW.start w).push (.cells #[.slice none 0 0, .slice none 0 0] 58 (0, 0)), rfl⟩
  have HS := Lib.hid hs0
  clear h8 h64 hs0
  go_enter Tryd.func33, Tryd.ntmps33
  go_wp2_with fail
  rw [show w.alloc (.cells #[.slice none 0 0, .slice none 0 0] 58) = s0.w from HS.out]
  refine (H8.out s0.w).mono ?_
  rintro e _ ⟨v8, rfl, o8, rfl⟩
  obtain ⟨gS, cS, curS, rfl, hS1, hS2, hgS, hneS, HcS, s1, hs1⟩ := s0.own o8 8 rfl (by omega)
  rw [show o8.w = s1.w from hs1]
  clear hs1 o8 HS s0
  go_wp2_with fail
  refine (H64.out s1.w).mono ?_
  rintro e _ ⟨v64, rfl, o64, rfl⟩
  obtain ⟨gK, cK, curK, rfl, hK1, hK2, hgK, hneK, HcK, s2, hs2⟩ := s1.own o64 64 rfl (by omega)
  rw [show o64.w = s2.w from hs2]
  clear hs2 o64 s1
  have hrs := s2.blocks (w.heap.size, .cells #[.slice none 0 0, .slice none 0 0] 58 (0, 0)) (by simp)
  have hc0 : s2.w.cell? ⟨w.heap.size, 0, none⟩ = some (.slice none 0 0) := by rw [cell_of hrs]; rfl
  have hc1 : s2.w.cell? ⟨w.heap.size, 1, none⟩ = some (.slice none 0 0) := by rw [cell_of hrs]; rfl
  have hf0 := free_of hrs 0
  have hf1 := free_of hrs 1
  have n1 : gS ≠ w.heap.size := fun h => hneS.out _ List.mem_cons_self h.symm
  have n2 : gK ≠ w.heap.size := fun h => hneK.out (w.heap.size, _) (List.mem_cons_of_mem _ List.mem_cons_self) h.symm
  obtain ⟨s3, hs3⟩ : ∃ s3 : HeldW w [(w.heap.size, .cells (keysA gS cS gK cK) 58 (0, 0)), (gK, .cells curK 88 (0, 0)), (gS, .cells curS 88 (0, 0))], (s2.w.setCell ⟨w.heap.size, 0, none⟩ (.slice (some ⟨gS, 0, none⟩) 8 cS)).setCell ⟨w.heap.size, 1, none⟩ (.slice (some ⟨gK, 0, none⟩) 64 cK) = s3.w :=
    ⟨((s2.sub (bs' := [(w.heap.size, .cells #[.slice none 0 0, .slice none 0 0] 58 (0, 0)), (gK, .cells curK 88 (0, 0)), (gS, .cells curS 88 (0, 0))]) (fun p hp => by simp only [List.mem_cons, List.not_mem_nil, or_false] at hp ⊢; rcases hp with h | h | h <;> simp [h])).store (i := 0) (v := .slice (some ⟨gS, 0, none⟩) 8 cS) (cs' := #[.slice (some ⟨gS, 0, none⟩) 8 cS, .slice none 0 0]) (Nat.le_refl _) (all2 n2 n1) rfl).store (i := 1) (v := .slice (some ⟨gK, 0, none⟩) 64 cK) (cs' := keysA gS cS gK cK) (Nat.le_refl _) (all2 n2 n1) rfl, rfl⟩
  have HS3 := Lib.hid hs3
  clear hrs hs3
  have hinf : (Tryd.prog.info? 58).map (·.size) = some (keysA gS cS gK cK).size := by kernel_rfl
  go_wp2
  rw [HS3.out]
  refine bodyPost_ret (v := .agg (keysA gS cS gK cK)) (results_cell_row Tryd.results33 _ _ w.heap.size 58 _ (0, 0) _ rfl (s3.blocks _ List.mem_cons_self) Tryd.underlying58 rfl hinf) rfl ⟨gS, cS, gK, cK, rfl, ⟨hS1, hS2, hK1, hK2, fun i hi => ?_, fun i hi => ?_⟩, s3.below⟩
  · rw [cell_of (s3.blocks (gS, .cells curS 88 (0, 0)) (by simp)), Nat.zero_add]
    refine HcS.out i _ ?_
    rcases lt8 hi with rfl | rfl | rfl | rfl | rfl | rfl | rfl | rfl <;> rfl
  · rw [cell_of (s3.blocks (gK, .cells curK 88 (0, 0)) (by simp)), Nat.zero_add]
    refine HcK.out i _ ?_
    rw [List.getElem?_map, List.getElem?_eq_getElem (show i < rootsL.length from hi)]; rfl
end Go.Proofs.YtdedfjkenbaebaaDoor
