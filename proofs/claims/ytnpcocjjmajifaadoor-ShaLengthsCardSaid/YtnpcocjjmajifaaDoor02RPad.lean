/- pad of the reference. -/
import Derived.Test.YtnpcocjjmajifaaDoor02RBlock
namespace Go.Proofs.YtnpcocjjmajifaaDoor
open Go.RowKit
set_option linter.unusedVariables false

theorem low_val (b j : Nat) : (b : Int) / 2 ^ (8 * j) % 256 = ((b / 256 ^ j % 256 : Nat) : Int) := by
  have h : ((2 : Int) ^ (8 * j)) = ((2 ^ (8 * j) : Nat) : Int) := (Int.natCast_pow 2 (8 * j)).symm
  have h2 : (2 : Nat) ^ (8 * j) = 256 ^ j := Nat.pow_mul 2 8 j
  rw [h, h2]
  generalize (256 : Nat) ^ j = x
  rfl
set_option maxRecDepth 100000 in
set_option maxHeartbeats 8000000 in
theorem rpad_any (m : List Int) (a : Option Addr) (cap : Nat) (w : World) (hb : BytesIn w a m cap) (hm : m.length ≤ 1000) : Calls Tryd.prog 30 #[.slice a m.length cap] w (MakesR 5 ((m ++ padL m.length).map (Value.int .u8)) w) := by
  obtain ⟨E⟩ := elem_of (P := Tryd.prog) (t := 22) (e := 5) (z := .int .u8 0) (n := 1) Tryd.underlying22 (by kernel_rfl) rfl (by omega)
  obtain ⟨so, hso⟩ := own_empty w
  have HSO := Lib.hid hso
  have hml : m.length = (m.map (Value.int .u8)).length := (List.length_map _).symm
  have HML := Lib.hid hml
  have HN := Lib.hid (show a = none → m.length = 0 ∧ cap = 0 from fun h => ⟨by have := hb.nil h; have := hb.len; omega, hb.nil h⟩)
  have HSRC := Lib.hid (show ∀ ad, a = some ad → ∀ j u, (m.map (Value.int .u8))[j]? = some u → so.w.cell? (ad.add j) = some u from fun ad had j u hu => by
    have hj := (List.getElem?_eq_some_iff.1 hu).1
    rw [List.length_map] at hj
    obtain ⟨b, o, h1, hc⟩ := hb.cells (by omega)
    obtain rfl := Option.some.inj (had.symm.trans h1)
    have hcj := hc j hj
    rw [Addr.add_mid, so.below.cell (p := ⟨b, o + j, none⟩) (World.block_lt_of_cell? _ _ hcj), hcj]
    rw [List.getElem?_map] at hu
    obtain ⟨x, hx, rfl⟩ := Option.map_eq_some_iff.1 hu
    rw [hx]; rfl)
  have HPL := Lib.hid (show m ++ padL m.length = (m ++ 128 :: List.replicate (zerosOf m.length) 0) ++ lowB (m.length * 8) 8 by unfold padL padK; simp)
  have HLM := Lib.hid (show m.length = m.length from rfl)
  obtain ⟨n, hn⟩ : ∃ n, n = m.length := ⟨_, rfl⟩
  rw [← hn] at HPL HML HN hm ⊢
  have HNL := Lib.hid hn
  clear hso hb hml hn HLM
  go_enter Tryd.func30, Tryd.ntmps30
  go_wp2_with (first
    | (rw [HSO.out]; refine wpList_append_src E so (m.map (Value.int .u8)) (.tmp 6) (.tmp 7) rfl rfl rfl a n cap HML.out rfl HN.out HSRC.out (one_bytes _) (by rw [← HML.out]; simp; omega) ?_; intro v' s2)
    | (refine wpList_append_O E s2 [.int .u8 128] _ rfl (.tmp 9) (.tmp 10) rfl rfl rfl 1 1 rfl rfl (by simp [Value.oneCell']) (by simp; rw [← HNL.out]; omega) ?_; intro v2 s3))
  clear HSRC HN HSO so
  obtain ⟨z, hz⟩ : ∃ z, z = zerosOf n := ⟨_, rfl⟩
  rw [← hz] at HPL
  have HZ := Lib.hid (show ∀ t, t ≤ z → ((n + 1 + t) % 64 = 56 ↔ t = z) from fun t ht => by unfold zerosOf at hz; omega)
  have hz64 : z < 64 := by unfold zerosOf at hz; omega
  clear hz
  go_loopw [3] (fun out wr => ∃ t : Nat, t ≤ z ∧ ∃ s : OwnW w 5 out ((m ++ 128 :: List.replicate t 0).map (Value.int .u8)), wr = s.w) (fun out _ => 2000 - lenOf out)
  case atStart => exact ⟨0, by omega, s3.as (by simp), rfl⟩
  case round =>
    clear s3
    obtain ⟨t, ht, s, rfl⟩ := hrel
    obtain ⟨L, hL⟩ : ∃ L, L = n + 1 + t := ⟨_, rfl⟩
    have HLL := Lib.hid (show ((m ++ 128 :: List.replicate t 0).map (Value.int .u8)).length = L by rw [List.length_map, List.length_append, List.length_cons, List.length_replicate, ← HNL.out]; omega)
    obtain ⟨a3, cap3, rfl, hc3, hcb3, hrow⟩ := s.view L HLL.out
    by_cases hlt : t < z
    · have hne : ((L : Int) % 64 != 56) = true := by
        rw [bne_iff_ne]
        have := HZ.out t ht
        omega
      have hL2 : L < 2000 := by omega
      clear hL hc3 hcb3 hrow
      go_wp2_with (refine wpList_append_O E s [.int .u8 0] _ rfl (.tmp 16) (.tmp 17) rfl rfl rfl 1 1 rfl rfl (by simp [Value.oneCell']) (by rw [HLL.out]; simp; omega) ?_; intro v' s4)
      obtain ⟨a4, cap4, rfl, _, _, _⟩ := s4.view (L + 1) (by rw [List.length_append, HLL.out]; rfl)
      go_roundw
      case rel => exact ⟨t + 1, by omega, s4.as (by simp [List.replicate_succ']), rfl⟩
      case measure => simp [lenOf]; omega
    · obtain rfl : t = z := by omega
      have hne : ((L : Int) % 64 != 56) = false := by
        have := (HZ.out t ht).2 rfl
        simp; omega
      have w1 : IntKind.u64.wrap (n : Int) = n := by rw [IntKind.wrap_u64]; omega
      have w2 : IntKind.u64.wrap ((n : Int) * 8) = n * 8 := by rw [IntKind.wrap_u64]; omega
      clear hL hrow
      go_wp2
      clear w1 w2
      have HPR := Lib.hid (show (m ++ 128 :: List.replicate t 0).length ≤ 100 + 1000 by rw [List.length_append, List.length_cons, List.length_replicate, ← HNL.out]; omega)
      go_loopw [3, 5] (fun out i wr => ∃ (pre : List Int) (q : Nat), q ≤ 8 ∧ ((q = 0 ∧ i = .int .i64 (-1)) ∨ ∃ j : Nat, q = j + 1 ∧ i = .int .i64 j) ∧ Hid (pre ++ lowB (n * 8) q = m ++ padL n) ∧ Hid (pre.length + q ≤ 1200) ∧ ∃ s : OwnW w 5 out (pre.map (Value.int .u8)), wr = s.w) (fun _ i _ => (intOf i + 1).toNat)
      case atStart => exact ⟨_, 8, by omega, .inr ⟨7, rfl, rfl⟩, HPL.out.symm, Lib.hid (by have := HPR.out; omega), s, rfl⟩
      case round =>
        clear s
        obtain ⟨pre, q, hq, hi, hT, hpl, s, rfl⟩ := hrel
        rcases hi with ⟨rfl, rfl⟩ | ⟨j, rfl, rfl⟩
        · have HT := Lib.hid (show pre = m ++ padL n by rw [← hT.out]; simp [lowB])
          clear hT hpl
          go_wp2
          go_ret
          exact ⟨_, rfl, s.as (by rw [HT.out]), rfl⟩
        · have HV := Lib.hid (show ((n : Int) * 8) / 2 ^ (8 * j) % 256 = ((n * 8 / 256 ^ j % 256 : Nat) : Int) by have := low_val (n * 8) j; rw [← this]; simp)
          have HT := Lib.hid (show (pre ++ [((n * 8 / 256 ^ j % 256 : Nat) : Int)]) ++ lowB (n * 8) j = m ++ padL n by rw [← hT.out, lowB]; simp)
          have hj8 : j < 8 := by omega
          clear hT
          go_wp2_with (refine wpList_append_O E s [.int .u8 (((n : Int) * 8) / 2 ^ (8 * j) % 256)] _ rfl (.tmp 27) (.tmp 33) rfl rfl rfl 1 1 rfl rfl (by simp [Value.oneCell']) (by rw [List.length_map]; have := hpl.out; simp; omega) ?_; intro v' s4)
          go_roundw
          case rel =>
            refine ⟨pre ++ [((n * 8 / 256 ^ j % 256 : Nat) : Int)], j, by omega, ?_, HT, Lib.hid (by have := hpl.out; rw [List.length_append]; simp; omega), s4.as (by rw [HV.out, List.map_append]; rfl), rfl⟩
            cases j with
            | zero => exact .inl ⟨rfl, rfl⟩
            | succ j => exact .inr ⟨j, rfl, by go_num⟩
          case measure => simp [intOf]; try omega
end Go.Proofs.YtnpcocjjmajifaaDoor
