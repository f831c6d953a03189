/- CheckParts returns true for all lists of bytes, and changes nothing that was there. -/
import Derived.Test.YtmjdmojommggjaaDoor00Cut
import Derived.Test.YtmjdmojommggjaaDoor03LawSeals
namespace Go.Proofs.YtmjdmojommggjaaDoor
open Go.RowKit
set_option linter.unusedVariables false

theorem cparts_big (pa : Option Addr) (ls : List (List Int)) (pcap : Nat) (k : Int) (w : World) (hT : Tab w) (hbig : 60 < ls.length) (hmax : ls.length ≤ 9223372036854775807) : Calls Tryd.prog 3 #[.slice pa ls.length pcap, .int .u8 k] w (Gives (.bool true) w) := by
  have ha := alive03_any w hT
  clear hT
  go_enter Tryd.func3, Tryd.ntmps3
  go_wp2_with fail
  refine (HeldW.call (s := HeldW.start w) ha).mono ?_
  rintro e _ ⟨rfl, s1, rfl⟩
  clear ha
  go_wp2
  go_ret
  exact ⟨rfl, s1.below⟩

set_option maxRecDepth 100000 in
set_option maxHeartbeats 8000000 in
theorem cparts_small (pa : Option Addr) (ls : List (List Int)) (pcap : Nat) (k0 : Int) (w : World) (hT : Tab w) (hp : PartsOf w pa ls pcap) (hk0 : 0 ≤ k0 ∧ k0 ≤ 255) (hsmall : ls.length ≤ 60) : Calls Tryd.prog 3 #[.slice pa ls.length pcap, .int .u8 k0] w (Gives (.bool true) w) := by
  have HT := Lib.hid hT
  have HP := Lib.hid hp
  obtain ⟨E⟩ := elem_of (P := Tryd.prog) (t := 24) (e := 5) (z := .int .u8 0) (n := 1) Tryd.underlying24 (by kernel_rfl) rfl (by omega)
  have HF := Lib.hid (show ∀ k, k ≤ ls.length → (∀ j, j < k → (partOf ls j).length ≤ 300) → (ls.take k).flatten.length ≤ 300 * k from fun k => by
    induction k with
    | zero => intro _ _; simp
    | succ k ih =>
      intro hk h
      rw [take_flat ls (by omega), List.length_append]
      have h1 := ih (by omega) (fun j hj => h j (by omega))
      have h2 := h k (by omega)
      omega)
  obtain ⟨N, hN⟩ : ∃ N, N = ls.length := ⟨_, rfl⟩
  rw [← hN] at hsmall ⊢
  have HN := Lib.hid hN
  clear hT hp hN
  go_enter Tryd.func3, Tryd.ntmps3
  go_wp2
  go_loopw [5, 7, 15] (fun t _ i wr => ∃ k : Nat, k ≤ N ∧ i = .int .i64 k ∧ Hid (∀ j, j < k → (partOf ls j).length ≤ 300) ∧ ∃ s : OwnW w 5 t ((ls.take k).flatten.map (Value.int .u8)), wr = s.w) (fun _ _ i _ => N - (intOf i).toNat)
  case atStart => exact ⟨0, by omega, rfl, fun j hj => by omega, ⟨w, Below.refl _ _, World.ownsRow_nil w w.heap.size 5 1⟩, rfl⟩
  case round =>
    obtain ⟨k, hk, rfl, hall, s, rfl⟩ := hrel
    by_cases hlt : k < N
    · have hltl : k < ls.length := by have := HN.out; omega
      obtain ⟨b, o, rfl, hc⟩ := HP.out.parts.cells (by omega)
      obtain ⟨a, cap, hcell0, hbytes⟩ := hc k hltl
      have hbk := World.block_lt_of_cell? w _ hcell0
      have hcell : s.w.cell? ⟨b, o + k, none⟩ = some (.slice a (partOf ls k).length cap) := by rw [s.below.cell (p := ⟨b, o + k, none⟩) hbk, hcell0]
      have hmax : (partOf ls k).length ≤ 9223372036854775807 := Nat.le_trans hbytes.len hbytes.capb
      by_cases hlong : 300 < (partOf ls k).length
      · have ha := alive03_any s.w (HT.out.below s.below)
        clear hc hcell0 hbytes
        generalize (partOf ls k).length = n at hcell hmax hlong
        go_wp2_with fail
        refine (OwnW.call (s := s) ha).mono ?_
        rintro e _ ⟨rfl, s1, rfl⟩
        clear ha hcell
        go_wp2
        go_ret
        exact ⟨rfl, s1.below⟩
      · have hle := HF.out k (by omega) hall.out
        have HNI := Lib.hid (hbytes.nil2 (n := (partOf ls k).length) rfl)
        have HSRC := Lib.hid (hbytes.below s.below).news
        have HTF := Lib.hid (take_flat ls hltl)
        have HALL := Lib.hid (show ∀ j, j < k + 1 → (partOf ls j).length ≤ 300 from fun j hj => by
          by_cases h : j < k
          · exact hall.out j h
          · obtain rfl : j = k := by omega
            omega)
        have HLN := Lib.hid (show ((ls.take k).flatten.map (Value.int .u8)).length + ((partOf ls k).map (Value.int .u8)).length ≤ 1099511627776 by rw [List.length_map, List.length_map]; omega)
        have HML := Lib.hid (show (partOf ls k).length = ((partOf ls k).map (Value.int .u8)).length from (List.length_map _).symm)
        clear hc hcell0 hall hle hbytes
        generalize partOf ls k = l at hcell hmax hlong HNI HSRC HTF HLN HML
        go_wp2_with (refine wpList_append_src E s (l.map (Value.int .u8)) (.tmp 23) (.tmp 24) rfl rfl rfl a l.length cap HML.out rfl HNI.out HSRC.out (one_bytes _) HLN.out ?_; intro v' s2)
        go_roundw
        case rel => exact ⟨k + 1, by omega, by go_num, HALL.out, s2.as (by rw [HTF.out, List.map_append]), rfl⟩
        case measure => simp [intOf]; omega
    · obtain rfl : k = N := by omega
      have hfl := HF.out k (by have := HN.out; omega) hall.out
      have htk : ls.take k = ls := List.take_of_length_le (by have := HN.out; omega)
      rw [htk] at hfl
      obtain ⟨m, hm⟩ : ∃ m, m = ls.flatten.length := ⟨_, rfl⟩
      obtain ⟨a2, cap2, rfl, hb2⟩ := (s.as (by rw [htk]) : OwnW w 5 _ (ls.flatten.map (Value.int .u8))).bytesN hm.symm
      obtain ⟨s1, hs1⟩ : ∃ s1 : HeldW w [], s.w = s1.w := ⟨⟨s.w, s.below, by simp⟩, rfl⟩
      replace hb2 : BytesIn s1.w a2 ls.flatten cap2 := by rw [← hs1]; exact hb2
      rw [hs1]
      have hps := HP.out.below s1.below
      obtain ⟨q, hqk, hq⟩ : ∃ q : Nat, q ≤ k ∧ ((k0 < (k : Int) ∧ k0 = (q : Int)) ∨ (q = k ∧ k0 = (k : Int)) ∨ ((k : Int) < k0 ∧ q = k)) := by
        by_cases h : k0 < (k : Int)
        · exact ⟨k0.toNat, by omega, .inl ⟨h, by omega⟩⟩
        · by_cases h2 : k0 = (k : Int)
          · exact ⟨k, by omega, .inr (.inl ⟨rfl, h2⟩)⟩
          · exact ⟨k, by omega, .inr (.inr ⟨by omega, rfl⟩)⟩
      obtain ⟨A1, hA1, hp1⟩ := cutp_h hps q (by have := HN.out; omega)
      obtain ⟨A2, hA2, hp2⟩ := cutp_l hps q (by have := HN.out; omega)
      have hTs := fun t : HeldW s1.w [] => (HT.out.W s1).W t
      have hof := fun t : HeldW s1.w [] => gives_same (cof_any ls pa pcap t.w (hTs t) (hps.parts.below t.below))
      have hof1 := fun t : HeldW s1.w [] => gives_same (cof_any (ls.take q) A1 pcap t.w (hTs t) (hp1.below t.below))
      have hex := fun t : HeldW s1.w [] => extend_gives (crc_lt (ls.take q).flatten) (pcap - q) (hTs t) (hp2.below t.below) (n := k - q) (by rw [List.length_drop, ← HN.out])
      have hro := fun t : HeldW s1.w [] => gives_same (rcof_any ls.flatten a2 cap2 t.w (hb2.W t))
      have hal := fun t : HeldW s1.w [] => alive03_any t.w (hTs t)
      have htq : (ls.take q).length = q := by rw [List.length_take, ← HN.out]; omega
      rw [show ext (crc (ls.take q).flatten) (ls.drop q).flatten = crc ls.flatten by rw [ext_crc, ← List.flatten_append, List.take_append_drop]] at hex
      rw [htq] at hof1
      rw [← HN.out] at hof hA1 hA2
      rw [← hm] at hro
      generalize k - q = d at hA2 hex
      generalize pcap - q = c2 at hA2 hex
      generalize crc ls.flatten = C at hof hex hro
      generalize crc (ls.take q).flatten = C1 at hof1 hex
      have HO := Lib.hid hof
      have HO1 := Lib.hid hof1
      have HE := Lib.hid hex
      have HR := Lib.hid hro
      have HA := Lib.hid hal
      have hml : m ≤ 20000 := by omega
      clear hs1 hb2 hps hp1 hp2 hTs hof hof1 hex hro hal htq hall htk hfl hm s
      have HQK := Lib.hid hqk
      clear hqk
      rcases hq with ⟨hk1, rfl⟩ | ⟨rfl, rfl⟩ | ⟨hk1, rfl⟩
      all_goals
        go_wp2
        refine wp_region_class _ _ (by kernel_rfl) (by kernel_rfl) (HeldW.start s1.w).below (HeldW.start s1.w).blocks (fun hne => ?_)
        repeat (go_big_quiet_step (first | (go_at_call 9; exact HeldW.call (HA.out _)) | (go_at_call_of 10 pa; exact HeldW.call (HO.out _)) | (go_at_call_of 10 A1; exact HeldW.call (HO1.out _)) | (go_at_call 12; exact HeldW.call (HE.out _)) | (go_at_call 11; exact HeldW.call (HR.out _))))
        refine wpQuiet_nil ?_
        rintro _ ⟨t, rfl⟩
        clear hA1 hA2
        go_wp2
        go_ret
        exact ⟨rfl, s1.below.trans (t.below.mono s1.below.size)⟩

theorem checkParts_walk (pa : Option Addr) (ls : List (List Int)) (pcap : Nat) (k : Int) (w : World) (hT : Tab w) (hp : PartsOf w pa ls pcap) (hk : 0 ≤ k ∧ k ≤ 255) : Calls Tryd.prog 3 #[.slice pa ls.length pcap, .int .u8 k] w (Gives (.bool true) w) := by
  by_cases h : ls.length ≤ 60
  · exact cparts_small pa ls pcap k w hT hp hk h
  · exact cparts_big pa ls pcap k w hT (by omega) hp.parts.len
end Go.Proofs.YtmjdmojommggjaaDoor
