/- CheckOpens returns true for all bytes, and changes nothing that was there. -/
import Derived.Test.YtmjdmojommggjaaDoor03ROpen
import Derived.Test.YtmjdmojommggjaaDoor03Alive
namespace Go.Proofs.YtmjdmojommggjaaDoor
open Go.RowKit
set_option linter.unusedVariables false

theorem not_sealed {l : List Int} (h : l.length < 4) : isSealed l = false := by
  unfold isSealed
  rw [decide_eq_false (by omega), Bool.false_and]
theorem copen_any (l : List Int) (a : Option Addr) (cap : Nat) (w : World) (hT : Tab w) (hb : BytesIn w a l cap) (hm : l.length ≤ 1000000) : Calls Tryd.prog 16 #[.slice a l.length cap] w fun e w' =>
    (isSealed l = true ∧ ∃ v, e = .returned (.tuple #[v, .bool true]) ∧ ∃ s : OwnW w 5 v ((bodyOf l).map (Value.int .u8)), w' = s.w) ∨ (isSealed l = false ∧ e = .returned (.tuple #[.slice none 0 0, .bool false]) ∧ Below w.heap.size w w') := by
  by_cases h : l.length < 4
  · refine (copen_short l a cap w h).mono ?_
    rintro e w' ⟨rfl, rfl⟩
    exact .inr ⟨not_sealed h, rfl, Below.refl _ _⟩
  · exact copen_long l a cap w hT hb (by omega) hm
theorem rcopen_any (l : List Int) (a : Option Addr) (cap : Nat) (w : World) (hb : BytesIn w a l cap) (hok : OkB l) (hm : l.length ≤ 1000000) : Calls Tryd.prog 17 #[.slice a l.length cap] w (Gives (.int .i64 (if isSealed l then ((l.length - 4 : Nat) : Int) else -1)) w) := by
  by_cases h : l.length < 4
  · rw [not_sealed h]
    exact rcopen_short l a cap w h
  · exact rcopen_long l a cap w hb hok (by omega) hm

theorem opens_big (l : List Int) (a : Option Addr) (cap : Nat) (w : World) (hT : Tab w) (hbig : 1000 < l.length) (hmax : l.length ≤ 9223372036854775807) : Calls Tryd.prog 5 #[.slice a l.length cap] w (Gives (.bool true) w) := by
  have ha := alive03_any w hT
  clear hT
  go_enter Tryd.func5, Tryd.ntmps5
  go_wp2_with fail
  refine (HeldW.call (s := HeldW.start w) ha).mono ?_
  rintro e _ ⟨rfl, s1, rfl⟩
  clear ha
  go_wp2
  go_ret
  exact ⟨rfl, s1.below⟩

set_option maxRecDepth 100000 in
set_option maxHeartbeats 4000000 in
theorem opens_small (l : List Int) (a : Option Addr) (cap : Nat) (w : World) (hT : Tab w) (hb : BytesIn w a l cap) (hok : OkB l) (hsmall : l.length ≤ 1000) : Calls Tryd.prog 5 #[.slice a l.length cap] w (Gives (.bool true) w) := by
  have HT := Lib.hid hT
  have HB := Lib.hid hb
  have hop := copen_any l a cap w hT hb (by omega)
  have HRO := Lib.hid (fun s : HeldW w [] => rcopen_any l a cap s.w (hb.W s) hok (by omega))
  have HAL := Lib.hid (fun s : HeldW w [] => alive03_any s.w (hT.W s))
  obtain ⟨n, hn⟩ : ∃ n, n = l.length := ⟨_, rfl⟩
  rw [← hn] at hop HRO hsmall ⊢
  have HN := Lib.hid hn
  clear hT hb hok hn
  go_enter Tryd.func5, Tryd.ntmps5
  go_wp2_with fail
  refine hop.mono ?_
  rintro e w1 (⟨hs, v, rfl, o1, rfl⟩ | ⟨hs, rfl, hbl⟩)
  · have HS := Lib.hid hs
    obtain ⟨a1, cap1, rfl, hb1⟩ := o1.bytes
    obtain ⟨s1, hs1⟩ : ∃ s1 : HeldW w [], o1.w = s1.w := ⟨⟨o1.w, o1.below, by simp⟩, rfl⟩
    rw [hs1] at hb1 ⊢
    have hr := HRO.out s1
    rw [hs, if_pos rfl] at hr
    have hbl1 : (bodyOf l).length = n - 4 := by unfold bodyOf; rw [List.length_take, HN.out]; omega
    have h4 : 4 ≤ n := by
      have : isSealed l = true := hs
      unfold isSealed at this
      simp only [Bool.and_eq_true, decide_eq_true_eq] at this
      have := HN.out; omega
    rw [hbl1]
    obtain ⟨M, rfl⟩ : ∃ M, n = M + 4 := ⟨n - 4, by omega⟩
    have HEQ := Lib.hid (fun s : HeldW s1.w [] => (eq8_any (bodyOf l) (bodyOf l) a1 a cap1 cap s.w (hb1.W s) (by
      obtain ⟨b, o, rfl, _⟩ := HB.out.cells (by have := HN.out; omega)
      exact ((HB.out.W s1).W s).take (l.length - 4) cap (by omega) (by have := HB.out.len; omega) (Nat.le_refl _))))
    rw [hbl1, decide_eq_true rfl] at HEQ
    have hcap : M + 4 ≤ cap := by have := HB.out.len; have := HN.out; omega
    have hcapb := HB.out.capb
    rw [Nat.add_sub_cancel] at hr HEQ ⊢
    have hM0 : decide ((M : Int) < 0) = false := by simp
    clear hop hs hs1 hb1 hbl1 o1
    go_wp2_with fail
    refine (HeldW.call (s := HeldW.start s1.w) hr).mono ?_
    rintro e _ ⟨rfl, s2, rfl⟩
    clear hr
    have ha := HAL.out ⟨s2.w, s1.below.trans (s2.below.mono s1.below.size), by simp⟩
    go_wp2_with fail
    refine (HeldW.call (s := s2) ha).mono ?_
    rintro e _ ⟨rfl, s3, rfl⟩
    clear ha s2
    go_wp2_with fail
    refine (HeldW.call (s := s3) (HEQ.out s3)).mono ?_
    rintro e _ ⟨rfl, s4, rfl⟩
    clear s3
    go_wp2
    go_ret
    exact ⟨rfl, s1.below.trans (s4.below.mono s1.below.size)⟩
  · obtain ⟨s1, rfl⟩ : ∃ s1 : HeldW w [], w1 = s1.w := ⟨⟨w1, hbl, by simp⟩, rfl⟩
    have hr := HRO.out s1
    rw [hs, if_neg (by simp)] at hr
    clear hop hs hbl
    go_wp2_with fail
    refine (HeldW.call (s := s1) hr).mono ?_
    rintro e _ ⟨rfl, s2, rfl⟩
    clear hr s1
    have ha := HAL.out s2
    go_wp2_with fail
    refine (HeldW.call (s := s2) ha).mono ?_
    rintro e _ ⟨rfl, s3, rfl⟩
    clear ha s2
    go_wp2
    go_ret
    exact ⟨rfl, s3.below⟩

theorem checkOpens_walk (a : Option Addr) (l : List Int) (cap : Nat) (w : World) (hT : Tab w) (hb : BytesIn w a l cap) (hok : OkB l) : Calls Tryd.prog 5 #[.slice a l.length cap] w (Gives (.bool true) w) := by
  by_cases h : l.length ≤ 1000
  · exact opens_small l a cap w hT hb hok h
  · exact opens_big l a cap w hT (by omega) (Nat.le_trans hb.len hb.capb)
end Go.Proofs.YtmjdmojommggjaaDoor
