/- slices.Equal of bytes. -/
import Derived.Test.Ytclalbiggnalfaa00Clone8
namespace Go.Proofs.Ytclalbiggnalfaa
open Go.RowKit
set_option linter.unusedVariables false

/-- Whether two lists of bytes are one, as far as the first k go. -/
theorem getD_take_eq {l m : List Int} {k : Nat} (h : l.take k = m.take k) (hk : k < l.length) (hk2 : k < m.length) (he : l[k]?.getD 0 = m[k]?.getD 0) : l.take (k + 1) = m.take (k + 1) := by
  rw [List.take_succ_eq_append_getElem hk, List.take_succ_eq_append_getElem hk2, h]
  rw [List.getElem?_eq_getElem hk, List.getElem?_eq_getElem hk2] at he
  simp only [Option.getD_some] at he
  rw [he]
set_option maxRecDepth 100000 in
set_option maxHeartbeats 1000000 in
theorem eq8_any (l m : List Int) (a b : Option Addr) (cap cap' : Nat) (w : World) (hl : BytesIn w a l cap) (hm : BytesIn w b m cap') :
    Calls Try.prog 10 #[.slice a l.length cap, .slice b m.length cap'] w (Gives (.bool (decide (l = m))) w) := by
  have h1 : l.length ≤ 9223372036854775807 := Nat.le_trans hl.len hl.capb
  have h2 : m.length ≤ 9223372036854775807 := Nat.le_trans hm.len hm.capb
  have HL := Lib.hid hl
  have HM := Lib.hid hm
  clear hl hm
  by_cases hlen : l.length = m.length
  · have HD := Lib.hid hlen
    have HEQ := Lib.hid (show l.length = m.length from hlen)
    obtain ⟨d, hd⟩ : ∃ d, d = decide (l = m) := ⟨_, rfl⟩
    have HDD := Lib.hid hd
    rw [← hd]
    clear hd
    rw [← hlen]
    clear hlen
    go_enter Try.func10, Try.ntmps10
    go_wp2
    go_loopw [5, 13] (fun _ i wr => ∃ k : Nat, k ≤ l.length ∧ i = .int .i64 k ∧ Hid (l.take k = m.take k) ∧ ∃ s : HeldW w [], wr = s.w) (fun _ i _ => l.length - (intOf i).toNat)
    case atStart => exact ⟨0, by omega, rfl, Lib.hid rfl, HeldW.start w, rfl⟩
    case round =>
      obtain ⟨k, hk, rfl, htk, s, rfl⟩ := hrel
      by_cases hlt : k < l.length
      · obtain ⟨b1, o1, rfl, hc1⟩ := HL.out.cells (by omega)
        obtain ⟨b2, o2, rfl, hc2⟩ := HM.out.cells (by have := HEQ.out; omega)
        have e1 := hc1 k hlt
        have e2 := hc2 k (by have := HEQ.out; omega)
        have c1 : ∀ s : HeldW w [], s.w.cell? ⟨b1, o1 + k, none⟩ = some (.int .u8 (l[k]?.getD 0)) := fun s => (s.below.cell (p := ⟨b1, o1 + k, none⟩) (World.block_lt_of_cell? _ _ e1)).trans e1
        have c2 : ∀ s : HeldW w [], s.w.cell? ⟨b2, o2 + k, none⟩ = some (.int .u8 (m[k]?.getD 0)) := fun s => (s.below.cell (p := ⟨b2, o2 + k, none⟩) (World.block_lt_of_cell? _ _ e2)).trans e2
        clear hc1 hc2 e1 e2
        have HX := Lib.hid (show l[k]?.getD 0 = m[k]?.getD 0 → l.take (k + 1) = m.take (k + 1) from getD_take_eq htk.out hlt (by have := HEQ.out; omega))
        have HY := Lib.hid (show l[k]?.getD 0 ≠ m[k]?.getD 0 → d = false from fun h => by rw [HDD.out]; exact decide_eq_false (fun he => h (by rw [he])))
        generalize l[k]?.getD 0 = x at c1 HX HY
        generalize m[k]?.getD 0 = y at c2 HX HY
        go_wp2
        refine wp_region_class _ _ (by kernel_rfl) (by kernel_rfl) s.below s.blocks (fun hne => ?_)
        clear s
        repeat (go_big_quiet_step (fail))
        refine wpQuiet_nil ?_
        rintro _ ⟨s, rfl⟩
        clear hne c1 c2
        by_cases hxy : x = y
        · have hb : (x != y) = false := by simp [hxy]
          go_wp2
          go_roundw
          case rel => exact ⟨k + 1, by omega, by go_num, Lib.hid (HX.out hxy), s, rfl⟩
          case measure => simp [intOf]; omega
        · have hb : (x != y) = true := by simpa using hxy
          have hdf := HY.out hxy
          subst hdf
          go_wp2
          go_ret
          exact ⟨rfl, s.below⟩
      · obtain rfl : k = l.length := by omega
        have hdt : d = true := by
          rw [HDD.out]
          have h := htk.out
          rw [List.take_length, HEQ.out, List.take_length] at h
          simpa using h
        subst hdt
        go_wp2
        go_ret
        exact ⟨rfl, s.below⟩
  · have hd : decide (l = m) = false := decide_eq_false (fun h => hlen (by rw [h]))
    rw [hd]
    have hne : ((l.length : Int) != (m.length : Int)) = true := by rw [bne_iff_ne]; omega
    clear hd
    generalize l.length = n1 at *
    generalize m.length = n2 at *
    clear HL HM
    go_enter Try.func10, Try.ntmps10
    go_wp2
    go_ret
    exact ⟨rfl, Below.refl _ _⟩
end Go.Proofs.Ytclalbiggnalfaa
