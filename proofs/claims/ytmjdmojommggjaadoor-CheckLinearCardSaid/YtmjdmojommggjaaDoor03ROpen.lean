/- Open of the reference. -/
import Derived.Test.YtmjdmojommggjaaDoor00Str
import Derived.Test.YtmjdmojommggjaaDoor03Open
import Derived.Test.YtmjdmojommggjaaDoor03RSeal
namespace Go.Proofs.YtmjdmojommggjaaDoor
open Go.RowKit
set_option linter.unusedVariables false

theorem okB_le4 (c : Nat) : OkB (le4 c) := fun x hx => by
  simp only [le4, List.mem_cons, List.not_mem_nil, or_false] at hx
  rcases hx with rfl | rfl | rfl | rfl <;> omega
theorem okB_seal {l : List Int} (h : OkB l) : OkB (sealL l) := fun x hx => by
  rcases List.mem_append.1 hx with hx | hx
  · exact h x hx
  · exact okB_le4 _ x hx
theorem OkB.take {l : List Int} (h : OkB l) (k : Nat) : OkB (l.take k) := fun x hx => h x (List.mem_of_mem_take hx)
theorem OkB.drop {l : List Int} (h : OkB l) (k : Nat) : OkB (l.drop k) := fun x hx => h x (List.mem_of_mem_drop hx)
theorem seal_iff {l : List Int} (h4 : 4 ≤ l.length) : isSealed l = decide (sealL (bodyOf l) = l) := by
  unfold isSealed
  rw [decide_eq_true h4, Bool.true_and]
  have h : sealL (bodyOf l) = l ↔ le4 (crc (bodyOf l)) = tailOf l := by
    have hl : l = bodyOf l ++ tailOf l := (List.take_append_drop _ l).symm
    constructor
    · intro h
      unfold sealL at h
      conv at h => rhs; rw [hl]
      exact List.append_cancel_left h
    · intro h
      unfold sealL
      rw [h]; exact hl.symm
  exact decide_eq_decide.2 h.symm

theorem rcopen_short (l : List Int) (a : Option Addr) (cap : Nat) (w : World) (h : l.length < 4) : Calls Tryd.prog 17 #[.slice a l.length cap] w (Gives (.int .i64 (-1)) w) := by
  have hd : decide ((l.length : Int) - 4 < 0) = true := by simp; omega
  generalize l.length = n at h hd
  go_enter Tryd.func17, Tryd.ntmps17
  go_wp2
  refine wp_region_class w [] (by kernel_rfl) (by kernel_rfl) (Below.refl _ _) (by simp) (fun hne => ?_)
  repeat (go_big_quiet_step (fail))
  refine wpQuiet_nil ?_
  rintro _ ⟨s, rfl⟩
  go_wp2
  go_ret
  exact ⟨rfl, s.below⟩

set_option maxRecDepth 100000 in
set_option maxHeartbeats 4000000 in
theorem rcopen_long (l : List Int) (a : Option Addr) (cap : Nat) (w : World) (hb : BytesIn w a l cap) (hok : OkB l) (h4 : 4 ≤ l.length) (hm : l.length ≤ 1000000) : Calls Tryd.prog 17 #[.slice a l.length cap] w (Gives (.int .i64 (if isSealed l then ((l.length - 4 : Nat) : Int) else -1)) w) := by
  obtain ⟨b, o, rfl, hc⟩ := hb.cells (by omega)
  obtain ⟨M, hM⟩ : ∃ M, l.length = M + 4 := ⟨l.length - 4, by omega⟩
  have hbd : bodyOf l = l.take M := by unfold bodyOf; rw [hM, Nat.add_sub_cancel]
  have hcap := hb.len
  have hcapb := hb.capb
  have hbl : (l.take M).length = M := by rw [List.length_take]; omega
  have hse := fun W (hB : Below w.heap.size w W) => rcseal_any (l.take M) (some ⟨b, o, none⟩) cap W ((hb.below hB).take M cap (by omega) (by omega) (Nat.le_refl _)) (by omega)
  have hcv := fun W (hB : Below w.heap.size w W) => conv_str (hb.below hB)
  have hsd := seal_iff h4
  rw [hbd] at hsd
  have hsl : (sealL (l.take M)).length = M + 4 := by rw [sealL_length, hbl]
  have hoks : OkB (sealL (l.take M)) := okB_seal (hok.take M)
  rw [hbl] at hse
  rw [hM] at hm hcap hcv ⊢
  rw [Nat.add_sub_cancel]
  have HEQ := Lib.hid (show ((strOf (sealL (l.take M))).toList == (strOf l).toList) = isSealed l by
    rw [hsd, str_eq hoks hok])
  generalize isSealed l = d at HEQ
  generalize sealL (l.take M) = S at hse hsl HEQ
  generalize hgl : strOf l = L at hcv HEQ
  have hcs : ∀ (w0 : World) (v : Value) (s : OwnW w0 5 v (S.map (Value.int .u8))), ∃ a' cap', v = .slice a' (M + 4) cap' ∧ ∀ W, Below s.w.heap.size s.w W → (convert 24 9 (.slice a' (M + 4) cap')).run Tryd.prog W = .ok (.string (strOf S)) W := fun w0 v s => by
    obtain ⟨a', cap', rfl, h1, h2, hrow⟩ := s.view (M + 4) (by rw [List.length_map, hsl])
    refine ⟨a', cap', rfl, fun W hW => ?_⟩
    have hbi : BytesIn s.w a' S cap' := ⟨by omega, h2, fun hp => by
      obtain ⟨g, cur, rfl, hg, hbk, hcur⟩ := hrow.out (by omega)
      refine ⟨g, 0, rfl, fun i hi => ?_⟩
      rw [Nat.zero_add, cell_of hbk, hcur i (.int .u8 (S[i]?.getD 0)) (by rw [List.getElem?_map, List.getElem?_eq_getElem hi]; rfl)], fun h => by
        obtain ⟨g, cur, h3, _⟩ := hrow.out (by omega)
        rw [h3] at h; cases h⟩
    have := conv_str (hbi.below hW)
    rwa [hsl] at this
  generalize strOf S = T at hcs HEQ
  have HS := Lib.hid hse
  have HCV := Lib.hid hcv
  have HCS := Lib.hid hcs
  have hd : decide ((M : Int) < 0) = false := by simp
  clear hb hok h4 hc hM hbd hbl hse hcv hsd hsl hoks hcs hgl
  obtain ⟨R, hR⟩ : ∃ R : Int, R = if d = true then (M : Int) else -1 := ⟨_, rfl⟩
  have HR := Lib.hid hR
  rw [← hR]
  clear hR
  go_enter Tryd.func17, Tryd.ntmps17
  go_wp2
  have hv1 := HCV.out w.drew (Below.refl _ w).drew
  go_region_with (first | (go_at_call 14; refine (HS.out _ ?_).mono ?_; exact (Below.refl _ w).drew; rintro e _ ⟨v, rfl, s1, rfl⟩; obtain ⟨a', cap', rfl, hk⟩ := HCS.out _ _ s1; have hv2 := HCV.out s1.w ((Below.refl _ w).drew.trans s1.below); have hv3 := hk s1.w (Below.refl _ _)))
  all_goals
    clear hv1 hv2 hv3 hk hd
    rw [HEQ.out]
    cases d with
    | true =>
      obtain rfl : R = (M : Int) := HR.out
      go_wp2
      go_ret
      exact ⟨rfl, (Below.refl _ w).drew.trans s1.below⟩
    | false =>
      obtain rfl : R = -1 := HR.out
      go_wp2
      go_ret
      exact ⟨rfl, (Below.refl _ w).drew.trans s1.below⟩
end Go.Proofs.YtmjdmojommggjaaDoor
