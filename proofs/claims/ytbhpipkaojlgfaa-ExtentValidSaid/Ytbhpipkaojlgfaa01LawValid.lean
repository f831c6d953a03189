/- The law ExtentValid returns true for every extent, and changes nothing that was there. -/
import Derived.Test.Ytbhpipkaojlgfaa01Calls
namespace Go.Proofs.Ytbhpipkaojlgfaa
open Go.RowKit Go.Shelf Go.Proofs.Ytbhpipkaojlgfaa.Plain01

set_option maxRecDepth 100000 in
set_option maxHeartbeats 2000000 in
theorem extentValid_walk (x : Int × Int) (h0 : I64 x.1) (h1 : I64 x.2) (w : World) : Calls Try.prog 3 #[extV x] w (Gives (.bool true) w) := by
  have hr := rvalid_gives x h0 h1
  have hv := valid_gives x h0 h1
  cases hok : okE x
  · rw [hok] at hr hv
    clear hok
    go_enter Try.func3, Try.ntmps3
    go_wp2_with fail
    refine (hr _).mono ?_
    rintro e w1 ⟨rfl, hb1⟩
    obtain ⟨hE, hb⟩ := boxed_ext hb1
    clear hb1
    go_wp2_with fail
    refine wp_region_class w [(w.heap.size, extO x)] (by kernel_rfl) (by kernel_rfl) hb (all1 hE) (fun hne => ?_)
    obtain ⟨d0, d1⟩ := held_ext w (bs := [(w.heap.size, extO x)]) w.heap.size x (by simp)
    repeat (go_big_quiet_step (first | (go_at_call 10; exact HeldW.call (alive_gives _)) | (go_at_call 11; exact HeldW.call (hv _))))
    refine wpQuiet_nil ?_
    rintro w' ⟨s, rfl⟩
    go_wp2
    go_ret
    exact ⟨rfl, s.below⟩
  · have he := end_gives x hok
    rw [hok] at hr hv
    have hb' := okE_iff.1 hok
    clear hok
    have hsum : x.1 + x.2 ≤ 9223372036854775807 := by omega
    obtain ⟨b1, b2, _⟩ := hb'
    go_enter Try.func3, Try.ntmps3
    go_wp2_with fail
    refine (hr _).mono ?_
    rintro e w1 ⟨rfl, hb1⟩
    obtain ⟨hE, hb⟩ := boxed_ext hb1
    clear hb1
    go_wp2_with fail
    refine wp_region_class w [(w.heap.size, extO x)] (by kernel_rfl) (by kernel_rfl) hb (all1 hE) (fun hne => ?_)
    obtain ⟨d0, d1⟩ := held_ext w (bs := [(w.heap.size, extO x)]) w.heap.size x (by simp)
    repeat (go_big_quiet_step (first | (go_at_call 10; exact HeldW.call (alive_gives _)) | (go_at_call 11; exact HeldW.call (hv _)) | (go_at_call 12; exact HeldW.call (he _))))
    refine wpQuiet_nil ?_
    rintro w' ⟨s, rfl⟩
    go_wp2
    go_ret
    exact ⟨by simp, s.below⟩
end Go.Proofs.Ytbhpipkaojlgfaa
