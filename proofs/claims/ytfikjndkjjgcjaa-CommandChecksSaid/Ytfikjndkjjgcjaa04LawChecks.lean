/- CommandChecks returns true for every command, and changes nothing that was there. -/
import Derived.Test.Ytfikjndkjjgcjaa04Alive
namespace Go.Proofs.Ytfikjndkjjgcjaa
open Go.RowKit Go.Shelf Go.Proofs.Ytfikjndkjjgcjaa.Plain01
set_option linter.unusedVariables false

set_option maxRecDepth 100000 in
set_option maxHeartbeats 4000000 in
theorem commandChecks_any (k t f n : Int) (a : Option Addr) (L cap : Nat) (ht : I64 t) (hf : I64 f) (hn : I64 n) (hL : I64 L) (w : World) : Calls Try.prog 4 #[cmdV k t f n (.slice a L cap)] w (Gives (.bool true) w) := by
  have h1 := check_any k t f n a L cap ht hf hn hL
  have h2 := rcheck_any k t f n a L cap ht hf hn hL
  generalize chk k t f n L = c at h1 h2
  clear ht hf hn hL
  go_enter Try.func4, Try.ntmps4
  go_wp2
  obtain ⟨S, hS⟩ := start1 w (cmdO k t f n (.slice a L cap))
  rw [hS]
  clear hS
  refine wp_region_class _ _ (by kernel_rfl) (by kernel_rfl) (S).below (S).blocks (fun hne => ?_)
  obtain ⟨d0, d1, d2, d3, d4⟩ := held_cmdA (S) (w.heap.size) k t f n (.slice a L cap) (by simp)
  repeat (go_big_quiet_step ((first | (go_at_call 9; exact HeldW.call (alive04_gives _)) | (go_at_call 13; exact HeldW.call (h1 _)) | (go_at_call 14; exact HeldW.call (h2 _)))))
  refine wpQuiet_nil ?_
  rintro _ ⟨s1, rfl⟩
  clear hne d0 d1 d2 d3 d4
  go_wp2_with fail
  go_ret
  exact ⟨rfl, s1.below⟩
theorem commandChecks_walk (k t f n : Int) (a : Option Addr) (l : List Int) (cap : Nat) {w : World} (ht : I64 t) (hf : I64 f) (hn : I64 n) (hb : BytesIn w a l cap) (hok : OkB l) : Calls Try.prog 4 #[cmdV k t f n (.slice a l.length cap)] w (Gives (.bool true) w) :=
  commandChecks_any k t f n a l.length cap ht hf hn (i64_len (a := a) hb.len hb.capb) w
end Go.Proofs.Ytfikjndkjjgcjaa
