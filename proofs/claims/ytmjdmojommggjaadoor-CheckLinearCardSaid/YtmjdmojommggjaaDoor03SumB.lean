/- sumBytes of package check. -/
import Derived.Great.BuildSlice
import Derived.Test.YtmjdmojommggjaaDoor03Sum
namespace Go.Proofs.YtmjdmojommggjaaDoor
open Go.RowKit
set_option linter.unusedVariables false

/-- One part in a block. -/
theorem partsIn1 {w : World} {b cap : Nat} {a : Option Addr} {l : List Int} {t : TypeId} {fr : Nat × Nat} (hb : w.heap[b]? = some (.cells #[.slice a l.length cap] t fr)) (h : BytesIn w a l cap) : PartsIn w (some ⟨b, 0, none⟩) [l] :=
  ⟨by simp, fun _ => ⟨b, 0, rfl, fun i hi => by
    obtain rfl : i = 0 := by simp at hi; omega
    exact ⟨a, cap, by rw [cell_of_row w b _ _ _ _ hb]; rfl, h⟩⟩⟩
/-- The same four cells, written out. -/
def le4A (x : Nat) : Array Value := #[.int .u8 ((x : Int) % 256), .int .u8 ((x : Int) / 256 % 256), .int .u8 ((x : Int) / 65536 % 256), .int .u8 ((x : Int) / 16777216 % 256)]
theorem le4A_eq (x : Nat) : byteA (le4 x) = le4A x := rfl
def zero4 : List Int := [0, 0, 0, 0]

set_option maxRecDepth 100000 in
set_option maxHeartbeats 4000000 in
theorem csum_any (l : List Int) (a : Option Addr) (cap : Nat) (w : World) (hT : Tab w) (hb : BytesIn w a l cap) : Calls Tryd.prog 22 #[.slice a l.length cap] w (Gives (.agg (byteA (le4 (crc l)))) w) := by
  obtain ⟨s1, hs1⟩ : ∃ s1 : HeldW w [(w.heap.size + 1, .cells #[.slice a l.length cap] 24 (0, 0)), (w.heap.size, .cells (byteA zero4) 43 (0, 0))], s1.w = (w.alloc (.cells (byteA zero4) 43 (0, 0))).alloc (.cells #[.slice a l.length cap] 24 (0, 0)) :=
    ⟨⟨_, ((Below.refl _ w).alloc (Nat.le_refl _) _).alloc (by simp) _, List.forall_mem_cons.2 ⟨heap_new _ _ (by simp), all1 (heap_old (heap_new _ _ rfl) _)⟩⟩, rfl⟩
  have hof := cof_any [l] (some ⟨w.heap.size + 1, 0, none⟩) 1 s1.w (hT.W s1) (partsIn1 (s1.blocks (_, _) List.mem_cons_self) (hb.W s1))
  rw [show ([l] : List (List Int)).flatten = l by simp] at hof
  have hrs := s1.blocks (w.heap.size, .cells (byteA zero4) 43 (0, 0)) (List.mem_cons_of_mem _ List.mem_cons_self)

  generalize crc l = c at hof
  have hsz : (byteA (le4 c)).size = 4 := rfl
  have hsr : (byteA zero4).size = (byteA (le4 c)).size := rfl
  have hinf : (Tryd.prog.info? 43).map (·.size) = some (byteA (le4 c)).size := by rw [hsz]; kernel_rfl
  have hone := byteA_one (le4 c)
  have HS := Lib.hid hs1
  clear hs1 hT hb hsz
  go_enter Tryd.func22, Tryd.ntmps22
  go_wp2_with fail
  rw [show (w.alloc (.cells #[.int .u8 0, .int .u8 0, .int .u8 0, .int .u8 0] 43)).alloc (.cells #[.slice a l.length cap] 24) = s1.w from HS.out.symm]
  refine hof.mono ?_
  rintro e _ ⟨rfl, rfl⟩
  go_wp2_with (refine wpList_store_rowTo rfl 43 (.tmp 2) (.tmp 18) rfl rfl w.heap.size #[.int .u8 ((c : Int) % 256), .int .u8 ((c : Int) / 256 % 256), .int .u8 ((c : Int) / 65536 % 256), .int .u8 ((c : Int) / 16777216 % 256)] rfl rfl 43 (byteA zero4) hrs hinf hsr hone ?_)
  refine bodyPost_ret (v := .agg (byteA (le4 c))) ?_ rfl ⟨rfl, below_setRow s1.below (Nat.le_refl _) _⟩
  exact results_cell_row Tryd.results22 _ _ w.heap.size 43 _ (0, 0) _ rfl (setRow_heap _ _ _ _ _ _ hrs) Tryd.underlying43 rfl hinf
end Go.Proofs.YtmjdmojommggjaaDoor
