/- Of of the reference. -/
import Derived.Test.YtnpcocjjmajifaaDoor02RWith
namespace Go.Proofs.YtnpcocjjmajifaaDoor
open Go.RowKit
set_option linter.unusedVariables false

set_option maxRecDepth 100000 in
set_option maxHeartbeats 8000000 in
theorem rof_any (m : List Int) (a : Option Addr) (cap : Nat) (w : World) (hb : BytesIn w a m cap) (hm : m.length ≤ 1000) : Calls Tryd.prog 11 #[.slice a m.length cap] w (Gives (.agg (byteA (shaL m))) w) := by
  have HB := Lib.hid hb
  have HM := Lib.hid hm
  obtain ⟨s0, hs0⟩ : ∃ s0 : HeldW w [(w.heap.size, .cells (byteA zeroD) 24 (0, 0))], w.alloc (.cells zero32 24) = s0.w := ⟨(HeldW.start w).push (.cells (byteA zeroD) 24 (0, 0)), rfl⟩
  have ht := table_any s0.w
  have HS := Lib.hid hs0
  have hw := fun w (h : BytesIn w a m cap) gS cS gK cK hk => with_any m a cap w h HM.out gS cS gK cK hk
  have HW := Lib.hid hw
  have HL := Lib.hid (shaL_length m)
  clear hb hm hs0 hw
  generalize shaL m = D at HW HL
  obtain ⟨n, hn⟩ : ∃ n, n = m.length := ⟨_, rfl⟩
  have HN := Lib.hid hn
  rw [← hn] at HW ⊢
  clear hn
  go_enter Tryd.func11, Tryd.ntmps11
  go_wp2_with fail
  rw [show w.alloc (.cells zero32 24) = s0.w from HS.out]
  refine ht.mono ?_
  rintro e w1 ⟨gS, cS, gK, cK, rfl, hk, hbl⟩
  obtain ⟨s1, rfl⟩ : ∃ s1 : HeldW w [(w.heap.size, .cells (byteA zeroD) 24 (0, 0))], w1 = s1.w := ⟨⟨w1, s0.below.trans (hbl.mono s0.below.size), fun p hp => (hbl.block _ (Array.getElem?_eq_some_iff.1 (s0.blocks p hp)).1).trans (s0.blocks p hp)⟩, rfl⟩
  have hwi := HW.out s1.w ⟨HB.out.len, HB.out.capb, fun h => by
    obtain ⟨b, o, h1, h2⟩ := HB.out.cells h
    exact ⟨b, o, h1, fun i hi => (s1.below.cell (p := ⟨b, o + i, none⟩) (World.block_lt_of_cell? _ _ (h2 i hi))).trans (h2 i hi)⟩, HB.out.nil⟩ gS cS gK cK hk
  clear ht hbl hk s0 HS
  go_wp2_with fail
  refine (HeldW.call (s := s1) hwi).mono ?_
  rintro e _ ⟨rfl, s2, rfl⟩
  clear hwi s1
  have hrs : s2.w.heap[w.heap.size]? = some (.cells (byteA zeroD) 24 (0, 0)) := s2.blocks (w.heap.size, _) (by simp)
  have hsz : (byteA D).size = 32 := by rw [byteA_size, HL.out]
  have hsr : (byteA zeroD).size = (byteA D).size := by rw [hsz]; rfl
  have hinf : (Tryd.prog.info? 24).map (·.size) = some (byteA D).size := by rw [hsz]; kernel_rfl
  have hone := byteA_one D
  clear hsz
  go_wp2_with (refine wpList_store_rowTo rfl 24 (.tmp 2) (.tmp 5) rfl rfl w.heap.size (byteA D) rfl rfl 24 (byteA zeroD) hrs hinf hsr hone ?_)
  refine bodyPost_ret (v := .agg (byteA D)) ?_ rfl ⟨rfl, below_setRow s2.below (Nat.le_refl _) _⟩
  exact results_cell_row Tryd.results11 _ _ w.heap.size 24 _ (0, 0) _ rfl (setRow_heap _ _ _ _ _ _ hrs) Tryd.underlying24 rfl hinf
end Go.Proofs.YtnpcocjjmajifaaDoor
