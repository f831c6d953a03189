/- Table of the reference: the constants. -/
import Derived.Test.YtnpcocjjmajifaaDoor02RPad
namespace Go.Proofs.YtnpcocjjmajifaaDoor
open Go.RowKit
set_option linter.unusedVariables false

/-- A slice of its own that a callee has made behind listed blocks: one more listed block. -/
theorem HeldW.own {w : World} {bs : List (Nat × Obj)} (s1 : HeldW w bs) {e : TypeId} {v : Value} {xs : List Value} (s : OwnW s1.w e v xs) (n : Nat) (hn : xs.length = n) (hp : 0 < n) :
    ∃ (g cap : Nat) (cur : Array Value), v = .slice (some ⟨g, 0, none⟩) n cap ∧ n ≤ cap ∧ cap ≤ 9223372036854775807 ∧ w.heap.size ≤ g ∧ Hid (∀ p ∈ bs, p.1 ≠ g) ∧ Hid (∀ (j : Nat) (u : Value), xs[j]? = some u → cur[j]? = some u) ∧ ∃ s2 : HeldW w ((g, .cells cur e (0, 0)) :: bs), s.w = s2.w := by
  obtain ⟨a, cap, rfl, h1, h2, hrow⟩ := s.view n hn
  obtain ⟨g, cur, rfl, hg, hb, hc⟩ := hrow.out hp
  refine ⟨g, cap, cur, rfl, h1, h2, Nat.le_trans s1.below.size hg, fun p hp => ?_, hc, ⟨s.w, s1.below.trans (s.below.mono s1.below.size), List.forall_mem_cons.2 ⟨hb, fun p hp => ?_⟩⟩, rfl⟩
  · have := (Array.getElem?_eq_some_iff.1 (s1.blocks p hp)).1
    omega
  · exact (s.below.block _ (Array.getElem?_eq_some_iff.1 (s1.blocks p hp)).1).trans (s1.blocks p hp)

def keysA (gS cS gK cK : Nat) : Array Value := #[.slice (some ⟨gS, 0, none⟩) 8 cS, .slice (some ⟨gK, 0, none⟩) 64 cK]
/-- What Table hands out. -/
structure KeysIn (w : World) (gS cS gK cK : Nat) : Prop where
  s1 : 8 ≤ cS
  s2 : cS ≤ 9223372036854775807
  k1 : 64 ≤ cK
  k2 : cK ≤ 9223372036854775807
  s : ∀ i, i < 8 → w.cell? ⟨gS, 0 + i, none⟩ = some (.int .u32 (initV.at i))
  k : ∀ i, i < 64 → w.cell? ⟨gK, 0 + i, none⟩ = some (.int .u32 (rootsL[i]?.getD 0))

set_option maxRecDepth 100000 in
set_option maxHeartbeats 8000000 in
theorem table_any (w : World) : Calls Tryd.prog 23 #[] w fun e w' => ∃ gS cS gK cK, e = .returned (.agg (keysA gS cS gK cK)) ∧ KeysIn w' gS cS gK cK ∧ Below w.heap.size w w' := by
  have h8 := fun w => constants_any 8 (by omega) false w
  have h64 := fun w => constants_any 64 (by omega) true w
  rw [const8] at h8
  rw [const64] at h64
  have H8 := Lib.hid h8
  have H64 := Lib.hid h64
  obtain ⟨s0, hs0⟩ : ∃ s0 : HeldW w [(w.heap.size, .cells #[.slice none 0 0, .slice none 0 0] 46 (0, 0))], w.alloc (.cells #[.slice none 0 0, .slice none 0 0] 46) = s0.w := ⟨(HeldW.start w).push (.cells #[.slice none 0 0, .slice none 0 0] 46 (0, 0)), rfl⟩
  have HS := Lib.hid hs0
  clear h8 h64 hs0
  go_enter Tryd.func23, Tryd.ntmps23
  go_wp2_with fail
  rw [show w.alloc (.cells #[.slice none 0 0, .slice none 0 0] 46) = s0.w from HS.out]
  refine (H8.out s0.w).mono ?_
  rintro e _ ⟨v8, rfl, o8, rfl⟩
  obtain ⟨gS, cS, curS, rfl, hS1, hS2, hgS, hneS, HcS, s1, hs1⟩ := s0.own o8 8 rfl (by omega)
  rw [show o8.w = s1.w from hs1]
  clear hs1 o8 HS s0
  go_wp2_with fail
  refine (H64.out s1.w).mono ?_
  rintro e _ ⟨v64, rfl, o64, rfl⟩
  obtain ⟨gK, cK, curK, rfl, hK1, hK2, hgK, hneK, HcK, s2, hs2⟩ := s1.own o64 64 rfl (by omega)
  rw [show o64.w = s2.w from hs2]
  clear hs2 o64 s1
  have hrs := s2.blocks (w.heap.size, .cells #[.slice none 0 0, .slice none 0 0] 46 (0, 0)) (by simp)
  have hc0 : s2.w.cell? ⟨w.heap.size, 0, none⟩ = some (.slice none 0 0) := by rw [cell_of hrs]; rfl
  have hc1 : s2.w.cell? ⟨w.heap.size, 1, none⟩ = some (.slice none 0 0) := by rw [cell_of hrs]; rfl
  have hf0 := free_of hrs 0
  have hf1 := free_of hrs 1
  have n1 : gS ≠ w.heap.size := fun h => hneS.out _ List.mem_cons_self h.symm
  have n2 : gK ≠ w.heap.size := fun h => hneK.out (w.heap.size, _) (List.mem_cons_of_mem _ List.mem_cons_self) h.symm
  obtain ⟨s3, hs3⟩ : ∃ s3 : HeldW w [(w.heap.size, .cells (keysA gS cS gK cK) 46 (0, 0)), (gK, .cells curK 48 (0, 0)), (gS, .cells curS 48 (0, 0))], (s2.w.setCell ⟨w.heap.size, 0, none⟩ (.slice (some ⟨gS, 0, none⟩) 8 cS)).setCell ⟨w.heap.size, 1, none⟩ (.slice (some ⟨gK, 0, none⟩) 64 cK) = s3.w :=
    ⟨((s2.sub (bs' := [(w.heap.size, .cells #[.slice none 0 0, .slice none 0 0] 46 (0, 0)), (gK, .cells curK 48 (0, 0)), (gS, .cells curS 48 (0, 0))]) (fun p hp => by simp only [List.mem_cons, List.not_mem_nil, or_false] at hp ⊢; rcases hp with h | h | h <;> simp [h])).store (i := 0) (v := .slice (some ⟨gS, 0, none⟩) 8 cS) (cs' := #[.slice (some ⟨gS, 0, none⟩) 8 cS, .slice none 0 0]) (Nat.le_refl _) (all2 n2 n1) rfl).store (i := 1) (v := .slice (some ⟨gK, 0, none⟩) 64 cK) (cs' := keysA gS cS gK cK) (Nat.le_refl _) (all2 n2 n1) rfl, rfl⟩
  have HS3 := Lib.hid hs3
  clear hrs hs3
  have hinf : (Tryd.prog.info? 46).map (·.size) = some (keysA gS cS gK cK).size := by kernel_rfl
  go_wp2
  rw [HS3.out]
  refine bodyPost_ret (v := .agg (keysA gS cS gK cK)) (results_cell_row Tryd.results23 _ _ w.heap.size 46 _ (0, 0) _ rfl (s3.blocks _ List.mem_cons_self) Tryd.underlying46 rfl hinf) rfl ⟨gS, cS, gK, cK, rfl, ⟨hS1, hS2, hK1, hK2, fun i hi => ?_, fun i hi => ?_⟩, s3.below⟩
  · rw [cell_of (s3.blocks (gS, .cells curS 48 (0, 0)) (by simp)), Nat.zero_add]
    refine HcS.out i _ ?_
    rcases lt8 hi with rfl | rfl | rfl | rfl | rfl | rfl | rfl | rfl <;> rfl
  · rw [cell_of (s3.blocks (gK, .cells curK 48 (0, 0)) (by simp)), Nat.zero_add]
    refine HcK.out i _ ?_
    rw [List.getElem?_map, List.getElem?_eq_getElem (show i < rootsL.length from hi)]; rfl
end Go.Proofs.YtnpcocjjmajifaaDoor
