/- The example of chapter 6. -/
import Derived.Test.Ytclalbiggnalfaa06App
import Derived.Test.Ytclalbiggnalfaa00Eq8
namespace Go.Proofs.Ytclalbiggnalfaa
open Go.RowKit
set_option linter.unusedVariables false
set_option linter.unusedSimpArgs false

theorem ex_app : [9] ++ encs [((258 : Int), (3 : Int))] = [9, 0, 1, 2] := by decide +kernel
theorem ex_fit : ([((258 : Int), (3 : Int))]).all fitF = true := by decide +kernel
theorem ex_9 : beval ((([9, 0, 1, 2] : List Int).drop 0).take 1) = 9 := by decide +kernel
theorem ex_258 : beval ((([9, 0, 1, 2] : List Int).drop 1).take 3) = 258 := by decide +kernel

/-- A slice of its own: as bytes, in its world. -/
theorem OwnW.bytesL {w0 : World} {v : Value} {l l' : List Int} (s : OwnW w0 5 v (l.map (Value.int .u8))) (h : l = l') : ∃ (a : Option Addr) (cap : Nat), v = .slice a l'.length cap ∧ BytesIn s.w a l' cap := by subst h; exact s.bytes

/-- The class of a reader's block. -/
theorem HeldX.below0 {w0 w1 : World} {g : Nat} {bs : List (Nat × Obj)} (s : HeldX w1 g bs) (hb : Below w0.heap.size w0 w1) (hg : w0.heap.size ≤ g) : Below w0.heap.size w0 s.w := hb.trans ((s.but.mono hb.size).below hg)
theorem BytesIn.X {w : World} {g : Nat} {a : Option Addr} {l : List Int} {cap : Nat} (h : BytesIn w a l cap) (hne : ∀ b o, a = some ⟨b, o, none⟩ → b ≠ g) {bs : List (Nat × Obj)} (s : HeldX w g bs) : BytesIn s.w a l cap :=
  ⟨h.len, h.capb, fun hp => by
    obtain ⟨b, o, rfl, hc⟩ := h.cells hp
    exact ⟨b, o, rfl, fun i hi => src_cellX (hne b o rfl) (hc i hi) s⟩, h.nil⟩

theorem eq8_yes (l m : List Int) (h : l = m) (a b : Option Addr) (cap cap' : Nat) (w : World) (hl : BytesIn w a l cap) (hm : BytesIn w b m cap') :
    Calls Try.prog 10 #[.slice a l.length cap, .slice b m.length cap'] w (Gives (.bool true) w) := by
  have := eq8_any l m a b cap cap' w hl hm
  rwa [decide_eq_true h] at this
theorem append_yes {l : List Int} {fs : List (Int × Int)} {w w' : World} {e : Ending} (h : fs.all fitF = true) (hp : AppendPost l fs w e w') : ∃ v, e = .returned (.tuple #[v, .bool true]) ∧ ∃ s : OwnW w 5 v ((l ++ encs fs).map (Value.int .u8)), w' = s.w := by
  unfold AppendPost at hp
  rwa [if_pos h] at hp
theorem append_not {l : List Int} {fs : List (Int × Int)} {w w' : World} {e : Ending} (h : fs.all fitF = false) (hp : AppendPost l fs w e w') : e = .returned (.tuple #[.slice none 0 0, .bool false]) ∧ Below w.heap.size w w' := by
  unfold AppendPost at hp
  rwa [if_neg (by rw [h]; simp)] at hp

set_option maxRecDepth 100000 in
set_option maxHeartbeats 4000000 in
theorem alive06_gives (w : World) : Calls Try.prog 7 #[] w (Gives (.bool true) w) := by
  go_enter Try.func7, Try.ntmps7
  go_wp2_with fail
  obtain ⟨s0, hs0⟩ : ∃ s0 : HeldW w [(w.heap.size + 1, .cells #[.int .u64 258, .int .i64 3] 36 (0, 0)), (w.heap.size, .cells #[.int .u8 9] 5 (0, 0))], (w.alloc (.cells #[.int .u8 9] 5)).alloc (.cells #[.int .u64 258, .int .i64 3] 36) = s0.w := by
    have := ((HeldW.start w).push (.cells #[.int .u8 9] 5 (0, 0))).push (.cells #[.int .u64 258, .int .i64 3] 36 (0, 0))
    refine ⟨⟨_, (((HeldW.start w).push (.cells #[.int .u8 9] 5 (0, 0))).push (.cells #[.int .u64 258, .int .i64 3] 36 (0, 0))).below, ?_⟩, rfl⟩
    have h := (((HeldW.start w).push (.cells #[.int .u8 9] 5 (0, 0))).push (.cells #[.int .u64 258, .int .i64 3] 36 (0, 0))).blocks
    simpa using h
  rw [hs0]
  clear hs0
  have hap := append_any [9] (some ⟨w.heap.size, 0, none⟩) 1 [(258, 3)] (some ⟨w.heap.size + 1, 0, none⟩) 1 s0.w
    ⟨by simp, by omega, fun _ => ⟨_, _, rfl, fun i hi => by
      obtain rfl : i = 0 := by simpa using hi
      rw [cell_of (s0.blocks (w.heap.size, .cells #[.int .u8 9] 5 (0, 0)) (by simp))]; rfl⟩, fun h => by cases h⟩ (by simp)
    ⟨by simp, by omega, fun _ => ⟨_, _, rfl, fun i f hi => by
      have hil := (List.getElem?_eq_some_iff.1 hi).1
      obtain rfl : i = 0 := by simpa using hil
      simp at hi
      subst hi
      have hbk := s0.blocks (w.heap.size + 1, .cells #[.int .u64 258, .int .i64 3] 36 (0, 0)) (by simp)
      rw [cell_of hbk, cell_of hbk]
      exact ⟨rfl, rfl⟩⟩, fun f hf => by simp at hf; subst hf; simp⟩ (by simp)
  refine hap.mono ?_
  rintro e w1 hpo
  clear hap
  obtain ⟨v, rfl, s1, rfl⟩ := append_yes ex_fit hpo
  clear hpo
  obtain ⟨a, cap, rfl, hb⟩ := s1.bytesL ex_app
  have b1 := s0.below.trans (s1.below.mono s0.below.size)
  have hnw := wnew_any [9, 0, 1, 2] a cap s1.w hb (by simp)
  have HB := Lib.hid hb
  have B1 := Lib.hid b1
  clear hb b1
  go_wp2_with fail
  refine hnw.mono ?_
  rintro e W ⟨g, da, dcap, rfl, hg, b2, hr, hD, hne⟩
  clear hnw
  have hW := B1.out.trans (b2.mono B1.out.size)
  have HW := Lib.hid hW
  have HG := Lib.hid (Nat.le_trans B1.out.size hg)
  have HBW := Lib.hid (HB.out.below b2)
  have HBN : Hid (∀ b o, a = some ⟨b, o, none⟩ → b ≠ g) := Lib.hid (fun b o h => by
    subst h
    obtain ⟨b', o', h1, hc⟩ := HB.out.cells (by simp)
    cases h1
    have := World.block_lt_of_cell? _ _ (hc 0 (by simp))
    simp only at this
    omega)
  have HD := Lib.hid hD
  have HNE := Lib.hid (fun b o h => (hne b o h).2)
  have HR := Lib.hid hr
  clear hr b2 hD hne hW hg
  go_wp2_with fail
  obtain ⟨S1, hS1⟩ : ∃ S : HeldX W g [(W.heap.size, .cells #[.int .u8 9, .int .u8 0, .int .u8 1, .int .u8 2] 5 (0, 0)), (g, rdO 0 4 da dcap 0 0)], W.alloc (.cells #[.int .u8 9, .int .u8 0, .int .u8 1, .int .u8 2] 5) = S.w := ⟨(HeldX.start HR.out).push _, rfl⟩
  rw [hS1]
  clear hS1
  have hbl : BytesIn S1.w (some ⟨W.heap.size, 0, none⟩) [9, 0, 1, 2] 4 := ⟨by simp, by omega, fun _ => ⟨_, _, rfl, fun i hi => by
    rw [cell_of (S1.blocks (W.heap.size, .cells #[.int .u8 9, .int .u8 0, .int .u8 1, .int .u8 2] 5 (0, 0)) (by simp)), Nat.zero_add]
    have : i = 0 ∨ i = 1 ∨ i = 2 ∨ i = 3 := by simp at hi; omega
    rcases this with rfl | rfl | rfl | rfl <;> rfl⟩, fun h => by cases h⟩
  refine (HeldX.call (s := S1) (eq8_yes [9, 0, 1, 2] [9, 0, 1, 2] rfl a _ cap 4 _ (HBW.out.X HBN.out S1) hbl)).mono ?_
  rintro e _ ⟨rfl, S2, rfl⟩
  clear hbl
  go_wp2_with fail
  have hu := uint_ok g 0 dcap da S2.w [9, 0, 1, 2] 0 1 (S2.blocks (g, _) (by simp)) (by omega) (by simp) (HD.out.X HNE.out S2)
  rw [ex_9] at hu
  refine (HeldX.puts (s := S2.sub (bs' := [(g, rdO 0 4 da dcap 0 0)]) (by simp)) hu (.inl rfl) (by simp)).mono ?_
  rintro e _ ⟨rfl, S3, rfl⟩
  clear hu
  go_wp2_with fail
  have hu := uint_ok g 1 dcap da S3.w [9, 0, 1, 2] 0 3 (S3.blocks (g, _) (by simp)) (by omega) (by simp) (HD.out.X HNE.out S3)
  rw [ex_258] at hu
  refine (HeldX.puts (s := S3) hu (.inl rfl) (by simp)).mono ?_
  rintro e _ ⟨rfl, S4, rfl⟩
  clear hu
  go_wp2_with fail
  refine (HeldX.call (s := S4) (rest_any g 4 4 dcap da 0 0 _ (S4.blocks (g, _) (by simp)) (by omega) (by omega))).mono ?_
  rintro e _ ⟨rfl, S5, rfl⟩
  go_wp2_with fail
  refine (HeldX.call (s := S5) (fault_any g 4 4 dcap da 0 0 _ (S5.blocks (g, _) (by simp)))).mono ?_
  rintro e _ ⟨rfl, S6, rfl⟩
  go_wp2
  go_ret
  exact ⟨rfl, S6.below0 HW.out HG.out⟩
end Go.Proofs.Ytclalbiggnalfaa
