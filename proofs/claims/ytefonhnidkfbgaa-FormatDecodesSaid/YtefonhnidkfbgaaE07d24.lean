/- FormatDecodes returns true for all bytes, and changes nothing that was there. -/
import Derived.Test.YtefonhnidkfbgaaE07d19
import Derived.Test.YtefonhnidkfbgaaE07d23
namespace Go.Proofs.Ytefonhnidkfbgaa
open Go.RowKit
set_option linter.unusedVariables false
set_option linter.unusedSimpArgs false

set_option maxRecDepth 100000 in
set_option maxHeartbeats 8000000 in
theorem decodes_big (a : Option Addr) (L : Nat) (cap : Nat) (w : World) (hL : 2000 < L) (hM : L ≤ 9223372036854775807) :
    Calls Try.prog 3 #[.slice a L cap] w (Gives (.bool true) w) := by
  go_enter Try.func3, Try.ntmps3
  go_wp2_with fail
  refine (HeldW.call (s := HeldW.start w) (alive07_gives _)).mono ?_
  rintro e _ ⟨rfl, s2, rfl⟩
  go_wp2
  go_ret
  exact ⟨rfl, s2.below⟩
theorem decres_same {D : List Int} {o n o' n' c p c' p' : Int} {x y x' y' : List Int} {cs cs' : List Cmd} (h : DecRes D o n x y cs c p) (h' : DecRes D o' n' x' y' cs' c' p') : c = c' ∧ p = p' ∧ sameD o n x y cs o' n' x' y' cs' = true := by
  refine ⟨by rw [h.c, h'.c], by rw [h.p, h'.p], ?_⟩
  by_cases hE : (endR D).c = 0
  · obtain ⟨rfl, rfl, rfl, rfl, h5⟩ := h.yes hE
    obtain ⟨rfl, rfl, rfl, rfl, h6⟩ := h'.yes hE
    unfold sameD
    simp [h5, h6]
  · obtain ⟨rfl, rfl, rfl, rfl, rfl⟩ := h.no hE
    obtain ⟨rfl, rfl, rfl, rfl, rfl⟩ := h'.no hE
    unfold sameD
    simp

set_option maxRecDepth 100000 in
set_option maxHeartbeats 8000000 in
theorem decodes_small (a : Option Addr) (l : List Int) (cap : Nat) (w : World) (hb : BytesIn w a l cap) (okl : OkB l) (hL : l.length ≤ 2000) :
    Calls Try.prog 3 #[.slice a l.length cap] w (Gives (.bool true) w) := by
  have hz := zero_delta
  have hzf : ∀ W, (zeroValue 30).run Try.prog W = .ok (.agg (fltA 0 0)) W := fun W => by kernel_rfl
  have hD := decode_any l a cap w hb okl (by omega)
  have HR : Hid (∀ W, Below w.heap.size w W → Calls Try.prog 6 #[.slice a l.length cap] W (RDecPost l W)) := Lib.hid fun W h => rdecode_any l a cap W (hb.below h) okl
  obtain ⟨L, hLL⟩ : ∃ L, L = l.length := ⟨_, rfl⟩
  rw [← hLL] at hD hL HR ⊢
  clear hLL hb okl
  go_enter Try.func3, Try.ntmps3
  go_wp2_with fail
  refine hD.mono ?_
  rintro e w2 ⟨o, n, x, y, cs, a2, cap2, c, p, rfl, hb2, hcs, -, hres⟩
  obtain ⟨S2, rfl⟩ := (HeldW.start w).after hb2
  obtain ⟨A1, hA1⟩ : ∃ A1, A1 = deltaA o n x y (.slice a2 cs.length cap2) := ⟨_, rfl⟩
  have hDA1 : DeltaOf A1 o n x y (.slice a2 cs.length cap2) := ⟨hA1, hres.xl, hres.yl⟩
  rw [← hA1]
  obtain ⟨S3, hS3, hb3⟩ := S2.twoBoxes A1 c p
  have HS3 := Lib.hid hS3
  have hinf := infoDelta hDA1
  have hsz : zeroDel.size = A1.size := by rw [zeroDel_of.size, hDA1.size]
  have hone := hDA1.one rfl
  have k0 := box0 S2.w
  have k1 := box1 S2.w A1
  have hcs3 := hcs.below hb3
  have HRES := Lib.hid hres
  have HDA1 := Lib.hid hDA1
  have hr := HR.out S3.w S3.below
  clear hA1 hDA1 hD hb2 hcs hb3 hS3 hres
  go_wp2_with (first
    | (refine wpList_store_rowTo rfl 27 (.tmp 3) (.tmp 15) rfl rfl S2.w.heap.size A1 rfl rfl 27 zeroDel k0 hinf hsz hone ?_)
    | (refine wpList_store_rowTo rfl 30 (.tmp 4) (.tmp 16) rfl rfl (S2.w.heap.size + 1) (fltA c p) rfl rfl 30 (fltA 0 0) k1 (fltA_size _ _) rfl (fltA_one _ _) ?_; rw [HS3.out]; clear k0 k1))
  refine hr.mono ?_
  rintro e w4 ⟨o', n', x', y', cs', a4, cap4, c', p', rfl, hb4, hcs4, hres4⟩
  obtain ⟨rfl, rfl, hsame⟩ := decres_same HRES.out hres4
  obtain ⟨S4, rfl⟩ := S3.after hb4
  have hcs3' := hcs3.below hb4
  obtain ⟨A2, hA2⟩ : ∃ A2, A2 = deltaA o' n' x' y' (.slice a4 cs'.length cap4) := ⟨_, rfl⟩
  have hDA2 : DeltaOf A2 o' n' x' y' (.slice a4 cs'.length cap4) := ⟨hA2, hres4.xl, hres4.yl⟩
  rw [← hA2]
  obtain ⟨S5, hS5⟩ : ∃ S5 : HeldW w [(S4.w.heap.size, deltaO A2), (S2.w.heap.size + 1, fltO c p), (S2.w.heap.size, deltaO A1)], S4.w.alloc (deltaO A2) = S5.w := ⟨S4.push _, rfl⟩
  have hb5 : Below S4.w.heap.size S4.w S5.w := by rw [← hS5]; exact (Below.refl _ _).alloc (Nat.le_refl _) _
  have hset : (S4.w.alloc (deltaO zeroDel)).setRow S4.w.heap.size A2 = S5.w := by rw [World.setRow_alloc_new, hS5]
  have HSET := Lib.hid hset
  have hnew : (S4.w.alloc (deltaO zeroDel)).heap[S4.w.heap.size]? = some (deltaO zeroDel) := heap_new _ _ rfl
  have hinf2 := infoDelta hDA2
  have hsz2 : zeroDel.size = A2.size := by rw [zeroDel_of.size, hDA2.size]
  have hone2 := hDA2.one rfl
  have hcsA := hcs3'.below hb5
  have hcsB := hcs4.below hb5
  have HSM : Hid (∀ W, Below S5.w.heap.size S5.w W → Calls Try.prog 7 #[.agg A1, .agg A2] W (Gives (.bool true) W)) := Lib.hid fun W h => by
    have := rdsame_any A1 A2 o n o' n' x y x' y' a2 a4 cs cs' cap2 cap4 HDA1.out hDA2 W (hcsA.below h) (hcsB.below h)
    rwa [hsame] at this
  clear hA2 hDA2 hcs3' hcs4 hres4 hb4 hS5 hset hb5 hcsA hcsB hsame hcs3 hr
  go_wp2_with (refine wpList_store_rowTo rfl 27 (.tmp 5) (.tmp 20) rfl rfl S4.w.heap.size A2 rfl rfl 27 zeroDel hnew hinf2 hsz2 hone2 ?_; rw [HSET.out])
  refine (alive07_gives _).mono ?_
  rintro e w6 ⟨rfl, hb6⟩
  obtain ⟨S6, rfl⟩ := S5.after hb6
  have gA := S6.blocks (S2.w.heap.size, deltaO A1) (by simp)
  have gB := S6.blocks (S4.w.heap.size, deltaO A2) (by simp)
  have hsm := HSM.out S6.w hb6
  clear hb6 hnew
  go_wp2_with (first
    | (refine wpList_load_rowG rfl 27 (.tmp 3) rfl (some 25) rfl S2.w.heap.size rfl 27 _ (0, 0) _ gA Try.underlying27 rfl hinf ?_)
    | (refine wpList_load_rowG rfl 27 (.tmp 5) rfl (some 26) rfl S4.w.heap.size rfl 27 _ (0, 0) _ gB Try.underlying27 rfl hinf2 ?_))
  refine (HeldW.call (s := S6) hsm).mono ?_
  rintro e _ ⟨rfl, S7, rfl⟩
  clear gA gB
  have q0 : S7.w.cell? ⟨S2.w.heap.size + 1, 0, none⟩ = some (.int .i64 c) := by rw [cell_of (S7.blocks (S2.w.heap.size + 1, fltO c p) (by simp))]; rfl
  have q1 : S7.w.cell? ⟨S2.w.heap.size + 1, 1, none⟩ = some (.int .i64 p) := by rw [cell_of (S7.blocks (S2.w.heap.size + 1, fltO c p) (by simp))]; rfl
  go_wp2
  go_ret
  exact ⟨by simp, S7.below⟩

theorem formatDecodes_walk (a : Option Addr) (l : List Int) (cap : Nat) (w : World) (hb : BytesIn w a l cap) (okl : OkB l) :
    Calls Try.prog 3 #[.slice a l.length cap] w (Gives (.bool true) w) := by
  by_cases hL : 2000 < l.length
  · exact decodes_big a l.length cap w hL (Nat.le_trans hb.len hb.capb)
  · exact decodes_small a l cap w hb okl (by omega)
end Go.Proofs.Ytefonhnidkfbgaa
