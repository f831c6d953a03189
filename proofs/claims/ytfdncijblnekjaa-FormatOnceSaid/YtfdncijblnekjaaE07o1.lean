/- FormatOnce returns true for all bytes, and changes nothing that was there. -/
import Derived.Test.YtfdncijblnekjaaE07x19
import Derived.Test.YtfdncijblnekjaaE07x9
namespace Go.Proofs.Ytfdncijblnekjaa
open Go.RowKit
set_option linter.unusedVariables false
set_option linter.unusedSimpArgs false

theorem encK_bound {c : Core7} (hk : kindB c = true) (hg : goodB c = true) : c.2.2.2.2.length + 1 ≤ (encK c).length := by
  unfold kindB at hk
  simp only [Bool.or_eq_true, beq_iff_eq] at hk
  rcases hk with h1 | h2
  · unfold goodB at hg
    rw [if_pos h1] at hg
    simp only [Bool.and_eq_true, List.isEmpty_iff] at hg
    rw [encK_copy h1, hg.2]
    simp
  · rw [encK_lit h2]
    simp
    omega
theorem encs_bound : ∀ (cs : List Core7), (∀ c ∈ cs, kindB c = true ∧ goodB c = true) → cs.length ≤ (cs.flatMap encK).length ∧ ∀ c ∈ cs, c.2.2.2.2.length ≤ (cs.flatMap encK).length := by
  intro cs
  induction cs with
  | nil => intro _; simp
  | cons c l ih =>
    intro h
    obtain ⟨h1, h2⟩ := ih (fun d hd => h d (List.mem_cons_of_mem _ hd))
    have h3 := encK_bound (h c List.mem_cons_self).1 (h c List.mem_cons_self).2
    rw [List.flatMap_cons, List.length_append, List.length_cons]
    refine ⟨by omega, fun d hd => ?_⟩
    rcases List.mem_cons.1 hd with rfl | hd
    · omega
    · have := h2 d hd; omega
theorem enc_bound {o n : Int} {x y : List Int} {cs : List Core7} (hw : wrongOf o n cs = 0) : cs.length ≤ (encAll o n x y cs).length ∧ ∀ c ∈ cs, c.2.2.2.2.length ≤ (encAll o n x y cs).length := by
  obtain ⟨h1, h2⟩ := encs_bound cs (wrong_zero.1 hw).2.2
  unfold encAll
  rw [List.length_append]
  exact ⟨by omega, fun c hc => by have := h2 c hc; omega⟩

set_option maxRecDepth 100000 in
set_option maxHeartbeats 8000000 in
theorem once_big (a : Option Addr) (L : Nat) (cap : Nat) (w : World) (hL : 2000 < L) (hM : L ≤ 9223372036854775807) :
    Calls Try.prog 6 #[.slice a L cap] w (Gives (.bool true) w) := by
  go_enter Try.func6, Try.ntmps6
  go_wp2_with fail
  refine (HeldW.call (s := HeldW.start w) (alive07_gives _)).mono ?_
  rintro e _ ⟨rfl, s2, rfl⟩
  go_wp2
  go_ret
  exact ⟨rfl, s2.below⟩

set_option maxRecDepth 100000 in
set_option maxHeartbeats 8000000 in
theorem once_no (a : Option Addr) (l : List Int) (cap : Nat) (w : World) (hb : BytesIn w a l cap) (okl : OkB l) (hL : l.length ≤ 2000) (hE : (endR l).c ≠ 0) :
    Calls Try.prog 6 #[.slice a l.length cap] w (Gives (.bool true) w) := by
  have hz := zero_delta
  have hzf : ∀ W, (zeroValue 36).run Try.prog W = .ok (.agg (fltA 0 0)) W := fun W => by kernel_rfl
  have hinf0 := infoDelta zeroDel_of
  have hD := decode_any l a cap w hb okl (by omega)
  have hpl := endR_place l
  obtain ⟨L, hLL⟩ : ∃ L, L = l.length := ⟨_, rfl⟩
  rw [← hLL] at hD hL ⊢
  have HLL := Lib.hid hLL
  clear hLL
  go_enter Try.func6, Try.ntmps6
  go_wp2_with fail
  refine hD.mono ?_
  rintro e w2 ⟨o, n, x, y, cs, a2, cap2, c, p, rfl, hb2, hcs, -, hres⟩
  obtain ⟨rfl, rfl, rfl, rfl, rfl⟩ := hres.no hE
  have hc0 : c ≠ 0 := by rw [hres.c]; exact hE
  have hp0 : 0 ≤ p ∧ p ≤ (L : Int) := by rw [hres.p, HLL.out]; exact hpl.p
  obtain ⟨S2, rfl⟩ := (HeldW.start w).after hb2
  obtain ⟨A1, hA1⟩ : ∃ A1, A1 = deltaA 0 0 zeros32 zeros32 (.slice a2 ([] : List Cmd).length cap2) := ⟨_, rfl⟩
  have hDA1 : DeltaOf A1 0 0 zeros32 zeros32 (.slice a2 ([] : List Cmd).length cap2) := ⟨hA1, rfl, rfl⟩
  rw [← hA1]
  obtain ⟨S3, hS3, hb3⟩ := S2.twoBoxes A1 c p
  have HS3 := Lib.hid hS3
  have hinf := infoDelta hDA1
  have hsz : zeroDel.size = A1.size := by rw [zeroDel_of.size, hDA1.size]
  have hone := hDA1.one rfl
  have k0 := box0 S2.w
  have k1 := box1 S2.w A1
  have HCS := Lib.hid (hcs.below hb3)
  have HC0 := Lib.hid (fun W => (⟨HCS.out.len, HCS.out.capb, fun h => by simp at h, fun c hc => by simp at hc, HCS.out.nil⟩ : CmdsIn W a2 [] cap2))
  have hsame := fun W => rdsame_any A1 zeroDel 0 0 0 0 zeros32 zeros32 zeros32 zeros32 a2 none [] [] cap2 0 hDA1 zeroDel_of W (HC0.out W) (cmds_none W)
  rw [show sameD 0 0 zeros32 zeros32 [] 0 0 zeros32 zeros32 [] = true by unfold sameD; simp] at hsame
  have HSM := Lib.hid hsame
  obtain ⟨f0, f1⟩ := flt_cells S3 (S2.w.heap.size + 1) c p (by simp)
  have HG := Lib.hid (fun s : HeldW w [(S2.w.heap.size + 1, fltO c p), (S2.w.heap.size, deltaO A1)] => s.blocks (S2.w.heap.size, deltaO A1) (by simp))
  clear hA1 hDA1 hD hb2 hcs hres hb3 hS3 hsame hE hpl okl hb
  go_wp2_with (first
    | (refine wpList_store_rowTo rfl 25 (.tmp 3) (.tmp 14) rfl rfl S2.w.heap.size A1 rfl rfl 25 zeroDel k0 hinf hsz hone ?_)
    | (refine wpList_store_rowTo rfl 36 (.tmp 4) (.tmp 15) rfl rfl (S2.w.heap.size + 1) (fltA c p) rfl rfl 36 (fltA 0 0) k1 (fltA_size _ _) rfl (fltA_one _ _) ?_; rw [HS3.out]; clear k0 k1))
  refine (HeldW.call (s := S3) (alive07_gives _)).mono ?_
  rintro e _ ⟨rfl, S4, rfl⟩
  clear f0 f1
  have gA := HG.out S4
  go_wp2_with (refine wpList_load_rowG rfl 25 (.tmp 3) rfl (some 21) rfl S2.w.heap.size rfl 25 _ (0, 0) _ gA Try.underlying25 rfl hinf ?_)
  refine (HeldW.call (s := S4) (HSM.out _)).mono ?_
  rintro e _ ⟨rfl, S5, rfl⟩
  clear gA
  obtain ⟨f0, f1⟩ := flt_cells S5 (S2.w.heap.size + 1) c p (by simp)
  go_wp2
  go_ret
  exact ⟨by simp; exact hc0, S5.below⟩
set_option maxRecDepth 100000 in
set_option maxHeartbeats 8000000 in
theorem once_yes (a : Option Addr) (l : List Int) (cap : Nat) (w : World) (hb : BytesIn w a l cap) (okl : OkB l) (hL : l.length ≤ 2000) (hE : (endR l).c = 0) :
    Calls Try.prog 6 #[.slice a l.length cap] w (Gives (.bool true) w) := by
  have hz := zero_delta
  have hzf : ∀ W, (zeroValue 36).run Try.prog W = .ok (.agg (fltA 0 0)) W := fun W => by kernel_rfl
  have hD := decode_any l a cap w hb okl (by omega)
  have hed := enc_dec okl hE
  obtain ⟨L, hLL⟩ : ∃ L, L = l.length := ⟨_, rfl⟩
  rw [← hLL] at hD hL ⊢
  have HLL := Lib.hid hLL
  clear hLL
  go_enter Try.func6, Try.ntmps6
  go_wp2_with fail
  refine hD.mono ?_
  rintro e w2 ⟨o, n, x, y, cs, a2, cap2, c, p, rfl, hb2, hcs, hapt, hres⟩
  obtain ⟨e1, e2, e3, e4, e5⟩ := hres.yes hE
  obtain ⟨d1, d2, d3, d4, d5, d6⟩ := hed
  rw [← e1, ← e2, ← e3, ← e4, ← e5] at d1
  rw [← e1, ← e2, ← e5] at d2
  obtain rfl : c = 0 := by rw [hres.c]; exact hE
  obtain rfl : p = 0 := by rw [hres.p]; exact d5
  have hxl := hres.xl
  have hyl := hres.yl
  clear d3 d4 d5 d6 e1 e2 e3 e4 e5 hres
  have hbd := enc_bound (o := o) (n := n) (x := x) (y := y) d2
  rw [← d1] at hbd
  have hcl : (cores cs).length = cs.length := by simp [cores]
  have hN : cs.length < 4294967296 := by have := hbd.1; have := HLL.out; omega
  have hl : ∀ c ∈ cs, c.l.length ≤ 1000000000 := fun c hc => by
    have := hbd.2 _ (List.mem_map_of_mem (f := Cmd.core) hc)
    have h2 : c.l.length ≤ l.length := this
    have := HLL.out; omega
  obtain ⟨S2, rfl⟩ := (HeldW.start w).after hb2
  obtain ⟨A1, hA1⟩ : ∃ A1, A1 = deltaA o n x y (.slice a2 cs.length cap2) := ⟨_, rfl⟩
  have hDA1 : DeltaOf A1 o n x y (.slice a2 cs.length cap2) := ⟨hA1, hxl, hyl⟩
  rw [← hA1]
  obtain ⟨S3, hS3, hb3⟩ := S2.twoBoxes A1 0 0
  have HS3 := Lib.hid hS3
  have hinf := infoDelta hDA1
  have hsz : zeroDel.size = A1.size := by rw [zeroDel_of.size, hDA1.size]
  have hone := hDA1.one rfl
  have k0 := box0 S2.w
  have k1 := box1 S2.w A1
  have hEN := encode_any A1 o n x y a2 cs cap2 hDA1 S3.w (hcs.below hb3) hN hl (by rw [← d1]; have := HLL.out; omega)
  rw [d2, ← d1] at hEN
  obtain ⟨f0, f1⟩ := flt_cells S3 (S2.w.heap.size + 1) 0 0 (by simp)
  have gA := S3.blocks (S2.w.heap.size, deltaO A1) (by simp)
  have HBY := Lib.hid (((hb.below hb2).below hb3))
  clear hA1 hDA1 hD hb2 hcs hb3 hS3 hE okl hb hapt hN hl hcl hbd d1 d2
  go_wp2_with (first
    | (refine wpList_store_rowTo rfl 25 (.tmp 3) (.tmp 14) rfl rfl S2.w.heap.size A1 rfl rfl 25 zeroDel k0 hinf hsz hone ?_)
    | (refine wpList_store_rowTo rfl 36 (.tmp 4) (.tmp 15) rfl rfl (S2.w.heap.size + 1) (fltA 0 0) rfl rfl 36 (fltA 0 0) k1 (fltA_size _ _) rfl (fltA_one _ _) ?_; rw [HS3.out]; clear k0 k1)
    | (refine wpList_load_row rfl 25 (.tmp 3) rfl S2.w.heap.size rfl 25 _ (0, 0) _ gA Try.underlying25 rfl hinf ?_))
  refine hEN.mono ?_
  rintro e w4 hp
  unfold EncPost at hp
  rw [if_pos rfl] at hp
  obtain ⟨A, C, rfl, hb4, hby, -⟩ := hp
  obtain ⟨S4, rfl⟩ := S3.after hb4
  rw [← HLL.out]
  clear f0 f1 gA
  go_wp2_with fail
  refine (alive07_gives _).mono ?_
  rintro e w5 ⟨rfl, hb5⟩
  obtain ⟨S5, rfl⟩ := S4.after hb5
  have hq := eq8_any l l A a C cap S5.w (hby.below hb5) ((HBY.out.below hb4).below hb5)
  rw [decide_eq_true rfl, ← HLL.out] at hq
  clear hby hb4 hb5 hEN
  go_wp2_with fail
  refine (HeldW.call (s := S5) hq).mono ?_
  rintro e _ ⟨rfl, S6, rfl⟩
  go_wp2
  go_ret
  exact ⟨by simp, S6.below⟩

theorem formatOnce_walk (a : Option Addr) (l : List Int) (cap : Nat) (w : World) (hb : BytesIn w a l cap) (okl : OkB l) :
    Calls Try.prog 6 #[.slice a l.length cap] w (Gives (.bool true) w) := by
  by_cases hL : 2000 < l.length
  · exact once_big a l.length cap w hL (Nat.le_trans hb.len hb.capb)
  · by_cases hE : (endR l).c = 0
    · exact once_yes a l cap w hb okl (by omega) hE
    · exact once_no a l cap w hb okl (by omega) hE
end Go.Proofs.Ytfdncijblnekjaa
