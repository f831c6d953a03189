/- FormatCuts returns true for every delta and cut, and changes nothing that was there. -/
import Derived.Test.YtfdncijblnekjaaE07x20
namespace Go.Proofs.Ytfdncijblnekjaa
open Go.RowKit
set_option linter.unusedVariables false
set_option linter.unusedSimpArgs false

theorem BytesIn.take7 {w : World} {b o cap : Nat} {l : List Int} (h : BytesIn w (some ⟨b, o, none⟩) l cap) (k c : Nat) (hk : k ≤ l.length) (hc : k ≤ c) (hc2 : c ≤ cap) : BytesIn w (some ⟨b, o, none⟩) (l.take k) c :=
  ⟨by rw [List.length_take]; omega, by have := h.capb; omega, fun hp => by
    rw [List.length_take] at hp
    obtain ⟨b', o', h1, h2⟩ := h.cells (by omega)
    simp only [Option.some.injEq, Addr.mk.injEq] at h1
    obtain ⟨rfl, rfl, _⟩ := h1
    refine ⟨b, o, rfl, fun i hi => ?_⟩
    rw [List.length_take] at hi
    rw [h2 i (by omega), List.getElem?_take, if_pos (by omega)], fun h => by cases h⟩
theorem OkB.app {a b : List Int} (h : OkB a) (h' : OkB b) : OkB (a ++ b) := fun x hx => by
  rcases List.mem_append.1 hx with h1 | h1
  · exact h x h1
  · exact h' x h1
theorem encK_ok {c : Core7} (h : OkB c.2.2.2.2) : OkB (encK c) := by
  have h1 : OkB [1] := fun x hx => by simp at hx; omega
  have h2 : OkB [2] := fun x hx => by simp at hx; omega
  unfold encK
  split
  · exact h1.app ((enc1_ok _ _).app ((enc1_ok _ _).app (enc1_ok _ _)))
  · exact h2.app ((enc1_ok _ _).app ((enc1_ok _ _).app h))
theorem enc_ok {o n : Int} {x y : List Int} {cs : List Core7} (hx : OkB x) (hy : OkB y) (h : ∀ c ∈ cs, OkB c.2.2.2.2) : OkB (encAll o n x y cs) := by
  have h1 : OkB [71, 82, 70, 84] := fun x hx => by simp at hx; omega
  have h2 : OkB [1] := fun x hx => by simp at hx; omega
  unfold encAll encH
  refine (h1.app (h2.app ((enc1_ok _ _).app ((enc1_ok _ _).app (hx.app (hy.app (enc1_ok _ _))))))).app (fun z hz => ?_)
  obtain ⟨c, hc, hz⟩ := List.mem_flatMap.1 hz
  exact encK_ok (h c hc) z hz

set_option maxRecDepth 100000 in
set_option maxHeartbeats 8000000 in
theorem cuts_big (D : Array Value) (o n : Int) (x y : List Int) (ca : Option Addr) (cs : List Cmd) (ccap : Nat) (hD : DeltaOf D o n x y (.slice ca cs.length ccap)) (cut : Int) (w : World) (h : CmdsIn w ca cs ccap) (hf : ¬ FewD cs) :
    Calls Try.prog 7 #[.agg D, .int .u16 cut] w (Gives (.bool true) w) := by
  obtain ⟨S, hS⟩ := start1 w (deltaO D)
  have HS := Lib.hid hS
  have hg := World.alloc_heap_new w (deltaO D)
  have hinf := infoDelta hD
  have hfew := few_any D o n x y ca cs ccap hD S.w (h.W S)
  rw [decide_eq_false hf] at hfew
  clear hS hD h hf
  go_enter Try.func7, Try.ntmps7
  go_wp2_with (refine wpList_load_row rfl 25 (.tmp 2) rfl w.heap.size rfl 25 _ (0, 0) _ hg Try.underlying25 rfl hinf ?_)
  rw [HS.out]
  refine (HeldW.call (s := S) hfew).mono ?_
  rintro e _ ⟨rfl, s1, rfl⟩
  go_wp2_with fail
  refine (HeldW.call (s := s1) (alive07_gives _)).mono ?_
  rintro e _ ⟨rfl, s2, rfl⟩
  go_wp2
  go_ret
  exact ⟨rfl, s2.below⟩

set_option maxRecDepth 100000 in
set_option maxHeartbeats 8000000 in
theorem cuts_wrong (D : Array Value) (o n : Int) (x y : List Int) (ca : Option Addr) (cs : List Cmd) (ccap : Nat) (hD : DeltaOf D o n x y (.slice ca cs.length ccap)) (cut : Int) (w : World) (h : CmdsIn w ca cs ccap) (hf : FewD cs) (hw : wrongOf o n (cores cs) ≠ 0) :
    Calls Try.prog 7 #[.agg D, .int .u16 cut] w (Gives (.bool true) w) := by
  obtain ⟨S, hS⟩ := start1 w (deltaO D)
  have HS := Lib.hid hS
  have hg := World.alloc_heap_new w (deltaO D)
  have hinf := infoDelta hD
  have hfew := few_any D o n x y ca cs ccap hD S.w (h.W S)
  rw [decide_eq_true hf] at hfew
  have HW := Lib.hid (fun s : HeldW w [(w.heap.size, deltaO D)] => rwrong_any D o n x y ca cs ccap hD s.w (h.W s))
  have HG := Lib.hid (fun s : HeldW w [(w.heap.size, deltaO D)] => s.blocks (w.heap.size, deltaO D) (by simp))
  generalize wrongOf o n (cores cs) = R at hw HW
  have e1 : (R != 0) = true := by simpa using hw
  clear hS hD h hf hw
  go_enter Try.func7, Try.ntmps7
  go_wp2_with (refine wpList_load_row rfl 25 (.tmp 2) rfl w.heap.size rfl 25 _ (0, 0) _ hg Try.underlying25 rfl hinf ?_)
  rw [HS.out]
  refine (HeldW.call (s := S) hfew).mono ?_
  rintro e _ ⟨rfl, s1, rfl⟩
  have g1 := HG.out s1
  go_wp2_with (refine wpList_load_rowG rfl 25 (.tmp 2) rfl (some 13) rfl w.heap.size rfl 25 _ (0, 0) _ g1 Try.underlying25 rfl hinf ?_)
  refine (HW.out s1).mono ?_
  rintro e w3 ⟨rfl, hb3⟩
  obtain ⟨s3, rfl⟩ := s1.after hb3
  go_wp2_with fail
  refine (HeldW.call (s := s3) (alive07_gives _)).mono ?_
  rintro e _ ⟨rfl, s4, rfl⟩
  go_wp2
  go_ret
  exact ⟨rfl, s4.below⟩

set_option maxRecDepth 100000 in
set_option maxHeartbeats 8000000 in
theorem cuts_right (D : Array Value) (o n : Int) (x y : List Int) (ca : Option Addr) (cs : List Cmd) (ccap : Nat) (hD : DeltaOf D o n x y (.slice ca cs.length ccap)) (cut : Int) (hcut : 0 ≤ cut ∧ cut ≤ 65535) (hx2 : OkB x) (hy2 : OkB y) (w : World) (h : CmdsIn w ca cs ccap) (hf : FewD cs) (hw : wrongOf o n (cores cs) = 0) :
    Calls Try.prog 7 #[.agg D, .int .u16 cut] w (Gives (.bool true) w) := by
  obtain ⟨S, hS⟩ := start1 w (deltaO D)
  have HS := Lib.hid hS
  have hz := zero_delta
  have hzf : ∀ W, (zeroValue 36).run Try.prog W = .ok (.agg (fltA 0 0)) W := fun W => by kernel_rfl
  have hg := World.alloc_heap_new w (deltaO D)
  have hinf := infoDelta hD
  have hlen := enc_few_len (o := o) (n := n) hD.xl hD.yl hf
  have hN : cs.length < 4294967296 := by have := hf.2; omega
  have hl : ∀ c ∈ cs, c.l.length ≤ 1000000000 := fun c hc => by have := hf.1 c hc; omega
  have hfew := few_any D o n x y ca cs ccap hD S.w (h.W S)
  rw [decide_eq_true hf] at hfew
  have HW := Lib.hid (fun s : HeldW w [(w.heap.size, deltaO D)] => rwrong_any D o n x y ca cs ccap hD s.w (h.W s))
  have HR := Lib.hid (fun s : HeldW w [(w.heap.size, deltaO D)] => rencode_any D o n x y ca cs ccap hD s.w (h.W s) hw hN hl (by omega))
  have HG := Lib.hid (fun s : HeldW w [(w.heap.size, deltaO D)] => s.blocks (w.heap.size, deltaO D) (by simp))
  have HCUT := Lib.hid (fun m (hm : m < (encAll o n x y (cores cs)).length) => end_cut (o := o) (n := n) (x := x) (y := y) (cs := cores cs) (m := m) hD.xl hD.yl hw (fun c hc => by
    obtain ⟨d, hd, rfl⟩ := List.mem_map.1 hc
    have := hl d hd
    show d.l.length ≤ _
    omega) (by simpa [cores] using hN) hm)
  have hpos : 89 ≤ (encAll o n x y (cores cs)).length := by
    unfold encAll
    rw [List.length_append]
    have len8 : ∀ v, (enc1 v 8).length = 8 := fun v => digs_length v 8 8
    have len4 : ∀ v, (enc1 v 4).length = 4 := fun v => digs_length v 4 4
    have h4 : (encH o n x y (cores cs).length).length = 89 := by
      unfold encH
      simp only [List.length_append, len8, len4, hD.xl, hD.yl, List.length_cons, List.length_nil]
    omega
  rw [hw] at HW
  have HOK := Lib.hid (show OkB (encAll o n x y (cores cs)) from enc_ok hx2 hy2 (fun c hc => by
    obtain ⟨d, hd, rfl⟩ := List.mem_map.1 hc
    exact (h.ok d hd).o))
  generalize encAll o n x y (cores cs) = B at HR HCUT hpos hlen HOK
  obtain ⟨M, hM⟩ : ∃ M, M = B.length := ⟨_, rfl⟩
  have HM := Lib.hid hM
  rw [← hM] at hpos hlen
  clear hS hD h hf hw hl hN hM
  go_enter Try.func7, Try.ntmps7
  go_wp2_with (refine wpList_load_row rfl 25 (.tmp 2) rfl w.heap.size rfl 25 _ (0, 0) _ hg Try.underlying25 rfl hinf ?_)
  rw [HS.out]
  refine (HeldW.call (s := S) hfew).mono ?_
  rintro e _ ⟨rfl, s1, rfl⟩
  have g1 := HG.out s1
  go_wp2_with (refine wpList_load_rowG rfl 25 (.tmp 2) rfl (some 13) rfl w.heap.size rfl 25 _ (0, 0) _ g1 Try.underlying25 rfl hinf ?_)
  refine (HW.out s1).mono ?_
  rintro e w3 ⟨rfl, hb3⟩
  obtain ⟨s3, rfl⟩ := s1.after hb3
  clear g1
  have g1 := HG.out s3
  go_wp2_with (refine wpList_load_row rfl 25 (.tmp 2) rfl w.heap.size rfl 25 _ (0, 0) _ g1 Try.underlying25 rfl hinf ?_)
  refine (HR.out s3).mono ?_
  rintro e _ ⟨v5, rfl, so, rfl⟩
  have hown := so.own
  rw [List.length_map] at hown
  obtain ⟨A5, C5, rfl, hby5, -⟩ := own_sl hown
  obtain ⟨s5, hs5⟩ := s3.after so.below
  rw [hs5] at hby5 ⊢
  clear g1 hown hs5 hb3 so
  rw [← HM.out]
  obtain ⟨b5, o5, rfl, -⟩ := hby5.cells (by rw [← HM.out]; omega)
  have hlc := hby5.len
  rw [← HM.out] at hlc
  have hcap := hby5.capb
  obtain ⟨m, hm⟩ : ∃ m : Nat, cut % (M : Int) = m := ⟨(cut % (M : Int)).toNat, by have := Int.emod_nonneg cut (b := (M : Int)) (by omega); omega⟩
  have hmM : m < M := by have := Int.emod_lt_of_pos cut (b := (M : Int)) (by omega); omega
  obtain ⟨hc8, hp8⟩ := HCUT.out m (by rw [← HM.out]; exact hmM)
  have hbt : ∃ T, T = B.take m := ⟨_, rfl⟩
  obtain ⟨T, hT⟩ := hbt
  have hTl : T.length = m := by rw [hT, List.length_take, ← HM.out]; omega
  have okT : OkB T := fun z hz => HOK.out z (by rw [hT] at hz; exact List.mem_of_mem_take hz)
  have hD := decode_any T (some ⟨b5, o5, none⟩) C5 s5.w (by rw [hT]; exact hby5.take7 m C5 (by rw [← HM.out]; omega) (by omega) (Nat.le_refl _)) okT (by omega)
  rw [hTl] at hD
  rw [← hT] at hc8 hp8
  clear hT hTl okT hby5
  go_wp2_with fail
  refine hD.mono ?_
  rintro e w6 ⟨o6, n6, x6, y6, cs6, a6, cap6, c, p, rfl, hb6, hcs6, -, hres⟩
  have hE : (endR T).c ≠ 0 := by rw [hc8]; omega
  obtain ⟨rfl, rfl, rfl, rfl, rfl⟩ := hres.no hE
  obtain rfl : c = 8 := by rw [hres.c]; exact hc8
  obtain rfl : p = m := by rw [hres.p]; exact hp8
  obtain ⟨S6, rfl⟩ := s5.after hb6
  obtain ⟨A1, hA1⟩ : ∃ A1, A1 = deltaA 0 0 zeros32 zeros32 (.slice a6 ([] : List Cmd).length cap6) := ⟨_, rfl⟩
  have hDA1 : DeltaOf A1 0 0 zeros32 zeros32 (.slice a6 ([] : List Cmd).length cap6) := ⟨hA1, rfl, rfl⟩
  rw [← hA1]
  obtain ⟨S7, hS7, hb7⟩ := S6.twoBoxes A1 8 m
  have HS7 := Lib.hid hS7
  have hinf7 := infoDelta hDA1
  have hsz : zeroDel.size = A1.size := by rw [zeroDel_of.size, hDA1.size]
  have hone := hDA1.one rfl
  have k0 := box0 S6.w
  have k1 := box1 S6.w A1
  have HCS := Lib.hid (hcs6.below hb7)
  have HC0 := Lib.hid (fun W => (⟨HCS.out.len, HCS.out.capb, fun h => by simp at h, fun c hc => by simp at hc, HCS.out.nil⟩ : CmdsIn W a6 [] cap6))
  have hsame := fun W => rdsame_any A1 zeroDel 0 0 0 0 zeros32 zeros32 zeros32 zeros32 a6 none [] [] cap6 0 hDA1 zeroDel_of W (HC0.out W) (cmds_none W)
  rw [show sameD 0 0 zeros32 zeros32 [] 0 0 zeros32 zeros32 [] = true by unfold sameD; simp] at hsame
  have HSM := Lib.hid hsame
  have HG7 := Lib.hid (fun s : HeldW w [(S6.w.heap.size + 1, fltO 8 m), (S6.w.heap.size, deltaO A1), (w.heap.size, deltaO D)] => s.blocks (S6.w.heap.size, deltaO A1) (by simp))
  have HCM := Lib.hid hm
  clear hA1 hDA1 hD hb6 hcs6 hres hb7 hS7 hsame hE hm
  go_wp2_with (first
    | (refine wpList_store_rowTo rfl 25 (.tmp 7) (.tmp 30) rfl rfl S6.w.heap.size A1 rfl rfl 25 zeroDel k0 hinf7 hsz hone ?_)
    | (refine wpList_store_rowTo rfl 36 (.tmp 8) (.tmp 31) rfl rfl (S6.w.heap.size + 1) (fltA 8 m) rfl rfl 36 (fltA 0 0) k1 (fltA_size _ _) rfl (fltA_one _ _) ?_; rw [HS7.out]; clear k0 k1))
  refine (HeldW.call (s := S7) (alive07_gives _)).mono ?_
  rintro e _ ⟨rfl, S8, rfl⟩
  have gA := HG7.out S8
  go_wp2_with (refine wpList_load_rowG rfl 25 (.tmp 7) rfl (some 34) rfl S6.w.heap.size rfl 25 _ (0, 0) _ gA Try.underlying25 rfl hinf7 ?_)
  refine (HeldW.call (s := S8) (HSM.out _)).mono ?_
  rintro e _ ⟨rfl, S9, rfl⟩
  clear gA
  obtain ⟨f0, f1⟩ := flt_cells S9 (S6.w.heap.size + 1) 8 m (by simp)
  have hm := HCM.out
  go_wp2
  go_ret
  exact ⟨by simp, S9.below⟩

theorem formatCuts_walk (o n : Int) (x y : List Int) (a : Option Addr) (cs : List Cmd) (cap : Nat) (cut : Int) (w : World) (hx : x.length = 32) (hy : y.length = 32) (hx2 : OkB x) (hy2 : OkB y) (h : CmdsIn w a cs cap) (hcut : 0 ≤ cut ∧ cut ≤ 65535) :
    Calls Try.prog 7 #[.agg (deltaA o n x y (.slice a cs.length cap)), .int .u16 cut] w (Gives (.bool true) w) := by
  have hD : DeltaOf (deltaA o n x y (.slice a cs.length cap)) o n x y (.slice a cs.length cap) := ⟨rfl, hx, hy⟩
  by_cases hf : FewD cs
  · by_cases hw : wrongOf o n (cores cs) = 0
    · exact cuts_right _ o n x y a cs cap hD cut hcut hx2 hy2 w h hf hw
    · exact cuts_wrong _ o n x y a cs cap hD cut w h hf hw
  · exact cuts_big _ o n x y a cs cap hD cut w h hf
end Go.Proofs.Ytfdncijblnekjaa
