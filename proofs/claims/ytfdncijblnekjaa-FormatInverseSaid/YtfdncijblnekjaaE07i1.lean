/- FormatInverse returns true for every delta and all bytes, and changes nothing that was there. -/
import Derived.Test.YtfdncijblnekjaaE07c1
namespace Go.Proofs.Ytfdncijblnekjaa
open Go.RowKit
set_option linter.unusedVariables false
set_option linter.unusedSimpArgs false

set_option maxRecDepth 100000 in
set_option maxHeartbeats 8000000 in
theorem finv_big (D : Array Value) (o n : Int) (x y : List Int) (ca : Option Addr) (cs : List Cmd) (ccap : Nat) (hD : DeltaOf D o n x y (.slice ca cs.length ccap)) (a0 : Option Addr) (m0 c0 : Nat) (w : World) (h : CmdsIn w ca cs ccap) (hf : ¬ FewD cs) :
    Calls Try.prog 5 #[.agg D, .slice a0 m0 c0] w (Gives (.bool true) w) := by
  obtain ⟨S, hS⟩ := start1 w (deltaO D)
  have HS := Lib.hid hS
  have hg := World.alloc_heap_new w (deltaO D)
  have hinf := infoDelta hD
  have hfew := few_any D o n x y ca cs ccap hD S.w (h.W S)
  rw [decide_eq_false hf] at hfew
  clear hS hD h hf
  go_enter Try.func5, Try.ntmps5
  go_wp2_with (refine wpList_load_row rfl 25 (.tmp 2) rfl w.heap.size rfl 25 _ (0, 0) _ hg Try.underlying25 rfl hinf ?_)
  rw [HS.out]
  refine (HeldW.call (s := S) hfew).mono ?_
  rintro e _ ⟨rfl, s1, rfl⟩
  go_wp2_with fail
  refine (HeldW.call (s := s1) (alive07_gives _)).mono ?_
  rintro e _ ⟨rfl, s2, rfl⟩
  go_wp2
  go_ret
  exact ⟨rfl, s2.below⟩

set_option maxRecDepth 100000 in
set_option maxHeartbeats 8000000 in
theorem finv_wrong (D : Array Value) (o n : Int) (x y : List Int) (ca : Option Addr) (cs : List Cmd) (ccap : Nat) (hD : DeltaOf D o n x y (.slice ca cs.length ccap)) (a0 : Option Addr) (m0 c0 : Nat) (w : World) (h : CmdsIn w ca cs ccap) (hf : FewD cs) (hw : wrongOf o n (cores cs) ≠ 0) :
    Calls Try.prog 5 #[.agg D, .slice a0 m0 c0] w (Gives (.bool true) w) := by
  obtain ⟨S, hS⟩ := start1 w (deltaO D)
  have HS := Lib.hid hS
  have hg := World.alloc_heap_new w (deltaO D)
  have hinf := infoDelta hD
  have hfew := few_any D o n x y ca cs ccap hD S.w (h.W S)
  rw [decide_eq_true hf] at hfew
  have HW := Lib.hid (fun s : HeldW w [(w.heap.size, deltaO D)] => rwrong_any D o n x y ca cs ccap hD s.w (h.W s))
  have HG := Lib.hid (fun s : HeldW w [(w.heap.size, deltaO D)] => s.blocks (w.heap.size, deltaO D) (by simp))
  generalize wrongOf o n (cores cs) = R at hw HW
  have e1 : (R != 0) = true := by simpa using hw
  clear hS hD h hf hw
  go_enter Try.func5, Try.ntmps5
  go_wp2_with (refine wpList_load_row rfl 25 (.tmp 2) rfl w.heap.size rfl 25 _ (0, 0) _ hg Try.underlying25 rfl hinf ?_)
  rw [HS.out]
  refine (HeldW.call (s := S) hfew).mono ?_
  rintro e _ ⟨rfl, s1, rfl⟩
  have g1 := HG.out s1
  go_wp2_with (refine wpList_load_rowG rfl 25 (.tmp 2) rfl (some 15) rfl w.heap.size rfl 25 _ (0, 0) _ g1 Try.underlying25 rfl hinf ?_)
  refine (HW.out s1).mono ?_
  rintro e w3 ⟨rfl, hb3⟩
  obtain ⟨s3, rfl⟩ := s1.after hb3
  go_wp2_with fail
  refine (HeldW.call (s := s3) (alive07_gives _)).mono ?_
  rintro e _ ⟨rfl, s4, rfl⟩
  go_wp2
  go_ret
  exact ⟨rfl, s4.below⟩

set_option maxRecDepth 100000 in
set_option maxHeartbeats 8000000 in
theorem finv_long (D : Array Value) (o n : Int) (x y : List Int) (ca : Option Addr) (cs : List Cmd) (ccap : Nat) (hD : DeltaOf D o n x y (.slice ca cs.length ccap)) (a0 : Option Addr) (m0 c0 : Nat) (w : World) (h : CmdsIn w ca cs ccap) (hf : FewD cs) (hw : wrongOf o n (cores cs) = 0) (hm0 : 100 < m0) (hm1 : m0 ≤ 9223372036854775807) :
    Calls Try.prog 5 #[.agg D, .slice a0 m0 c0] w (Gives (.bool true) w) := by
  obtain ⟨S, hS⟩ := start1 w (deltaO D)
  have HS := Lib.hid hS
  have hg := World.alloc_heap_new w (deltaO D)
  have hinf := infoDelta hD
  have hfew := few_any D o n x y ca cs ccap hD S.w (h.W S)
  rw [decide_eq_true hf] at hfew
  have HW := Lib.hid (fun s : HeldW w [(w.heap.size, deltaO D)] => rwrong_any D o n x y ca cs ccap hD s.w (h.W s))
  have HG := Lib.hid (fun s : HeldW w [(w.heap.size, deltaO D)] => s.blocks (w.heap.size, deltaO D) (by simp))
  rw [hw] at HW
  clear hS hD h hf hw
  go_enter Try.func5, Try.ntmps5
  go_wp2_with (refine wpList_load_row rfl 25 (.tmp 2) rfl w.heap.size rfl 25 _ (0, 0) _ hg Try.underlying25 rfl hinf ?_)
  rw [HS.out]
  refine (HeldW.call (s := S) hfew).mono ?_
  rintro e _ ⟨rfl, s1, rfl⟩
  have g1 := HG.out s1
  go_wp2_with (refine wpList_load_rowG rfl 25 (.tmp 2) rfl (some 15) rfl w.heap.size rfl 25 _ (0, 0) _ g1 Try.underlying25 rfl hinf ?_)
  refine (HW.out s1).mono ?_
  rintro e w3 ⟨rfl, hb3⟩
  obtain ⟨s3, rfl⟩ := s1.after hb3
  go_wp2_with fail
  refine (HeldW.call (s := s3) (alive07_gives _)).mono ?_
  rintro e _ ⟨rfl, s4, rfl⟩
  go_wp2
  go_ret
  exact ⟨rfl, s4.below⟩

set_option maxRecDepth 100000 in
set_option maxHeartbeats 8000000 in
theorem finv_right (D : Array Value) (o n : Int) (x y : List Int) (ca : Option Addr) (cs : List Cmd) (ccap : Nat) (hD : DeltaOf D o n x y (.slice ca cs.length ccap)) (a0 : Option Addr) (mo : List Int) (c0 : Nat) (hx2 : OkB x) (hy2 : OkB y) (okm : OkB mo) (w : World) (h : CmdsIn w ca cs ccap) (hbm : BytesIn w a0 mo c0) (hf : FewD cs) (hw : wrongOf o n (cores cs) = 0) (hm0 : mo.length ≤ 100) :
    Calls Try.prog 5 #[.agg D, .slice a0 mo.length c0] w (Gives (.bool true) w) := by
  obtain ⟨E⟩ := elem_of (P := Try.prog) (t := 28) (e := 5) (z := .int .u8 0) (n := 1) Try.underlying28 (by kernel_rfl) rfl (by omega)
  obtain ⟨S, hS⟩ := start1 w (deltaO D)
  have HS := Lib.hid hS
  have hz := zero_delta
  have hzf : ∀ W, (zeroValue 36).run Try.prog W = .ok (.agg (fltA 0 0)) W := fun W => by kernel_rfl
  have hg := World.alloc_heap_new w (deltaO D)
  have hinf := infoDelta hD
  have hlen := enc_few_len (o := o) (n := n) hD.xl hD.yl hf
  have hN : cs.length < 4294967296 := by have := hf.2; omega
  have hl : ∀ c ∈ cs, c.l.length ≤ 1000000000 := fun c hc => by have := hf.1 c hc; omega
  have hl2 : ∀ c ∈ cores cs, c.2.2.2.2.length ≤ 4611686018427387903 := fun c hc => by
    obtain ⟨d, hd, rfl⟩ := List.mem_map.1 hc
    have := hl d hd
    show d.l.length ≤ _
    omega
  have hN2 : (cores cs).length < 4294967296 := by simpa [cores] using hN
  have hfew := few_any D o n x y ca cs ccap hD S.w (h.W S)
  rw [decide_eq_true hf] at hfew
  have HW := Lib.hid (fun s : HeldW w [(w.heap.size, deltaO D)] => rwrong_any D o n x y ca cs ccap hD s.w (h.W s))
  have HE := Lib.hid (fun s : HeldW w [(w.heap.size, deltaO D)] => encode_any D o n x y ca cs ccap hD s.w (h.W s) hN hl (by omega))
  have HG := Lib.hid (fun s : HeldW w [(w.heap.size, deltaO D)] => s.blocks (w.heap.size, deltaO D) (by simp))
  have HOK := Lib.hid (show OkB (encAll o n x y (cores cs)) from enc_ok hx2 hy2 (fun c hc => by
    obtain ⟨d, hd, rfl⟩ := List.mem_map.1 hc
    exact (h.ok d hd).o))
  have HDE := Lib.hid (fun (T m : List Int) (hT : T = encAll o n x y (cores cs) ++ m) => And.intro (dec_enc hD.xl hD.yl hw hl2 hN2 hT) (end_enc hD.xl hD.yl hw hl2 hN2 hT))
  have HH := Lib.hid h
  have HDD := Lib.hid hD
  have HMO := Lib.hid hbm
  rw [hw] at HW HE
  generalize encAll o n x y (cores cs) = B at HE HDE HOK hlen
  obtain ⟨M, hM⟩ : ∃ M, M = B.length := ⟨_, rfl⟩
  have HM := Lib.hid hM
  rw [← hM] at hlen
  obtain ⟨K, hK⟩ : ∃ K, K = mo.length := ⟨_, rfl⟩
  have HK := Lib.hid hK
  rw [← hK] at hm0 ⊢
  clear hS hD h hf hw hl hN hM hK hl2 hN2 hbm
  go_enter Try.func5, Try.ntmps5
  go_wp2_with (refine wpList_load_row rfl 25 (.tmp 2) rfl w.heap.size rfl 25 _ (0, 0) _ hg Try.underlying25 rfl hinf ?_)
  rw [HS.out]
  refine (HeldW.call (s := S) hfew).mono ?_
  rintro e _ ⟨rfl, s1, rfl⟩
  have g1 := HG.out s1
  go_wp2_with (refine wpList_load_rowG rfl 25 (.tmp 2) rfl (some 15) rfl w.heap.size rfl 25 _ (0, 0) _ g1 Try.underlying25 rfl hinf ?_)
  refine (HW.out s1).mono ?_
  rintro e w3 ⟨rfl, hb3⟩
  obtain ⟨s3, rfl⟩ := s1.after hb3
  clear g1
  have g1 := HG.out s3
  go_wp2_with (refine wpList_load_row rfl 25 (.tmp 2) rfl w.heap.size rfl 25 _ (0, 0) _ g1 Try.underlying25 rfl hinf ?_)
  refine (HE.out s3).mono ?_
  rintro e w4 hp
  unfold EncPost at hp
  rw [if_pos rfl] at hp
  obtain ⟨A, C, rfl, hb4, hby, -⟩ := hp
  obtain ⟨s4, rfl⟩ := s3.after hb4
  have hd1 := decode_any B A C s4.w hby HOK.out (by rw [← HM.out]; omega)
  rw [← HM.out] at hd1 ⊢
  clear g1 hb3 hb4
  go_wp2_with fail
  refine hd1.mono ?_
  rintro e w5 ⟨o5, n5, x5, y5, cs5, a5, cap5, c, p, rfl, hb5, hcs5, -, hres⟩
  obtain ⟨⟨q1, q2⟩, q3⟩ := HDE.out B [] (List.append_nil _).symm
  rw [if_pos rfl] at q3
  obtain ⟨r1, r2, r3, r4, r5⟩ := hres.yes (by rw [q3])
  rw [q1] at r1 r2 r3 r4
  rw [q2] at r5
  obtain rfl : o5 = o := r1
  obtain rfl : n5 = n := r2
  obtain rfl : x5 = x := r3
  obtain rfl : y5 = y := r4
  obtain rfl : c = 0 := by rw [hres.c, q3]
  obtain rfl : p = 0 := by rw [hres.p, q3]
  have hxl := hres.xl
  have hyl := hres.yl
  clear q1 q2 q3 hres
  obtain ⟨S5, rfl⟩ := s4.after hb5
  obtain ⟨A1, hA1⟩ : ∃ A1, A1 = deltaA o5 n5 x5 y5 (.slice a5 cs5.length cap5) := ⟨_, rfl⟩
  have hDA1 : DeltaOf A1 o5 n5 x5 y5 (.slice a5 cs5.length cap5) := ⟨hA1, hxl, hyl⟩
  rw [← hA1]
  obtain ⟨S6, hS6, hb6⟩ := S5.twoBoxes A1 0 0
  have HS6 := Lib.hid hS6
  have hinf6 := infoDelta hDA1
  have hsz : zeroDel.size = A1.size := by rw [zeroDel_of.size, hDA1.size]
  have hone := hDA1.one rfl
  have k0 := box0 S5.w
  have k1 := box1 S5.w A1
  have hsame := rdsame_any A1 D o5 n5 o5 n5 x5 y5 x5 y5 a5 ca cs5 cs cap5 ccap hDA1 HDD.out S6.w (hcs5.below hb6) (HH.out.below S6.below)
  rw [show sameD o5 n5 x5 y5 cs5 o5 n5 x5 y5 cs = true by unfold sameD; simp [r5]] at hsame
  obtain ⟨f0, f1⟩ := flt_cells S6 (S5.w.heap.size + 1) 0 0 (by simp)
  have gA := S6.blocks (S5.w.heap.size, deltaO A1) (by simp)
  have gD := S6.blocks (w.heap.size, deltaO D) (by simp)
  have hby6 : BytesIn S6.w A B C := (hby.below hb5).below hb6
  have HB6 := Lib.hid hby6
  clear hA1 hd1 hb5 hcs5 hb6 hS6 hby r5
  go_wp2_with (first
    | (refine wpList_store_rowTo rfl 25 (.tmp 7) (.tmp 33) rfl rfl S5.w.heap.size A1 rfl rfl 25 zeroDel k0 hinf6 hsz hone ?_)
    | (refine wpList_store_rowTo rfl 36 (.tmp 8) (.tmp 34) rfl rfl (S5.w.heap.size + 1) (fltA 0 0) rfl rfl 36 (fltA 0 0) k1 (fltA_size _ _) rfl (fltA_one _ _) ?_; rw [HS6.out]; clear k0 k1)
    | (refine wpList_load_rowG rfl 25 (.tmp 7) rfl (some 43) rfl S5.w.heap.size rfl 25 _ (0, 0) _ gA Try.underlying25 rfl hinf6 ?_)
    | (refine wpList_load_rowG rfl 25 (.tmp 2) rfl (some 44) rfl w.heap.size rfl 25 _ (0, 0) _ gD Try.underlying25 rfl hinf ?_))
  refine hsame.mono ?_
  rintro e w7 ⟨rfl, hb7⟩
  obtain ⟨S7, rfl⟩ := S6.after hb7
  clear f0 f1 gA gD hsame hby6
  have hby7 : BytesIn S7.w A B C := HB6.out.below hb7
  obtain ⟨so, hso⟩ := own_empty S7.w
  have HSO := Lib.hid hso
  have HSRC := Lib.hid (hby7.below so.below).news
  have HN := Lib.hid (hby7.nil2 (n := M) HM.out)
  have HML := Lib.hid (show M = (B.map (Value.int .u8)).length by rw [List.length_map]; exact HM.out)
  have HL2 : Hid (M ≤ 20000) := Lib.hid hlen
  clear hso hby7 hb7
  go_wp2_with (first
    | (rw [HSO.out]; refine wpList_append_src E so (B.map (Value.int .u8)) (.tmp 49) (.tmp 50) rfl rfl rfl A M C HML.out rfl HN.out HSRC.out (one_bytes _) (by rw [List.length_nil, List.length_map, ← HM.out]; omega) ?_; intro v1 s1'; obtain ⟨G0, h0⟩ := Grow.ofOwn s1'; obtain ⟨G1, h1⟩ := G0.conv (n' := B.length) (xs' := B.map (Value.int .u8)) (by simp) (by simp); rw [h0, h1]; clear h0 h1)
    | (refine GB.app G1 (.tmp 51) (.tmp 52) rfl rfl rfl a0 mo K c0 HK.out.symm rfl ((HMO.out.W S7).below G1.but.below) (by rw [← HM.out]; omega) ?_; intro v2 G2))
  obtain ⟨-, A2, C2, rfl, hb2⟩ := G2.bytes
  have okT : OkB (B ++ mo) := HOK.out.app okm
  have hTl : (B ++ mo).length = M + K := by rw [List.length_append, ← HM.out, ← HK.out]
  have hd2 := decode_any (B ++ mo) A2 C2 G2.w hb2 okT (by omega)
  have q3 := (HDE.out (B ++ mo) mo rfl).2
  have hbG := G2.but.below
  refine hd2.mono ?_
  rintro e w8 ⟨o6, n6, x6, y6, cs6, a6, cap6, c, p, rfl, hb8, -, -, hres⟩
  have hc := hres.c
  have hp := hres.p
  rw [q3] at hc hp
  obtain ⟨S8, rfl⟩ := S7.after (hbG.trans (hb8.mono hbG.size))
  have hcp : (c = 0 ∧ p = 0 ∧ K = 0) ∨ (c = 12 ∧ p = (M : Int) ∧ 0 < K) := by
    by_cases hmo : mo = []
    · rw [if_pos hmo] at hc hp
      exact .inl ⟨hc, hp, by rw [HK.out, hmo]; rfl⟩
    · rw [if_neg hmo] at hc hp
      exact .inr ⟨hc, by rw [hp, HM.out], by rw [HK.out]; exact List.length_pos_iff.2 hmo⟩
  obtain ⟨A3, hA3⟩ : ∃ A3, A3 = deltaA o6 n6 x6 y6 (.slice a6 cs6.length cap6) := ⟨_, rfl⟩
  have hDA3 : DeltaOf A3 o6 n6 x6 y6 (.slice a6 cs6.length cap6) := ⟨hA3, hres.xl, hres.yl⟩
  rw [← hA3]
  obtain ⟨S9, hS9, -⟩ := S8.twoBoxes A3 c p
  have HS9 := Lib.hid hS9
  have hinf9 := infoDelta hDA3
  have hsz9 : zeroDel.size = A3.size := by rw [zeroDel_of.size, hDA3.size]
  have hone9 := hDA3.one rfl
  have k2 := box0 S8.w
  have k3 := box1 S8.w A3
  have HF := Lib.hid (fun s : HeldW w [(S8.w.heap.size + 1, fltO c p), (S8.w.heap.size, deltaO A3), (S5.w.heap.size + 1, fltO 0 0), (S5.w.heap.size, deltaO A1), (w.heap.size, deltaO D)] => flt_cells s (S8.w.heap.size + 1) c p (by simp))
  clear hA3 hDA3 hS9 hd2 hb2 hb8 hbG hc hp hres q3 okT hTl G2 G1 G0 s1' so HSO HSRC
  generalize (B ++ mo).length = ZL
  go_wp2_with (first
    | (refine wpList_store_rowTo rfl 25 (.tmp 9) (.tmp 55) rfl rfl S8.w.heap.size A3 rfl rfl 25 zeroDel k2 hinf9 hsz9 hone9 ?_)
    | (refine wpList_store_rowTo rfl 36 (.tmp 10) (.tmp 56) rfl rfl (S8.w.heap.size + 1) (fltA c p) rfl rfl 36 (fltA 0 0) k3 (fltA_size _ _) rfl (fltA_one _ _) ?_; rw [HS9.out]; clear k2 k3))
  refine (HeldW.call (s := S9) (alive07_gives _)).mono ?_
  rintro e _ ⟨rfl, S10, rfl⟩
  obtain ⟨f0, f1⟩ := HF.out S10
  rcases hcp with ⟨rfl, rfl, hk0⟩ | ⟨rfl, rfl, hk0⟩
  all_goals (
    go_wp2
    go_ret
    exact ⟨by simp, S10.below⟩)

theorem formatInverse_walk (o n : Int) (x y : List Int) (a : Option Addr) (cs : List Cmd) (cap : Nat) (am : Option Addr) (mo : List Int) (cm : Nat) (w : World) (hx : x.length = 32) (hy : y.length = 32) (hx2 : OkB x) (hy2 : OkB y) (h : CmdsIn w a cs cap) (hbm : BytesIn w am mo cm) (okm : OkB mo) :
    Calls Try.prog 5 #[.agg (deltaA o n x y (.slice a cs.length cap)), .slice am mo.length cm] w (Gives (.bool true) w) := by
  have hD : DeltaOf (deltaA o n x y (.slice a cs.length cap)) o n x y (.slice a cs.length cap) := ⟨rfl, hx, hy⟩
  by_cases hf : FewD cs
  · by_cases hw : wrongOf o n (cores cs) = 0
    · by_cases hm : 100 < mo.length
      · exact finv_long _ o n x y a cs cap hD am mo.length cm w h hf hw hm (Nat.le_trans hbm.len hbm.capb)
      · exact finv_right _ o n x y a cs cap hD am mo cm hx2 hy2 okm w h hbm hf hw (by omega)
    · exact finv_wrong _ o n x y a cs cap hD am mo.length cm w h hf hw
  · exact finv_big _ o n x y a cs cap hD am mo.length cm w h hf
end Go.Proofs.Ytfdncijblnekjaa
