import Derived.Test.YtfdncijblnekjaaE07x17
import Derived.Laws.StructEq
import Derived.Test.YtfdncijblnekjaaE07x18
/- Package format: Encode of what cannot be encoded; Size. -/
namespace Go.Proofs.Ytfdncijblnekjaa
open Go.RowKit Go.Shelf Go.Proofs.Ytfdncijblnekjaa.Plain01
set_option linter.unusedVariables false
set_option linter.unusedSimpArgs false

set_option maxRecDepth 100000 in
set_option maxHeartbeats 4000000 in
theorem encode_no (D : Array Value) (o n : Int) (x y : List Int) (ca : Option Addr) (cs : List Cmd) (ccap : Nat) (hD : DeltaOf D o n x y (.slice ca cs.length ccap)) (w : World) (h : CmdsIn w ca cs ccap) (hN : cs.length < 4294967296) (hw : wrongOf o n (cores cs) ≠ 0) (B : List Int) :
    Calls Try.prog 10 #[.agg D] w (EncPost (wrongOf o n (cores cs)) B w) := by
  obtain ⟨S, hS⟩ := start1 w (deltaO D)
  have HS := Lib.hid hS
  have hg0 : (w.alloc (deltaO D)).heap[w.heap.size]? = some (deltaO D) := World.alloc_heap_new w _
  have hinf := infoDelta hD
  have hc0 := fcheck_any D o n x y ca cs ccap hD (w.alloc (deltaO D)) (h.below ((Below.refl _ w).alloc (Nat.le_refl _) _)) hN
  generalize wrongOf o n (cores cs) = R at hw hc0 ⊢
  have e1 : (R != 0) = true := by simpa using hw
  have HPOST := Lib.hid (show ∀ (w' : World), Below w.heap.size w w' → EncPost R B w (.returned (.tuple #[.slice none 0 0, .int .i64 R])) w' from fun w' h1 => by unfold EncPost; rw [if_neg hw]; exact ⟨rfl, h1⟩)
  obtain ⟨POST, hP⟩ : ∃ P, P = EncPost R B w := ⟨_, rfl⟩
  rw [← hP] at HPOST ⊢
  clear hP hD h hN hw hS
  go_enter Try.func10, Try.ntmps10
  go_wp2_with (refine wpList_load_row rfl 25 (.tmp 1) rfl w.heap.size rfl 25 _ (0, 0) _ hg0 Try.underlying25 rfl hinf ?_)
  clear hg0 hinf
  rw [HS.out] at hc0 ⊢
  refine (HeldW.call (s := S) hc0).mono ?_
  rintro e _ ⟨rfl, s1, rfl⟩
  clear hc0
  go_wp2
  exact HPOST.out _ s1.below

theorem encode_any (D : Array Value) (o n : Int) (x y : List Int) (ca : Option Addr) (cs : List Cmd) (ccap : Nat) (hD : DeltaOf D o n x y (.slice ca cs.length ccap)) (w : World) (h : CmdsIn w ca cs ccap) (hN : cs.length < 4294967296)
    (hl : ∀ c ∈ cs, c.l.length ≤ 1000000000) (hs : (encAll o n x y (cores cs)).length ≤ 100000000000) :
    Calls Try.prog 10 #[.agg D] w (EncPost (wrongOf o n (cores cs)) (encAll o n x y (cores cs)) w) := by
  by_cases hw : wrongOf o n (cores cs) = 0
  · rw [hw]
    exact encode_yes D o n x y ca cs ccap hD w h hN hw hl hs
  · exact encode_no D o n x y ca cs ccap hD w h hN hw _

/-- What Size returns. -/
def sizeOf7 (o n : Int) (x y : List Int) (cs : List Core7) : Int := if wrongOf o n cs = 0 then (encAll o n x y cs).length else 0

/-- The sizes of fields, added up. -/
def zsum (fs : List (Int × Int)) : Nat := (fs.map fun f => f.2.toNat).sum
theorem zsum_encs (fs : List (Int × Int)) : (encs fs).length = zsum fs := by
  induction fs with
  | nil => rfl
  | cons f fs ih =>
    have h3 : (encs (f :: fs)).length = (enc1 f.1 f.2.toNat).length + (encs fs).length := by simp [encs]
    rw [h3, ih, digs_length]
    simp [zsum]
theorem zsum_snoc {fs : List (Int × Int)} {k : Nat} {f : Int × Int} (h : fs[k]? = some f) : zsum (fs.take (k + 1)) = zsum (fs.take k) + f.2.toNat := by
  obtain ⟨hk, rfl⟩ := List.getElem?_eq_some_iff.1 h
  unfold zsum
  rw [List.take_succ_eq_append_getElem hk, List.map_append, List.sum_append]
  simp only [List.map_cons, List.map_nil, List.sum_cons, List.sum_nil, Nat.add_zero]
theorem zsum_le (fs : List (Int × Int)) (hfit : fs.all fitF = true) (k : Nat) : zsum (fs.take k) ≤ 8 * fs.length := by
  have h1 := encs_length (fs := fs.take k) (List.all_eq_true.2 fun f hf => List.all_eq_true.1 hfit f (List.mem_of_mem_take hf))
  rw [zsum_encs, List.length_take] at h1
  omega

set_option maxRecDepth 100000 in
set_option maxHeartbeats 8000000 in
theorem size_any (D : Array Value) (o n : Int) (x y : List Int) (ca : Option Addr) (cs : List Cmd) (ccap : Nat) (hD : DeltaOf D o n x y (.slice ca cs.length ccap)) (w : World) (h : CmdsIn w ca cs ccap) (hN : cs.length < 4294967296)
    (hl : ∀ c ∈ cs, c.l.length ≤ 1000000000) (hs : (encAll o n x y (cores cs)).length ≤ 100000000000) :
    Calls Try.prog 12 #[.agg D] w (Gives (.int .i64 (sizeOf7 o n x y (cores cs))) w) := by
  obtain ⟨S, hS⟩ := start1 w (deltaO D)
  have HS := Lib.hid hS
  have hg0 : (w.alloc (deltaO D)).heap[w.heap.size]? = some (deltaO D) := World.alloc_heap_new w _
  have hinf := infoDelta hD
  have hc0 := fcheck_any D o n x y ca cs ccap hD (w.alloc (deltaO D)) (h.below ((Below.refl _ w).alloc (Nat.le_refl _) _)) hN
  by_cases hw : wrongOf o n (cores cs) = 0
  · have hsz : sizeOf7 o n x y (cores cs) = ((encAll o n x y (cores cs)).length : Nat) := by unfold sizeOf7; rw [if_pos hw]
    rw [hsz]
    rw [hw] at hc0
    obtain ⟨_, _, hall⟩ := wrong_zero.1 hw
    have HALL := Lib.hid (show ∀ c ∈ cs, kindB c.core = true ∧ goodB c.core = true ∧ c.l.length ≤ 1000000000 from fun c hc => ⟨(hall c.core (List.mem_map_of_mem hc)).1, (hall c.core (List.mem_map_of_mem hc)).2, hl c hc⟩)
    have hH : (encH o n x y (cores cs).length).length = 89 := by
      have len8 : ∀ v, (enc1 v 8).length = 8 := fun v => digs_length v 8 8
      have len4 : ∀ v, (enc1 v 4).length = 4 := fun v => digs_length v 4 4
      unfold encH
      simp only [List.length_append, len8, len4, hD.xl, hD.yl, List.length_cons, List.length_nil]
    have hE : (encAll o n x y (cores cs)).length = 89 + ((cores cs).flatMap encK).length := by unfold encAll; rw [List.length_append, hH]
    rw [hE] at hs ⊢
    have HLE := Lib.hid (show ∀ k, (((cores cs).take k).flatMap encK).length ≤ 100000000000 from fun k => by
      have : ((cores cs).flatMap encK).length = (((cores cs).take k).flatMap encK).length + (((cores cs).drop k).flatMap encK).length := by
        conv => lhs; rw [← List.take_append_drop k (cores cs), List.flatMap_append, List.length_append]
      omega)
    obtain ⟨L, hL⟩ : ∃ L, L = cs.length := ⟨_, rfl⟩
    have HL := Lib.hid hL
    have HH := Lib.hid h
    have d66 := (delta_held hD S w.heap.size (by simp)).2.2
    have D66 := Lib.hid (fun s : HeldW w [(w.heap.size, deltaO D)] => (delta_held hD s w.heap.size (by simp)).2.2)
    rw [← hL] at hN D66
    have HTOT := Lib.hid (show ((cores cs).take L).flatMap encK = (cores cs).flatMap encK by rw [show L = (cores cs).length by rw [hL]; simp [cores], List.take_length])
    clear hD hs h hw hall hl hS hL hsz hH hE d66
    go_enter Try.func12, Try.ntmps12
    go_wp2_with (refine wpList_load_row rfl 25 (.tmp 1) rfl w.heap.size rfl 25 _ (0, 0) _ hg0 Try.underlying25 rfl hinf ?_)
    clear hg0 hinf
    rw [HS.out] at hc0 ⊢
    refine (HeldW.call (s := S) hc0).mono ?_
    rintro e _ ⟨rfl, s1, rfl⟩
    clear hc0
    have d66 := D66.out s1
    go_wp2_with fail
    clear d66
    go_loopw [3, 14] (fun v i wr => ∃ k : Nat, k ≤ L ∧ i = .int .i64 k ∧ ∃ z : Nat, v = .int .i64 z ∧ Hid (z = 89 + (((cores cs).take k).flatMap encK).length) ∧ z ≤ 100000000089 ∧ ∃ s : HeldW w [(w.heap.size, deltaO D)], wr = s.w) (fun _ i _ => L - (intOf i).toNat)
    case atStart => exact ⟨0, by omega, rfl, 89, rfl, Lib.hid (by simp), by omega, s1, rfl⟩
    case round =>
      clear s1
      obtain ⟨k, hk, rfl, z, rfl, hz, hzb, s, rfl⟩ := hrel
      by_cases hlt : k < L
      · obtain ⟨c, hc⟩ : ∃ c, cs[k]? = some c := ⟨_, List.getElem?_eq_getElem (by rw [← HL.out]; exact hlt)⟩
        have hcm := List.mem_of_getElem? hc
        obtain ⟨gk, gg, gl⟩ := HALL.out c hcm
        obtain ⟨b, oo, rfl, x0, x1, x2, x3, x4⟩ := (HH.out.W s).at hc
        obtain ⟨B, S1, hB, hB0, hlt1, hS1⟩ := s.more1 (cmdO c.k c.t c.f c.n (.slice c.a c.l.length c.cap))
        have HS1 := Lib.hid hS1
        have HB := Lib.hid hB
        have hff := ffields_any c S1.w gk gg (by omega)
        have HFT := Lib.hid (fit_fields gk gg (by show c.l.length ≤ _; omega))
        have HENC := Lib.hid (encs_fieldsK gk gg)
        have HTK := Lib.hid (show ((cores cs).take (k + 1)).flatMap encK = ((cores cs).take k).flatMap encK ++ encK c.core by
          have := cores_get hc
          obtain ⟨hk1, hk2⟩ := List.getElem?_eq_some_iff.1 this
          rw [List.take_succ_eq_append_getElem hk1, hk2, List.flatMap_append]
          simp)
        obtain ⟨fs, hfs⟩ : ∃ fs, fs = fieldsK c.core := ⟨_, rfl⟩
        rw [← hfs] at hff HFT HENC
        have hN4 : fs.length ≤ 4 := by rw [hfs]; unfold fieldsK; split <;> simp
        have HFS := Lib.hid hfs
        have HGL := Lib.hid gl
        clear hS1 hB gk gg gl hc hlt1 hfs hcm
        go_wp2_with fail
        rw [HS1.out]
        clear x0 x1 x2 x3 x4
        refine hff.mono ?_
        rintro e w3 ⟨g, rfl, hb3, -, hF⟩
        clear hff
        obtain ⟨S2, rfl⟩ := S1.after hb3
        have HF := Lib.hid hF
        have cB4 := Lib.hid (fun s : HeldW S2.w [] => (cmd_cells (heap_below (S2.blocks (B, cmdO c.k c.t c.f c.n (.slice c.a c.l.length c.cap)) (by simp)) s.below)).2.2.2.2)
        obtain ⟨N, hN2⟩ : ∃ N, N = fs.length := ⟨_, rfl⟩
        have HN2 := Lib.hid hN2
        rw [← hN2] at hN4 ⊢
        rw [← HB.out]
        clear hF hb3 hN2
        go_wp2
        go_loopw [3, 21] (fun v i wr => ∃ j : Nat, j ≤ N ∧ i = .int .i64 j ∧ ∃ y : Nat, v = .int .i64 y ∧ Hid (y = z + zsum (fs.take j)) ∧ y ≤ 100000000089 + 8 * j ∧ ∃ s : HeldW S2.w [], wr = s.w) (fun _ i _ => N - (intOf i).toNat)
        case atStart => exact ⟨0, by omega, rfl, z, rfl, Lib.hid (by simp [zsum]), by omega, HeldW.start S2.w, rfl⟩
        case round =>
          obtain ⟨j, hj, rfl, q, rfl, hq, hqb, s3, rfl⟩ := hrel
          by_cases hlt2 : j < N
          · obtain ⟨f, hfk⟩ : ∃ f, fs[j]? = some f := ⟨_, List.getElem?_eq_getElem (by rw [← HN2.out]; exact hlt2)⟩
            have hfit := List.all_eq_true.1 HFT.out f (List.mem_of_getElem? hfk)
            have hfz := fitB_size hfit
            have HSN := Lib.hid (zsum_snoc hfk)
            obtain ⟨b', o', he, y0, y1⟩ := (HF.out.below s3.below).at hfk
            cases he
            rw [Nat.zero_add] at y0 y1
            obtain ⟨fv, fz⟩ := f
            simp only at y0 y1 hfz HSN
            obtain ⟨m, rfl⟩ : ∃ m : Nat, fz = m := ⟨fz.toNat, by omega⟩
            clear hfk hfit
            go_wp2
            go_roundw
            case rel => exact ⟨j + 1, by omega, by go_num, q + m, by go_num, Lib.hid (by rw [HSN.out, hq.out]; simp; omega), by omega, (s3.push _).sub (by simp), rfl⟩
            case measure => simp [intOf]; omega
          · obtain rfl : j = N := by omega
            obtain ⟨m, hm⟩ : ∃ m, m = c.l.length := ⟨_, rfl⟩
            have c4 : s3.w.cell? ⟨B, 4, none⟩ = some (.slice c.a m c.cap) := by rw [hm]; exact cB4.out s3
            have hlen9 : Hid (q + m = 89 + (((cores cs).take (k + 1)).flatMap encK).length) := Lib.hid (by
              have e1 := hq.out
              rw [HN2.out, List.take_length] at e1
              have e2 := congrArg List.length HENC.out
              rw [List.length_append, zsum_encs] at e2
              have e3 := hz.out
              have e4 : c.core.2.2.2.2.length = c.l.length := rfl
              rw [HTK.out, List.length_append]
              omega)
            have hq2 : q + m ≤ 100000000089 := by rw [hlen9.out]; have := HLE.out (k + 1); omega
            clear hm
            go_wp2
            go_roundw
            case rel => exact ⟨k + 1, by omega, by go_num, q + m, by go_num, hlen9, hq2, ⟨s3.w, S2.below.trans (s3.below.mono S2.below.size), all1 (heap_below (S2.blocks (w.heap.size, deltaO D) (by simp)) s3.below)⟩, rfl⟩
            case measure => simp [intOf]; omega
      · obtain rfl : k = L := by omega
        have hz2 := hz.out
        rw [HTOT.out] at hz2
        have HZ2 := Lib.hid hz2
        clear hz2
        go_wp2
        go_ret
        exact ⟨by rw [← HZ2.out]; rfl, s.below⟩
  · have hsz : sizeOf7 o n x y (cores cs) = 0 := by unfold sizeOf7; rw [if_neg hw]
    rw [hsz]
    generalize wrongOf o n (cores cs) = R at hw hc0
    have e1 : (R != 0) = true := by simpa using hw
    clear hD h hN hw hS hsz hs hl
    go_enter Try.func12, Try.ntmps12
    go_wp2_with (refine wpList_load_row rfl 25 (.tmp 1) rfl w.heap.size rfl 25 _ (0, 0) _ hg0 Try.underlying25 rfl hinf ?_)
    clear hg0 hinf
    rw [HS.out] at hc0 ⊢
    refine (HeldW.call (s := S) hc0).mono ?_
    rintro e _ ⟨rfl, s1, rfl⟩
    clear hc0
    go_wp2
    go_ret
    exact ⟨rfl, s1.below⟩
end Go.Proofs.Ytfdncijblnekjaa

/- The examples of the chapter. -/
namespace Go.Proofs.Ytfdncijblnekjaa
open Go.RowKit
set_option linter.unusedVariables false
set_option linter.unusedSimpArgs false

/-- A delta and a fault, boxed. -/
theorem HeldW.twoBoxes {w : World} {bs : List (Nat × Obj)} (S : HeldW w bs) (A : Array Value) (c p : Int) :
    ∃ S' : HeldW w ((S.w.heap.size + 1, fltO c p) :: (S.w.heap.size, deltaO A) :: bs), (((S.w.alloc (deltaO zeroDel)).alloc (fltO 0 0)).setRow S.w.heap.size A).setRow (S.w.heap.size + 1) (fltA c p) = S'.w ∧ Below S.w.heap.size S.w S'.w := by
  have h0 : ((S.w.alloc (deltaO zeroDel)).alloc (fltO 0 0)).heap[S.w.heap.size]? = some (deltaO zeroDel) := heap_old (heap_new S.w _ rfl) _
  have h1 : ((S.w.alloc (deltaO zeroDel)).alloc (fltO 0 0)).heap[S.w.heap.size + 1]? = some (fltO 0 0) := heap_new _ _ (by simp)
  have hb0 : Below S.w.heap.size S.w ((S.w.alloc (deltaO zeroDel)).alloc (fltO 0 0)) := ((Below.refl _ _).alloc (Nat.le_refl _) _).alloc (by simp) _
  have hb : Below S.w.heap.size S.w ((((S.w.alloc (deltaO zeroDel)).alloc (fltO 0 0)).setRow S.w.heap.size A).setRow (S.w.heap.size + 1) (fltA c p)) := below_setRow (below_setRow hb0 (Nat.le_refl _) _) (by omega) _
  refine ⟨⟨_, S.below.trans (hb.mono S.below.size), List.forall_mem_cons.2 ⟨setRow_heap _ _ _ _ _ _ ((setRow_other _ _ _ _ (by omega)).trans h1), List.forall_mem_cons.2 ⟨(setRow_other _ _ _ _ (by omega)).trans (setRow_heap _ _ _ _ _ _ h0), fun q hq => heap_below (S.blocks q hq) hb⟩⟩⟩, rfl, hb⟩
theorem box0 (W : World) : ((W.alloc (deltaO zeroDel)).alloc (fltO 0 0)).heap[W.heap.size]? = some (deltaO zeroDel) := heap_old (heap_new W _ rfl) _
theorem box1 (W : World) (A : Array Value) : (((W.alloc (deltaO zeroDel)).alloc (fltO 0 0)).setRow W.heap.size A).heap[W.heap.size + 1]? = some (.cells (fltA 0 0) 36 (0, 0)) := (setRow_other _ _ _ _ (by omega)).trans (heap_new _ _ (by simp))
theorem flt_cells {w0 : World} {bs : List (Nat × Obj)} (s : HeldW w0 bs) (b : Nat) (c p : Int) (hm : (b, fltO c p) ∈ bs) : s.w.cell? ⟨b, 0, none⟩ = some (.int .i64 c) ∧ s.w.cell? ⟨b, 1, none⟩ = some (.int .i64 p) := by
  have h := s.blocks _ hm
  exact ⟨by rw [cell_of h]; rfl, by rw [cell_of h]; rfl⟩

def enc0 : List Int := encAll 0 0 zeros32 zeros32 []
theorem enc0_len : enc0.length = 89 := by decide +kernel
theorem enc0_ok : OkB enc0 := fun x hx => by
  have h : ∀ x ∈ enc0, 0 ≤ x ∧ x < 256 := by decide +kernel
  exact h x hx
theorem wrong0 : wrongOf 0 0 [] = 0 := by decide
theorem end0 : endR enc0 = ⟨89, 0, 0⟩ := by
  have := end_enc (o := 0) (n := 0) (x := zeros32) (y := zeros32) (cs := []) (D := enc0) (m := []) rfl rfl wrong0 (by simp) (by simp) (by simp [enc0])
  rw [if_pos rfl] at this
  have h : (encAll 0 0 zeros32 zeros32 []).length = 89 := enc0_len
  rw [this, h]
theorem dec0 {o n : Int} {x y : List Int} {cs : List Cmd} {c p : Int} (h : DecRes enc0 o n x y cs c p) : o = 0 ∧ n = 0 ∧ x = zeros32 ∧ y = zeros32 ∧ cs = [] ∧ c = 0 ∧ p = 0 := by
  obtain ⟨d1, d2⟩ := dec_enc (o := 0) (n := 0) (x := zeros32) (y := zeros32) (cs := []) (D := enc0) (m := []) rfl rfl wrong0 (by simp) (by simp) (by simp [enc0])
  obtain ⟨h1, h2, h3, h4, h5⟩ := h.yes (by rw [end0])
  rw [d1] at h1 h2 h3 h4
  rw [d2] at h5
  refine ⟨h1, h2, h3, h4, ?_, by rw [h.c, end0], by rw [h.p, end0]⟩
  have := cores_len (cs := cs) (ds := []) h5
  exact List.eq_nil_of_length_eq_zero this
theorem endG : endR [71, 82, 70] = ⟨0, 8, 3⟩ := by
  have h1 : (endR [71, 82, 70]).n = 0 := by decide +kernel
  have h2 : (endR [71, 82, 70]).c = 8 := by decide +kernel
  have h3 : (endR [71, 82, 70]).p = 3 := by decide +kernel
  generalize endR [71, 82, 70] = r at *
  obtain ⟨n, c, p⟩ := r
  simp only at h1 h2 h3
  rw [h1, h2, h3]

set_option maxRecDepth 100000 in
set_option maxHeartbeats 8000000 in
theorem alive07_gives (w : World) : Calls Try.prog 9 #[] w (Gives (.bool true) w) := by
  have hz := zero_delta
  have hzf : ∀ W, (zeroValue 36).run Try.prog W = .ok (.agg (fltA 0 0)) W := fun W => by kernel_rfl
  have hE := encode_any zeroDel 0 0 zeros32 zeros32 none [] 0 zeroDel_of w (cmds_none w) (by simp) (by simp) (by show enc0.length ≤ _; rw [enc0_len]; omega)
  rw [show cores [] = [] from rfl, wrong0] at hE
  have HS := Lib.hid (fun W => size_any zeroDel 0 0 zeros32 zeros32 none [] 0 zeroDel_of W (cmds_none W) (by simp) (by simp) (by show enc0.length ≤ _; rw [enc0_len]; omega))
  have hinf0 := infoDelta zeroDel_of
  go_enter Try.func9, Try.ntmps9
  go_wp2_with fail
  refine hE.mono ?_
  rintro e w1 hp
  unfold EncPost at hp
  rw [if_pos rfl] at hp
  obtain ⟨A, C, rfl, hb1, hby, -⟩ := hp
  obtain ⟨S1, rfl⟩ := (HeldW.start w).after hb1
  have hl : (encAll 0 0 zeros32 zeros32 []).length = 89 := enc0_len
  have hD := decode_any enc0 A C S1.w hby enc0_ok (by rw [enc0_len]; omega)
  rw [hl]
  rw [enc0_len] at hD
  clear hE hb1 hby hl
  go_wp2_with fail
  refine hD.mono ?_
  rintro e w2 ⟨o, n, x, y, cs, a, cap, c, p, rfl, hb2, hcs, -, hres⟩
  obtain ⟨rfl, rfl, rfl, rfl, rfl, rfl, rfl⟩ := dec0 hres
  obtain ⟨S2, rfl⟩ := S1.after hb2
  have hDA : DeltaOf (deltaA 0 0 zeros32 zeros32 (.slice a 0 cap)) 0 0 zeros32 zeros32 (.slice a 0 cap) := ⟨rfl, rfl, rfl⟩
  obtain ⟨A1, hA1⟩ : ∃ A1, A1 = deltaA 0 0 zeros32 zeros32 (.slice a ([] : List Cmd).length cap) := ⟨_, rfl⟩
  have hDA1 : DeltaOf A1 0 0 zeros32 zeros32 (.slice a ([] : List Cmd).length cap) := ⟨hA1, rfl, rfl⟩
  rw [← hA1]
  obtain ⟨S3, hS3, hb3⟩ := S2.twoBoxes A1 0 0
  have HS3 := Lib.hid hS3
  have hinf := infoDelta hDA1
  have hsz : zeroDel.size = A1.size := by rw [zeroDel_of.size, hDA1.size]
  have hone := hDA1.one rfl
  have k0 := box0 S2.w
  have k1 := box1 S2.w A1
  have HCS := Lib.hid (hcs.below hb3)
  obtain ⟨B, hB⟩ : ∃ B, B = S2.w.heap.size := ⟨_, rfl⟩
  have HB := Lib.hid hB
  clear hA1 hDA hD hb2 hcs hres hb3 hS3 hB
  obtain ⟨S4, hS4⟩ := S3.after (w' := S3.w.alloc (.cells #[.int .u8 71, .int .u8 82, .int .u8 70] 5 (3, 4))) ((Below.refl _ _).alloc (Nat.le_refl _) _)
  have HS4 := Lib.hid hS4
  have hlit : BytesIn S4.w (some ⟨S3.w.heap.size, 0, none⟩) [71, 82, 70] 3 := bytes_lit (l := [71, 82, 70]) (fr := (3, 4)) (by rw [← hS4]; exact World.alloc_heap_new _ _) (by simp)
  have hcv := Lib.run_convert_bytes_const (P := Try.prog) S3.w 28 5 #[.int .u8 71, .int .u8 82, .int .u8 70] 3 3 Try.underlying28 Try.underlying5
  have hG := decode_any [71, 82, 70] _ 3 S4.w hlit (fun x hx => by simp at hx; omega) (by simp)
  clear hS4 hlit
  go_wp2_with (first
    | (refine wpList_store_rowTo rfl 25 (.tmp 3) (.tmp 15) rfl rfl S2.w.heap.size A1 rfl rfl 25 zeroDel k0 hinf hsz hone ?_)
    | (refine wpList_store_rowTo rfl 36 (.tmp 4) (.tmp 16) rfl rfl (S2.w.heap.size + 1) (fltA 0 0) rfl rfl 36 (fltA 0 0) k1 (fltA_size _ _) rfl (fltA_one _ _) ?_; rw [HS3.out]; clear k0 k1))
  rw [HS4.out]
  refine hG.mono ?_
  rintro e w5 ⟨o, n, x, y, cs, a', cap', c, p, rfl, hb5, -, -, hres⟩
  have hc := hres.c
  have hp := hres.p
  rw [endG] at hc hp
  obtain rfl : c = 8 := hc
  obtain rfl : p = 3 := hp
  obtain ⟨S5, rfl⟩ := S4.after hb5
  obtain ⟨A2, hA2⟩ : ∃ A2, A2 = deltaA o n x y (.slice a' cs.length cap') := ⟨_, rfl⟩
  have hDA2 : DeltaOf A2 o n x y (.slice a' cs.length cap') := ⟨hA2, hres.xl, hres.yl⟩
  rw [← hA2]
  obtain ⟨S6, hS6, hb6⟩ := S5.twoBoxes A2 8 3
  have HS6 := Lib.hid hS6
  have hinf2 := infoDelta hDA2
  have hsz2 : zeroDel.size = A2.size := by rw [zeroDel_of.size, hDA2.size]
  have hone2 := hDA2.one rfl
  have k0 := box0 S5.w
  have k1 := box1 S5.w A2
  have HC0 := Lib.hid (fun W => (⟨HCS.out.len, HCS.out.capb, fun h => by simp at h, fun c hc => by simp at hc, HCS.out.nil⟩ : CmdsIn W a [] cap))
  have hsame := fun W => rdsame_any A1 zeroDel 0 0 0 0 zeros32 zeros32 zeros32 zeros32 a none [] [] cap 0 hDA1 zeroDel_of W (HC0.out W) (cmds_none W)
  rw [show sameD 0 0 zeros32 zeros32 [] 0 0 zeros32 zeros32 [] = true by unfold sameD; simp] at hsame
  have HSM := Lib.hid hsame
  have hs89 : sizeOf7 0 0 zeros32 zeros32 (cores []) = 89 := by decide +kernel
  rw [hs89] at HS
  have gA := S6.blocks (S2.w.heap.size, deltaO A1) (by simp)
  clear hG hcv hb5 hres hA2 hDA2 hb6 hS6 hsame hs89
  go_wp2_with (first
    | (refine wpList_store_rowTo rfl 25 (.tmp 5) (.tmp 21) rfl rfl S5.w.heap.size A2 rfl rfl 25 zeroDel k0 hinf2 hsz2 hone2 ?_)
    | (refine wpList_store_rowTo rfl 36 (.tmp 6) (.tmp 22) rfl rfl (S5.w.heap.size + 1) (fltA 8 3) rfl rfl 36 (fltA 0 0) k1 (fltA_size _ _) rfl (fltA_one _ _) ?_; rw [HS6.out]; clear k0 k1)
    | (refine wpList_load_rowG rfl 25 (.tmp 3) rfl (some 31) rfl S2.w.heap.size rfl 25 _ (0, 0) _ gA Try.underlying25 rfl hinf ?_))
  refine (HeldW.call (s := S6) (HSM.out _)).mono ?_
  rintro e _ ⟨rfl, S7, rfl⟩
  clear gA
  obtain ⟨f0, f1⟩ := flt_cells S7 (S2.w.heap.size + 1) 0 0 (by simp)
  obtain ⟨f2, f3⟩ := flt_cells S7 (S5.w.heap.size + 1) 8 3 (by simp)
  go_wp2_with fail
  refine (HeldW.call (s := S7) (HS.out _)).mono ?_
  rintro e _ ⟨rfl, S8, rfl⟩
  go_wp2
  go_ret
  exact ⟨by simp, S8.below⟩
end Go.Proofs.Ytfdncijblnekjaa

/- The reference of package format: Wrong. -/
namespace Go.Proofs.Ytfdncijblnekjaa
open Go.RowKit Go.Shelf Go.Proofs.Ytfdncijblnekjaa.Plain01
set_option linter.unusedVariables false
set_option linter.unusedSimpArgs false

theorem rin_any (n : Int) (w : World) : Calls Try.prog 23 #[.int .i64 n] w (Gives (.bool (inB n)) w) := by
  have hcase : inB n = true ∧ decide (0 ≤ n) = true ∧ decide (n ≤ 4611686018427387903) = true ∨ inB n = false ∧ decide (0 ≤ n) = true ∧ decide (n ≤ 4611686018427387903) = false ∨ inB n = false ∧ decide (0 ≤ n) = false := by
    cases h : inB n with
    | true => have := inB_iff.1 h; left; simp; omega
    | false =>
      right
      have : ¬ (0 ≤ n ∧ n ≤ 4611686018427387903) := fun hh => by rw [inB_iff.2 hh] at h; cases h
      simp
      omega
  rcases hcase with ⟨hr, g1, g2⟩ | ⟨hr, g1, g2⟩ | ⟨hr, g1⟩
  all_goals
    rw [hr]
    clear hr
    go_enter Try.func23, Try.ntmps23
    go_wp2
    go_ret
    exact ⟨rfl, Below.refl _ _⟩

theorem all_false {α : Type} {p : α → Bool} {l : List α} {k : Nat} {c : α} (h : l[k]? = some c) (hp : p c = false) : l.all p = false := by
  cases ha : l.all p with
  | false => rfl
  | true => rw [List.all_eq_true.1 ha c (List.mem_of_getElem? h)] at hp; cases hp
theorem all_yes {α : Type} {p : α → Bool} {l : List α} (h : ∀ (j : Nat) (c : α), j < l.length → l[j]? = some c → p c = true) : l.all p = true := by
  rw [List.all_eq_true]
  intro c hc
  obtain ⟨j, hj⟩ := List.getElem?_of_mem hc
  exact h j c (List.getElem?_eq_some_iff.1 hj).1 hj
/-- What the second loop of Wrong asks of a command. -/
theorem good_cases (c : Cmd) (hk : kindB c.core = true) : inB c.t = false ∧ goodB c.core = false ∨ inB c.t = true ∧ inB c.f = false ∧ goodB c.core = false ∨ inB c.t = true ∧ inB c.f = true ∧ inB c.n = false ∧ goodB c.core = false ∨
    inB c.t = true ∧ inB c.f = true ∧ inB c.n = true ∧ (c.k == 1) = true ∧ decide (0 < c.l.length) = true ∧ goodB c.core = false ∨ inB c.t = true ∧ inB c.f = true ∧ inB c.n = true ∧ (c.k == 1) = true ∧ decide (0 < c.l.length) = false ∧ (c.k == 2) = false ∧ goodB c.core = true ∨
    inB c.t = true ∧ inB c.f = true ∧ inB c.n = true ∧ (c.k == 1) = false ∧ (c.k == 2) = true ∧ (c.f != 0) = true ∧ goodB c.core = false ∨ inB c.t = true ∧ inB c.f = true ∧ inB c.n = true ∧ (c.k == 1) = false ∧ (c.k == 2) = true ∧ (c.f != 0) = false ∧ (c.n != 0) = true ∧ goodB c.core = false ∨
    inB c.t = true ∧ inB c.f = true ∧ inB c.n = true ∧ (c.k == 1) = false ∧ (c.k == 2) = true ∧ (c.f != 0) = false ∧ (c.n != 0) = false ∧ goodB c.core = true := by
  obtain ⟨k, t, f, n, l, a, cap⟩ := c
  unfold kindB at hk
  unfold goodB
  simp only [Bool.or_eq_true, beq_iff_eq] at hk ⊢
  cases ht : inB t with
  | false => left; simp
  | true =>
    right
    cases hf : inB f with
    | false => left; simp
    | true =>
      right
      cases hn : inB n with
      | false => left; simp
      | true =>
        right
        rcases hk with rfl | rfl
        · cases l with
          | nil => right; left; simp
          | cons z l => left; simp
        · right; right
          by_cases h1 : f = 0
          · by_cases h2 : n = 0
            · right; right; simp [h1, h2]
            · right; left; simp [h1, h2]
          · left; simp [h1]

set_option maxRecDepth 100000 in
set_option maxHeartbeats 8000000 in
theorem rwrong_any (D : Array Value) (o n : Int) (x y : List Int) (ca : Option Addr) (cs : List Cmd) (ccap : Nat) (hD : DeltaOf D o n x y (.slice ca cs.length ccap)) (w : World) (h : CmdsIn w ca cs ccap) :
    Calls Try.prog 11 #[.agg D] w (Gives (.int .i64 (wrongOf o n (cores cs))) w) := by
  obtain ⟨S, hS⟩ := start1 w (deltaO D)
  have HS := Lib.hid hS
  have DD := Lib.hid (fun s : HeldW w [(w.heap.size, deltaO D)] => delta_held hD s w.heap.size (by simp))
  have HH := Lib.hid h
  obtain ⟨L, hL⟩ : ∃ L, L = cs.length := ⟨_, rfl⟩
  have HL := Lib.hid hL
  have hLcap : L ≤ ccap := by rw [hL]; exact h.len
  have hccap := h.capb
  rw [← hL] at DD
  obtain ⟨R, hR⟩ : ∃ R, R = wrongOf o n (cores cs) := ⟨_, rfl⟩
  have HR := Lib.hid hR
  rw [← hR]
  have hcl : (cores cs).length = L := by rw [hL]; simp [cores]
  have HCL := Lib.hid hcl
  clear hD h hL hS hR hcl
  go_enter Try.func11, Try.ntmps11
  go_wp2_with fail
  rw [HS.out]
  go_loopw [3] (fun i wr => ∃ k : Nat, k ≤ L ∧ i = .int .i64 k ∧ Hid (∀ (j : Nat) (c : Core7), j < k → (cores cs)[j]? = some c → kindB c = true) ∧ ∃ s : HeldW w [(w.heap.size, deltaO D)], wr = s.w) (fun i _ => L - (intOf i).toNat)
  case atStart => exact ⟨0, by omega, rfl, Lib.hid (fun j c hj => by omega), S, rfl⟩
  case round =>
    obtain ⟨k, hk, rfl, hf, s, rfl⟩ := hrel
    obtain ⟨d0, d1, d66⟩ := DD.out s
    by_cases hlt : k < L
    · obtain ⟨c, hc⟩ : ∃ c, cs[k]? = some c := ⟨_, List.getElem?_eq_getElem (by rw [← HL.out]; exact hlt)⟩
      obtain ⟨b, oo, rfl, x0, x1, x2, x3, x4⟩ := (HH.out.W s).at hc
      have HCO := Lib.hid (cores_get hc)
      have hld := load_cmds d66
      clear x1 x2 x3 x4 hc
      have hcase : kindB c.core = true ∧ (c.k != 1) = false ∨ kindB c.core = true ∧ (c.k != 1) = true ∧ (c.k != 2) = false ∨ kindB c.core = false ∧ (c.k != 1) = true ∧ (c.k != 2) = true := by
        unfold kindB
        simp only [Bool.or_eq_true, beq_iff_eq, bne_iff_ne, ne_eq, Bool.or_eq_false_iff, beq_eq_false_iff_ne, bne_eq_false_iff_eq]
        omega
      rcases hcase with ⟨hr, g1⟩ | ⟨hr, g1, g2⟩ | ⟨hr, g1, g2⟩
      · have hstep : Hid (∀ (j : Nat) (d : Core7), j < k + 1 → (cores cs)[j]? = some d → kindB d = true) := Lib.hid fun j d hj hd => by
          by_cases e : j = k
          · subst e; rw [HCO.out] at hd; cases hd; exact hr
          · exact hf.out j d (by omega) hd
        clear hr
        go_wp2
        go_roundw
        case rel => exact ⟨k + 1, by omega, by go_num, hstep, s, rfl⟩
        case measure => simp [intOf]; omega
      · have hstep : Hid (∀ (j : Nat) (d : Core7), j < k + 1 → (cores cs)[j]? = some d → kindB d = true) := Lib.hid fun j d hj hd => by
          by_cases e : j = k
          · subst e; rw [HCO.out] at hd; cases hd; exact hr
          · exact hf.out j d (by omega) hd
        clear hr
        go_wp2_with (refine wpList_load_val rfl 23 (.tmp 21) rfl (some 22) rfl (.slice (some ⟨b, oo, none⟩) L ccap) hld ?_)
        go_roundw
        case rel => exact ⟨k + 1, by omega, by go_num, hstep, s, rfl⟩
        case measure => simp [intOf]; omega
      · have hT : Hid (R = 11) := Lib.hid (by rw [HR.out]; unfold wrongOf; rw [all_false HCO.out hr, if_pos rfl])
        clear hr
        go_wp2_with (refine wpList_load_val rfl 23 (.tmp 21) rfl (some 22) rfl (.slice (some ⟨b, oo, none⟩) L ccap) hld ?_)
        go_ret
        exact ⟨by rw [hT.out]; rfl, s.below⟩
    · obtain rfl : k = L := by omega
      have HK := Lib.hid (show (cores cs).all kindB = true from all_yes (fun j c hj hc => hf.out j c (by rw [← HCL.out]; exact hj) hc))
      have ho := rin_any o s.w
      cases hio : inB o with
      | false =>
        have hT : Hid (R = 2) := Lib.hid (by rw [HR.out]; unfold wrongOf; rw [HK.out, hio]; simp)
        rw [hio] at ho
        clear hio
        go_wp2_with fail
        refine (HeldW.call (s := s) ho).mono ?_
        rintro e _ ⟨rfl, s2, rfl⟩
        go_wp2
        go_ret
        exact ⟨by rw [hT.out]; rfl, s2.below⟩
      | true =>
        rw [hio] at ho
        go_wp2_with fail
        refine (HeldW.call (s := s) ho).mono ?_
        rintro e _ ⟨rfl, s2, rfl⟩
        clear d0 d1 d66
        obtain ⟨d0, d1, d66⟩ := DD.out s2
        have hn := rin_any n s2.w
        cases hin : inB n with
        | false =>
          have hT : Hid (R = 2) := Lib.hid (by rw [HR.out]; unfold wrongOf; rw [HK.out, hio, hin]; simp)
          rw [hin] at hn
          clear hio hin
          go_wp2_with fail
          refine (HeldW.call (s := s2) hn).mono ?_
          rintro e _ ⟨rfl, s3, rfl⟩
          go_wp2
          go_ret
          exact ⟨by rw [hT.out]; rfl, s3.below⟩
        | true =>
          have HB := Lib.hid (show ∀ (k : Nat) (c : Core7), (cores cs)[k]? = some c → goodB c = false → R = 2 from fun k c hc hg => by rw [HR.out]; unfold wrongOf; rw [HK.out, hio, hin, all_false hc hg]; simp)
          have HG := Lib.hid (show (cores cs).all goodB = true → R = 0 from fun hg => by rw [HR.out]; unfold wrongOf; rw [HK.out, hio, hin, hg]; simp)
          rw [hin] at hn
          clear hio hin
          go_wp2_with fail
          refine (HeldW.call (s := s2) hn).mono ?_
          rintro e _ ⟨rfl, s3, rfl⟩
          clear d0 d1 d66 hn ho hf
          go_wp2
          go_loopw [4] (fun i wr => ∃ j : Nat, j ≤ k ∧ i = .int .i64 j ∧ Hid (∀ (q : Nat) (c : Core7), q < j → (cores cs)[q]? = some c → goodB c = true) ∧ ∃ s : HeldW w [(w.heap.size, deltaO D)], wr = s.w) (fun i _ => k - (intOf i).toNat)
          case atStart => exact ⟨0, by omega, rfl, Lib.hid (fun j c hj => by omega), s3, rfl⟩
          case round =>
            clear s2 s3 s
            obtain ⟨j, hj, rfl, hf, s, rfl⟩ := hrel
            obtain ⟨d0, d1, d66⟩ := DD.out s
            by_cases hlt : j < k
            · obtain ⟨c, hc⟩ : ∃ c, cs[j]? = some c := ⟨_, List.getElem?_eq_getElem (by rw [← HL.out]; exact hlt)⟩
              obtain ⟨b, oo, rfl, x0, x1, x2, x3, x4⟩ := (HH.out.W s).at hc
              have HCO := Lib.hid (cores_get hc)
              have hkc := List.all_eq_true.1 HK.out c.core (List.mem_of_getElem? HCO.out)
              have hgc := good_cases c hkc
              obtain ⟨B, S1, hB, hB0, hlt1, hS1⟩ := s.more1 (cmdO c.k c.t c.f c.n (.slice c.a c.l.length c.cap))
              have HS1 := Lib.hid hS1
              have HBB := Lib.hid hB
              have HCM := Lib.hid (fun s : HeldW w ((B, cmdO c.k c.t c.f c.n (.slice c.a c.l.length c.cap)) :: [(w.heap.size, deltaO D)]) => held_cmd s B c.k c.t c.f c.n (.slice c.a c.l.length c.cap) (by simp))
              have ht := Lib.hid (rin_any c.t)
              have hfx := Lib.hid (rin_any c.f)
              have hnx := Lib.hid (rin_any c.n)
              have hstep : Hid (goodB c.core = true → ∀ (q : Nat) (d : Core7), q < j + 1 → (cores cs)[q]? = some d → goodB d = true) := Lib.hid fun hr q d hq hd => by
                by_cases e : q = j
                · subst e; rw [HCO.out] at hd; cases hd; exact hr
                · exact hf.out q d (by omega) hd
              have hbad : Hid (goodB c.core = false → R = 2) := Lib.hid (HB.out j c.core HCO.out)
              clear hc hkc hS1 hB hlt1 d0 d1 hf
              rcases hgc with ⟨g1, gg⟩ | ⟨g1, g2, gg⟩ | ⟨g1, g2, g3, gg⟩ | ⟨g1, g2, g3, g4, g5, gg⟩ | ⟨g1, g2, g3, g4, g5, g6, gg⟩ | ⟨g1, g2, g3, g4, g5, g6, gg⟩ | ⟨g1, g2, g3, g4, g5, g6, g7, gg⟩ | ⟨g1, g2, g3, g4, g5, g6, g7, gg⟩
              · rw [g1] at ht
                have hT : Hid (R = 2) := Lib.hid (hbad.out gg)
                clear g1 gg
                go_wp2_with fail
                rw [HS1.out, ← HBB.out]
                refine (HeldW.call (s := S1) (ht.out _)).mono ?_
                rintro e _ ⟨rfl, s2, rfl⟩
                go_wp2
                go_ret
                exact ⟨by rw [hT.out]; rfl, s2.below⟩
              · rw [g1] at ht
                rw [g2] at hfx
                have hT : Hid (R = 2) := Lib.hid (hbad.out gg)
                clear g1 g2 gg
                go_wp2_with fail
                rw [HS1.out, ← HBB.out]
                refine (HeldW.call (s := S1) (ht.out _)).mono ?_
                rintro e _ ⟨rfl, s2, rfl⟩
                clear x0 x1 x2 x3 x4
                obtain ⟨y0, y1, y2, y3, y4, -⟩ := HCM.out s2
                go_wp2_with fail
                refine (HeldW.call (s := s2) (hfx.out _)).mono ?_
                rintro e _ ⟨rfl, s3, rfl⟩
                go_wp2
                go_ret
                exact ⟨by rw [hT.out]; rfl, s3.below⟩
              all_goals
                rw [g1] at ht
                rw [g2] at hfx
                rw [g3] at hnx
                clear g1 g2 g3
                go_wp2_with fail
                rw [HS1.out, ← HBB.out]
                refine (HeldW.call (s := S1) (ht.out _)).mono ?_
                rintro e _ ⟨rfl, s2, rfl⟩
                clear x0 x1 x2 x3 x4
                obtain ⟨y0, y1, y2, y3, y4, -⟩ := HCM.out s2
                go_wp2_with fail
                refine (HeldW.call (s := s2) (hfx.out _)).mono ?_
                rintro e _ ⟨rfl, s3, rfl⟩
                clear y0 y1 y2 y3 y4
                obtain ⟨y0, y1, y2, y3, y4, -⟩ := HCM.out s3
                go_wp2_with fail
                refine (HeldW.call (s := s3) (hnx.out _)).mono ?_
                rintro e _ ⟨rfl, s4, rfl⟩
                clear y0 y1 y2 y3 y4
                obtain ⟨y0, y1, y2, y3, y4, -⟩ := HCM.out s4
              · have hT : Hid (R = 2) := Lib.hid (hbad.out gg)
                clear gg
                go_wp2
                go_ret
                exact ⟨by rw [hT.out]; rfl, s4.below⟩
              · have hT : Hid (R = 2) := Lib.hid (hbad.out gg)
                clear gg
                go_wp2
                go_ret
                exact ⟨by rw [hT.out]; rfl, s4.below⟩
              · have hT := Lib.hid (hstep.out gg)
                clear gg
                go_wp2
                go_roundw
                case rel => exact ⟨j + 1, by omega, by go_num, hT, s4.sub (by simp), rfl⟩
                case measure => simp [intOf]; omega
              · have hT : Hid (R = 2) := Lib.hid (hbad.out gg)
                clear gg
                go_wp2
                go_ret
                exact ⟨by rw [hT.out]; rfl, s4.below⟩
              · have hT : Hid (R = 2) := Lib.hid (hbad.out gg)
                clear gg
                go_wp2
                go_ret
                exact ⟨by rw [hT.out]; rfl, s4.below⟩
              · have hT := Lib.hid (hstep.out gg)
                clear gg
                go_wp2
                go_roundw
                case rel => exact ⟨j + 1, by omega, by go_num, hT, s4.sub (by simp), rfl⟩
                case measure => simp [intOf]; omega
            · obtain rfl : j = k := by omega
              have hT : Hid (R = 0) := Lib.hid (HG.out (all_yes (fun q c hq hc => hf.out q c (by rw [← HCL.out]; exact hq) hc)))
              go_wp2
              go_ret
              exact ⟨by rw [hT.out]; rfl, s.below⟩
end Go.Proofs.Ytfdncijblnekjaa
