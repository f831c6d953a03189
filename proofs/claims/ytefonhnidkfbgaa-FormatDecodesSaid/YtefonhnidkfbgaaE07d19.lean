import Derived.Test.YtefonhnidkfbgaaE07d17
import Derived.Laws.StructEq
import Derived.Test.YtefonhnidkfbgaaE07d18
import Derived.Test.YtefonhnidkfbgaaE07d9
import Derived.Deep.RegionLaw
import Derived.Test.YtefonhnidkfbgaaE07d1
import Derived.Test.YtefonhnidkfbgaaE07d13
/- Package format: Encode of what cannot be encoded; Size. -/
namespace Go.Proofs.Ytefonhnidkfbgaa
open Go.RowKit Go.Shelf Go.Proofs.Ytefonhnidkfbgaa.Plain01
set_option linter.unusedVariables false
set_option linter.unusedSimpArgs false

set_option maxRecDepth 100000 in
set_option maxHeartbeats 4000000 in
theorem encode_no (D : Array Value) (o n : Int) (x y : List Int) (ca : Option Addr) (cs : List Cmd) (ccap : Nat) (hD : DeltaOf D o n x y (.slice ca cs.length ccap)) (w : World) (h : CmdsIn w ca cs ccap) (hN : cs.length < 4294967296) (hw : wrongOf o n (cores cs) ≠ 0) (B : List Int) :
    Calls Try.prog 8 #[.agg D] w (EncPost (wrongOf o n (cores cs)) B w) := by
  obtain ⟨S, hS⟩ := start1 w (deltaO D)
  have HS := Lib.hid hS
  have hg0 : (w.alloc (deltaO D)).heap[w.heap.size]? = some (deltaO D) := World.alloc_heap_new w _
  have hinf := infoDelta hD
  have hc0 := fcheck_any D o n x y ca cs ccap hD (w.alloc (deltaO D)) (h.below ((Below.refl _ w).alloc (Nat.le_refl _) _)) hN
  generalize wrongOf o n (cores cs) = R at hw hc0 ⊢
  have e1 : (R != 0) = true := by simpa using hw
  have HPOST := Lib.hid (show ∀ (w' : World), Below w.heap.size w w' → EncPost R B w (.returned (.tuple #[.slice none 0 0, .int .i64 R])) w' from fun w' h1 => by unfold EncPost; rw [if_neg hw]; exact ⟨rfl, h1⟩)
  obtain ⟨POST, hP⟩ : ∃ P, P = EncPost R B w := ⟨_, rfl⟩
  rw [← hP] at HPOST ⊢
  clear hP hD h hN hw hS
  go_enter Try.func8, Try.ntmps8
  go_wp2_with (refine wpList_load_row rfl 27 (.tmp 1) rfl w.heap.size rfl 27 _ (0, 0) _ hg0 Try.underlying27 rfl hinf ?_)
  clear hg0 hinf
  rw [HS.out] at hc0 ⊢
  refine (HeldW.call (s := S) hc0).mono ?_
  rintro e _ ⟨rfl, s1, rfl⟩
  clear hc0
  go_wp2
  exact HPOST.out _ s1.below

theorem encode_any (D : Array Value) (o n : Int) (x y : List Int) (ca : Option Addr) (cs : List Cmd) (ccap : Nat) (hD : DeltaOf D o n x y (.slice ca cs.length ccap)) (w : World) (h : CmdsIn w ca cs ccap) (hN : cs.length < 4294967296)
    (hl : ∀ c ∈ cs, c.l.length ≤ 1000000000) (hs : (encAll o n x y (cores cs)).length ≤ 100000000000) :
    Calls Try.prog 8 #[.agg D] w (EncPost (wrongOf o n (cores cs)) (encAll o n x y (cores cs)) w) := by
  by_cases hw : wrongOf o n (cores cs) = 0
  · rw [hw]
    exact encode_yes D o n x y ca cs ccap hD w h hN hw hl hs
  · exact encode_no D o n x y ca cs ccap hD w h hN hw _

/-- What Size returns. -/
def sizeOf7 (o n : Int) (x y : List Int) (cs : List Core7) : Int := if wrongOf o n cs = 0 then (encAll o n x y cs).length else 0

/-- The sizes of fields, added up. -/
def zsum (fs : List (Int × Int)) : Nat := (fs.map fun f => f.2.toNat).sum
theorem zsum_encs (fs : List (Int × Int)) : (encs fs).length = zsum fs := by
  induction fs with
  | nil => rfl
  | cons f fs ih =>
    have h3 : (encs (f :: fs)).length = (enc1 f.1 f.2.toNat).length + (encs fs).length := by simp [encs]
    rw [h3, ih, digs_length]
    simp [zsum]
theorem zsum_snoc {fs : List (Int × Int)} {k : Nat} {f : Int × Int} (h : fs[k]? = some f) : zsum (fs.take (k + 1)) = zsum (fs.take k) + f.2.toNat := by
  obtain ⟨hk, rfl⟩ := List.getElem?_eq_some_iff.1 h
  unfold zsum
  rw [List.take_succ_eq_append_getElem hk, List.map_append, List.sum_append]
  simp only [List.map_cons, List.map_nil, List.sum_cons, List.sum_nil, Nat.add_zero]
theorem zsum_le (fs : List (Int × Int)) (hfit : fs.all fitF = true) (k : Nat) : zsum (fs.take k) ≤ 8 * fs.length := by
  have h1 := encs_length (fs := fs.take k) (List.all_eq_true.2 fun f hf => List.all_eq_true.1 hfit f (List.mem_of_mem_take hf))
  rw [zsum_encs, List.length_take] at h1
  omega

set_option maxRecDepth 100000 in
set_option maxHeartbeats 8000000 in
theorem size_any (D : Array Value) (o n : Int) (x y : List Int) (ca : Option Addr) (cs : List Cmd) (ccap : Nat) (hD : DeltaOf D o n x y (.slice ca cs.length ccap)) (w : World) (h : CmdsIn w ca cs ccap) (hN : cs.length < 4294967296)
    (hl : ∀ c ∈ cs, c.l.length ≤ 1000000000) (hs : (encAll o n x y (cores cs)).length ≤ 100000000000) :
    Calls Try.prog 9 #[.agg D] w (Gives (.int .i64 (sizeOf7 o n x y (cores cs))) w) := by
  obtain ⟨S, hS⟩ := start1 w (deltaO D)
  have HS := Lib.hid hS
  have hg0 : (w.alloc (deltaO D)).heap[w.heap.size]? = some (deltaO D) := World.alloc_heap_new w _
  have hinf := infoDelta hD
  have hc0 := fcheck_any D o n x y ca cs ccap hD (w.alloc (deltaO D)) (h.below ((Below.refl _ w).alloc (Nat.le_refl _) _)) hN
  by_cases hw : wrongOf o n (cores cs) = 0
  · have hsz : sizeOf7 o n x y (cores cs) = ((encAll o n x y (cores cs)).length : Nat) := by unfold sizeOf7; rw [if_pos hw]
    rw [hsz]
    rw [hw] at hc0
    obtain ⟨_, _, hall⟩ := wrong_zero.1 hw
    have HALL := Lib.hid (show ∀ c ∈ cs, kindB c.core = true ∧ goodB c.core = true ∧ c.l.length ≤ 1000000000 from fun c hc => ⟨(hall c.core (List.mem_map_of_mem hc)).1, (hall c.core (List.mem_map_of_mem hc)).2, hl c hc⟩)
    have hH : (encH o n x y (cores cs).length).length = 89 := by
      have len8 : ∀ v, (enc1 v 8).length = 8 := fun v => digs_length v 8 8
      have len4 : ∀ v, (enc1 v 4).length = 4 := fun v => digs_length v 4 4
      unfold encH
      simp only [List.length_append, len8, len4, hD.xl, hD.yl, List.length_cons, List.length_nil]
    have hE : (encAll o n x y (cores cs)).length = 89 + ((cores cs).flatMap encK).length := by unfold encAll; rw [List.length_append, hH]
    rw [hE] at hs ⊢
    have HLE := Lib.hid (show ∀ k, (((cores cs).take k).flatMap encK).length ≤ 100000000000 from fun k => by
      have : ((cores cs).flatMap encK).length = (((cores cs).take k).flatMap encK).length + (((cores cs).drop k).flatMap encK).length := by
        conv => lhs; rw [← List.take_append_drop k (cores cs), List.flatMap_append, List.length_append]
      omega)
    obtain ⟨L, hL⟩ : ∃ L, L = cs.length := ⟨_, rfl⟩
    have HL := Lib.hid hL
    have HH := Lib.hid h
    have d66 := (delta_held hD S w.heap.size (by simp)).2.2
    have D66 := Lib.hid (fun s : HeldW w [(w.heap.size, deltaO D)] => (delta_held hD s w.heap.size (by simp)).2.2)
    rw [← hL] at hN D66
    have HTOT := Lib.hid (show ((cores cs).take L).flatMap encK = (cores cs).flatMap encK by rw [show L = (cores cs).length by rw [hL]; simp [cores], List.take_length])
    clear hD hs h hw hall hl hS hL hsz hH hE d66
    go_enter Try.func9, Try.ntmps9
    go_wp2_with (refine wpList_load_row rfl 27 (.tmp 1) rfl w.heap.size rfl 27 _ (0, 0) _ hg0 Try.underlying27 rfl hinf ?_)
    clear hg0 hinf
    rw [HS.out] at hc0 ⊢
    refine (HeldW.call (s := S) hc0).mono ?_
    rintro e _ ⟨rfl, s1, rfl⟩
    clear hc0
    have d66 := D66.out s1
    go_wp2_with fail
    clear d66
    go_loopw [3, 14] (fun v i wr => ∃ k : Nat, k ≤ L ∧ i = .int .i64 k ∧ ∃ z : Nat, v = .int .i64 z ∧ Hid (z = 89 + (((cores cs).take k).flatMap encK).length) ∧ z ≤ 100000000089 ∧ ∃ s : HeldW w [(w.heap.size, deltaO D)], wr = s.w) (fun _ i _ => L - (intOf i).toNat)
    case atStart => exact ⟨0, by omega, rfl, 89, rfl, Lib.hid (by simp), by omega, s1, rfl⟩
    case round =>
      clear s1
      obtain ⟨k, hk, rfl, z, rfl, hz, hzb, s, rfl⟩ := hrel
      by_cases hlt : k < L
      · obtain ⟨c, hc⟩ : ∃ c, cs[k]? = some c := ⟨_, List.getElem?_eq_getElem (by rw [← HL.out]; exact hlt)⟩
        have hcm := List.mem_of_getElem? hc
        obtain ⟨gk, gg, gl⟩ := HALL.out c hcm
        obtain ⟨b, oo, rfl, x0, x1, x2, x3, x4⟩ := (HH.out.W s).at hc
        obtain ⟨B, S1, hB, hB0, hlt1, hS1⟩ := s.more1 (cmdO c.k c.t c.f c.n (.slice c.a c.l.length c.cap))
        have HS1 := Lib.hid hS1
        have HB := Lib.hid hB
        have hff := ffields_any c S1.w gk gg (by omega)
        have HFT := Lib.hid (fit_fields gk gg (by show c.l.length ≤ _; omega))
        have HENC := Lib.hid (encs_fieldsK gk gg)
        have HTK := Lib.hid (show ((cores cs).take (k + 1)).flatMap encK = ((cores cs).take k).flatMap encK ++ encK c.core by
          have := cores_get hc
          obtain ⟨hk1, hk2⟩ := List.getElem?_eq_some_iff.1 this
          rw [List.take_succ_eq_append_getElem hk1, hk2, List.flatMap_append]
          simp)
        obtain ⟨fs, hfs⟩ : ∃ fs, fs = fieldsK c.core := ⟨_, rfl⟩
        rw [← hfs] at hff HFT HENC
        have hN4 : fs.length ≤ 4 := by rw [hfs]; unfold fieldsK; split <;> simp
        have HFS := Lib.hid hfs
        have HGL := Lib.hid gl
        clear hS1 hB gk gg gl hc hlt1 hfs hcm
        go_wp2_with fail
        rw [HS1.out]
        clear x0 x1 x2 x3 x4
        refine hff.mono ?_
        rintro e w3 ⟨g, rfl, hb3, -, hF⟩
        clear hff
        obtain ⟨S2, rfl⟩ := S1.after hb3
        have HF := Lib.hid hF
        have cB4 := Lib.hid (fun s : HeldW S2.w [] => (cmd_cells (heap_below (S2.blocks (B, cmdO c.k c.t c.f c.n (.slice c.a c.l.length c.cap)) (by simp)) s.below)).2.2.2.2)
        obtain ⟨N, hN2⟩ : ∃ N, N = fs.length := ⟨_, rfl⟩
        have HN2 := Lib.hid hN2
        rw [← hN2] at hN4 ⊢
        rw [← HB.out]
        clear hF hb3 hN2
        go_wp2
        go_loopw [3, 21] (fun v i wr => ∃ j : Nat, j ≤ N ∧ i = .int .i64 j ∧ ∃ y : Nat, v = .int .i64 y ∧ Hid (y = z + zsum (fs.take j)) ∧ y ≤ 100000000089 + 8 * j ∧ ∃ s : HeldW S2.w [], wr = s.w) (fun _ i _ => N - (intOf i).toNat)
        case atStart => exact ⟨0, by omega, rfl, z, rfl, Lib.hid (by simp [zsum]), by omega, HeldW.start S2.w, rfl⟩
        case round =>
          obtain ⟨j, hj, rfl, q, rfl, hq, hqb, s3, rfl⟩ := hrel
          by_cases hlt2 : j < N
          · obtain ⟨f, hfk⟩ : ∃ f, fs[j]? = some f := ⟨_, List.getElem?_eq_getElem (by rw [← HN2.out]; exact hlt2)⟩
            have hfit := List.all_eq_true.1 HFT.out f (List.mem_of_getElem? hfk)
            have hfz := fitB_size hfit
            have HSN := Lib.hid (zsum_snoc hfk)
            obtain ⟨b', o', he, y0, y1⟩ := (HF.out.below s3.below).at hfk
            cases he
            rw [Nat.zero_add] at y0 y1
            obtain ⟨fv, fz⟩ := f
            simp only at y0 y1 hfz HSN
            obtain ⟨m, rfl⟩ : ∃ m : Nat, fz = m := ⟨fz.toNat, by omega⟩
            clear hfk hfit
            go_wp2
            go_roundw
            case rel => exact ⟨j + 1, by omega, by go_num, q + m, by go_num, Lib.hid (by rw [HSN.out, hq.out]; simp; omega), by omega, (s3.push _).sub (by simp), rfl⟩
            case measure => simp [intOf]; omega
          · obtain rfl : j = N := by omega
            obtain ⟨m, hm⟩ : ∃ m, m = c.l.length := ⟨_, rfl⟩
            have c4 : s3.w.cell? ⟨B, 4, none⟩ = some (.slice c.a m c.cap) := by rw [hm]; exact cB4.out s3
            have hlen9 : Hid (q + m = 89 + (((cores cs).take (k + 1)).flatMap encK).length) := Lib.hid (by
              have e1 := hq.out
              rw [HN2.out, List.take_length] at e1
              have e2 := congrArg List.length HENC.out
              rw [List.length_append, zsum_encs] at e2
              have e3 := hz.out
              have e4 : c.core.2.2.2.2.length = c.l.length := rfl
              rw [HTK.out, List.length_append]
              omega)
            have hq2 : q + m ≤ 100000000089 := by rw [hlen9.out]; have := HLE.out (k + 1); omega
            clear hm
            go_wp2
            go_roundw
            case rel => exact ⟨k + 1, by omega, by go_num, q + m, by go_num, hlen9, hq2, ⟨s3.w, S2.below.trans (s3.below.mono S2.below.size), all1 (heap_below (S2.blocks (w.heap.size, deltaO D) (by simp)) s3.below)⟩, rfl⟩
            case measure => simp [intOf]; omega
      · obtain rfl : k = L := by omega
        have hz2 := hz.out
        rw [HTOT.out] at hz2
        have HZ2 := Lib.hid hz2
        clear hz2
        go_wp2
        go_ret
        exact ⟨by rw [← HZ2.out]; rfl, s.below⟩
  · have hsz : sizeOf7 o n x y (cores cs) = 0 := by unfold sizeOf7; rw [if_neg hw]
    rw [hsz]
    generalize wrongOf o n (cores cs) = R at hw hc0
    have e1 : (R != 0) = true := by simpa using hw
    clear hD h hN hw hS hsz hs hl
    go_enter Try.func9, Try.ntmps9
    go_wp2_with (refine wpList_load_row rfl 27 (.tmp 1) rfl w.heap.size rfl 27 _ (0, 0) _ hg0 Try.underlying27 rfl hinf ?_)
    clear hg0 hinf
    rw [HS.out] at hc0 ⊢
    refine (HeldW.call (s := S) hc0).mono ?_
    rintro e _ ⟨rfl, s1, rfl⟩
    clear hc0
    go_wp2
    go_ret
    exact ⟨rfl, s1.below⟩
end Go.Proofs.Ytefonhnidkfbgaa

/- The examples of the chapter. -/
namespace Go.Proofs.Ytefonhnidkfbgaa
open Go.RowKit
set_option linter.unusedVariables false
set_option linter.unusedSimpArgs false

/-- A delta and a fault, boxed. -/
theorem HeldW.twoBoxes {w : World} {bs : List (Nat × Obj)} (S : HeldW w bs) (A : Array Value) (c p : Int) :
    ∃ S' : HeldW w ((S.w.heap.size + 1, fltO c p) :: (S.w.heap.size, deltaO A) :: bs), (((S.w.alloc (deltaO zeroDel)).alloc (fltO 0 0)).setRow S.w.heap.size A).setRow (S.w.heap.size + 1) (fltA c p) = S'.w ∧ Below S.w.heap.size S.w S'.w := by
  have h0 : ((S.w.alloc (deltaO zeroDel)).alloc (fltO 0 0)).heap[S.w.heap.size]? = some (deltaO zeroDel) := heap_old (heap_new S.w _ rfl) _
  have h1 : ((S.w.alloc (deltaO zeroDel)).alloc (fltO 0 0)).heap[S.w.heap.size + 1]? = some (fltO 0 0) := heap_new _ _ (by simp)
  have hb0 : Below S.w.heap.size S.w ((S.w.alloc (deltaO zeroDel)).alloc (fltO 0 0)) := ((Below.refl _ _).alloc (Nat.le_refl _) _).alloc (by simp) _
  have hb : Below S.w.heap.size S.w ((((S.w.alloc (deltaO zeroDel)).alloc (fltO 0 0)).setRow S.w.heap.size A).setRow (S.w.heap.size + 1) (fltA c p)) := below_setRow (below_setRow hb0 (Nat.le_refl _) _) (by omega) _
  refine ⟨⟨_, S.below.trans (hb.mono S.below.size), List.forall_mem_cons.2 ⟨setRow_heap _ _ _ _ _ _ ((setRow_other _ _ _ _ (by omega)).trans h1), List.forall_mem_cons.2 ⟨(setRow_other _ _ _ _ (by omega)).trans (setRow_heap _ _ _ _ _ _ h0), fun q hq => heap_below (S.blocks q hq) hb⟩⟩⟩, rfl, hb⟩
theorem box0 (W : World) : ((W.alloc (deltaO zeroDel)).alloc (fltO 0 0)).heap[W.heap.size]? = some (deltaO zeroDel) := heap_old (heap_new W _ rfl) _
theorem box1 (W : World) (A : Array Value) : (((W.alloc (deltaO zeroDel)).alloc (fltO 0 0)).setRow W.heap.size A).heap[W.heap.size + 1]? = some (.cells (fltA 0 0) 30 (0, 0)) := (setRow_other _ _ _ _ (by omega)).trans (heap_new _ _ (by simp))
theorem flt_cells {w0 : World} {bs : List (Nat × Obj)} (s : HeldW w0 bs) (b : Nat) (c p : Int) (hm : (b, fltO c p) ∈ bs) : s.w.cell? ⟨b, 0, none⟩ = some (.int .i64 c) ∧ s.w.cell? ⟨b, 1, none⟩ = some (.int .i64 p) := by
  have h := s.blocks _ hm
  exact ⟨by rw [cell_of h]; rfl, by rw [cell_of h]; rfl⟩

def enc0 : List Int := encAll 0 0 zeros32 zeros32 []
theorem enc0_len : enc0.length = 89 := by decide +kernel
theorem enc0_ok : OkB enc0 := fun x hx => by
  have h : ∀ x ∈ enc0, 0 ≤ x ∧ x < 256 := by decide +kernel
  exact h x hx
theorem wrong0 : wrongOf 0 0 [] = 0 := by decide
theorem end0 : endR enc0 = ⟨89, 0, 0⟩ := by
  have := end_enc (o := 0) (n := 0) (x := zeros32) (y := zeros32) (cs := []) (D := enc0) (m := []) rfl rfl wrong0 (by simp) (by simp) (by simp [enc0])
  rw [if_pos rfl] at this
  have h : (encAll 0 0 zeros32 zeros32 []).length = 89 := enc0_len
  rw [this, h]
theorem dec0 {o n : Int} {x y : List Int} {cs : List Cmd} {c p : Int} (h : DecRes enc0 o n x y cs c p) : o = 0 ∧ n = 0 ∧ x = zeros32 ∧ y = zeros32 ∧ cs = [] ∧ c = 0 ∧ p = 0 := by
  obtain ⟨d1, d2⟩ := dec_enc (o := 0) (n := 0) (x := zeros32) (y := zeros32) (cs := []) (D := enc0) (m := []) rfl rfl wrong0 (by simp) (by simp) (by simp [enc0])
  obtain ⟨h1, h2, h3, h4, h5⟩ := h.yes (by rw [end0])
  rw [d1] at h1 h2 h3 h4
  rw [d2] at h5
  refine ⟨h1, h2, h3, h4, ?_, by rw [h.c, end0], by rw [h.p, end0]⟩
  have := cores_len (cs := cs) (ds := []) h5
  exact List.eq_nil_of_length_eq_zero this
theorem endG : endR [71, 82, 70] = ⟨0, 8, 3⟩ := by
  have h1 : (endR [71, 82, 70]).n = 0 := by decide +kernel
  have h2 : (endR [71, 82, 70]).c = 8 := by decide +kernel
  have h3 : (endR [71, 82, 70]).p = 3 := by decide +kernel
  generalize endR [71, 82, 70] = r at *
  obtain ⟨n, c, p⟩ := r
  simp only at h1 h2 h3
  rw [h1, h2, h3]

set_option maxRecDepth 100000 in
set_option maxHeartbeats 8000000 in
theorem alive07_gives (w : World) : Calls Try.prog 4 #[] w (Gives (.bool true) w) := by
  have hz := zero_delta
  have hzf : ∀ W, (zeroValue 30).run Try.prog W = .ok (.agg (fltA 0 0)) W := fun W => by kernel_rfl
  have hE := encode_any zeroDel 0 0 zeros32 zeros32 none [] 0 zeroDel_of w (cmds_none w) (by simp) (by simp) (by show enc0.length ≤ _; rw [enc0_len]; omega)
  rw [show cores [] = [] from rfl, wrong0] at hE
  have HS := Lib.hid (fun W => size_any zeroDel 0 0 zeros32 zeros32 none [] 0 zeroDel_of W (cmds_none W) (by simp) (by simp) (by show enc0.length ≤ _; rw [enc0_len]; omega))
  have hinf0 := infoDelta zeroDel_of
  go_enter Try.func4, Try.ntmps4
  go_wp2_with fail
  refine hE.mono ?_
  rintro e w1 hp
  unfold EncPost at hp
  rw [if_pos rfl] at hp
  obtain ⟨A, C, rfl, hb1, hby, -⟩ := hp
  obtain ⟨S1, rfl⟩ := (HeldW.start w).after hb1
  have hl : (encAll 0 0 zeros32 zeros32 []).length = 89 := enc0_len
  have hD := decode_any enc0 A C S1.w hby enc0_ok (by rw [enc0_len]; omega)
  rw [hl]
  rw [enc0_len] at hD
  clear hE hb1 hby hl
  go_wp2_with fail
  refine hD.mono ?_
  rintro e w2 ⟨o, n, x, y, cs, a, cap, c, p, rfl, hb2, hcs, -, hres⟩
  obtain ⟨rfl, rfl, rfl, rfl, rfl, rfl, rfl⟩ := dec0 hres
  obtain ⟨S2, rfl⟩ := S1.after hb2
  have hDA : DeltaOf (deltaA 0 0 zeros32 zeros32 (.slice a 0 cap)) 0 0 zeros32 zeros32 (.slice a 0 cap) := ⟨rfl, rfl, rfl⟩
  obtain ⟨A1, hA1⟩ : ∃ A1, A1 = deltaA 0 0 zeros32 zeros32 (.slice a ([] : List Cmd).length cap) := ⟨_, rfl⟩
  have hDA1 : DeltaOf A1 0 0 zeros32 zeros32 (.slice a ([] : List Cmd).length cap) := ⟨hA1, rfl, rfl⟩
  rw [← hA1]
  obtain ⟨S3, hS3, hb3⟩ := S2.twoBoxes A1 0 0
  have HS3 := Lib.hid hS3
  have hinf := infoDelta hDA1
  have hsz : zeroDel.size = A1.size := by rw [zeroDel_of.size, hDA1.size]
  have hone := hDA1.one rfl
  have k0 := box0 S2.w
  have k1 := box1 S2.w A1
  have HCS := Lib.hid (hcs.below hb3)
  obtain ⟨B, hB⟩ : ∃ B, B = S2.w.heap.size := ⟨_, rfl⟩
  have HB := Lib.hid hB
  clear hA1 hDA hD hb2 hcs hres hb3 hS3 hB
  obtain ⟨S4, hS4⟩ := S3.after (w' := S3.w.alloc (.cells #[.int .u8 71, .int .u8 82, .int .u8 70] 5 (3, 4))) ((Below.refl _ _).alloc (Nat.le_refl _) _)
  have HS4 := Lib.hid hS4
  have hlit : BytesIn S4.w (some ⟨S3.w.heap.size, 0, none⟩) [71, 82, 70] 3 := bytes_lit (l := [71, 82, 70]) (fr := (3, 4)) (by rw [← hS4]; exact World.alloc_heap_new _ _) (by simp)
  have hcv := Lib.run_convert_bytes_const (P := Try.prog) S3.w 22 5 #[.int .u8 71, .int .u8 82, .int .u8 70] 3 3 Try.underlying22 Try.underlying5
  have hG := decode_any [71, 82, 70] _ 3 S4.w hlit (fun x hx => by simp at hx; omega) (by simp)
  clear hS4 hlit
  go_wp2_with (first
    | (refine wpList_store_rowTo rfl 27 (.tmp 3) (.tmp 15) rfl rfl S2.w.heap.size A1 rfl rfl 27 zeroDel k0 hinf hsz hone ?_)
    | (refine wpList_store_rowTo rfl 30 (.tmp 4) (.tmp 16) rfl rfl (S2.w.heap.size + 1) (fltA 0 0) rfl rfl 30 (fltA 0 0) k1 (fltA_size _ _) rfl (fltA_one _ _) ?_; rw [HS3.out]; clear k0 k1))
  rw [HS4.out]
  refine hG.mono ?_
  rintro e w5 ⟨o, n, x, y, cs, a', cap', c, p, rfl, hb5, -, -, hres⟩
  have hc := hres.c
  have hp := hres.p
  rw [endG] at hc hp
  obtain rfl : c = 8 := hc
  obtain rfl : p = 3 := hp
  obtain ⟨S5, rfl⟩ := S4.after hb5
  obtain ⟨A2, hA2⟩ : ∃ A2, A2 = deltaA o n x y (.slice a' cs.length cap') := ⟨_, rfl⟩
  have hDA2 : DeltaOf A2 o n x y (.slice a' cs.length cap') := ⟨hA2, hres.xl, hres.yl⟩
  rw [← hA2]
  obtain ⟨S6, hS6, hb6⟩ := S5.twoBoxes A2 8 3
  have HS6 := Lib.hid hS6
  have hinf2 := infoDelta hDA2
  have hsz2 : zeroDel.size = A2.size := by rw [zeroDel_of.size, hDA2.size]
  have hone2 := hDA2.one rfl
  have k0 := box0 S5.w
  have k1 := box1 S5.w A2
  have HC0 := Lib.hid (fun W => (⟨HCS.out.len, HCS.out.capb, fun h => by simp at h, fun c hc => by simp at hc, HCS.out.nil⟩ : CmdsIn W a [] cap))
  have hsame := fun W => rdsame_any A1 zeroDel 0 0 0 0 zeros32 zeros32 zeros32 zeros32 a none [] [] cap 0 hDA1 zeroDel_of W (HC0.out W) (cmds_none W)
  rw [show sameD 0 0 zeros32 zeros32 [] 0 0 zeros32 zeros32 [] = true by unfold sameD; simp] at hsame
  have HSM := Lib.hid hsame
  have hs89 : sizeOf7 0 0 zeros32 zeros32 (cores []) = 89 := by decide +kernel
  rw [hs89] at HS
  have gA := S6.blocks (S2.w.heap.size, deltaO A1) (by simp)
  clear hG hcv hb5 hres hA2 hDA2 hb6 hS6 hsame hs89
  go_wp2_with (first
    | (refine wpList_store_rowTo rfl 27 (.tmp 5) (.tmp 21) rfl rfl S5.w.heap.size A2 rfl rfl 27 zeroDel k0 hinf2 hsz2 hone2 ?_)
    | (refine wpList_store_rowTo rfl 30 (.tmp 6) (.tmp 22) rfl rfl (S5.w.heap.size + 1) (fltA 8 3) rfl rfl 30 (fltA 0 0) k1 (fltA_size _ _) rfl (fltA_one _ _) ?_; rw [HS6.out]; clear k0 k1)
    | (refine wpList_load_rowG rfl 27 (.tmp 3) rfl (some 31) rfl S2.w.heap.size rfl 27 _ (0, 0) _ gA Try.underlying27 rfl hinf ?_))
  refine (HeldW.call (s := S6) (HSM.out _)).mono ?_
  rintro e _ ⟨rfl, S7, rfl⟩
  clear gA
  obtain ⟨f0, f1⟩ := flt_cells S7 (S2.w.heap.size + 1) 0 0 (by simp)
  obtain ⟨f2, f3⟩ := flt_cells S7 (S5.w.heap.size + 1) 8 3 (by simp)
  go_wp2_with fail
  refine (HeldW.call (s := S7) (HS.out _)).mono ?_
  rintro e _ ⟨rfl, S8, rfl⟩
  go_wp2
  go_ret
  exact ⟨by simp, S8.below⟩
end Go.Proofs.Ytefonhnidkfbgaa

/- FormatOnce returns true for all bytes, and changes nothing that was there. -/
namespace Go.Proofs.Ytefonhnidkfbgaa
open Go.RowKit
set_option linter.unusedVariables false
set_option linter.unusedSimpArgs false

theorem encK_bound {c : Core7} (hk : kindB c = true) (hg : goodB c = true) : c.2.2.2.2.length + 1 ≤ (encK c).length := by
  unfold kindB at hk
  simp only [Bool.or_eq_true, beq_iff_eq] at hk
  rcases hk with h1 | h2
  · unfold goodB at hg
    rw [if_pos h1] at hg
    simp only [Bool.and_eq_true, List.isEmpty_iff] at hg
    rw [encK_copy h1, hg.2]
    simp
  · rw [encK_lit h2]
    simp
    omega
theorem encs_bound : ∀ (cs : List Core7), (∀ c ∈ cs, kindB c = true ∧ goodB c = true) → cs.length ≤ (cs.flatMap encK).length ∧ ∀ c ∈ cs, c.2.2.2.2.length ≤ (cs.flatMap encK).length := by
  intro cs
  induction cs with
  | nil => intro _; simp
  | cons c l ih =>
    intro h
    obtain ⟨h1, h2⟩ := ih (fun d hd => h d (List.mem_cons_of_mem _ hd))
    have h3 := encK_bound (h c List.mem_cons_self).1 (h c List.mem_cons_self).2
    rw [List.flatMap_cons, List.length_append, List.length_cons]
    refine ⟨by omega, fun d hd => ?_⟩
    rcases List.mem_cons.1 hd with rfl | hd
    · omega
    · have := h2 d hd; omega
theorem enc_bound {o n : Int} {x y : List Int} {cs : List Core7} (hw : wrongOf o n cs = 0) : cs.length ≤ (encAll o n x y cs).length ∧ ∀ c ∈ cs, c.2.2.2.2.length ≤ (encAll o n x y cs).length := by
  obtain ⟨h1, h2⟩ := encs_bound cs (wrong_zero.1 hw).2.2
  unfold encAll
  rw [List.length_append]
  exact ⟨by omega, fun c hc => by have := h2 c hc; omega⟩

end Go.Proofs.Ytefonhnidkfbgaa

/- An append as one step of a region that draws its order: by an equation of its run. -/
namespace Go.Proofs.Ytefonhnidkfbgaa
open Go Go.RowKit
theorem step_append_run {P : Program} {ops : Array Oper} {o : Oper} {a : Act} {w : World} {K : Act → World → Prop} {Q : Exit → Act → World → Prop} {E : Prop}
    (hg : o.guard = none) (s x : Operand) (t : TypeId) (hop : o.op = Op.call { callee := Callee.builtin Builtin.append, args := #[s, x], argTypes := #[t, t] }) {v vx v' : Value} {w' : World}
    (hrun : (Builtin.append_ #[t, t] o.type #[v, vx]).run P w = .ok v' w') (hs : a.eval s = v) (hx : a.eval x = vx)
    (hK : K (a.put o.dst v') w') : if Region.wanted o (yielded ops a.tmps) = true then Oper.wp P o a w K Q else E := by
  have hw : Region.wanted o (yielded ops a.tmps) = true := by simp [Region.wanted, hg]
  rw [if_pos hw]
  unfold Oper.wp
  simp [execOp, hop, resolve, invoke, builtin, hs, hx, hrun, Result.andThen]
  exact hK
end Go.Proofs.Ytefonhnidkfbgaa

/- The reference's reader: Fail, Uint, Length. -/
namespace Go.Proofs.Ytefonhnidkfbgaa
open Go.RowKit
set_option linter.unusedVariables false
set_option linter.unusedSimpArgs false

/-- The block of the reference's reader: the bytes, the offset, the code and the place of the fault. -/
abbrev rrO (n L : Nat) (da : Option Addr) (dcap : Nat) (c p : Int) : Obj := .cells #[.slice da L dcap, .int .i64 n, .int .i64 c, .int .i64 p] 50 (0, 0)
abbrev rrS (s : RS) (L : Nat) (da : Option Addr) (dcap : Nat) : Obj := rrO s.n L da dcap s.c s.p
theorem rr_cells {w : World} {g n L dcap : Nat} {da : Option Addr} {c p : Int} (h : w.heap[g]? = some (rrO n L da dcap c p)) :
    w.cell? ⟨g, 0, none⟩ = some (.slice da L dcap) ∧ w.cell? ⟨g, 1, none⟩ = some (.int .i64 n) ∧ w.cell? ⟨g, 2, none⟩ = some (.int .i64 c) ∧ w.cell? ⟨g, 3, none⟩ = some (.int .i64 p) :=
  ⟨by rw [cell_of h]; rfl, by rw [cell_of h]; rfl, by rw [cell_of h]; rfl, by rw [cell_of h]; rfl⟩
theorem rr_set1 {w : World} {g n L dcap : Nat} {da : Option Addr} {c p : Int} (h : w.heap[g]? = some (rrO n L da dcap c p)) (m : Nat) : (w.setCell ⟨g, 1, none⟩ (.int .i64 m)).heap[g]? = some (rrO m L da dcap c p) := by
  rw [heap_setCell_same _ _ 1 _ _ _ h]
  rfl
theorem rr_set23 {w : World} {g n L dcap : Nat} {da : Option Addr} {c p : Int} (h : w.heap[g]? = some (rrO n L da dcap c p)) (c' p' : Int) : ((w.setCell ⟨g, 2, none⟩ (.int .i64 c')).setCell ⟨g, 3, none⟩ (.int .i64 p')).heap[g]? = some (rrO n L da dcap c' p') := by
  rw [heap_setCell_same _ _ 3 _ _ _ (heap_setCell_same _ _ 2 _ _ _ h)]
  rfl

theorem cut_midA {w : World} {a : Option Addr} {l : List Int} {cap : Nat} (h : BytesIn w a l cap) (lo hi : Nat) (h1 : lo ≤ hi) (h2 : hi ≤ l.length) :
    ∃ A, (∀ W, (Instr.slice 22 (.slice a l.length cap) (some (.int .i64 (lo : Int))) (some (.int .i64 (hi : Int))) none).run Try.prog W = .ok (.slice A (hi - lo) (cap - lo)) W) ∧ BytesIn w A ((l.drop lo).take (hi - lo)) (cap - lo) ∧ (∀ ad, A = some ad → ∃ ad', a = some ad' ∧ ad'.block = ad.block) := by
  have hlen : ((l.drop lo).take (hi - lo)).length = hi - lo := by rw [List.length_take, List.length_drop]; omega
  refine ⟨if cap = lo then a else a.map (·.add (lo * 1)), fun W => ?_, ⟨by rw [hlen]; have := h.len; omega, by have := h.capb; omega, fun hp => ?_, fun h0 => ?_⟩, fun b hA => ?_⟩
  · rw [run_slice_lh (P := Try.prog) W 22 a l.length cap (by kernel_rfl) .i64 .i64 (lo : Int) (hi : Int) (by omega) (by omega) (by have := h.len; omega), size_u8]
    simp only [Result.andThen_ok, sliced, Int.toNat_natCast]
  · rw [hlen] at hp
    obtain ⟨b, o, rfl, hc⟩ := h.cells (by omega)
    have := h.len
    rw [if_neg (by omega)]
    refine ⟨b, o + lo, by simp [Addr.add_mid], fun i hi => ?_⟩
    rw [hlen] at hi
    rw [Nat.add_assoc, hc (lo + i) (by omega), List.getElem?_take, if_pos (by omega), List.getElem?_drop]
  · by_cases hc : cap = lo
    · omega
    · rw [if_neg hc] at h0
      cases a with
      | none => have := h.nil rfl; omega
      | some ad => cases h0
  · by_cases hc : cap = lo
    · rw [if_pos hc] at hA; exact ⟨b, hA, rfl⟩
    · rw [if_neg hc] at hA
      cases a with
      | none => cases hA
      | some ad =>
        simp only [Option.map_some, Option.some.injEq] at hA
        refine ⟨ad, rfl, ?_⟩
        rw [← hA]
        unfold Addr.add
        split <;> rfl

section
variable (g dcap : Nat) (da : Option Addr) (D : List Int) (s : RS) (w : World)
set_option maxRecDepth 100000 in
theorem rrfail_all (L : Nat) (code at_ : Int) (h : w.heap[g]? = some (rrS s L da dcap)) : Calls Try.prog 18 #[.pointer (some ⟨g, 0, none⟩), .int .i64 code, .int .i64 at_] w (Puts g (rrS (s.fail code at_) L da dcap) (.tuple #[]) w) := by
  obtain ⟨n, c, p⟩ := s
  by_cases h0 : c = 0
  · subst h0
    by_cases hc : code = 0
    · have e : (RS.fail ⟨n, 0, p⟩ code at_) = ⟨n, 0, p⟩ := by unfold RS.fail; rw [if_neg (by simp [hc])]
      rw [e]
      subst hc
      obtain ⟨c0, c1, c2, c3⟩ := rr_cells h
      have HH := Lib.hid h
      clear h e
      go_enter Try.func18, Try.ntmps18
      go_wp2
      go_end0
      exact ⟨rfl, But.refl _ _ _, HH.out⟩
    · have e : (RS.fail ⟨n, 0, p⟩ code at_) = ⟨n, code, at_⟩ := by unfold RS.fail; rw [if_pos ⟨rfl, hc⟩]
      rw [e]
      have hb : (code != 0) = true := by simpa using hc
      obtain ⟨c0, c1, c2, c3⟩ := rr_cells h
      have f2 := free_of h 2
      have f3 := free_of h 3
      have hfin : Hid (Puts g (rrO n L da dcap code at_) (.tuple #[]) w (.returned (.tuple #[])) ((w.setCell ⟨g, 2, none⟩ (.int .i64 code)).setCell ⟨g, 3, none⟩ (.int .i64 at_))) :=
        Lib.hid ⟨rfl, ((But.refl g _ w).store 2 _).store 3 _, rr_set23 h _ _⟩
      clear h hc e
      go_enter Try.func18, Try.ntmps18
      go_wp2
      go_end0
      exact hfin.out
  · have e : (RS.fail ⟨n, c, p⟩ code at_) = ⟨n, c, p⟩ := by unfold RS.fail; rw [if_neg (fun h => h0 h.1)]
    rw [e]
    have hb : (c == 0) = false := by simpa using h0
    obtain ⟨c0, c1, c2, c3⟩ := rr_cells h
    have HH := Lib.hid h
    clear h e
    go_enter Try.func18, Try.ntmps18
    go_wp2
    go_end0
    exact ⟨rfl, But.refl _ _ _, HH.out⟩

set_option maxRecDepth 100000 in
theorem rruint_not (k : Int) (n : Nat) (c p : Int) (L : Nat) (h : w.heap[g]? = some (rrO n L da dcap c p)) (h0 : c ≠ 0) :
    Calls Try.prog 17 #[.pointer (some ⟨g, 0, none⟩), .int .i64 k] w (Puts g (rrO n L da dcap c p) (.int .u64 0) w) := by
  have hb : (c != 0) = true := by simpa using h0
  obtain ⟨c0, c1, c2, c3⟩ := rr_cells h
  have HH := Lib.hid h
  clear h
  go_enter Try.func17, Try.ntmps17
  go_wp2
  go_ret
  exact ⟨rfl, But.refl _ _ _, HH.out⟩
set_option maxRecDepth 100000 in
theorem rruint_range (k : Int) (n : Nat) (p : Int) (L : Nat) (h : w.heap[g]? = some (rrO n L da dcap 0 p)) (h1 : ¬ (1 ≤ k ∧ k ≤ 8)) :
    Calls Try.prog 17 #[.pointer (some ⟨g, 0, none⟩), .int .i64 k] w (Puts g (rrO n L da dcap 2 n) (.int .u64 0) w) := by
  have hf := rrfail_all g dcap da ⟨n, 0, p⟩ w L 2 n h
  rw [show (RS.fail ⟨n, 0, p⟩ 2 n) = ⟨n, 2, n⟩ by unfold RS.fail; rw [if_pos ⟨rfl, by simp⟩]] at hf
  obtain ⟨c0, c1, c2, c3⟩ := rr_cells h
  clear h
  by_cases hk : k < 1
  · go_enter Try.func17, Try.ntmps17
    go_wp2_with (refine hf.mono ?_; rintro e w2 ⟨rfl, hb, ho⟩)
    go_ret
    exact ⟨rfl, hb, ho⟩
  · have hk2 : 8 < k := by omega
    go_enter Try.func17, Try.ntmps17
    go_wp2_with (refine hf.mono ?_; rintro e w2 ⟨rfl, hb, ho⟩)
    go_ret
    exact ⟨rfl, hb, ho⟩
/-- Its cells in a later world. -/
theorem rr_cellsW {w0 : World} {g n L dcap : Nat} {da : Option Addr} {c p : Int} (h : w0.heap[g]? = some (rrO n L da dcap c p)) (s : HeldW w0 []) :
    s.w.cell? ⟨g, 0, none⟩ = some (.slice da L dcap) ∧ s.w.cell? ⟨g, 1, none⟩ = some (.int .i64 n) ∧ s.w.cell? ⟨g, 2, none⟩ = some (.int .i64 c) ∧ s.w.cell? ⟨g, 3, none⟩ = some (.int .i64 p) := rr_cells (heap_below h s.below)
set_option maxRecDepth 100000 in
theorem rruint_short (k : Int) (n : Nat) (p : Int) (L : Nat) (h : w.heap[g]? = some (rrO n L da dcap 0 p)) (h1 : 1 ≤ k ∧ k ≤ 8) (hn : n ≤ L) (hL : L ≤ 9223372036854775807) (h2 : (L : Int) - n < k) :
    Calls Try.prog 17 #[.pointer (some ⟨g, 0, none⟩), .int .i64 k] w (Puts g (rrO n L da dcap 8 L) (.int .u64 0) w) := by
  have HF := Lib.hid (fun (s : HeldW w []) => rrfail_all g dcap da ⟨n, 0, p⟩ s.w L 8 L (heap_below h s.below))
  have e8 : (RS.fail ⟨n, 0, p⟩ 8 L) = ⟨n, 8, L⟩ := by unfold RS.fail; rw [if_pos ⟨rfl, by simp⟩]
  rw [e8] at HF
  obtain ⟨c0, c1, c2, c3⟩ := rr_cells h
  have HC := Lib.hid (fun (s : HeldW w []) => rr_cellsW h s)
  clear h e8
  have e1 : (k < 1) = False := eq_false (by omega)
  have e2 : (8 < k) = False := eq_false (by omega)
  go_enter Try.func17, Try.ntmps17
  go_wp2
  have d0 := fun s : HeldW w [] => (HC.out s).1
  have d1 := fun s : HeldW w [] => (HC.out s).2.1
  refine wp_region_class w [] (by kernel_rfl) (by kernel_rfl) (Below.refl _ _) (by simp) (fun hne => ?_)
  clear c0 c1 c2 c3
  repeat (go_big_quiet_step (fail))
  refine wpQuiet_nil ?_
  rintro _ ⟨s, rfl⟩
  clear hne d0 d1
  obtain ⟨c0, c1, c2, c3⟩ := HC.out s
  have hf := HF.out s
  go_wp2_with (refine hf.mono ?_; rintro e w2 ⟨rfl, hb, ho⟩)
  go_ret
  exact ⟨rfl, (But.of_below s.below).trans (hb.mono s.below.size), ho⟩
set_option maxRecDepth 100000 in
set_option maxHeartbeats 1000000 in
theorem rruint_ok (n : Nat) (p : Int) (k : Nat) (h : w.heap[g]? = some (rrO n D.length da dcap 0 p)) (hk : 1 ≤ k ∧ k ≤ 8) (hn : n + k ≤ D.length) (hD : BytesIn w da D dcap) (okD : OkB D) (hne : ∀ b o, da = some ⟨b, o, none⟩ → b ≠ g) :
    Calls Try.prog 17 #[.pointer (some ⟨g, 0, none⟩), .int .i64 k] w (Puts g (rrO (n + k) D.length da dcap 0 p) (.int .u64 (beval ((D.drop n).take k))) w) := by
  have hL : D.length ≤ 9223372036854775807 := Nat.le_trans hD.len hD.capb
  obtain ⟨bb, oo, rfl, hcell⟩ := hD.cells (by omega)
  have hbg : bb ≠ g := hne bb oo rfl
  have HP : Hid (∀ j, j ≤ k → 0 ≤ beval ((D.drop n).take j) ∧ beval ((D.drop n).take j) < 256 ^ j) := Lib.hid (fun j hj => by
    have := (enc1_beval j ((D.drop n).take j) (by rw [List.length_take, List.length_drop]; omega) (by omega) (fun z hz => okD z (List.mem_of_mem_drop (List.mem_of_mem_take hz)))).2
    exact this)
  have HB : Hid (∀ (W : World) (hw : But g w.heap.size w W) (j : Nat), j < k → W.cell? ⟨bb, oo + (n + j), none⟩ = some (.int .u8 ((D.drop n)[j]?.getD 0))) := Lib.hid (fun W hw j hj => by
    have := hcell (n + j) (by omega)
    have hlt := World.block_lt_of_cell? _ _ this
    rw [List.getElem?_drop, ← this]
    unfold World.cell?
    rw [hw.block bb hlt hbg])
  have HSTEP : Hid (∀ j, j < k → beval ((D.drop n).take (j + 1)) = beval ((D.drop n).take j) * 256 + (D.drop n)[j]?.getD 0 ∧ 0 ≤ (D.drop n)[j]?.getD 0 ∧ (D.drop n)[j]?.getD 0 < 256 ∧ 0 ≤ beval ((D.drop n).take j) ∧ beval ((D.drop n).take j) * 256 + 255 < 18446744073709551616) := Lib.hid (fun j hj => by
    have hl : j < (D.drop n).length := by rw [List.length_drop]; omega
    have hz := okD ((D.drop n)[j]) (List.mem_of_mem_drop (List.getElem_mem hl))
    have hb := HP.out j (by omega)
    have hp7 := pow_le7 j (by omega)
    rw [List.take_succ_eq_append_getElem hl, List.getElem?_eq_getElem hl]
    simp only [Option.getD_some]
    refine ⟨beval_more _ _ hb.1 (by omega) hz, hz.1, hz.2, hb.1, by omega⟩)
  obtain ⟨L, hLL⟩ : ∃ L, L = D.length := ⟨_, rfl⟩
  rw [← hLL] at h hn hL ⊢
  generalize D.drop n = E at *
  clear hLL hD hcell hne okD HP
  have HC := Lib.hid (fun (s : HeldW w []) => rr_cellsW h s)
  have HH := Lib.hid h
  obtain ⟨c0, c1, c2, c3⟩ := rr_cells h
  have e1 : ((k : Int) < 1) = False := eq_false (by omega)
  have e2 : ((8 : Int) < k) = False := eq_false (by omega)
  clear h
  go_enter Try.func17, Try.ntmps17
  go_wp2
  have d0 := fun s : HeldW w [] => (HC.out s).1
  have d1 := fun s : HeldW w [] => (HC.out s).2.1
  refine wp_region_class w [] (by kernel_rfl) (by kernel_rfl) (Below.refl _ _) (by simp) (fun hne => ?_)
  clear c0 c1 c2 c3
  repeat (go_big_quiet_step (fail))
  refine wpQuiet_nil ?_
  rintro _ ⟨s, rfl⟩
  clear hne d0 d1 e1 e2
  have e3 : ((L : Int) - n < k) = False := eq_false (by omega)
  have HG0 := heap_below HH.out s.below
  go_wp2
  clear e3
  go_loopw [5, 6] (fun x i wr => ∃ j : Nat, j ≤ k ∧ i = .int .i64 j ∧ ∃ X : Int, Hid (X = beval (E.take j)) ∧ x = .int .u64 X ∧ ∃ m : Nat, Hid (m = n + j) ∧ ∃ s : HeldX w g [(g, rrO m L (some ⟨bb, oo, none⟩) dcap 0 p)], wr = s.w) (fun _ i _ => k - (intOf i).toNat)
  case atStart => exact ⟨0, by omega, rfl, 0, Lib.hid rfl, rfl, n, Lib.hid rfl, ⟨s.w, But.of_below s.below, by simpa using HG0⟩, rfl⟩
  case round =>
    clear HG0
    obtain ⟨j, hj, rfl, X, hX, rfl, m, hm, s1, rfl⟩ := hrel
    by_cases hlt : j < k
    · obtain ⟨q1, q2, q3, q4, q5⟩ := HSTEP.out j hlt
      have c1 := HB.out s1.w s1.but j hlt
      rw [← hm.out] at c1
      rw [← hX.out] at q1 q4 q5
      have hmL : m < L := by have := hm.out; omega
      have HQ := Lib.hid q1
      generalize E[j]?.getD 0 = d at c1 q2 q3 HQ
      have HB1 : Hid (∀ s : HeldX w g [(g, rrO m L (some ⟨bb, oo, none⟩) dcap 0 p)], s.w.cell? ⟨bb, oo + m, none⟩ = some (.int .u8 d)) := Lib.hid (fun s => by
        have a := HB.out s.w s.but j hlt
        have b := HB.out s1.w s1.but j hlt
        rw [← hm.out] at a b
        rw [a, ← b, c1])
      clear q1 c1
      have HBK := Lib.hid (fun s : HeldX w g [(g, rrO m L (some ⟨bb, oo, none⟩) dcap 0 p)] => rr_cells (s.blocks (g, rrO m L (some ⟨bb, oo, none⟩) dcap 0 p) (by simp)))
      go_wp2
      have d0 := fun s : HeldX w g [(g, rrO m L (some ⟨bb, oo, none⟩) dcap 0 p)] => (HBK.out s).1
      have d1 := fun s : HeldX w g [(g, rrO m L (some ⟨bb, oo, none⟩) dcap 0 p)] => (HBK.out s).2.1
      have d2 := HB1.out
      refine wp_region_X_tail 14 s1 (by kernel_rfl) (by kernel_rfl) (fun hne => ?_)
      simp only [List.take_succ_cons, List.take_zero, List.drop_succ_cons, List.drop_zero]
      repeat (go_big_quiet_step (fail))
      refine wpQuiet_nil ?_
      rintro _ ⟨s2, rfl⟩
      clear hne d0 d1 d2
      obtain ⟨b0, b1, b2, b3⟩ := HBK.out s2
      have hblk := s2.blocks (g, rrO m L (some ⟨bb, oo, none⟩) dcap 0 p) (by simp)
      have hfr := free_of hblk 1
      have HN := Lib.hid (rr_set1 hblk (m + 1))
      clear hblk
      go_wp2
      go_roundw
      case rel => exact ⟨j + 1, by omega, by go_num, 256 * X + d, Lib.hid (by rw [HQ.out]; omega), by first | rfl | go_num, m + 1, Lib.hid (by rw [hm.out]; omega), s2.store (cs' := #[.slice (some ⟨bb, oo, none⟩) L dcap, .int .i64 ((m + 1 : Nat) : Int), .int .i64 0, .int .i64 p]) (.inl rfl) (by simp) (by rfl), rfl⟩
      case measure => simp [intOf]; omega
    · obtain rfl : j = k := by omega
      have hblk := s1.blocks (g, rrO m L (some ⟨bb, oo, none⟩) dcap 0 p) (by simp)
      have HFIN : Hid (Puts g (rrO (n + j) L (some ⟨bb, oo, none⟩) dcap 0 p) (.int .u64 (beval (E.take j))) w (.returned (.int .u64 X)) s1.w) := Lib.hid ⟨by rw [← hX.out], s1.but, by rw [← hm.out]; exact hblk⟩
      clear hblk
      go_wp2
      go_ret
      exact HFIN.out

theorem rruint_all (k : Nat) (h : w.heap[g]? = some (rrS s D.length da dcap)) (hn : s.n ≤ D.length) (hD : BytesIn w da D dcap) (okD : OkB D) (hne : 0 < D.length → ∀ b o, da = some ⟨b, o, none⟩ → b ≠ g) :
    Calls Try.prog 17 #[.pointer (some ⟨g, 0, none⟩), .int .i64 k] w (Puts g (rrS (uintR D k s).2 D.length da dcap) (.int .u64 (uintR D k s).1) w) := by
  obtain ⟨n, c, p⟩ := s
  simp only at hn
  have hL : D.length ≤ 9223372036854775807 := Nat.le_trans hD.len hD.capb
  by_cases h0 : c = 0
  · subst h0
    by_cases h1 : 1 ≤ (k : Int) ∧ (k : Int) ≤ 8
    · by_cases h2 : (D.length : Int) - n < k
      · have e : uintR D k ⟨n, 0, p⟩ = (0, ⟨n, 8, D.length⟩) := by unfold uintR; rw [if_neg (by simp), if_neg (by simpa using h1), if_pos h2]
        rw [e]
        exact rruint_short g dcap da w k n p D.length h h1 hn hL h2
      · have e : uintR D k ⟨n, 0, p⟩ = (beval ((D.drop n).take k), ⟨n + k, 0, p⟩) := by unfold uintR; rw [if_neg (by simp), if_neg (by simpa using h1), if_neg h2]; rfl
        rw [e]
        exact rruint_ok g dcap da D w n p k h (by omega) (by omega) hD okD (hne (by omega))
    · have e : uintR D k ⟨n, 0, p⟩ = (0, ⟨n, 2, n⟩) := by unfold uintR; rw [if_neg (by simp), if_pos h1]
      rw [e]
      exact rruint_range g dcap da w k n p D.length h h1
  · have e : uintR D k ⟨n, c, p⟩ = (0, ⟨n, c, p⟩) := by unfold uintR; rw [if_pos h0]
    rw [e]
    exact rruint_not g dcap da w k n c p D.length h h0

set_option maxRecDepth 100000 in
theorem rrlength_all (h : w.heap[g]? = some (rrS s D.length da dcap)) (hn : s.n ≤ D.length) (hD : BytesIn w da D dcap) (okD : OkB D) (hne : 0 < D.length → ∀ b o, da = some ⟨b, o, none⟩ → b ≠ g) :
    Calls Try.prog 19 #[.pointer (some ⟨g, 0, none⟩)] w (Puts g (rrS (lengthR D s).2 D.length da dcap) (.int .i64 (lengthR D s).1) w) := by
  obtain ⟨c0, c1, c2, c3⟩ := rr_cells h
  have hu := rruint_all g dcap da D s w 8 h hn hD okD hne
  have hb := uintR_bound D 8 s
  rw [show ((8 : Nat) : Int) = 8 from rfl] at hu
  obtain ⟨r, hr⟩ : ∃ r, r = uintR D 8 s := ⟨_, rfl⟩
  have hlr : lengthR D s = if 4611686018427387903 < r.1 then (0, r.2.fail 2 s.n) else r := by rw [hr]; rfl
  rw [← hr] at hu hb
  rw [hlr]
  obtain ⟨v, s2⟩ := r
  simp only at hu hb ⊢
  have hf := fun (W : World) (H : W.heap[g]? = some (rrS s2 D.length da dcap)) => rrfail_all g dcap da s2 W D.length 2 s.n H
  have HF := Lib.hid hf
  obtain ⟨N, hN⟩ : ∃ N, N = s.n := ⟨_, rfl⟩
  rw [← hN] at c1 HF ⊢
  generalize D.length = L at *
  by_cases hv : 4611686018427387903 < v
  · have hd : decide (4611686018427387903 < v) = true := decide_eq_true hv
    rw [if_pos hv]
    clear hf h hD hlr hr hN hv
    go_enter Try.func19, Try.ntmps19
    go_wp2_with fail
    refine hu.mono ?_
    rintro e w1 ⟨rfl, hb1, ho1⟩
    clear c0 c1 c2 c3
    go_wp2_with fail
    refine (HF.out w1 ho1).mono ?_
    rintro e w2 ⟨rfl, hb2, ho2⟩
    go_wp2
    go_ret
    exact ⟨rfl, hb1.trans (hb2.mono hb1.size), ho2⟩
  · have hd : decide (4611686018427387903 < v) = false := decide_eq_false hv
    rw [if_neg hv]
    clear hf h hD hlr hr hN HF
    go_enter Try.func19, Try.ntmps19
    go_wp2_with fail
    refine hu.mono ?_
    rintro e w1 ⟨rfl, hb1, ho1⟩
    clear c0 c1 c2 c3
    go_wp2
    go_ret
    exact ⟨rfl, hb1, ho1⟩
end
end Go.Proofs.Ytefonhnidkfbgaa
