/- WireStays returns true for all bytes, calls and numbers, and changes nothing that was there. -/
import Derived.Test.Ytclalbiggnalfaa06Ops
namespace Go.Proofs.Ytclalbiggnalfaa
open Go.RowKit
set_option linter.unusedVariables false
set_option linter.unusedSimpArgs false

/-- Of what was there only the reader has changed. -/
def NowRd (g : Nat) (D : List Int) (da : Option Addr) (dcap : Nat) (w : World) (n : Nat) (c p : Int) (w' : World) : Prop := But g w.heap.size w w' ∧ w'.heap[g]? = some (rdO n D.length da dcap c p)
theorem HeldX.now {w0 : World} {g : Nat} {o : Obj} {bs : List (Nat × Obj)} (s : HeldX w0 g ((g, o) :: bs)) {D : List Int} {da : Option Addr} {dcap n : Nat} {c p : Int} {w' : World} (h : NowRd g D da dcap s.w n c p w') (hne : ∀ q ∈ bs, q.1 ≠ g) :
    ∃ s' : HeldX w0 g ((g, rdO n D.length da dcap c p) :: bs), w' = s'.w :=
  ⟨⟨w', s.but.trans (h.1.mono s.but.size), List.forall_mem_cons.2 ⟨h.2, fun q hq => (h.1.block _ (Array.getElem?_eq_some_iff.1 (s.blocks q (List.mem_cons_of_mem _ hq))).1 (hne q hq)).trans (s.blocks q (List.mem_cons_of_mem _ hq))⟩⟩, rfl⟩

theorem uint1_some (g dcap : Nat) (da : Option Addr) (D : List Int) (w : World) (h : w.heap[g]? = some (rdO 0 D.length da dcap 0 0)) (hD : BytesIn w da D dcap) :
    Calls Try.prog 12 #[.pointer (some ⟨g, 0, none⟩), .int .i64 1] w fun e w' => ∃ v n c p, e = .returned (.int .u64 v) ∧ NowRd g D da dcap w n c p w' := by
  have hL : D.length ≤ 9223372036854775807 := Nat.le_trans hD.len hD.capb
  by_cases hp : 1 ≤ D.length
  · have := uint_ok g 0 dcap da w D 0 1 h (by omega) (by omega) hD
    refine this.mono ?_
    rintro e w' ⟨rfl, hb, ho⟩
    exact ⟨_, _, _, _, rfl, hb, ho⟩
  · have := uint_short g 0 D.length dcap da w 0 1 h (by omega) (by omega) hL (by omega)
    refine this.mono ?_
    rintro e w' ⟨rfl, hb, ho⟩
    exact ⟨_, _, _, _, rfl, hb, ho⟩
theorem fail_some (g n dcap : Nat) (da : Option Addr) (D : List Int) (c p code at_ : Int) (w : World) (h : w.heap[g]? = some (rdO n D.length da dcap c p)) (hc : code ≠ 0) :
    Calls Try.prog 17 #[.pointer (some ⟨g, 0, none⟩), .int .i64 code, .int .i64 at_] w fun e w' => ∃ c' p', c' ≠ 0 ∧ e = .returned (.tuple #[]) ∧ NowRd g D da dcap w n c' p' w' := by
  by_cases h0 : c = 0
  · subst h0
    refine (fail_any g n D.length dcap da p code at_ w h hc).mono ?_
    rintro e w' ⟨rfl, hb, ho⟩
    exact ⟨code, at_, hc, rfl, hb, ho⟩
  · refine (fail_no g n D.length dcap da c p code at_ w h h0).mono ?_
    rintro e w' ⟨rfl, hb⟩
    exact ⟨c, p, h0, rfl, But.of_below hb, heap_below h hb⟩

abbrev xO (x0 x1 : Int) : Obj := .cells #[.int .u8 x0, .int .u8 x1] 45 (0, 0)
abbrev ftO (c p : Int) : Obj := .cells #[.int .i64 c, .int .i64 p] 41 (0, 0)
abbrev opO (k n : Int) (v : Value) : Obj := .cells #[.int .i64 k, .int .i64 n, v] 49 (0, 0)

theorem op_cells {w0 : World} {g B : Nat} {k n : Int} {v : Value} {bs : List (Nat × Obj)} (s : HeldX w0 g bs) (h : (B, opO k n v) ∈ bs) : s.w.cell? ⟨B, 0, none⟩ = some (.int .i64 k) ∧ s.w.cell? ⟨B, 1, none⟩ = some (.int .i64 n) ∧ s.w.cell? ⟨B, 2, none⟩ = some v := by
  have hb := s.blocks _ h
  rw [cell_of hb, cell_of hb, cell_of hb]
  exact ⟨rfl, rfl, rfl⟩

set_option maxRecDepth 100000 in
set_option maxHeartbeats 4000000 in
theorem stays_big (l : List Int) (a : Option Addr) (cap : Nat) (os : List Op6) (oa : Option Addr) (ocap : Nat) (x0 x1 : Int) (w : World) (hl : l.length ≤ 9223372036854775807) (hbig : 1000 < l.length) :
    Calls Try.prog 5 #[.slice a l.length cap, .slice oa os.length ocap, .agg #[.int .u8 x0, .int .u8 x1]] w (Gives (.bool true) w) := by
  have ha := alive06_gives
  have d1 : decide ((1000 : Int) < l.length) = true := by simp; omega
  clear hbig
  go_enter Try.func5, Try.ntmps5
  go_wp2_with fail
  refine (HeldW.call (s := (HeldW.start w).push (xO x0 x1)) (ha _)).mono ?_
  rintro e _ ⟨rfl, s1, rfl⟩
  go_wp2
  go_ret
  exact ⟨rfl, s1.below⟩

set_option maxRecDepth 100000 in
set_option maxHeartbeats 4000000 in
theorem stays_small (l : List Int) (a : Option Addr) (cap : Nat) (os : List Op6) (oa : Option Addr) (ocap : Nat) (x0 x1 : Int) (w : World) (hb : BytesIn w a l cap) (ho : OpsIn w oa os ocap) (hx0 : 0 ≤ x0 ∧ x0 < 256) (hx1 : 0 ≤ x1 ∧ x1 < 256) (h1 : l.length ≤ 1000) :
    Calls Try.prog 5 #[.slice a l.length cap, .slice oa os.length ocap, .agg #[.int .u8 x0, .int .u8 x1]] w (Gives (.bool true) w) := by
  have d1 : decide ((1000 : Int) < l.length) = false := by simp; omega
  obtain ⟨s0, hs0⟩ : ∃ s0 : HeldW w [(w.heap.size, xO x0 x1)], w.alloc (.cells #[.int .u8 x0, .int .u8 x1] 45) = s0.w := ⟨(HeldW.start w).push (xO x0 x1), rfl⟩
  have hfew := few6_any os oa ocap s0.w (ho.below s0.below)
  have HB := Lib.hid hb
  have HO := Lib.hid ho
  obtain ⟨M, hM⟩ : ∃ M, M = l.length := ⟨_, rfl⟩
  obtain ⟨N, hN⟩ : ∃ N, N = os.length := ⟨_, rfl⟩
  have hNb : N ≤ 9223372036854775807 := by rw [hN]; exact Nat.le_trans ho.len ho.capb
  rw [← hM] at h1 d1 ⊢
  rw [← hN] at hfew ⊢
  have HM := Lib.hid hM
  have HN := Lib.hid hN
  clear hb ho hM hN
  go_enter Try.func5, Try.ntmps5
  go_wp2_with fail
  refine hfew.mono ?_
  rintro e w1 ⟨bf, rfl, hb1⟩
  have hxb := heap_below (s0.blocks (w.heap.size, xO x0 x1) (by simp)) hb1
  have HB1 := Lib.hid (show Below w.heap.size w w1 from s0.below.trans (hb1.mono s0.below.size))
  clear hfew hb1 hs0 s0
  cases bf with
  | false =>
    go_wp2_with fail
    refine (HeldW.call (s := (⟨w1, HB1.out, by simp⟩ : HeldW w [])) (alive06_gives w1)).mono ?_
    rintro e _ ⟨rfl, s4, rfl⟩
    go_wp2
    go_ret
    exact ⟨rfl, s4.below⟩
  | true =>
    have hnw := wnew_any l a cap w1 (HB.out.below HB1.out) (by rw [← HM.out]; omega)
    rw [← HM.out] at hnw
    have HXB := Lib.hid hxb
    clear hxb
    go_wp2_with fail
    refine hnw.mono ?_
    rintro e X ⟨g, da, dcap, rfl, hg, hb4, hr, hD, hne⟩
    clear hnw
    have HX := Lib.hid (show Below w.heap.size w X from HB1.out.trans (hb4.mono HB1.out.size))
    have HG := Lib.hid (show w.heap.size ≤ g from Nat.le_trans HB1.out.size hg)
    have HOX := Lib.hid (HO.out.below HX.out)
    have hxX := heap_below HXB.out hb4
    have hxl := (Array.getElem?_eq_some_iff.1 HXB.out).1
    have HXG := Lib.hid (show w.heap.size ≠ g by omega)
    have HD := Lib.hid hD
    have HNE := Lib.hid (fun b o h => (hne b o h).2)
    have HON := Lib.hid (show ∀ b o, oa = some ⟨b, o, none⟩ → 0 < N → b ≠ g from fun b o h hp => by
      subst h
      obtain ⟨f, hf⟩ : ∃ f, os[0]? = some f := ⟨_, List.getElem?_eq_getElem (by rw [← HN.out]; exact hp)⟩
      obtain ⟨b', o', h1, hc, -⟩ := HO.out.at hf
      cases h1
      have := World.block_lt_of_cell? _ _ hc
      simp only at this
      have := HG.out
      omega)
    obtain ⟨B0, hB0⟩ : ∃ B0, B0 = w.heap.size := ⟨_, rfl⟩
    rw [← hB0] at hxX HXG ⊢
    have hu := uint1_some g dcap da l X hr hD
    have HR := Lib.hid hr
    have HXX := Lib.hid hxX
    clear hr hD hne hg hb4 hxX hxl hB0 HXB HB1
    go_wp2_with fail
    refine hu.mono ?_
    rintro e w5 ⟨v, n, c, p, rfl, hnow⟩
    obtain ⟨S1, rfl⟩ := HeldX.now (s := (⟨X, But.refl _ _ _, all2 HR.out HXX.out⟩ : HeldX X g [(g, rdO 0 l.length da dcap 0 0), (B0, xO x0 x1)])) hnow (all1 (Q := fun q : Nat × Obj => q.1 ≠ g) HXG.out)
    clear hu hnow HR HXX
    have hbx := S1.blocks (B0, xO x0 x1) (by simp)
    have c0 : S1.w.cell? ⟨B0, 0, none⟩ = some (.int .u8 x0) := by rw [cell_of hbx]; rfl
    have c1 : S1.w.cell? ⟨B0, 1, none⟩ = some (.int .u8 x1) := by rw [cell_of hbx]; rfl
    have hf := fail_some g n dcap da l c p (x0 + 1) x1 S1.w (S1.blocks (g, _) (by simp)) (by omega)
    clear hbx
    go_wp2_with fail
    refine hf.mono ?_
    rintro e w6 ⟨c2, p2, hc2, rfl, hnow⟩
    obtain ⟨S2, rfl⟩ := HeldX.now (s := S1) hnow (all1 (Q := fun q : Nat × Obj => q.1 ≠ g) HXG.out)
    clear hf hnow c0 c1
    go_wp2_with fail
    refine (HeldX.call (s := S2) (fault_any g n l.length dcap da c2 p2 _ (S2.blocks (g, _) (by simp)))).mono ?_
    rintro e _ ⟨rfl, S3, rfl⟩
    go_wp2_with fail
    refine (HeldX.call (s := S3) (gives_same (at_any g n l.length dcap da c2 p2 _ (S3.blocks (g, _) (by simp))))).mono ?_
    rintro e _ ⟨rfl, S4, rfl⟩
    obtain ⟨B1, S5, hB1, hS5⟩ : ∃ (B1 : Nat) (S5 : HeldX X g [(B1, ftO c2 p2), (g, rdO n l.length da dcap c2 p2)]), S4.w.heap.size = B1 ∧ S4.w.alloc (.cells #[.int .i64 c2, .int .i64 p2] 41) = S5.w :=
      ⟨_, (S4.push (ftO c2 p2)).sub (by simp), rfl, rfl⟩
    go_wp2
    clear hS5 hB1 S1 S2 S3 S4
    go_loopw [11, 42] (fun _ i wr => ∃ k : Nat, k ≤ N ∧ i = .int .i64 k ∧ ∃ S : HeldX X g [(B1, ftO c2 p2), (g, rdO n l.length da dcap c2 p2)], wr = S.w) (fun _ i _ => N - (intOf i).toNat)
    case atStart => exact ⟨0, by omega, rfl, S5, rfl⟩
    case round =>
      clear S5
      obtain ⟨i, hi, rfl, S, rfl⟩ := hrel
      by_cases hlt : i < N
      · obtain ⟨c, hc⟩ : ∃ c, os[i]? = some c := ⟨_, List.getElem?_eq_getElem (by rw [← HN.out]; exact hlt)⟩
        obtain ⟨b, o, hoA, y0, y1, y2⟩ := HOX.out.at hc
        obtain ⟨hk, hn, -⟩ := HOX.out.ok _ (List.mem_of_getElem? hc)
        have hbg := HON.out b o hoA (by omega)
        subst hoA
        replace y0 := src_cellX hbg y0 S
        replace y1 := src_cellX hbg y1 S
        replace y2 := src_cellX hbg y2 S
        clear hc hbg
        obtain ⟨k, z, dl, sa, scap⟩ := c
        simp only at y0 y1 y2 hk hn
        obtain ⟨S1, hS1⟩ : ∃ S1 : HeldX X g [(S.w.heap.size, opO k z (.slice sa dl.length scap)), (B1, ftO c2 p2), (g, rdO n l.length da dcap c2 p2)], S.w.alloc (.cells #[.int .i64 k, .int .i64 z, .slice sa dl.length scap] 49) = S1.w := ⟨S.push _, rfl⟩
        obtain ⟨z0, z1, z2⟩ := op_cells (B := S.w.heap.size) (k := k) (n := z) (v := .slice sa dl.length scap) S1 (by simp)
        have hun := uint_not g n l.length dcap da S1.w c2 p2 z (S1.blocks (g, _) (by simp)) hc2
        have hbn := bytes_not g n l.length dcap da S1.w c2 p2 z (S1.blocks (g, _) (by simp)) hc2
        have hln := length_not g n l.length dcap da S1.w c2 p2 (S1.blocks (g, _) (by simp)) hc2
        have hen := expect_not g n l.length dcap da S1.w (.slice sa dl.length scap) c2 p2 9 (S1.blocks (g, _) (by simp)) hc2
        by_cases q0 : k = 0
        · subst q0
          go_wp2_with fail
          refine (HeldX.call (s := S1) hun).mono ?_
          rintro e _ ⟨rfl, S2, rfl⟩
          clear hun hbn hln hen z0 z1 z2
          obtain ⟨z0, z1, z2⟩ := op_cells (B := S.w.heap.size) (k := 0) (n := z) (v := .slice sa dl.length scap) S2 (by simp)
          go_wp2
          go_roundw
          case rel => exact ⟨i + 1, by omega, by go_num, S2.sub (by simp), rfl⟩
          case measure => simp [intOf]; omega
        · have e0 : (k == 0) = false := by simpa using q0
          by_cases q1 : k = 1
          · subst q1
            go_wp2_with fail
            refine (HeldX.call (s := S1) hln).mono ?_
            rintro e _ ⟨rfl, S2, rfl⟩
            clear hun hbn hln hen z0 z1 z2
            obtain ⟨z0, z1, z2⟩ := op_cells (B := S.w.heap.size) (k := 1) (n := z) (v := .slice sa dl.length scap) S2 (by simp)
            go_wp2
            go_roundw
            case rel => exact ⟨i + 1, by omega, by go_num, S2.sub (by simp), rfl⟩
            case measure => simp [intOf]; omega
          · have e1 : (k == 1) = false := by simpa using q1
            by_cases q2 : k = 2
            · subst q2
              go_wp2_with fail
              refine (HeldX.call (s := S1) hbn).mono ?_
              rintro e _ ⟨rfl, S2, rfl⟩
              clear hun hbn hln hen z0 z1 z2
              obtain ⟨z0, z1, z2⟩ := op_cells (B := S.w.heap.size) (k := 2) (n := z) (v := .slice sa dl.length scap) S2 (by simp)
              go_wp2
              go_roundw
              case rel => exact ⟨i + 1, by omega, by go_num, S2.sub (by simp), rfl⟩
              case measure => simp [intOf]; omega
            · have e2 : (k == 2) = false := by simpa using q2
              by_cases q3 : k = 3
              · subst q3
                go_wp2_with fail
                refine (HeldX.call (s := S1) hen).mono ?_
                rintro e _ ⟨rfl, S2, rfl⟩
                clear hun hbn hln hen z0 z1 z2
                obtain ⟨z0, z1, z2⟩ := op_cells (B := S.w.heap.size) (k := 3) (n := z) (v := .slice sa dl.length scap) S2 (by simp)
                go_wp2
                go_roundw
                case rel => exact ⟨i + 1, by omega, by go_num, S2.sub (by simp), rfl⟩
                case measure => simp [intOf]; omega
              · have e3 : (k == 3) = false := by simpa using q3
                clear hun hbn hln hen
                go_wp2
                go_roundw
                case rel => exact ⟨i + 1, by omega, by go_num, S1.sub (by simp), rfl⟩
                case measure => simp [intOf]; omega
      · obtain rfl : N = i := by omega
        go_wp2_with fail
        have f0 : ∀ s : HeldX X g [(B1, ftO c2 p2), (g, rdO n l.length da dcap c2 p2)], s.w.cell? ⟨B1, 0, none⟩ = some (.int .i64 c2) := fun s => by rw [cell_of (s.blocks (B1, ftO c2 p2) (by simp))]; rfl
        have f1 : ∀ s : HeldX X g [(B1, ftO c2 p2), (g, rdO n l.length da dcap c2 p2)], s.w.cell? ⟨B1, 1, none⟩ = some (.int .i64 p2) := fun s => by rw [cell_of (s.blocks (B1, ftO c2 p2) (by simp))]; rfl
        have hal := fun s : HeldX X g [(B1, ftO c2 p2), (g, rdO n l.length da dcap c2 p2)] => alive06_gives s.w
        have hfa := fun s : HeldX X g [(B1, ftO c2 p2), (g, rdO n l.length da dcap c2 p2)] => fault_any g n l.length dcap da c2 p2 s.w (s.blocks (g, _) (by simp))
        have hat := fun s : HeldX X g [(B1, ftO c2 p2), (g, rdO n l.length da dcap c2 p2)] => gives_same (at_any g n l.length dcap da c2 p2 s.w (s.blocks (g, _) (by simp)))
        have hcb : (c2 != 0) = true := by simpa using hc2
        generalize l.length = LL at S f0 f1 hal hfa hat
        refine wp_region_X S (by kernel_rfl) (by kernel_rfl) (fun hne => ?_)
        repeat (go_big_quiet_step (first
          | (go_at_call 7; exact HeldX.call (hal _))
          | (go_at_call 15; exact HeldX.call (hfa _))
          | (go_at_call 14; exact HeldX.call (hat _))))
        refine wpQuiet_nil ?_
        rintro _ ⟨S2, rfl⟩
        go_wp2
        go_ret
        exact ⟨rfl, S2.below0 HX.out HG.out⟩

theorem wireStays_walk (a : Option Addr) (l : List Int) (cap : Nat) (oa : Option Addr) (os : List Op6) (ocap : Nat) (x0 x1 : Int) (w : World) (hb : BytesIn w a l cap) (ho : OpsIn w oa os ocap) (hx0 : 0 ≤ x0 ∧ x0 < 256) (hx1 : 0 ≤ x1 ∧ x1 < 256) :
    Calls Try.prog 5 #[.slice a l.length cap, .slice oa os.length ocap, .agg #[.int .u8 x0, .int .u8 x1]] w (Gives (.bool true) w) := by
  by_cases h : l.length ≤ 1000
  · exact stays_small l a cap os oa ocap x0 x1 w hb ho hx0 hx1 h
  · have h1 := hb.len
    have h2 := hb.capb
    exact stays_big l a cap os oa ocap x0 x1 w (by omega) (by omega)
end Go.Proofs.Ytclalbiggnalfaa
