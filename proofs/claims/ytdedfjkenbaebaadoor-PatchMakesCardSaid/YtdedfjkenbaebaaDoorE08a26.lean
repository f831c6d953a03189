import Derived.Great.BuildSlice
import Derived.Test.YtdedfjkenbaebaaDoorE08a25
import Derived.Test.YtdedfjkenbaebaaDoorE08a17
import Derived.Test.YtdedfjkenbaebaaDoorE08a2
import Derived.Test.YtdedfjkenbaebaaDoorE08a13
import Derived.Test.YtdedfjkenbaebaaDoorE08a16
import Derived.BigQuiet
import Derived.Test.YtdedfjkenbaebaaDoorE08a18
import Derived.Test.YtdedfjkenbaebaaDoorE08a24
import Derived.Test.YtdedfjkenbaebaaDoorE08a12
import Derived.Test.YtdedfjkenbaebaaDoorE08a19
/- The example of package patch. -/
namespace Go.Proofs.YtdedfjkenbaebaaDoor
open Go.RowKit Go.Shelf
set_option linter.unusedVariables false
set_option linter.unusedSimpArgs false

abbrev old8 : List Int := [97, 98, 99, 100, 101, 102]
abbrev new8 : List Int := [120, 99, 100, 101, 102, 97, 98]
theorem ex8_make : makeC old8 new8 2 = [(2, 0, 0, 0, [120]), (1, 1, 2, 4, []), (1, 5, 0, 2, [])] := by decide +kernel
theorem lit8 {w : World} {B : Nat} {l : List Int} {fr : Nat × Nat} (h : w.heap[B]? = some (.cells (byteA l) 5 fr)) (hl : l.length ≤ 1000) : BytesIn w (some ⟨B, 0, none⟩) l l.length :=
  ⟨Nat.le_refl _, by omega, fun _ => ⟨B, 0, rfl, fun i hi => by
    rw [Nat.zero_add, cell_of_row w B _ _ _ _ h]
    unfold byteA
    simp [hi]⟩, fun h => by cases h⟩
/-- The commands that the example asks for, the data of the first in block B. -/
abbrev want8 (B : Nat) : List Cmd := [⟨2, 0, 0, 0, [120], some ⟨B, 0, none⟩, 1⟩, ⟨1, 1, 2, 4, [], none, 0⟩, ⟨1, 5, 0, 2, [], none, 0⟩]
abbrev row8 (B : Nat) : Obj := .cells #[.int .i64 2, .int .i64 0, .int .i64 0, .int .i64 0, .slice (some ⟨B, 0, none⟩) 1 1, .int .i64 1, .int .i64 1, .int .i64 2, .int .i64 4, .slice none 0 0, .int .i64 1, .int .i64 5, .int .i64 0, .int .i64 2, .slice none 0 0] 46 (0, 0)
theorem want8_in {W : World} {B R : Nat} (hr : W.heap[R]? = some (row8 B)) (hb : W.heap[B]? = some (.cells (byteA [120]) 5 (1, 2))) : CmdsIn W (some ⟨R, 0, none⟩) (want8 B) 3 := by
  refine ⟨by simp, by omega, fun _ => ⟨_, 0, rfl, fun i c hc j u hu => ?_⟩, fun c hc => ?_, fun h => by cases h⟩
  · rw [Nat.zero_add, cell_of hr]
    have hi : i < 3 := by simpa using (List.getElem?_eq_some_iff.1 hc).1
    have hj : j < 5 := by simpa [Cmd.cells] using (List.getElem?_eq_some_iff.1 hu).1
    match i, hi with
    | 0, _ =>
      cases hc
      match j, hj with
      | 0, _ => cases hu; rfl
      | 1, _ => cases hu; rfl
      | 2, _ => cases hu; rfl
      | 3, _ => cases hu; rfl
      | 4, _ => cases hu; rfl
    | 1, _ =>
      cases hc
      match j, hj with
      | 0, _ => cases hu; rfl
      | 1, _ => cases hu; rfl
      | 2, _ => cases hu; rfl
      | 3, _ => cases hu; rfl
      | 4, _ => cases hu; rfl
    | 2, _ =>
      cases hc
      match j, hj with
      | 0, _ => cases hu; rfl
      | 1, _ => cases hu; rfl
      | 2, _ => cases hu; rfl
      | 3, _ => cases hu; rfl
      | 4, _ => cases hu; rfl
  · simp only [List.mem_cons, List.not_mem_nil, or_false] at hc
    have hnil : BytesIn W none [] 0 := ⟨Nat.le_refl _, by simp, fun h => by simp at h, fun _ => rfl⟩
    rcases hc with rfl | rfl | rfl
    · exact ⟨by unfold I64; simp, by unfold I64; simp, by unfold I64; simp, by unfold I64; simp, lit8 hb (by simp), fun x hx => by simp at hx; omega⟩
    · exact ⟨by unfold I64; simp, by unfold I64; simp, by unfold I64; simp, by unfold I64; simp, hnil, okB_nil⟩
    · exact ⟨by unfold I64; simp, by unfold I64; simp, by unfold I64; simp, by unfold I64; simp, hnil, okB_nil⟩
theorem conv8 (W : World) (cs : Array Value) (n : Nat) : (convert 22 22 (.slice (some ⟨W.heap.size, 0, none⟩) n n)).run Tryd.prog (W.alloc (.cells cs 5)) = .ok (.slice (some ⟨W.heap.size, 0, none⟩) n n) (W.alloc (.cells cs 5 (cs.size, cs.size + 1))) :=
  Lib.run_convert_bytes_const (P := Tryd.prog) W 22 5 cs n n Tryd.underlying22 Tryd.underlying5
abbrev oldO : Obj := .cells #[.int .u8 97, .int .u8 98, .int .u8 99, .int .u8 100, .int .u8 101, .int .u8 102] 5 (6, 7)
abbrev newO : Obj := .cells #[.int .u8 120, .int .u8 99, .int .u8 100, .int .u8 101, .int .u8 102, .int .u8 97, .int .u8 98] 5 (7, 8)
abbrev x8lit : Obj := .cells #[.int .u8 120] 5 (1, 2)

set_option maxRecDepth 100000 in
set_option maxHeartbeats 4000000 in
theorem alive08_any (w : World) (hR : Roots w) : Calls Tryd.prog 9 #[] w (Gives (.bool true) w) := by
  have hz := zero_delta
  obtain ⟨S, hS⟩ := start2 w oldO newO
  have hv1 : (convert 22 22 (.slice (some ⟨w.heap.size, 0, none⟩) 6 6)).run Tryd.prog (w.alloc (.cells #[.int .u8 97, .int .u8 98, .int .u8 99, .int .u8 100, .int .u8 101, .int .u8 102] 5)) = .ok (.slice (some ⟨w.heap.size, 0, none⟩) 6 6) (w.alloc oldO) := conv8 w _ 6
  have hv2 : (convert 22 22 (.slice (some ⟨w.heap.size + 1, 0, none⟩) 7 7)).run Tryd.prog ((w.alloc oldO).alloc (.cells #[.int .u8 120, .int .u8 99, .int .u8 100, .int .u8 101, .int .u8 102, .int .u8 97, .int .u8 98] 5)) = .ok (.slice (some ⟨w.heap.size + 1, 0, none⟩) 7 7) ((w.alloc oldO).alloc newO) := by
    have := conv8 (w.alloc oldO) #[.int .u8 120, .int .u8 99, .int .u8 100, .int .u8 101, .int .u8 102, .int .u8 97, .int .u8 98] 7
    rw [World.size_alloc] at this
    exact this
  have HM : Hid (Calls Tryd.prog 15 #[.slice (some ⟨w.heap.size, 0, none⟩) 6 6, .slice (some ⟨w.heap.size + 1, 0, none⟩) 7 7, .int .i64 2] S.w (MakePost old8 new8 2 S.w)) := Lib.hid (make8_any (some ⟨w.heap.size, 0, none⟩) (some ⟨w.heap.size + 1, 0, none⟩) old8 new8 6 7 2 S.w (hR.W S) (lit8 (S.blocks (w.heap.size, oldO) (by simp)) (by simp)) (lit8 (S.blocks (w.heap.size + 1, newO) (by simp)) (by simp)) (fun x hx => by simp at hx; omega) (fun x hx => by simp at hx; omega) (by simp) (by simp))
  have HS := Lib.hid hS
  clear hS
  go_enter Tryd.func9, Tryd.ntmps9
  go_wp2_with fail
  rw [HS.out]
  refine HM.out.mono ?_
  rintro e W1 ⟨D', g, ds, rfl, hD', hin, hco, hB, hg, hap⟩
  have hco0 := hco
  rw [ex8_make] at hco
  obtain ⟨S1, h1⟩ := S.after hB
  rw [h1] at hin ⊢
  have hdl : ds.length = 3 := by
    have := congrArg List.length hco
    unfold cores at this
    rw [List.length_map] at this
    exact this
  obtain ⟨B2, s2, hB2, hBw, hlt2, hS2⟩ := S1.more1 (deltaO zeroDel)
  have hg2 := s2.blocks (B2, deltaO zeroDel) (by simp)
  have hinf := infoDelta hD'
  have hone := hD'.one rfl
  have hsz : zeroDel.size = D'.size := by rw [zeroDel_of.size, hD'.size]
  have hq1 : w.heap.size + 1 < B2 := hlt2 (w.heap.size + 1, newO) (by simp)
  obtain ⟨s3, h3⟩ : ∃ s3 : HeldW w [(B2, deltaO D'), (w.heap.size + 1, newO), (w.heap.size, oldO)], s2.w.setRow B2 D' = s3.w := ⟨s2.row hBw (all2 (Q := fun p : Nat × Obj => p.1 ≠ B2) (by simp only; omega) (by simp only; omega)), rfl⟩
  have HS2 := Lib.hid (And.intro hB2 hS2)
  have H3 := Lib.hid h3
  have hin3 : CmdsIn s3.w (some ⟨g, 0, none⟩) ds ds.length := by
    have hb12 : Below S1.w.heap.size S1.w s2.w := by rw [← hS2]; exact (Below.refl _ _).alloc (Nat.le_refl _) _
    exact hin.below (by rw [← h3]; exact below_setRow hb12 (by omega) D')
  obtain ⟨X, hX⟩ : ∃ X, X = s3.w.heap.size := ⟨_, rfl⟩
  obtain ⟨X', s5, hX', hXw, hlt5, hS5⟩ := s3.more2 x8lit (row8 X)
  obtain rfl : X' = X := hX'.trans hX.symm
  have c66 : ((s3.w.alloc x8lit).alloc (row8 s3.w.heap.size)).cell? ⟨B2, 66, none⟩ = some (.slice (some ⟨g, 0, none⟩) ds.length ds.length) := by
    rw [← hX, hS5]
    exact (cell_of (s5.blocks (B2, deltaO D') (by simp)) 66).trans hD'.c66
  have hv3 : (convert 22 22 (.slice (some ⟨s3.w.heap.size, 0, none⟩) 1 1)).run Tryd.prog (s3.w.alloc (.cells #[.int .u8 120] 5)) = .ok (.slice (some ⟨s3.w.heap.size, 0, none⟩) 1 1) (s3.w.alloc x8lit) := conv8 s3.w _ 1
  have hb35 : Below s3.w.heap.size s3.w s5.w := by rw [← hS5]; exact ((Below.refl _ _).alloc (Nat.le_refl _) _).alloc (by simp) _
  have hin5 := hin3.below hb35
  have hwant : CmdsIn s5.w (some ⟨X' + 1, 0, none⟩) (want8 X') 3 := want8_in (s5.blocks (X' + 1, row8 X') (by simp)) (s5.blocks (X', x8lit) (by simp))
  have HALL : Hid (Calls Tryd.prog 24 #[.slice (some ⟨g, 0, none⟩) ds.length ds.length, .slice (some ⟨X' + 1, 0, none⟩) 3 3] s5.w (Gives (.bool true) s5.w)) := Lib.hid (by
    have := all_any (some ⟨g, 0, none⟩) (some ⟨X' + 1, 0, none⟩) ds (want8 X') ds.length 3 s5.w hin5 hwant
    rw [decide_eq_true (show cores ds = cores (want8 X') by rw [hco]; rfl)] at this
    exact this)
  have HX := Lib.hid (And.intro hX.symm hS5)
  have HIN := Lib.hid hin5
  have HDL := Lib.hid (And.intro hdl (And.intro hco0 hD'))
  clear hX' hlt2 hlt5 hX hS5 hB2 hS2 h3 h1 hB hg hap hin hin3 hin5 hwant hb35 hdl hco hco0 hv1 hv2 HM HS
  go_wp2_with (rw [HS2.out.2, ← HS2.out.1]; refine wpList_store_rowTo rfl 26 (.tmp 1) (.tmp 7) rfl rfl B2 D' rfl rfl 26 zeroDel hg2 hinf hsz hone ?_; rw [H3.out])
  rw [HX.out.1, HX.out.2]
  refine HALL.out.mono ?_
  rintro e W6 ⟨rfl, hb6⟩
  have hin6 := HIN.out.below hb6
  obtain ⟨s6, h6⟩ := s5.after hb6
  rw [h6] at hin6 ⊢
  clear h6 hb6 c66 hv3 HALL hg2 HS2 H3 HX HIN s5 s3 s2
  have c0 : s6.w.cell? ⟨B2, 0, none⟩ = some (.int .i64 6) := (cell_of (s6.blocks (B2, deltaO D') (by simp)) 0).trans HDL.out.2.2.c0
  have c1 : s6.w.cell? ⟨B2, 1, none⟩ = some (.int .i64 7) := (cell_of (s6.blocks (B2, deltaO D') (by simp)) 1).trans HDL.out.2.2.c1
  obtain ⟨B7, s7, hB7, hB7w, hlt7, hS7⟩ := s6.more1 oldO
  have hv4 : (convert 22 22 (.slice (some ⟨s6.w.heap.size, 0, none⟩) 6 6)).run Tryd.prog (s6.w.alloc (.cells #[.int .u8 97, .int .u8 98, .int .u8 99, .int .u8 100, .int .u8 101, .int .u8 102] 5)) = .ok (.slice (some ⟨s6.w.heap.size, 0, none⟩) 6 6) (s6.w.alloc oldO) := conv8 s6.w _ 6
  have hgD : (s6.w.alloc oldO).heap[B2]? = some (deltaO D') := by rw [hS7]; exact s7.blocks (B2, deltaO D') (by simp)
  have hb67 : Below s6.w.heap.size s6.w s7.w := by rw [← hS7]; exact (Below.refl _ _).alloc (Nat.le_refl _) _
  have HAP : Hid (Calls Tryd.prog 10 #[.slice (some ⟨B7, 0, none⟩) 6 6, .agg D'] s7.w (MakesB new8 s7.w)) := Lib.hid (by
    have hv := make_valid HDL.out.2.1 (by simp) (by simp)
    have := papply_yes old8 (some ⟨B7, 0, none⟩) 6 D' 6 7 _ _ _ ds ds.length HDL.out.2.2 s7.w (lit8 (s7.blocks (B7, oldO) (by simp)) (by simp)) (hin6.below hb67) (by rw [HDL.out.1]; omega) (by omega) rfl hv
    rw [show newF old8 7 ds = new8 from make_new HDL.out.2.1 (by simp) (by simp)] at this
    exact this)
  have HS7 := Lib.hid (And.intro hB7 hS7)
  clear hB7 hS7 hlt7 hin6 hb67
  go_wp2_with (refine wpList_load_rowG rfl 26 (.tmp 1) rfl (some 31) rfl B2 rfl 26 _ (0, 0) _ hgD Tryd.underlying26 rfl hinf ?_)
  rw [← HS7.out.1, HS7.out.2]
  refine HAP.out.mono ?_
  rintro e W8 ⟨g8, rfl, hg8, hblk, hb8⟩
  have hst : (convert 22 9 (.slice (some ⟨g8, 0, none⟩) 7 7)).run Tryd.prog W8 = .ok (.string ⟨#[120, 99, 100, 101, 102, 97, 98]⟩) W8 := by
    have := conv_str (lit8 hblk (by simp))
    rw [show strOf new8 = ⟨#[120, 99, 100, 101, 102, 97, 98]⟩ by decide +kernel] at this
    exact this
  have HB := Lib.hid (show Below w.heap.size w W8 from s7.below.trans (hb8.mono s7.below.size))
  clear hgD c0 c1 hv4 HAP HS7 hblk hb8 hg8 s7 s6
  go_wp2
  go_ret
  exact ⟨rfl, HB.out⟩
end Go.Proofs.YtdedfjkenbaebaaDoor

/- Fits of the reference of package patch. -/
namespace Go.Proofs.YtdedfjkenbaebaaDoor
open Go.RowKit
set_option linter.unusedVariables false
set_option linter.unusedSimpArgs false

/-- What Fits asks. -/
def FitsD (L : Nat) (o n : Int) (cs : List Cmd) : Prop := ((FewD cs ∧ (faultOf o n cs).1 = 0) ∧ o = (L : Int)) ∧ n ≤ 3000
set_option maxRecDepth 100000 in
set_option maxHeartbeats 4000000 in
theorem rfits8_any (a : Option Addr) (L cap : Nat) (D : Array Value) (o n : Int) (x y : List Int) (ca : Option Addr) (cs : List Cmd) (ccap : Nat) (hD : DeltaOf D o n x y (.slice ca cs.length ccap)) (w : World) (h : CmdsIn w ca cs ccap) :
    Calls Tryd.prog 12 #[.slice a L cap, .agg D] w (fun e w' => ∃ r : Bool, e = .returned (.bool r) ∧ (r = true ↔ FitsD L o n cs) ∧ Below w.heap.size w w') := by
  obtain ⟨S, hS⟩ := start1 w (deltaO D)
  have hc := few_any D o n x y ca cs ccap hD S.w (h.W S)
  have HV := Lib.hid (fun s : HeldW w [(w.heap.size, deltaO D)] => rdvalid_any D o n x y ca cs ccap hD s.w (h.W s))
  have HG := Lib.hid (fun s : HeldW w [(w.heap.size, deltaO D)] => s.blocks (w.heap.size, deltaO D) (by simp))
  have HC := Lib.hid (fun s : HeldW w [(w.heap.size, deltaO D)] => And.intro ((cell_of (s.blocks (w.heap.size, deltaO D) (by simp)) 0).trans hD.c0) ((cell_of (s.blocks (w.heap.size, deltaO D) (by simp)) 1).trans hD.c1))
  have hinf := infoDelta hD
  have hg : (w.alloc (deltaO D)).heap[w.heap.size]? = some (deltaO D) := heap_new w _ rfl
  have HS := Lib.hid hS
  obtain ⟨POST, hP⟩ : ∃ P : Ending → World → Prop, P = (fun e w' => ∃ r : Bool, e = .returned (.bool r) ∧ (r = true ↔ FitsD L o n cs) ∧ Below w.heap.size w w') := ⟨_, rfl⟩
  have HQ : Hid (∀ (s : HeldW w [(w.heap.size, deltaO D)]) (r : Bool), (r = true ↔ FitsD L o n cs) → POST (.returned (.bool r)) s.w) := Lib.hid fun s r hr => by
    rw [hP]; exact ⟨r, rfl, hr, s.below⟩
  rw [← hP]
  unfold FitsD at HQ
  by_cases h1 : FewD cs
  · rw [decide_eq_true h1] at hc
    by_cases h2 : (faultOf o n cs).1 = 0
    · rw [decide_eq_true h2] at HV
      have HQ2 : Hid (∀ (s : HeldW w [(w.heap.size, deltaO D)]) (r : Bool), (r = true ↔ (o = (L : Int)) ∧ n ≤ 3000) → POST (.returned (.bool r)) s.w) := Lib.hid fun s r hr => HQ.out s r (by simp [h1, h2, hr])
      generalize FewD cs = F1 at *
      generalize (faultOf o n cs).1 = F2 at *
      clear hD h hP hS HQ h1 h2
      go_enter Tryd.func12, Tryd.ntmps12
      go_wp2_with (refine wpList_load_row rfl 26 (.tmp 3) rfl w.heap.size rfl 26 _ (0, 0) _ hg Tryd.underlying26 rfl hinf ?_)
      rw [HS.out]
      clear hg
      refine (HeldW.call hc).mono ?_
      rintro e _ ⟨rfl, s2, rfl⟩
      have hg := HG.out s2
      go_wp2_with (refine wpList_load_rowG rfl 26 (.tmp 3) rfl (some 8) rfl w.heap.size rfl 26 _ (0, 0) _ hg Tryd.underlying26 rfl hinf ?_)
      refine (HeldW.call (HV.out s2)).mono ?_
      rintro e _ ⟨rfl, s3, rfl⟩
      obtain ⟨c0, c1⟩ := HC.out s3
      clear hg hc s2
      by_cases h3 : o = (L : Int)
      · have e3 : (o == (L : Int)) = true := by simpa using h3
        have H3 := Lib.hid h3
        clear h3
        by_cases h4 : n ≤ 3000
        · have HR := Lib.hid (HQ2.out s3 true (by simp [H3.out, h4]))
          go_wp2
          exact HR.out
        · have HR := Lib.hid (HQ2.out s3 false (by simp [H3.out, h4]))
          have e4 : decide (n ≤ 3000) = false := decide_eq_false h4
          clear h4
          go_wp2
          exact HR.out
      · have e3 : (o == (L : Int)) = false := by simpa using h3
        have HR := Lib.hid (HQ2.out s3 false (by simp [h3]))
        clear h3
        go_wp2
        exact HR.out
    · rw [decide_eq_false h2] at HV
      have HQ2 : Hid (∀ (s : HeldW w [(w.heap.size, deltaO D)]), POST (.returned (.bool false)) s.w) := Lib.hid fun s => HQ.out s false (by simp [h2])
      generalize FewD cs = F1 at *
      generalize (faultOf o n cs).1 = F2 at *
      clear hD h hP hS HQ h1 h2
      go_enter Tryd.func12, Tryd.ntmps12
      go_wp2_with (refine wpList_load_row rfl 26 (.tmp 3) rfl w.heap.size rfl 26 _ (0, 0) _ hg Tryd.underlying26 rfl hinf ?_)
      rw [HS.out]
      clear hg
      refine (HeldW.call hc).mono ?_
      rintro e _ ⟨rfl, s2, rfl⟩
      have hg := HG.out s2
      go_wp2_with (refine wpList_load_rowG rfl 26 (.tmp 3) rfl (some 8) rfl w.heap.size rfl 26 _ (0, 0) _ hg Tryd.underlying26 rfl hinf ?_)
      refine (HeldW.call (HV.out s2)).mono ?_
      rintro e _ ⟨rfl, s3, rfl⟩
      have HR := Lib.hid (HQ2.out s3)
      clear hg hc s2
      go_wp2
      exact HR.out
  · rw [decide_eq_false h1] at hc
    have HQ2 : Hid (∀ (s : HeldW w [(w.heap.size, deltaO D)]), POST (.returned (.bool false)) s.w) := Lib.hid fun s => HQ.out s false (by simp [h1])
    generalize FewD cs = F1 at *
    generalize (faultOf o n cs).1 = F2 at *
    clear hD h hP hS HQ h1
    go_enter Tryd.func12, Tryd.ntmps12
    go_wp2_with (refine wpList_load_row rfl 26 (.tmp 3) rfl w.heap.size rfl 26 _ (0, 0) _ hg Tryd.underlying26 rfl hinf ?_)
    rw [HS.out]
    clear hg
    refine (HeldW.call hc).mono ?_
    rintro e _ ⟨rfl, s2, rfl⟩
    have HR := Lib.hid (HQ2.out s2)
    clear hc
    go_wp2
    exact HR.out
end Go.Proofs.YtdedfjkenbaebaaDoor

/- Apply of the reference of package patch. -/
namespace Go.Proofs.YtdedfjkenbaebaaDoor
open Go.RowKit Go.Proofs.YtdedfjkenbaebaaDoor.Plain01
set_option linter.unusedVariables false
set_option linter.unusedSimpArgs false

theorem valid_cover8 {o n : Int} {l : List Int} {cs : List Cmd} (ho : (l.length : Int) = o) (hv : ValidD o n cs) : ∀ c ∈ cs, okE c.tgt = true ∧ (c.k = 1 ∨ c.k = 2) := fun c hc => by
  have hs := hv.all c hc
  have h2 := (single_ok hs).2.1
  have hl := hv.lens
  unfold LensBad at hl
  exact ⟨okE_iff.2 ⟨by unfold Cmd.tgt; simp only; omega, by unfold Cmd.tgt; simp only; omega, by unfold Cmd.tgt; simp only; omega⟩, (cont_len ho hs).2⟩

/-- A row of bytes that grows. -/
abbrev GB8 (w0 : World) (bs : List (Nat × Obj)) (v : Value) (l : List Int) := Grow w0 none bs [] 5 1 v l.length (l.map (Value.int .u8))
theorem GB8.start (w0 : World) (ob : Obj) : ∃ S : GB8 w0 [(w0.heap.size, ob)] (.slice none 0 0) [], w0.alloc ob = S.w :=
  ⟨⟨w0.alloc ob, ButO.of_below ((Below.refl _ _).alloc (Nat.le_refl _) ob), World.ownsRow_nil _ w0.heap.size 5 1, (fun g hg => by cases hg), (fun p hp => by
    obtain rfl := List.mem_singleton.1 hp
    exact ⟨heap_new w0 ob rfl, by simp [Value.ownBlock]⟩), (fun p hp => by simp at hp)⟩, rfl⟩
/-- One byte out of a block of its own. -/
theorem GB8.one {w0 : World} {bs : List (Nat × Obj)} {v : Value} {l : List Int} {ops : Array Oper} {rest : List Oper} {o : Oper} {a : Act} {Q : Exit → Act → World → Prop} (S : GB8 w0 bs v l) (sO srcO : Operand)
    (hgd : o.guard = none) (ho : o.op = .call { callee := .builtin .append, args := #[sO, srcO], argTypes := #[22, 22] }) (hs : a.eval sO = v) (x : Int) (hx : a.eval srcO = .slice (some ⟨S.w.heap.size, 0, none⟩) 1 1) (hl : l.length ≤ 100000000)
    (H : ∀ v' (S' : GB8 w0 bs v' (l ++ [x])), wpList Tryd.prog ops Q rest (a.put o.dst v') S'.w) : wpList Tryd.prog ops Q (o :: rest) a (S.w.alloc (.cells #[.int .u8 x] 5)) := by
  obtain ⟨E, hE⟩ := elemW8
  obtain ⟨S1, h1⟩ := S.push (.cells #[.int .u8 x] 5 (0, 0))
  have hb := (S1.blocks (S.w.heap.size, .cells #[.int .u8 x] 5 (0, 0)) (by simp)).1
  rw [h1]
  refine Grow.append E S1 sO srcO hgd ho hs ⟨S.w.heap.size, 0, none⟩ 1 1 [.int .u8 x] rfl hx (fun j u hu => ?_) (by simp [Value.oneCell']) (by unfold maxLen; omega) (by rw [hE]; omega) (fun v' S2 => ?_)
  · rw [Addr.add_mid, Nat.zero_add, cell_of hb]
    simpa using hu
  · obtain ⟨S3, h3⟩ := S2.sub (bs' := bs) (fun p hp => List.mem_cons_of_mem _ hp)
    obtain ⟨S4, h4⟩ := S3.conv (n' := (l ++ [x]).length) (xs' := (l ++ [x]).map (Value.int .u8)) (by simp) (by simp)
    rw [h3, h4]
    exact H v' S4
/-- A new zero command. -/
def IsBox5 (base : Nat) : Value → World → Prop := fun v w => ∃ B, v = .pointer (some ⟨B, 0, none⟩) ∧ base ≤ B ∧ w.heap[B]? = some (cmdO 0 0 0 0 (.slice none 0 0))
theorem stable_Box5 (base : Nat) : Stable (fun W W' => Below W.heap.size W W') (IsBox5 base) := fun v w w' ⟨B, h1, h2, h3⟩ hE => ⟨B, h1, h2, (hE.block _ (Array.getElem?_eq_some_iff.1 h3).1).trans h3⟩
/-- A new zero command is written as a whole. -/
theorem Grow.fill5 {w0 : World} {bs : List (Nat × Obj)} {els : List Sl7} {e : TypeId} {size : Nat} {v : Value} {n : Nat} {xs : List Value} (S : Grow w0 none bs els e size v n xs) {W : World} (hW : Below S.w.heap.size S.w W) {B : Nat} (hB : S.w.heap.size ≤ B) {cells old : Array Value} {t : TypeId} (hb : W.heap[B]? = some (.cells old t (0, 0))) :
    ∃ S' : Grow w0 none ((B, .cells cells t (0, 0)) :: bs) els e size v n xs, W.setRow B cells = S'.w := by
  have hbw : Below S.w.heap.size S.w (W.setRow B cells) := below_setRow hW hB _
  exact S.keep (ButO.of_below hbw) _ (List.forall_mem_cons.2 ⟨⟨setRow_heap _ _ _ _ _ _ hb, fun hg => by have := S.ownLt hg; simp only at this; omega⟩, S.held hbw⟩)

theorem newF_step {o : Int} {n : Nat} {l : List Int} {cs : List Cmd} (ho : (l.length : Int) = o) (hv : ValidD o n cs) {k : Nat} (hk : k < n) : ∃ (fi : Nat) (c : Cmd) (i : Nat) (x : Int), findOf cs (k : Int) = fi ∧ cs[fi]? = some c ∧ (k : Int) = c.t + i ∧ (i : Int) < c.w ∧ (c.cont l)[i]? = some x ∧ (newF l n cs).take (k + 1) = (newF l n cs).take k ++ [x] := by
  have hfs := findOf_spec cs (k : Int)
  obtain ⟨j, c0, hj, hh⟩ := (hv.some (k : Int)).1 ⟨by omega, by omega⟩
  have hne : findOf cs (k : Int) ≠ -1 := fun he => hfs.no he c0 (List.mem_of_getElem? hj) hh
  obtain ⟨fi, c, hf, hfc, hc, -⟩ := hfs.yes hne
  have hm := List.mem_of_getElem? hfc
  have hs := hv.all c hm
  have hsb := (single_ok hs).2.1
  have hw := (cont_len ho hs).1
  unfold Cmd.has at hc
  obtain ⟨i, hi⟩ : ∃ i : Nat, (k : Int) = c.t + i := ⟨(k - c.t).toNat, by omega⟩
  have hat := newF_at ho hv hm (i := i) (by omega)
  have hlen : i < (c.cont l).length := by omega
  rw [List.getElem?_eq_getElem hlen, show c.t.toNat + i = k by omega] at hat
  refine ⟨fi, c, i, (c.cont l)[i], hf, hfc, hi, by omega, List.getElem?_eq_getElem hlen, ?_⟩
  rw [List.take_add_one, hat]
  rfl

set_option maxRecDepth 100000 in
set_option maxHeartbeats 4000000 in
theorem rapply8_any (l : List Int) (a : Option Addr) (cap : Nat) (D : Array Value) (o : Int) (n : Nat) (x y : List Int) (ca : Option Addr) (cs : List Cmd) (ccap : Nat) (hD : DeltaOf D o n x y (.slice ca cs.length ccap)) (w : World) (hl : BytesIn w a l cap) (h : CmdsIn w ca cs ccap) (hL : cs.length ≤ 1000000) (hn : n ≤ 1000000) (ho : (l.length : Int) = o) (hv : ValidD o n cs) :
    Calls Tryd.prog 13 #[.slice a l.length cap, .agg D] w (MakesR 5 ((newF l n cs).map (Value.int .u8)) w) := by
  have hcov := valid_cover8 ho hv
  have HFIND := Lib.hid (fun (z : Int) (W : World) (hW : Below w.heap.size w W) => rfind_any D o n x y ca cs ccap hD z W (h.below hW) (fun c hc => (hcov c hc).1))
  have HLD := Lib.hid (fun (W : World) (hW : W.heap[w.heap.size]? = some (deltaO D)) => load_delta hD hW)
  have HD1 := Lib.hid (fun (W : World) (hW : W.heap[w.heap.size]? = some (deltaO D)) => (cell_of hW 1).trans hD.c1)
  have HD66 := Lib.hid (fun (W : World) (hW : W.heap[w.heap.size]? = some (deltaO D)) => (cell_of hW 66).trans hD.c66)
  have HSTEP := Lib.hid (fun k (hk : k < n) => newF_step ho hv hk)
  have HV := Lib.hid (And.intro ho hv)
  have HC := Lib.hid h
  have HL := Lib.hid hl
  have HLEN := Lib.hid (newF_length l n cs)
  have hccap := h.capb
  have hclen := h.len
  obtain ⟨CC, hCC⟩ : ∃ m, m = cs.length := ⟨_, rfl⟩
  have HCC := Lib.hid hCC
  rw [← hCC] at HD66 hclen hL
  obtain ⟨LL, hLL⟩ : ∃ m, m = l.length := ⟨_, rfl⟩
  have HLL := Lib.hid hLL
  have hlcap := hl.capb
  have hllen := hl.len
  rw [← hLL] at hllen ⊢
  obtain ⟨F, hF⟩ : ∃ F, F = newF l n cs := ⟨_, rfl⟩
  rw [← hF] at HSTEP HLEN ⊢
  obtain ⟨POST, hP⟩ : ∃ P, P = MakesR 5 (F.map (Value.int .u8)) w := ⟨_, rfl⟩
  have HP := Lib.hid hP
  rw [← hP]
  clear hD hl h ho hv hcov hCC hLL hF hP
  go_enter Tryd.func13, Tryd.ntmps13
  go_wp2
  obtain ⟨G0, h0⟩ := GB8.start w (deltaO D)
  rw [h0]
  clear h0
  go_loopw [5, 6] (fun v i wr => ∃ k : Nat, k ≤ n ∧ i = .int .i64 k ∧ ∃ m : List Int, Hid (m = F.take k) ∧ ∃ G : GB8 w [(w.heap.size, deltaO D)] v m, wr = G.w) (fun _ i _ => n - (intOf i).toNat)
  case atStart => exact ⟨0, by omega, rfl, [], Lib.hid (by simp), G0, rfl⟩
  case round =>
    clear G0
    obtain ⟨k, hk, rfl, m, hm, G, rfl⟩ := hrel
    have hml : m.length ≤ 1000000 := by rw [hm.out, List.length_take]; omega
    have hg := (G.blocks (w.heap.size, deltaO D) (by simp)).1
    have hg1 := HD1.out _ hg
    by_cases hlt : k < n
    · obtain ⟨fi, c, i, xb, hfi, hci, hki, hiw, hxb, htk⟩ := HSTEP.out k hlt
      have hcm := List.mem_of_getElem? hci
      have hs0 := HV.out.2.all c hcm
      have hsb := (single_ok hs0).2.1
      have hlens := HV.out.2.lens
      unfold LensBad at hlens
      have hfic : fi < CC := by rw [HCC.out]; exact (List.getElem?_eq_some_iff.1 hci).1
      have HTK := Lib.hid htk
      have HFI := Lib.hid hfi
      have HGB := Lib.hid (show ∀ W, Below G.w.heap.size G.w W → Below w.heap.size w W from fun W hW => G.but.below.trans (hW.mono G.but.size))
      have HGH := Lib.hid (show ∀ W, Below G.w.heap.size G.w W → W.heap[w.heap.size]? = some (deltaO D) from fun W hW => heap_below hg hW)
      obtain ⟨b, oo, rfl, x0, x1, x2, x3, x4⟩ := HC.out.at hci
      have HX : Hid (∀ W, Below G.w.heap.size G.w W → W.cell? ⟨b, oo + fi * 5, none⟩ = some (.int .i64 c.k) ∧ W.cell? ⟨b, oo + fi * 5 + 1, none⟩ = some (.int .i64 c.t) ∧ W.cell? ⟨b, oo + fi * 5 + 2, none⟩ = some (.int .i64 c.f) ∧ W.cell? ⟨b, oo + fi * 5 + 3, none⟩ = some (.int .i64 c.n) ∧ W.cell? ⟨b, oo + fi * 5 + 4, none⟩ = some (.slice c.a c.l.length c.cap)) := Lib.hid fun W hW => by
        have hb := HGB.out W hW
        exact ⟨(hb.cell (World.block_lt_of_cell? _ _ x0)).trans x0, (hb.cell (World.block_lt_of_cell? _ _ x1)).trans x1, (hb.cell (World.block_lt_of_cell? _ _ x2)).trans x2, (hb.cell (World.block_lt_of_cell? _ _ x3)).trans x3, (hb.cell (World.block_lt_of_cell? _ _ x4)).trans x4⟩
      have HKI := Lib.hid (And.intro hki (And.intro hiw (And.intro hxb hsb)))
      clear hfi htk hg x0 x1 x2 x3 x4 hki hiw hxb hsb
      go_wp2_with fail
      clear hg1
      have HFC := Lib.hid hfic
      refine wp_region_looseT 8
        [IsV (.pointer (some ⟨w.heap.size, 66, none⟩)), IsV (.slice (some ⟨b, oo, none⟩) CC ccap), IsV (.agg D), IsV (.int .i64 (k : Int)), IsV (.int .i64 (fi : Int)), IsV (.pointer (some ⟨b, oo + fi * 5, none⟩)), IsV (cmdV c.k c.t c.f c.n (.slice c.a c.l.length c.cap)), IsBox5 G.w.heap.size]
        [⟨14, [], [3]⟩, ⟨15, [(0, 14)], []⟩, ⟨16, [], [3]⟩, ⟨17, [], [6]⟩, ⟨18, [(2, 16), (3, 17)], []⟩, ⟨19, [(1, 15), (4, 18)], []⟩, ⟨20, [(5, 19)], []⟩, ⟨7, [], []⟩]
        (fun W => Below G.w.heap.size G.w W) (fun W W' => Below W.heap.size W W') (by kernel_rfl) (by kernel_rfl) (by kernel_rfl) rfl rfl (Below.refl _ G.w).drew ?_
        ⟨?_, ?_, ?_, ?_, ?_, ?_, ?_, ?_, trivial⟩ ?_
      · repeat (first | (intro _ h; cases h; done) | refine List.forall_mem_cons.2 ⟨stable_V _ _, ?_⟩ | refine List.forall_mem_cons.2 ⟨stable_Box5 _, ?_⟩)
      · intro A W hC hd hx
        have hk : ∀ v, A.eval (.const v) = v := fun _ => rfl
        have hy0 : A.eval (.tmp 3) = .pointer (some ⟨w.heap.size, 0, none⟩) := hx 3 (by simp)
        clear hd
        generalize A.eval = ρ at hk hy0 ⊢
        simp [go_sem, looseUpon, factOf, hk, hy0]
        exact ⟨hC, Below.refl _ _⟩
      · intro A W hC hd hx
        have hk : ∀ v, A.eval (.const v) = v := fun _ => rfl
        have c0 := HD66.out W (HGH.out W hC)
        simp [factOf] at hd
        generalize A.eval = ρ at hd hk ⊢
        simp [go_sem, looseUpon, factOf, hd, hk, c0]
        exact ⟨hC, Below.refl _ _⟩
      · intro A W hC hd hx
        have hy0 : A.eval (.tmp 3) = .pointer (some ⟨w.heap.size, 0, none⟩) := hx 3 (by simp)
        have hld := HLD.out W (HGH.out W hC)
        refine ⟨fun g hg => (by cases hg), ?_⟩
        clear hd
        generalize A.eval = ρ at hy0 ⊢
        simp [execOp, hy0, hld, looseUpon, factOf]
        exact ⟨hC, Below.refl _ _⟩
      · intro A W hC hd hx
        have hk : ∀ v, A.eval (.const v) = v := fun _ => rfl
        have hy0 : A.eval (.tmp 6) = .int .i64 (k : Int) := hx 6 (by simp)
        clear hd
        generalize A.eval = ρ at hk hy0 ⊢
        simp [go_sem, looseUpon, factOf, hk, hy0]
        exact ⟨hC, Below.refl _ _⟩
      · intro A W hC hd hx
        simp [factOf] at hd
        obtain ⟨hd0, hd1⟩ := hd
        refine ⟨fun g hg => (by cases hg), ?_⟩
        refine loose_call rfl Tryd.func28 (by kernel_rfl) (by kernel_rfl) ?_
        simp only [List.map_toArray, List.map_cons, List.map_nil, hd0, hd1]
        have hw := HFIND.out (k : Int) W (HGB.out W hC)
        rw [HFI.out] at hw
        refine hw.mono ?_
        rintro e' W' ⟨rfl, h4⟩
        exact ⟨_, rfl, rfl, hC.trans (h4.mono hC.size), h4⟩
      · intro A W hC hd hx
        have hk : ∀ v, A.eval (.const v) = v := fun _ => rfl
        have c0 := HFC.out
        simp [factOf] at hd
        generalize A.eval = ρ at hd hk ⊢
        simp [go_sem, looseUpon, factOf, hd, hk, c0]
        exact ⟨hC, Below.refl _ _⟩
      · intro A W hC hd hx
        have hk : ∀ v, A.eval (.const v) = v := fun _ => rfl
        have c0 := (HX.out W hC).1
        have c1 := (HX.out W hC).2.1
        have c2 := (HX.out W hC).2.2.1
        have c3 := (HX.out W hC).2.2.2.1
        have c4 := (HX.out W hC).2.2.2.2
        simp [factOf] at hd
        generalize A.eval = ρ at hd hk ⊢
        simp [go_sem, looseUpon, factOf, hd, hk, c0, c1, c2, c3, c4]
        exact ⟨hC, Below.refl _ _⟩
      · intro A W hC hd hx
        have hk : ∀ v, A.eval (.const v) = v := fun _ => rfl
        clear hd
        generalize A.eval = ρ at hk ⊢
        simp [go_sem, looseUpon, factOf, hk]
        exact ⟨⟨_, rfl, hC.size, World.alloc_heap_new _ _⟩, hC.alloc hC.size _, (Below.refl _ _).alloc (Nat.le_refl _) _⟩
      · intro W hC
        simp only [ends]
        rintro _ rfl _ rfl _ rfl _ rfl _ rfl _ rfl _ rfl _ ⟨B, rfl, hB, hbz⟩
        simp only [putAll, List.zip_cons_cons, List.zip_nil_left, List.foldl_cons, List.foldl_nil, Act.put, List.setIfInBounds_toArray, List.set_cons_succ, List.set_cons_zero, List.drop_succ_cons, List.drop_zero]
        obtain ⟨G2, hG2⟩ := G.fill5 hC hB (cells := #[.int .i64 c.k, .int .i64 c.t, .int .i64 c.f, .int .i64 c.n, .slice c.a c.l.length c.cap]) hbz
        have HG2 := Lib.hid hG2
        clear hG2
        obtain ⟨hki, hiw, hxb, hsb⟩ := HKI.out
        have hcont := hxb
        unfold Cmd.cont contC Cmd.core at hcont
        simp only at hcont
        have hww : Hid (Below w.heap.size w G2.w) := Lib.hid G2.but.below
        have HNX := Lib.hid (show m ++ [xb] = F.take (k + 1) by rw [HTK.out, hm.out])
        have HCB := Lib.hid ((HC.out.ok c hcm).b)
        have hk12 := (cont_len HV.out.1 hs0).2
        have hcd := cmd_cells (G2.blocks (B, cmdO c.k c.t c.f c.n (.slice c.a c.l.length c.cap)) (by simp)).1
        dsimp only at hcd
        have hg2 := (G2.blocks (w.heap.size, deltaO D) (by simp)).1
        have hinf : (Tryd.prog.info? 46).map (·.size) = some (#[.int .i64 c.k, .int .i64 c.t, .int .i64 c.f, .int .i64 c.n, .slice c.a c.l.length c.cap] : Array Value).size := by
          show _ = some 5
          kernel_rfl
        have hone : (#[.int .i64 c.k, .int .i64 c.t, .int .i64 c.f, .int .i64 c.n, .slice c.a c.l.length c.cap] : Array Value).all (·.oneCell') = true := by simp [Value.oneCell']
        have hsz : (#[.int .i64 0, .int .i64 0, .int .i64 0, .int .i64 0, .slice none 0 0] : Array Value).size = (#[.int .i64 c.k, .int .i64 c.t, .int .i64 c.f, .int .i64 c.n, .slice c.a c.l.length c.cap] : Array Value).size := rfl
        rcases hk12 with hk | hk
        · obtain ⟨q1, q2⟩ := (single_ok hs0).2.2 hk
          rw [if_pos hk] at hcont
          have hwn : c.w = c.n := by unfold Cmd.w wlen; rw [if_pos hk]
          have hll : (LL : Int) = o := by rw [HLL.out]; exact HV.out.1
          obtain ⟨j, hj⟩ : ∃ j : Nat, j = c.f.toNat + i := ⟨_, rfl⟩
          have hjl : j < LL := by omega
          rw [List.getElem?_take, if_pos (by omega), List.getElem?_drop, ← hj] at hcont
          obtain ⟨bA, oA, rfl, hcA⟩ := HL.out.cells (by rw [← HLL.out]; omega)
          have hcj := hcA j (by rw [← HLL.out]; exact hjl)
          rw [hcont] at hcj
          have d5 : G2.w.cell? ⟨bA, oA + j, none⟩ = some (.int .u8 xb) := (hww.out.cell (World.block_lt_of_cell? _ _ hcj)).trans hcj
          have e1 : (c.k == 1) = true := by rw [hk]; rfl
          have e32 : c.f + (k : Int) - c.t = (j : Int) := by omega
          have hb1 : c.f ≤ 4611686018427387903 := by omega
          have hb2 : 0 ≤ c.t := by omega
          have hb3 : c.t ≤ 4611686018427387903 := by omega
          obtain ⟨d0, d1, d2, d3, d4⟩ := hcd
          clear hcont hcj hcA hj hki hiw hxb hsb hk hwn hll hs0 hlens q2
          refine wpList_store_rowTo rfl 46 (.tmp 7) (.tmp 20) rfl rfl B #[.int .i64 c.k, .int .i64 c.t, .int .i64 c.f, .int .i64 c.n, .slice c.a c.l.length c.cap] rfl rfl 46 #[.int .i64 0, .int .i64 0, .int .i64 0, .int .i64 0, .slice none 0 0] hbz hinf hsz hone ?_
          rw [HG2.out]
          go_wp2_with ((refine GB8.one G2 (.tmp 24) (.tmp 35) rfl rfl rfl xb rfl (by omega) ?_; intro v' G3))
          obtain ⟨G4, h4⟩ := G3.sub (bs' := [(w.heap.size, deltaO D)]) (by simp)
          have H4 := Lib.hid h4
          clear d0 d1 d2 d3 d4 d5 h4
          go_roundw
          case rel => exact ⟨k + 1, by omega, by go_num, _, HNX, G4, H4.out⟩
          case measure => simp [intOf]; omega
        · rw [if_neg (by omega)] at hcont
          have hil := (List.getElem?_eq_some_iff.1 hcont).1
          obtain ⟨bA, oA, hca, hcA⟩ := HCB.out.cells (by omega)
          have hcj := hcA i hil
          rw [hcont] at hcj
          have d5 : G2.w.cell? ⟨bA, oA + i, none⟩ = some (.int .u8 xb) := (hww.out.cell (World.block_lt_of_cell? _ _ hcj)).trans hcj
          have e1 : (c.k == 1) = false := by rw [hk]; rfl
          have e43 : (k : Int) - c.t = (i : Int) := by omega
          have hb2 : 0 ≤ c.t := by omega
          have hb3 : c.t ≤ 4611686018427387903 := by omega
          have hcl := HCB.out.len
          obtain ⟨d0, d1, d2, d3, d4⟩ := hcd
          replace d4 : G2.w.cell? ⟨B, 4, none⟩ = some (.slice (some ⟨bA, oA, none⟩) c.l.length c.cap) := d4.trans (by rw [hca])
          have hcc := HCB.out.capb
          clear hcont hcj hcA hki hiw hxb hsb hk hs0 hlens
          refine wpList_store_rowTo rfl 46 (.tmp 7) (.tmp 20) rfl rfl B #[.int .i64 c.k, .int .i64 c.t, .int .i64 c.f, .int .i64 c.n, .slice c.a c.l.length c.cap] rfl rfl 46 #[.int .i64 0, .int .i64 0, .int .i64 0, .int .i64 0, .slice none 0 0] hbz hinf hsz hone ?_
          rw [HG2.out]
          go_wp2_with ((refine GB8.one G2 (.tmp 37) (.tmp 46) rfl rfl rfl xb rfl (by omega) ?_; intro v' G3))
          obtain ⟨G4, h4⟩ := G3.sub (bs' := [(w.heap.size, deltaO D)]) (by simp)
          have H4 := Lib.hid h4
          clear d0 d1 d2 d3 d4 d5 h4
          go_roundw
          case rel => exact ⟨k + 1, by omega, by go_num, _, HNX, G4, H4.out⟩
          case measure => simp [intOf]; omega
    · obtain rfl : k = n := by omega
      have hmF : m = F := by rw [hm.out, ← HLEN.out, List.take_length]
      have HQ : Hid (POST (.returned u5) G.w) := Lib.hid (by
        rw [HP.out, ← hmF]
        exact ⟨u5, rfl, ⟨G.w, G.but.below, by have := G.own; rw [List.length_map]; exact this⟩, rfl⟩)
      clear hmF
      go_wp2
      exact HQ.out
end Go.Proofs.YtdedfjkenbaebaaDoor
