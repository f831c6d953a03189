import Derived.Great.BuildSlice
import Derived.Test.YtdedfjkenbaebaaGreatDoorE08v25
import Derived.Test.YtdedfjkenbaebaaGreatDoorE08v17
import Derived.Test.YtdedfjkenbaebaaGreatDoorE08v2
import Derived.Test.YtdedfjkenbaebaaGreatDoorE08v13
import Derived.Test.YtdedfjkenbaebaaGreatDoorE08v19
import Derived.Test.YtdedfjkenbaebaaGreatDoorE08v5
/- The example of package patch. -/
namespace Go.Proofs.YtdedfjkenbaebaaGreatDoor
open Go.RowKit Go.Shelf
set_option linter.unusedVariables false
set_option linter.unusedSimpArgs false

abbrev old8 : List Int := [97, 98, 99, 100, 101, 102]
abbrev new8 : List Int := [120, 99, 100, 101, 102, 97, 98]
theorem ex8_make : makeC old8 new8 2 = [(2, 0, 0, 0, [120]), (1, 1, 2, 4, []), (1, 5, 0, 2, [])] := by decide +kernel
theorem lit8 {w : World} {B : Nat} {l : List Int} {fr : Nat × Nat} (h : w.heap[B]? = some (.cells (byteA l) 5 fr)) (hl : l.length ≤ 1000) : BytesIn w (some ⟨B, 0, none⟩) l l.length :=
  ⟨Nat.le_refl _, by omega, fun _ => ⟨B, 0, rfl, fun i hi => by
    rw [Nat.zero_add, cell_of_row w B _ _ _ _ h]
    unfold byteA
    simp [hi]⟩, fun h => by cases h⟩
/-- The commands that the example asks for, the data of the first in block B. -/
abbrev want8 (B : Nat) : List Cmd := [⟨2, 0, 0, 0, [120], some ⟨B, 0, none⟩, 1⟩, ⟨1, 1, 2, 4, [], none, 0⟩, ⟨1, 5, 0, 2, [], none, 0⟩]
abbrev row8 (B : Nat) : Obj := .cells #[.int .i64 2, .int .i64 0, .int .i64 0, .int .i64 0, .slice (some ⟨B, 0, none⟩) 1 1, .int .i64 1, .int .i64 1, .int .i64 2, .int .i64 4, .slice none 0 0, .int .i64 1, .int .i64 5, .int .i64 0, .int .i64 2, .slice none 0 0] 62 (0, 0)
theorem want8_in {W : World} {B R : Nat} (hr : W.heap[R]? = some (row8 B)) (hb : W.heap[B]? = some (.cells (byteA [120]) 5 (1, 2))) : CmdsIn W (some ⟨R, 0, none⟩) (want8 B) 3 := by
  refine ⟨by simp, by omega, fun _ => ⟨_, 0, rfl, fun i c hc j u hu => ?_⟩, fun c hc => ?_, fun h => by cases h⟩
  · rw [Nat.zero_add, cell_of hr]
    have hi : i < 3 := by simpa using (List.getElem?_eq_some_iff.1 hc).1
    have hj : j < 5 := by simpa [Cmd.cells] using (List.getElem?_eq_some_iff.1 hu).1
    match i, hi with
    | 0, _ =>
      cases hc
      match j, hj with
      | 0, _ => cases hu; rfl
      | 1, _ => cases hu; rfl
      | 2, _ => cases hu; rfl
      | 3, _ => cases hu; rfl
      | 4, _ => cases hu; rfl
    | 1, _ =>
      cases hc
      match j, hj with
      | 0, _ => cases hu; rfl
      | 1, _ => cases hu; rfl
      | 2, _ => cases hu; rfl
      | 3, _ => cases hu; rfl
      | 4, _ => cases hu; rfl
    | 2, _ =>
      cases hc
      match j, hj with
      | 0, _ => cases hu; rfl
      | 1, _ => cases hu; rfl
      | 2, _ => cases hu; rfl
      | 3, _ => cases hu; rfl
      | 4, _ => cases hu; rfl
  · simp only [List.mem_cons, List.not_mem_nil, or_false] at hc
    have hnil : BytesIn W none [] 0 := ⟨Nat.le_refl _, by simp, fun h => by simp at h, fun _ => rfl⟩
    rcases hc with rfl | rfl | rfl
    · exact ⟨by unfold I64; simp, by unfold I64; simp, by unfold I64; simp, by unfold I64; simp, lit8 hb (by simp), fun x hx => by simp at hx; omega⟩
    · exact ⟨by unfold I64; simp, by unfold I64; simp, by unfold I64; simp, by unfold I64; simp, hnil, okB_nil⟩
    · exact ⟨by unfold I64; simp, by unfold I64; simp, by unfold I64; simp, by unfold I64; simp, hnil, okB_nil⟩
theorem conv8 (W : World) (cs : Array Value) (n : Nat) : (convert 22 22 (.slice (some ⟨W.heap.size, 0, none⟩) n n)).run Tryz.prog (W.alloc (.cells cs 5)) = .ok (.slice (some ⟨W.heap.size, 0, none⟩) n n) (W.alloc (.cells cs 5 (cs.size, cs.size + 1))) :=
  Lib.run_convert_bytes_const (P := Tryz.prog) W 22 5 cs n n Tryz.underlying22 Tryz.underlying5
abbrev oldO : Obj := .cells #[.int .u8 97, .int .u8 98, .int .u8 99, .int .u8 100, .int .u8 101, .int .u8 102] 5 (6, 7)
abbrev newO : Obj := .cells #[.int .u8 120, .int .u8 99, .int .u8 100, .int .u8 101, .int .u8 102, .int .u8 97, .int .u8 98] 5 (7, 8)
abbrev x8lit : Obj := .cells #[.int .u8 120] 5 (1, 2)

set_option maxRecDepth 100000 in
set_option maxHeartbeats 4000000 in
theorem alive08_any (w : World) (hR : Roots w) : Calls Tryz.prog 13 #[] w (Gives (.bool true) w) := by
  have hz := zero_delta
  obtain ⟨S, hS⟩ := start2 w oldO newO
  have hv1 : (convert 22 22 (.slice (some ⟨w.heap.size, 0, none⟩) 6 6)).run Tryz.prog (w.alloc (.cells #[.int .u8 97, .int .u8 98, .int .u8 99, .int .u8 100, .int .u8 101, .int .u8 102] 5)) = .ok (.slice (some ⟨w.heap.size, 0, none⟩) 6 6) (w.alloc oldO) := conv8 w _ 6
  have hv2 : (convert 22 22 (.slice (some ⟨w.heap.size + 1, 0, none⟩) 7 7)).run Tryz.prog ((w.alloc oldO).alloc (.cells #[.int .u8 120, .int .u8 99, .int .u8 100, .int .u8 101, .int .u8 102, .int .u8 97, .int .u8 98] 5)) = .ok (.slice (some ⟨w.heap.size + 1, 0, none⟩) 7 7) ((w.alloc oldO).alloc newO) := by
    have := conv8 (w.alloc oldO) #[.int .u8 120, .int .u8 99, .int .u8 100, .int .u8 101, .int .u8 102, .int .u8 97, .int .u8 98] 7
    rw [World.size_alloc] at this
    exact this
  have HM : Hid (Calls Tryz.prog 28 #[.slice (some ⟨w.heap.size, 0, none⟩) 6 6, .slice (some ⟨w.heap.size + 1, 0, none⟩) 7 7, .int .i64 2] S.w (MakePost old8 new8 2 S.w)) := Lib.hid (make8_any (some ⟨w.heap.size, 0, none⟩) (some ⟨w.heap.size + 1, 0, none⟩) old8 new8 6 7 2 S.w (hR.W S) (lit8 (S.blocks (w.heap.size, oldO) (by simp)) (by simp)) (lit8 (S.blocks (w.heap.size + 1, newO) (by simp)) (by simp)) (fun x hx => by simp at hx; omega) (fun x hx => by simp at hx; omega) (by simp) (by simp))
  have HS := Lib.hid hS
  clear hS
  go_enter Tryz.func13, Tryz.ntmps13
  go_wp2_with fail
  rw [HS.out]
  refine HM.out.mono ?_
  rintro e W1 ⟨D', g, ds, rfl, hD', hin, hco, hB, hg, hap⟩
  have hco0 := hco
  rw [ex8_make] at hco
  obtain ⟨S1, h1⟩ := S.after hB
  rw [h1] at hin ⊢
  have hdl : ds.length = 3 := by
    have := congrArg List.length hco
    unfold cores at this
    rw [List.length_map] at this
    exact this
  obtain ⟨B2, s2, hB2, hBw, hlt2, hS2⟩ := S1.more1 (deltaO zeroDel)
  have hg2 := s2.blocks (B2, deltaO zeroDel) (by simp)
  have hinf := infoDelta hD'
  have hone := hD'.one rfl
  have hsz : zeroDel.size = D'.size := by rw [zeroDel_of.size, hD'.size]
  have hq1 : w.heap.size + 1 < B2 := hlt2 (w.heap.size + 1, newO) (by simp)
  obtain ⟨s3, h3⟩ : ∃ s3 : HeldW w [(B2, deltaO D'), (w.heap.size + 1, newO), (w.heap.size, oldO)], s2.w.setRow B2 D' = s3.w := ⟨s2.row hBw (all2 (Q := fun p : Nat × Obj => p.1 ≠ B2) (by simp only; omega) (by simp only; omega)), rfl⟩
  have HS2 := Lib.hid (And.intro hB2 hS2)
  have H3 := Lib.hid h3
  have hin3 : CmdsIn s3.w (some ⟨g, 0, none⟩) ds ds.length := by
    have hb12 : Below S1.w.heap.size S1.w s2.w := by rw [← hS2]; exact (Below.refl _ _).alloc (Nat.le_refl _) _
    exact hin.below (by rw [← h3]; exact below_setRow hb12 (by omega) D')
  obtain ⟨X, hX⟩ : ∃ X, X = s3.w.heap.size := ⟨_, rfl⟩
  obtain ⟨X', s5, hX', hXw, hlt5, hS5⟩ := s3.more2 x8lit (row8 X)
  obtain rfl : X' = X := hX'.trans hX.symm
  have c66 : ((s3.w.alloc x8lit).alloc (row8 s3.w.heap.size)).cell? ⟨B2, 66, none⟩ = some (.slice (some ⟨g, 0, none⟩) ds.length ds.length) := by
    rw [← hX, hS5]
    exact (cell_of (s5.blocks (B2, deltaO D') (by simp)) 66).trans hD'.c66
  have hv3 : (convert 22 22 (.slice (some ⟨s3.w.heap.size, 0, none⟩) 1 1)).run Tryz.prog (s3.w.alloc (.cells #[.int .u8 120] 5)) = .ok (.slice (some ⟨s3.w.heap.size, 0, none⟩) 1 1) (s3.w.alloc x8lit) := conv8 s3.w _ 1
  have hb35 : Below s3.w.heap.size s3.w s5.w := by rw [← hS5]; exact ((Below.refl _ _).alloc (Nat.le_refl _) _).alloc (by simp) _
  have hin5 := hin3.below hb35
  have hwant : CmdsIn s5.w (some ⟨X' + 1, 0, none⟩) (want8 X') 3 := want8_in (s5.blocks (X' + 1, row8 X') (by simp)) (s5.blocks (X', x8lit) (by simp))
  have HALL : Hid (Calls Tryz.prog 23 #[.slice (some ⟨g, 0, none⟩) ds.length ds.length, .slice (some ⟨X' + 1, 0, none⟩) 3 3] s5.w (Gives (.bool true) s5.w)) := Lib.hid (by
    have := all_any (some ⟨g, 0, none⟩) (some ⟨X' + 1, 0, none⟩) ds (want8 X') ds.length 3 s5.w hin5 hwant
    rw [decide_eq_true (show cores ds = cores (want8 X') by rw [hco]; rfl)] at this
    exact this)
  have HX := Lib.hid (And.intro hX.symm hS5)
  have HIN := Lib.hid hin5
  have HDL := Lib.hid (And.intro hdl (And.intro hco0 hD'))
  clear hX' hlt2 hlt5 hX hS5 hB2 hS2 h3 h1 hB hg hap hin hin3 hin5 hwant hb35 hdl hco hco0 hv1 hv2 HM HS
  go_wp2_with (rw [HS2.out.2, ← HS2.out.1]; refine wpList_store_rowTo rfl 27 (.tmp 1) (.tmp 7) rfl rfl B2 D' rfl rfl 27 zeroDel hg2 hinf hsz hone ?_; rw [H3.out])
  rw [HX.out.1, HX.out.2]
  refine HALL.out.mono ?_
  rintro e W6 ⟨rfl, hb6⟩
  have hin6 := HIN.out.below hb6
  obtain ⟨s6, h6⟩ := s5.after hb6
  rw [h6] at hin6 ⊢
  clear h6 hb6 c66 hv3 HALL hg2 HS2 H3 HX HIN s5 s3 s2
  have c0 : s6.w.cell? ⟨B2, 0, none⟩ = some (.int .i64 6) := (cell_of (s6.blocks (B2, deltaO D') (by simp)) 0).trans HDL.out.2.2.c0
  have c1 : s6.w.cell? ⟨B2, 1, none⟩ = some (.int .i64 7) := (cell_of (s6.blocks (B2, deltaO D') (by simp)) 1).trans HDL.out.2.2.c1
  obtain ⟨B7, s7, hB7, hB7w, hlt7, hS7⟩ := s6.more1 oldO
  have hv4 : (convert 22 22 (.slice (some ⟨s6.w.heap.size, 0, none⟩) 6 6)).run Tryz.prog (s6.w.alloc (.cells #[.int .u8 97, .int .u8 98, .int .u8 99, .int .u8 100, .int .u8 101, .int .u8 102] 5)) = .ok (.slice (some ⟨s6.w.heap.size, 0, none⟩) 6 6) (s6.w.alloc oldO) := conv8 s6.w _ 6
  have hgD : (s6.w.alloc oldO).heap[B2]? = some (deltaO D') := by rw [hS7]; exact s7.blocks (B2, deltaO D') (by simp)
  have hb67 : Below s6.w.heap.size s6.w s7.w := by rw [← hS7]; exact (Below.refl _ _).alloc (Nat.le_refl _) _
  have HAP : Hid (Calls Tryz.prog 29 #[.slice (some ⟨B7, 0, none⟩) 6 6, .agg D'] s7.w (MakesB new8 s7.w)) := Lib.hid (by
    have hv := make_valid HDL.out.2.1 (by simp) (by simp)
    have := papply_yes old8 (some ⟨B7, 0, none⟩) 6 D' 6 7 _ _ _ ds ds.length HDL.out.2.2 s7.w (lit8 (s7.blocks (B7, oldO) (by simp)) (by simp)) (hin6.below hb67) (by rw [HDL.out.1]; omega) (by omega) rfl hv
    rw [show newF old8 7 ds = new8 from make_new HDL.out.2.1 (by simp) (by simp)] at this
    exact this)
  have HS7 := Lib.hid (And.intro hB7 hS7)
  clear hB7 hS7 hlt7 hin6 hb67
  go_wp2_with (refine wpList_load_rowG rfl 27 (.tmp 1) rfl (some 31) rfl B2 rfl 27 _ (0, 0) _ hgD Tryz.underlying27 rfl hinf ?_)
  rw [← HS7.out.1, HS7.out.2]
  refine HAP.out.mono ?_
  rintro e W8 ⟨g8, rfl, hg8, hblk, hb8⟩
  have hst : (convert 22 9 (.slice (some ⟨g8, 0, none⟩) 7 7)).run Tryz.prog W8 = .ok (.string ⟨#[120, 99, 100, 101, 102, 97, 98]⟩) W8 := by
    have := conv_str (lit8 hblk (by simp))
    rw [show strOf new8 = ⟨#[120, 99, 100, 101, 102, 97, 98]⟩ by decide +kernel] at this
    exact this
  have HB := Lib.hid (show Below w.heap.size w W8 from s7.below.trans (hb8.mono s7.below.size))
  clear hgD c0 c1 hv4 HAP HS7 hblk hb8 hg8 s7 s6
  go_wp2
  go_ret
  exact ⟨rfl, HB.out⟩
end Go.Proofs.YtdedfjkenbaebaaGreatDoor

/- newHash of package patch. -/
namespace Go.Proofs.YtdedfjkenbaebaaGreatDoor
open Go.RowKit
set_option linter.unusedVariables false
set_option linter.unusedSimpArgs false

set_option maxRecDepth 100000 in
set_option maxHeartbeats 4000000 in
theorem field_cmds {D : Array Value} {o n : Int} {x y : List Int} {a : Option Addr} {m c : Nat} (h : DeltaOf D o n x y (.slice a m c)) (W : World) : (Instr.field 27 (.agg D) 4).run Tryz.prog W = .ok (.slice a m c) W := by
  obtain ⟨rfl, hx, hy⟩ := h
  obtain ⟨a0, at0, rfl, ah0⟩ := uncons8 hx
  obtain ⟨a1, at1, rfl, ah1⟩ := uncons8 ah0
  obtain ⟨a2, at2, rfl, ah2⟩ := uncons8 ah1
  obtain ⟨a3, at3, rfl, ah3⟩ := uncons8 ah2
  obtain ⟨a4, at4, rfl, ah4⟩ := uncons8 ah3
  obtain ⟨a5, at5, rfl, ah5⟩ := uncons8 ah4
  obtain ⟨a6, at6, rfl, ah6⟩ := uncons8 ah5
  obtain ⟨a7, at7, rfl, ah7⟩ := uncons8 ah6
  obtain ⟨a8, at8, rfl, ah8⟩ := uncons8 ah7
  obtain ⟨a9, at9, rfl, ah9⟩ := uncons8 ah8
  obtain ⟨a10, at10, rfl, ah10⟩ := uncons8 ah9
  obtain ⟨a11, at11, rfl, ah11⟩ := uncons8 ah10
  obtain ⟨a12, at12, rfl, ah12⟩ := uncons8 ah11
  obtain ⟨a13, at13, rfl, ah13⟩ := uncons8 ah12
  obtain ⟨a14, at14, rfl, ah14⟩ := uncons8 ah13
  obtain ⟨a15, at15, rfl, ah15⟩ := uncons8 ah14
  obtain ⟨a16, at16, rfl, ah16⟩ := uncons8 ah15
  obtain ⟨a17, at17, rfl, ah17⟩ := uncons8 ah16
  obtain ⟨a18, at18, rfl, ah18⟩ := uncons8 ah17
  obtain ⟨a19, at19, rfl, ah19⟩ := uncons8 ah18
  obtain ⟨a20, at20, rfl, ah20⟩ := uncons8 ah19
  obtain ⟨a21, at21, rfl, ah21⟩ := uncons8 ah20
  obtain ⟨a22, at22, rfl, ah22⟩ := uncons8 ah21
  obtain ⟨a23, at23, rfl, ah23⟩ := uncons8 ah22
  obtain ⟨a24, at24, rfl, ah24⟩ := uncons8 ah23
  obtain ⟨a25, at25, rfl, ah25⟩ := uncons8 ah24
  obtain ⟨a26, at26, rfl, ah26⟩ := uncons8 ah25
  obtain ⟨a27, at27, rfl, ah27⟩ := uncons8 ah26
  obtain ⟨a28, at28, rfl, ah28⟩ := uncons8 ah27
  obtain ⟨a29, at29, rfl, ah29⟩ := uncons8 ah28
  obtain ⟨a30, at30, rfl, ah30⟩ := uncons8 ah29
  obtain ⟨a31, at31, rfl, ah31⟩ := uncons8 ah30
  obtain rfl := List.eq_nil_of_length_eq_zero ah31
  obtain ⟨b0, bt0, rfl, bh0⟩ := uncons8 hy
  obtain ⟨b1, bt1, rfl, bh1⟩ := uncons8 bh0
  obtain ⟨b2, bt2, rfl, bh2⟩ := uncons8 bh1
  obtain ⟨b3, bt3, rfl, bh3⟩ := uncons8 bh2
  obtain ⟨b4, bt4, rfl, bh4⟩ := uncons8 bh3
  obtain ⟨b5, bt5, rfl, bh5⟩ := uncons8 bh4
  obtain ⟨b6, bt6, rfl, bh6⟩ := uncons8 bh5
  obtain ⟨b7, bt7, rfl, bh7⟩ := uncons8 bh6
  obtain ⟨b8, bt8, rfl, bh8⟩ := uncons8 bh7
  obtain ⟨b9, bt9, rfl, bh9⟩ := uncons8 bh8
  obtain ⟨b10, bt10, rfl, bh10⟩ := uncons8 bh9
  obtain ⟨b11, bt11, rfl, bh11⟩ := uncons8 bh10
  obtain ⟨b12, bt12, rfl, bh12⟩ := uncons8 bh11
  obtain ⟨b13, bt13, rfl, bh13⟩ := uncons8 bh12
  obtain ⟨b14, bt14, rfl, bh14⟩ := uncons8 bh13
  obtain ⟨b15, bt15, rfl, bh15⟩ := uncons8 bh14
  obtain ⟨b16, bt16, rfl, bh16⟩ := uncons8 bh15
  obtain ⟨b17, bt17, rfl, bh17⟩ := uncons8 bh16
  obtain ⟨b18, bt18, rfl, bh18⟩ := uncons8 bh17
  obtain ⟨b19, bt19, rfl, bh19⟩ := uncons8 bh18
  obtain ⟨b20, bt20, rfl, bh20⟩ := uncons8 bh19
  obtain ⟨b21, bt21, rfl, bh21⟩ := uncons8 bh20
  obtain ⟨b22, bt22, rfl, bh22⟩ := uncons8 bh21
  obtain ⟨b23, bt23, rfl, bh23⟩ := uncons8 bh22
  obtain ⟨b24, bt24, rfl, bh24⟩ := uncons8 bh23
  obtain ⟨b25, bt25, rfl, bh25⟩ := uncons8 bh24
  obtain ⟨b26, bt26, rfl, bh26⟩ := uncons8 bh25
  obtain ⟨b27, bt27, rfl, bh27⟩ := uncons8 bh26
  obtain ⟨b28, bt28, rfl, bh28⟩ := uncons8 bh27
  obtain ⟨b29, bt29, rfl, bh29⟩ := uncons8 bh28
  obtain ⟨b30, bt30, rfl, bh30⟩ := uncons8 bh29
  obtain ⟨b31, bt31, rfl, bh31⟩ := uncons8 bh30
  obtain rfl := List.eq_nil_of_length_eq_zero bh31
  kernel_rfl

theorem add_block8 (ad : Addr) (n : Nat) : (ad.add n).block = ad.block := by unfold Addr.add; split <;> rfl
theorem sl8_where {a : Option Addr} {cap f : Nat} : ∀ ad, slA8 a cap f = some ad → ∃ ad', a = some ad' ∧ ad.block = ad'.block := by
  intro ad h
  unfold slA8 at h
  split at h
  · exact ⟨ad, h, rfl⟩
  · obtain ⟨ad', ha, rfl⟩ := Option.map_eq_some_iff.1 h
    exact ⟨ad', ha, add_block8 _ _⟩
theorem cut_where {a Q : Option Addr} {L cap n : Nat} (w : World) (hn : n ≤ L) (hL : L ≤ cap) (e : (Instr.slice 22 (.slice a L cap) none (some (.int .i64 (n : Int))) none).run Tryz.prog w = .ok (.slice Q n cap) w) : ∀ ad, Q = some ad → ∃ ad', a = some ad' ∧ ad.block = ad'.block := by
  rw [run_slice_h (P := Tryz.prog) w 22 a L cap (by kernel_rfl) .i64 (n : Int) (by omega) (by omega), size_u8] at e
  simp only [Result.andThen_ok, sliced, Int.toNat_natCast, Nat.sub_zero] at e
  intro ad h
  have hQ : (if cap = 0 then a else a.map (·.add (0 * 1))) = Q := by injection e with e1; injection e1
  rw [h] at hQ
  split at hQ
  · exact ⟨ad, hQ, rfl⟩
  · obtain ⟨ad', ha, rfl⟩ := Option.map_eq_some_iff.1 hQ
    exact ⟨ad', ha, add_block8 _ _⟩
/-- The bytes that a command of a valid delta writes, and where they lie. -/
theorem content_where {o n : Int} {l : List Int} {a : Option Addr} {cap : Nat} {c : Cmd} {w : World} (hl : BytesIn w a l cap) (ho : (l.length : Int) = o) (hs : single o n c = 0) (hc : CmdOK w c) :
    ∃ A C, BytesIn w A (c.cont l) C ∧ (∀ ad, A = some ad → ∃ ad', (((0 < (c.cont l).length → 0 < l.length) ∧ a = some ad') ∨ c.a = some ad') ∧ ad.block = ad'.block) ∧ ∀ W, BytesIn W A (c.cont l) C → Calls Tryz.prog 70 #[.slice a l.length cap, cmdV c.k c.t c.f c.n (.slice c.a c.l.length c.cap)] W (Gives (.slice A (c.cont l).length C) W) := by
  obtain ⟨h1, h2, h3⟩ := single_ok hs
  have hk : c.k = 1 ∨ c.k = 2 := (cont_len ho hs).2
  rcases hk with hk | hk
  · obtain ⟨q1, q2⟩ := h3 hk
    have hw : c.w = c.n := by unfold Cmd.w wlen; rw [if_pos hk]
    obtain ⟨f, hf⟩ : ∃ f : Nat, c.f = f := ⟨c.f.toNat, by omega⟩
    obtain ⟨n', hn⟩ : ∃ n' : Nat, c.n = n' := ⟨c.n.toNat, by omega⟩
    have hcont : c.cont l = (l.drop f).take n' := by
      unfold Cmd.cont contC Cmd.core
      simp only
      rw [if_pos hk, hf, hn, Int.toNat_natCast, Int.toNat_natCast]
    have hfr := hl.from8 f (by omega)
    obtain ⟨Q, e3, hQ⟩ := cutb_h hfr n' (by rw [List.length_drop]; omega)
    rw [List.length_drop] at e3
    have hlen : (c.cont l).length = n' := by rw [hcont]; simp; omega
    have hlc := hl.len
    refine ⟨Q, cap - f, by rw [hcont]; exact hQ, fun ad had => ?_, fun W _ => ?_⟩
    · obtain ⟨a1, h1, e1⟩ := cut_where w (by omega) (by omega) (e3 w) ad had
      obtain ⟨a2, h2, e2⟩ := sl8_where a1 h1
      exact ⟨a2, .inl ⟨fun hp => by rw [hcont, List.length_take, List.length_drop] at hp; omega, h2⟩, e1.trans e2⟩
    · rw [hk, hf, hn, hlen]
      exact content_copy a l.length cap c.t f n' c.a Q c.cap c.l.length W hl.len hl.capb (by omega) e3
  · have hcont : c.cont l = c.l := by
      unfold Cmd.cont contC Cmd.core
      simp only
      rw [if_neg (by omega)]
    refine ⟨c.a, c.cap, by rw [hcont]; exact hc.b, fun ad had => ⟨ad, .inr had, rfl⟩, fun W hW => ?_⟩
    rw [hcont] at hW
    rw [hk, hcont]
    exact content_lit a l.length cap c.t c.f c.n c.l c.a c.cap W hW

theorem flat_take {α β : Type} {f : α → List β} (L : List α) (k : Nat) : ((L.take k).flatMap f).length ≤ (L.flatMap f).length := by
  conv => rhs; rw [← List.take_append_drop k L, List.flatMap_append, List.length_append]
  omega

set_option maxRecDepth 100000 in
set_option maxHeartbeats 4000000 in
theorem newHash_any (l : List Int) (a : Option Addr) (cap : Nat) (D : Array Value) (o : Int) (n : Nat) (x y : List Int) (ca : Option Addr) (cs : List Cmd) (ccap : Nat) (hD : DeltaOf D o n x y (.slice ca cs.length ccap)) (w : World) (hR : Roots w) (hl : BytesIn w a l cap) (h : CmdsIn w ca cs ccap) (hL : cs.length ≤ 1000000) (hsm : ∀ c ∈ cs, c.l.length ≤ 1000000) (hn : n ≤ 1000000) (ho : (l.length : Int) = o) (hv : ValidD o n cs) :
    Calls Tryz.prog 33 #[.slice a l.length cap, .agg D] w (Gives (.agg (byteA (shaL (newF l n cs)))) w) := by
  obtain ⟨S, hS⟩ := start2 w (deltaO D) (.cells zero32 24 (0, 0))
  have HSORT := Lib.hid (fun W (hb : Below w.heap.size w W) => dsort_any2 D o n x y ca cs ccap hD W (h.below hb) hL hsm)
  have hinf0 := infoDelta hD
  have HR := Lib.hid hR
  have HL := Lib.hid hl
  have HV := Lib.hid (And.intro ho hv)
  have HS := Lib.hid hS
  generalize hlen : l.length = LL at *
  clear hD hR hl h hL hsm ho hv hS
  go_enter Tryz.func33, Tryz.ntmps33
  go_wp2_with fail
  rw [HS.out]
  refine (HeldW.makes (s := S) (new_any _)).mono ?_
  rintro e _ ⟨g, ob, rfl, hg, hgb, hi, s1, rfl⟩
  have hgd := s1.blocks (w.heap.size, deltaO D) (by simp)
  clear HS S
  go_wp2_with (refine wpList_load_row rfl 27 (.tmp 3) rfl w.heap.size rfl 27 _ (0, 0) _ hgd Tryz.underlying27 rfl hinf0 ?_)
  refine (HSORT.out _ s1.below).mono ?_
  rintro e W2 ⟨D', g2, ds, ls, rfl, hD', hin, hco, hperm, hasc, hB, hge2, hap2⟩
  have hfl := field_cmds hD' W2
  obtain ⟨s2, h2⟩ := s1.after hB
  have hin0 := hin
  rw [h2] at hfl hin ⊢
  have hvl : ValidD o n ls := HV.out.2.perm hperm
  have hvd : ValidD o n ds := valid_cores hco hvl
  have hflat : ds.flatMap (Cmd.cont l) = newF l n cs := by
    have e1 : ds.flatMap (Cmd.cont l) = ls.flatMap (Cmd.cont l) := by
      have : ds.flatMap (Cmd.cont l) = (cores ds).flatMap (contC l) := by unfold cores; rw [List.flatMap_map]; rfl
      rw [this, hco]
      unfold cores
      rw [List.flatMap_map]
      rfl
    have hol : (l.length : Int) = o := by rw [hlen]; exact HV.out.1
    rw [e1, newF_flat hol hvl hasc, newF_perm hol HV.out.2 hperm]
  have HVD := Lib.hid (And.intro hvd hflat)
  have HIN := Lib.hid hin
  obtain ⟨CC, hCC⟩ : ∃ m, m = ds.length := ⟨_, rfl⟩
  have HCC := Lib.hid hCC
  rw [← hCC] at hfl
  clear hD' hin hin0 hco hperm hasc hB h2 hvl hvd hflat HSORT hCC
  go_wp2_with fail
  have hglt : g < s2.w.heap.size := (Array.getElem?_eq_some_iff.1 (s2.blocks (g, ob) (by simp))).1
  have hw2 : Below w.heap.size w s2.w := s2.below
  obtain ⟨X, hX⟩ : ∃ X : HeldX s2.w g [(g, ob), (w.heap.size + 1, .cells zero32 24 (0, 0))], s2.w = X.w := ⟨⟨s2.w, But.refl _ _ _, fun p hp => s2.blocks p (by
    simp only [List.mem_cons, List.not_mem_nil, or_false] at hp ⊢
    rcases hp with rfl | rfl <;> simp)⟩, rfl⟩
  have hgz : w.heap.size + 1 ≠ g := hgb.out (w.heap.size + 1, .cells zero32 24 (0, 0)) (by simp)
  have hg0 : g ≠ 0 := by have := HR.out.pos; omega
  have hap3 : Hid (∀ c ∈ ds, ∀ ad, c.a = some ad → ad.block ≠ g) := Lib.hid fun c hc ad had => by
    have h1 := hap2 c hc ad had
    have h2 : g < s1.w.heap.size := (Array.getElem?_eq_some_iff.1 (s1.blocks (g, ob) (by simp))).1
    omega
  have hg2g : g2 ≠ g := by
    have h2 : g < s1.w.heap.size := (Array.getElem?_eq_some_iff.1 (s1.blocks (g, ob) (by simp))).1
    omega
  have hl2 : Hid (BytesIn s2.w a l cap) := Lib.hid (HL.out.below hw2)
  have halo : Hid (0 < l.length → ∀ ad, a = some ad → ad.block ≠ g) := Lib.hid fun hp ad had => by
    obtain ⟨b, o', he, hc⟩ := HL.out.cells hp
    have := World.block_lt_of_cell? _ _ (hc 0 hp)
    rw [he] at had
    cases had
    simp only at this ⊢
    omega
  have HLE : Hid (l.length = LL) := Lib.hid hlen
  have HR2 := Lib.hid (HR.out.below hw2)
  have HW2 := Lib.hid hw2
  have hccb : CC ≤ 9223372036854775807 := by rw [HCC.out]; have := HIN.out.len; have := HIN.out.capb; omega
  rw [hX]
  clear hap2 hlen hw2 hX
  go_loopw [13] (fun v wr => ∃ (k : Nat) (m : List Int) (ob : Obj), k ≤ CC ∧ v = .int .i64 (k : Int) ∧ Hid (m = (ds.take k).flatMap (Cmd.cont l) ∧ Inv m ob) ∧ ∃ s : HeldX s2.w g [(g, ob), (w.heap.size + 1, .cells zero32 24 (0, 0))], wr = s.w) (fun v _ => CC - (intOf v).toNat)
  case atStart => exact ⟨0, [], ob, by omega, rfl, Lib.hid ⟨by simp, hi.out⟩, X, rfl⟩
  case round =>
    clear X hi
    obtain ⟨k, m, ob, hk, rfl, hm, s, rfl⟩ := hrel
    have hml : m.length ≤ n := by
      have h1 := flat_take (f := Cmd.cont l) ds k
      rw [← hm.out.1, HVD.out.2, newF_length] at h1
      exact h1
    by_cases hlt : k < CC
    · obtain ⟨c, hc⟩ : ∃ c, ds[k]? = some c := ⟨_, List.getElem?_eq_getElem (by rw [← HCC.out]; exact hlt)⟩
      have hcm := List.mem_of_getElem? hc
      have hs0 := HVD.out.1.all c hcm
      obtain ⟨b, oo, hbo, x0, x1, x2, x3, x4⟩ := HIN.out.at hc
      cases hbo
      have hk2 : ∀ i, s.w.cell? ⟨g2, i, none⟩ = s2.w.cell? ⟨g2, i, none⟩ := fun i => World.cell?_of_block (s.but.block g2 (World.block_lt_of_cell? _ _ x0) hg2g)
      rw [← hk2] at x0 x1 x2 x3 x4
      simp only [Nat.zero_add] at x0 x1 x2 x3 x4
      obtain ⟨A, C, hA, hAw, hcall⟩ := content_where hl2.out (show (l.length : Int) = o by rw [HLE.out]; exact HV.out.1) hs0 (HIN.out.ok c hcm)
      have hAg : 0 < (c.cont l).length → ∀ ad, A = some ad → ad.block ≠ g := fun hp ad had => by
        obtain ⟨ad', h1, h2⟩ := hAw ad had
        rw [h2]
        rcases h1 with h1 | h1
        · exact halo.out (h1.1 hp) ad' h1.2
        · exact hap3.out c hcm ad' h1
      obtain ⟨mm, hmm⟩ : ∃ mm, mm = c.cont l := ⟨_, rfl⟩
      rw [← hmm] at hA hcall hAg
      have hA2 : Hid (∀ (bs : List (Nat × Obj)) (s : HeldX s2.w g bs), BytesIn s.w A mm C) := Lib.hid fun bs s => bytes_keep hA (fun hp ad had hlt => s.but.block _ hlt (hAg hp ad had))
      have HAG := Lib.hid hAg
      have hnext : Hid (m ++ [mm].flatten = (ds.take (k + 1)).flatMap (Cmd.cont l)) := Lib.hid (by
        rw [List.take_add_one, hc, hm.out.1, hmm]
        simp)
      have hnl : m.length + mm.length ≤ n := by
        have h1 := flat_take (f := Cmd.cont l) ds (k + 1)
        rw [← hnext.out, HVD.out.2, newF_length] at h1
        simpa using h1
      have HCALL := Lib.hid hcall
      have HCb := Lib.hid (And.intro hA.len hA.capb)
      rw [HLE.out] at HCALL
      clear hc hcm hs0 hk2 hA hAw hcall hAg hmm
      go_wp2_with fail
      clear x0 x1 x2 x3 x4
      obtain ⟨s3, h3⟩ : ∃ s3 : HeldX s2.w g [(g, ob), (w.heap.size + 1, .cells zero32 24 (0, 0))], s.w.alloc (cmdO c.k c.t c.f c.n (.slice c.a c.l.length c.cap)) = s3.w := ⟨(s.push _).sub (fun p hp => List.mem_cons_of_mem _ hp), rfl⟩
      rw [h3]
      clear h3
      refine (HeldX.call (HCALL.out s3.w (hA2.out _ s3))).mono ?_
      rintro e _ ⟨rfl, s4, rfl⟩
      clear s3
      go_wp2_with fail
      obtain ⟨B, s5, hB, h5⟩ : ∃ (B : Nat) (s5 : HeldX s2.w g [(g, ob), (B, .cells #[.slice A mm.length C] 22 (0, 0)), (w.heap.size + 1, .cells zero32 24 (0, 0))]), B = s4.w.heap.size ∧ s4.w.alloc (.cells #[.slice A mm.length C] 22 (0, 0)) = s5.w := ⟨_, (s4.push (.cells #[.slice A mm.length C] 22 (0, 0))).sub (fun p hp => by
        simp only [List.mem_cons, List.not_mem_nil, or_false] at hp ⊢
        rcases hp with rfl | rfl | rfl <;> simp), rfl, rfl⟩
      have hgB : B ≠ g := by
        have := (Array.getElem?_eq_some_iff.1 (s4.blocks (g, ob) (by simp))).1
        simp only at this
        omega
      have hz1 : w.heap.size + 1 ≠ g := hgz
      rw [h5, ← hB]
      have hw := write_any g m [mm] ob (some ⟨B, 0, none⟩) 1 s5.w hm.out.2 (s5.blocks (g, ob) (by simp)) hg0 (HR2.out.X hg0 s5)
        (parts1 (s5.blocks (B, .cells #[.slice A mm.length C] 22 (0, 0)) (by simp)) hgB HCb.out.1 HCb.out.2 (fun hp => by
          obtain ⟨b', o', he, hc⟩ := (hA2.out _ s5).cells hp
          exact ⟨b', o', he, HAG.out hp _ he, hc⟩)) (by simp) (by simp; omega)
      have hw2 := HeldX.takes (s := s5) hw (.inl rfl) (all2 (Q := fun p : Nat × Obj => p.1 ≠ g) hgB hz1)
      clear hw h5 hB s4
      refine hw2.mono ?_
      rintro e _ ⟨rfl, ob', hi', s6, rfl⟩
      obtain ⟨s7, h7⟩ : ∃ s7 : HeldX s2.w g [(g, ob'), (w.heap.size + 1, .cells zero32 24 (0, 0))], s6.w = s7.w := ⟨s6.sub (fun p hp => by
        simp only [List.mem_cons, List.not_mem_nil, or_false] at hp ⊢
        rcases hp with rfl | rfl <;> simp), rfl⟩
      have HI7 := Lib.hid hi'
      rw [h7]
      clear hw2 h7 s6 s5
      go_wp2
      go_roundw
      case rel => exact ⟨k + 1, _, ob', by omega, by go_num, Lib.hid ⟨hnext.out, HI7.out.out⟩, s7, rfl⟩
      case measure => simp [intOf]; omega
    · obtain rfl : k = CC := by omega
      have hmF : m = newF l n cs := by rw [hm.out.1, HCC.out, List.take_length, HVD.out.2]
      have hsum := sum_any g m ob s.w hm.out.2 (s.blocks (g, ob) (by simp)) (HR2.out.X hg0 s) (by omega)
      rw [hmF] at hsum
      have hsl : (byteA (shaL (newF l n cs))).size = 32 := by rw [byteA_size, shaL_length]
      generalize shaL (newF l n cs) = dg at *
      have hinf : (Tryz.prog.info? 24).map (·.size) = some (byteA dg).size := by rw [hsl]; kernel_rfl
      have hsr : zero32.size = (byteA dg).size := by rw [hsl]; rfl
      have hone := byteA_one dg
      clear hsl hmF
      go_wp2_with fail
      refine (HeldX.call (s := s) hsum).mono ?_
      rintro e _ ⟨rfl, s8, rfl⟩
      have hst := s8.blocks (w.heap.size + 1, .cells zero32 24 (0, 0)) (by simp)
      have HBW := Lib.hid (show Below w.heap.size w s8.w from HW2.out.trans ((s8.but.mono HW2.out.size).below (by omega)))
      clear hsum
      go_wp2_with (refine wpList_store_rowTo rfl 24 (.tmp 4) (.tmp 25) rfl rfl (w.heap.size + 1) (byteA dg) rfl rfl 24 zero32 hst hinf hsr hone ?_)
      refine bodyPost_ret (v := .agg (byteA dg)) ?_ rfl ⟨rfl, below_setRow HBW.out (by omega) _⟩
      exact results_cell_row Tryz.results33 _ _ (w.heap.size + 1) 24 _ (0, 0) _ rfl (setRow_heap _ _ _ _ _ _ hst) Tryz.underlying24 rfl hinf

end Go.Proofs.YtdedfjkenbaebaaGreatDoor
