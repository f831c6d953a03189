import Derived.BigQuiet
import Derived.Great.BuildSlice
import Derived.Test.YtdedfjkenbaebaaDoorE08a25
import Derived.Test.YtdedfjkenbaebaaDoorE08a18
import Derived.Test.YtdedfjkenbaebaaDoorE08a27
/- Byte of package patch. -/
namespace Go.Proofs.YtdedfjkenbaebaaDoor
open Go.RowKit Go.Proofs.YtdedfjkenbaebaaDoor.Plain01
set_option linter.unusedVariables false
set_option linter.unusedSimpArgs false

theorem valid_cover {o n : Int} {l : List Int} {cs : List Cmd} (ho : (l.length : Int) = o) (hv : ValidD o n cs) : ∀ c ∈ cs, okE c.tgt = true ∧ (c.k = 1 ∨ c.k = 2) := fun c hc => by
  have hs := hv.all c hc
  have h2 := (single_ok hs).2.1
  have hl := hv.lens
  unfold LensBad at hl
  exact ⟨okE_iff.2 ⟨by unfold Cmd.tgt; simp only; omega, by unfold Cmd.tgt; simp only; omega, by unfold Cmd.tgt; simp only; omega⟩, (cont_len ho hs).2⟩

/-- A byte of the new file. -/
noncomputable def byteV (l : List Int) (n : Nat) (cs : List Cmd) (off : Int) : Value := if 0 ≤ off ∧ off < (n : Int) then .tuple #[.int .u8 (((newF l n cs)[off.toNat]?).getD 0), .bool true] else .tuple #[.int .u8 0, .bool false]

set_option maxRecDepth 100000 in
set_option maxHeartbeats 4000000 in
theorem pbyte_any (l : List Int) (a : Option Addr) (cap : Nat) (D : Array Value) (o : Int) (n : Nat) (x y : List Int) (ca : Option Addr) (cs : List Cmd) (ccap : Nat) (off : Int) (hD : DeltaOf D o n x y (.slice ca cs.length ccap)) (w : World) (hl : BytesIn w a l cap) (h : CmdsIn w ca cs ccap) (hL : cs.length ≤ 1000000) (ho : (l.length : Int) = o) (hv : ValidD o n cs) (hoff : I64 off) :
    Calls Tryd.prog 14 #[.slice a l.length cap, .agg D, .int .i64 off] w (Gives (byteV l n cs off) w) := by
  have hI : I64 o ∧ I64 (n : Int) := by
    have := hv.lens
    unfold LensBad at this
    unfold I64
    omega
  obtain ⟨S, hS⟩ := start1 w (deltaO D)
  have hc := pfits_any a l.length cap D o n x y ca cs ccap hD S.w (h.W S) hL hI.1 hI.2
  have hf : decide (o = (l.length : Int) ∧ (faultOf o n cs).1 = 0) = true := decide_eq_true ⟨ho.symm, faultOf_zero.2 hv⟩
  rw [hf] at hc
  have HF := Lib.hid (fun s : HeldW w [(w.heap.size, deltaO D)] => dfind_any D o n x y ca cs ccap hD off s.w (h.W s) (valid_cover ho hv))
  have HG := Lib.hid (fun s : HeldW w [(w.heap.size, deltaO D)] => s.blocks (w.heap.size, deltaO D) (by simp))
  have hinf := infoDelta hD
  have hg : (w.alloc (deltaO D)).heap[w.heap.size]? = some (deltaO D) := heap_new w _ rfl
  have HS := Lib.hid hS
  have HD := Lib.hid hD
  have HC := Lib.hid h
  have HL := Lib.hid hl
  have HV := Lib.hid (And.intro ho hv)
  have hfs := findOf_spec cs off
  obtain ⟨POST, hP⟩ : ∃ P, P = Gives (byteV l n cs off) w := ⟨_, rfl⟩
  by_cases hne : findOf cs off = -1
  · have hnone : ¬ (0 ≤ off ∧ off < (n : Int)) := fun hb => by
      obtain ⟨i, c, hi, hh⟩ := (hv.some off).1 hb
      exact hfs.no hne c (List.mem_of_getElem? hi) hh
    have HQ : Hid (∀ W, Below w.heap.size w W → POST (.returned (.tuple #[.int .u8 0, .bool false])) W) := Lib.hid fun W hb => by
      rw [hP]
      unfold byteV
      rw [if_neg hnone]
      exact ⟨rfl, hb⟩
    rw [← hP]
    rw [hne] at HF
    generalize l.length = LL at *
    clear hD h hL hl ho hv hI hS hf hP hfs hne hnone HC HL HV HD
    go_enter Tryd.func14, Tryd.ntmps14
    go_wp2_with (refine wpList_load_row rfl 26 (.tmp 4) rfl w.heap.size rfl 26 _ (0, 0) _ hg Tryd.underlying26 rfl hinf ?_)
    rw [HS.out]
    clear hg
    refine (HeldW.call hc).mono ?_
    rintro e _ ⟨rfl, s2, rfl⟩
    have hg := HG.out s2
    go_wp2_with (refine wpList_load_row rfl 26 (.tmp 4) rfl w.heap.size rfl 26 _ (0, 0) _ hg Tryd.underlying26 rfl hinf ?_)
    refine (HeldW.call (HF.out s2)).mono ?_
    rintro e _ ⟨rfl, s3, rfl⟩
    have HR := Lib.hid (HQ.out s3.w s3.below)
    clear hg hc s2
    go_wp2
    exact HR.out
  · obtain ⟨k, c, hk, hkc, hh, -⟩ := hfs.yes hne
    have hm := List.mem_of_getElem? hkc
    have hs0 := hv.all c hm
    have hsb := (single_ok hs0).2.1
    have hwid := (cont_len ho hs0).1
    unfold Cmd.has at hh
    have hin : 0 ≤ off ∧ off < (n : Int) := by omega
    obtain ⟨T, hT⟩ : ∃ T : Nat, c.t = T := ⟨c.t.toNat, by omega⟩
    obtain ⟨i, hi⟩ : ∃ i : Nat, off = (T : Int) + i := ⟨(off - T).toNat, by omega⟩
    subst hi
    have hval := newF_at ho hv hm (i := i) (by omega)
    obtain ⟨A, C, hBA, hcall⟩ := content_any hl ho hs0 (h.ok c hm)
    obtain ⟨m, hmm⟩ : ∃ m, m = c.cont l := ⟨_, rfl⟩
    rw [← hmm] at hval hBA hcall hwid
    have him : i < m.length := by omega
    have HQ : Hid (∀ W, Below w.heap.size w W → POST (.returned (.tuple #[.int .u8 (m[i]?.getD 0), .bool true])) W) := Lib.hid fun W hb => by
      rw [hP]
      unfold byteV
      rw [if_pos hin, show ((T : Int) + (i : Int)).toNat = c.t.toNat + i by omega, hval]
      exact ⟨rfl, hb⟩
    obtain ⟨bA, oA, rfl, hcA⟩ := hBA.cells (by omega)
    have hcAi := hcA i him
    generalize m[i]?.getD 0 = v at *
    have HCELL := Lib.hid hcAi
    rw [hT] at hcall
    have HCALL := Lib.hid hcall
    have HKC := Lib.hid hkc
    have hcb : T ≤ 4611686018427387903 ∧ i ≤ 4611686018427387903 := by
      have := hv.lens
      unfold LensBad at this
      omega
    have hkb : k ≤ 1000000 := by have := (List.getElem?_eq_some_iff.1 hkc).1; omega
    have hkl : k < cs.length := (List.getElem?_eq_some_iff.1 hkc).1
    have hcc := h.capb
    have hlen := h.len
    rw [hk] at HF
    rw [← hP]
    generalize m.length = M at *
    generalize l.length = LL at *
    generalize cs.length = CC at *
    clear hD hL hl ho hI hS hf hP hfs hne hm hs0 hsb hwid hh hin hval hcall hcA hcAi hmm hkc hv HV HL hBA h
    go_enter Tryd.func14, Tryd.ntmps14
    go_wp2_with (refine wpList_load_row rfl 26 (.tmp 4) rfl w.heap.size rfl 26 _ (0, 0) _ hg Tryd.underlying26 rfl hinf ?_)
    rw [HS.out]
    clear hg
    refine (HeldW.call hc).mono ?_
    rintro e _ ⟨rfl, s2, rfl⟩
    have hg := HG.out s2
    go_wp2_with (refine wpList_load_row rfl 26 (.tmp 4) rfl w.heap.size rfl 26 _ (0, 0) _ hg Tryd.underlying26 rfl hinf ?_)
    refine (HeldW.call (HF.out s2)).mono ?_
    rintro e _ ⟨rfl, s3, rfl⟩
    clear hg hc s2
    have c66 : s3.w.cell? ⟨w.heap.size, 66, none⟩ = some (.slice ca CC ccap) := (cell_of (s3.blocks (w.heap.size, deltaO D) (by simp)) 66).trans HD.out.c66
    have hcin := HC.out.W s3
    obtain ⟨b, oo, rfl, x0, x1, x2, x3, x4⟩ := hcin.at HKC.out
    clear hcin
    go_wp2_with fail
    obtain ⟨B9, s4, hB9, hB9w, hlt9, hS9⟩ := s3.more1 (cmdO c.k T c.f c.n (.slice c.a c.l.length c.cap))
    obtain ⟨hcb1, hcb2⟩ := hcb
    have d0 := (held_cmdA s4 B9 c.k T c.f c.n (.slice c.a c.l.length c.cap) (by simp)).1
    have d1 := (held_cmdA s4 B9 c.k T c.f c.n (.slice c.a c.l.length c.cap) (by simp)).2.1
    have d2 := (held_cmdA s4 B9 c.k T c.f c.n (.slice c.a c.l.length c.cap) (by simp)).2.2.1
    have d3 := (held_cmdA s4 B9 c.k T c.f c.n (.slice c.a c.l.length c.cap) (by simp)).2.2.2.1
    have d4 := (held_cmdA s4 B9 c.k T c.f c.n (.slice c.a c.l.length c.cap) (by simp)).2.2.2.2
    have d5 : ∀ s : HeldW w [(B9, cmdO c.k T c.f c.n (.slice c.a c.l.length c.cap)), (w.heap.size, deltaO D)], s.w.cell? ⟨bA, oA + i, none⟩ = some (.int .u8 v) := fun s => (s.below.cell (p := ⟨bA, oA + i, none⟩) (World.block_lt_of_cell? _ _ HCELL.out)).trans HCELL.out
    have e30 : (T : Int) + (i : Int) - (T : Int) = (i : Int) := by omega
    have HS9 := Lib.hid (And.intro hB9 hS9)
    clear c66 x0 x1 x2 x3 x4 hB9 hS9 hlt9
    rw [HS9.out.2, ← HS9.out.1]
    clear HS9
    refine wp_region_class w [(B9, cmdO c.k T c.f c.n (.slice c.a c.l.length c.cap)), (w.heap.size, deltaO D)] (by kernel_rfl) (by kernel_rfl) s4.below s4.blocks (fun hne => ?_)
    repeat (go_big_quiet_step ((go_at_call 26; exact HeldW.call (HCALL.out _ (HeldW.below _)))))
    refine wpQuiet_nil ?_
    rintro _ ⟨s5, rfl⟩
    have HR := Lib.hid (HQ.out s5.w s5.below)
    clear hne d0 d1 d2 d3 d4 d5 s4 s3
    go_wp2
    exact HR.out
end Go.Proofs.YtdedfjkenbaebaaDoor

/- PatchBytes returns true for every file, delta and offset, and changes nothing that was there. -/
namespace Go.Proofs.YtdedfjkenbaebaaDoor
open Go.RowKit
set_option linter.unusedVariables false
set_option linter.unusedSimpArgs false

set_option maxRecDepth 100000 in
set_option maxHeartbeats 4000000 in
theorem patchBytes_big1 (a : Option Addr) (l : List Int) (cap : Nat) (D : Array Value) (off : Int) (w : World) (hR : Roots w) (hbig : 300 < l.length) :
    Calls Tryd.prog 4 #[.slice a l.length cap, .agg D, .int .i64 off] w (Gives (.bool true) w) := by
  obtain ⟨S, hS⟩ := start1 w (deltaO D)
  have hA := alive08_any S.w (hR.W S)
  have HS := Lib.hid hS
  generalize l.length = L at *
  have d9 : decide ((300 : Int) < (L : Int)) = true := by simp; omega
  clear hS hR
  go_enter Tryd.func4, Tryd.ntmps4
  go_wp2_with fail
  rw [HS.out]
  refine (HeldW.call hA).mono ?_
  rintro e _ ⟨rfl, s3, rfl⟩
  go_wp2
  go_ret
  exact ⟨rfl, s3.below⟩

set_option maxRecDepth 100000 in
set_option maxHeartbeats 4000000 in
theorem patchBytes_no (a : Option Addr) (l : List Int) (cap : Nat) (D : Array Value) (o n : Int) (x y : List Int) (ca : Option Addr) (cs : List Cmd) (ccap : Nat) (off : Int) (hD : DeltaOf D o n x y (.slice ca cs.length ccap)) (w : World) (hR : Roots w) (h : CmdsIn w ca cs ccap) (hs : l.length ≤ 300) (hf : ¬ FitsD l.length o n cs) :
    Calls Tryd.prog 4 #[.slice a l.length cap, .agg D, .int .i64 off] w (Gives (.bool true) w) := by
  obtain ⟨S, hS⟩ := start1 w (deltaO D)
  have hF := rfits8_any a l.length cap D o n x y ca cs ccap hD S.w (h.W S)
  have HR := Lib.hid hR
  have HNF := Lib.hid hf
  have hinf := infoDelta hD
  have hg : (w.alloc (deltaO D)).heap[w.heap.size]? = some (deltaO D) := heap_new w _ rfl
  have HS := Lib.hid hS
  generalize l.length = L at *
  have d9 : decide ((300 : Int) < (L : Int)) = false := by simp; omega
  clear hS hD h hf hR
  go_enter Tryd.func4, Tryd.ntmps4
  go_wp2_with (refine wpList_load_rowG rfl 26 (.tmp 4) rfl (some 15) rfl w.heap.size rfl 26 _ (0, 0) _ hg Tryd.underlying26 rfl hinf ?_)
  rw [HS.out]
  clear hg
  refine hF.mono ?_
  rintro e W2 ⟨r, rfl, hr, hb2⟩
  obtain ⟨s2, rfl⟩ := S.after hb2
  obtain rfl : r = false := by
    cases r with
    | false => rfl
    | true => exact absurd (hr.1 rfl) HNF.out
  clear hr hb2
  go_wp2_with fail
  refine (HeldW.call (alive08_any _ (HR.out.W s2))).mono ?_
  rintro e _ ⟨rfl, s3, rfl⟩
  go_wp2
  go_ret
  exact ⟨rfl, s3.below⟩

set_option maxRecDepth 100000 in
set_option maxHeartbeats 8000000 in
theorem patchBytes_yes (a : Option Addr) (l : List Int) (cap : Nat) (D : Array Value) (o : Int) (n : Nat) (x y : List Int) (ca : Option Addr) (cs : List Cmd) (ccap : Nat) (off : Int) (hD : DeltaOf D o n x y (.slice ca cs.length ccap)) (w : World) (hR : Roots w) (hb : BytesIn w a l cap) (h : CmdsIn w ca cs ccap) (hs : l.length ≤ 300) (hf : FitsD l.length o n cs) (hoff : I64 off) :
    Calls Tryd.prog 4 #[.slice a l.length cap, .agg D, .int .i64 off] w (Gives (.bool true) w) := by
  obtain ⟨S, hS⟩ := start1 w (deltaO D)
  have hv := faultOf_zero.1 hf.1.1.2
  have ho : (l.length : Int) = o := hf.1.2.symm
  have hn3 : n ≤ 3000 := by have := hf.2; omega
  have hL40 : cs.length ≤ 1000000 := by have := hf.1.1.1.2; omega
  have hF := rfits8_any a l.length cap D o n x y ca cs ccap hD S.w (h.W S)
  have HRA := Lib.hid (fun (W : World) (hW : Below w.heap.size w W) => rapply8_any l a cap D o n x y ca cs ccap hD W (hb.below hW) (h.below hW) hL40 (by omega) ho hv)
  have HBY := Lib.hid (fun (W : World) (hW : Below w.heap.size w W) => pbyte_any l a cap D o n x y ca cs ccap off hD W (hb.below hW) (h.below hW) hL40 ho hv hoff)
  have HR := Lib.hid hR
  have HNF := Lib.hid hf
  have hinf := infoDelta hD
  have hg : (w.alloc (deltaO D)).heap[w.heap.size]? = some (deltaO D) := heap_new w _ rfl
  have HS := Lib.hid hS
  have hFL := newF_length l n cs
  unfold byteV at HBY
  obtain ⟨F, hF2⟩ : ∃ F, F = newF l n cs := ⟨_, rfl⟩
  rw [← hF2] at HRA HBY hFL
  generalize l.length = L at *
  have d9 : decide ((300 : Int) < (L : Int)) = false := by simp; omega
  unfold I64 at hoff
  clear hS hD h hf hR hb ho hv hF2
  obtain ⟨POST, hP⟩ : ∃ P, P = Gives (.bool true) w := ⟨_, rfl⟩
  have HQ : Hid (∀ W, Below w.heap.size w W → POST (.returned (.bool true)) W) := Lib.hid fun W hW => by rw [hP]; exact ⟨rfl, hW⟩
  rw [← hP]
  clear hP
  by_cases hin : 0 ≤ off ∧ off < (n : Int)
  · obtain ⟨i, rfl⟩ : ∃ i : Nat, off = i := ⟨off.toNat, by omega⟩
    obtain ⟨xb, hxb⟩ : ∃ xb, F[i]? = some xb := ⟨_, List.getElem?_eq_getElem (by omega)⟩
    have HXB := Lib.hid hxb
    rw [if_pos hin, Int.toNat_natCast, hxb, Option.getD_some] at HBY
    clear hxb
    have d31 : decide ((i : Int) < 0) = false := by simp
    have hFL' := Lib.hid hFL
    have d36 : decide ((n : Int) ≤ (i : Int)) = false := by simp; omega
    have hin2 : i < n := by omega
    clear hFL
    go_enter Tryd.func4, Tryd.ntmps4
    go_wp2_with (refine wpList_load_rowG rfl 26 (.tmp 4) rfl (some 15) rfl w.heap.size rfl 26 _ (0, 0) _ hg Tryd.underlying26 rfl hinf ?_)
    rw [HS.out]
    clear hg
    refine hF.mono ?_
    rintro e W2 ⟨r, rfl, hr, hb2⟩
    obtain ⟨s2, rfl⟩ := S.after hb2
    obtain rfl : r = true := hr.2 HNF.out
    have hg := s2.blocks (w.heap.size, deltaO D) (by simp)
    clear hr hb2 hF
    go_wp2_with (refine wpList_load_row rfl 26 (.tmp 4) rfl w.heap.size rfl 26 _ (0, 0) _ hg Tryd.underlying26 rfl hinf ?_)
    clear hg
    refine (HRA.out s2.w s2.below).mono ?_
    rintro e _ ⟨v8, rfl, o8, rfl⟩
    obtain ⟨a8, cap8, rfl, hb8⟩ := o8.bytesN hFL'.out
    obtain ⟨s8, hs8⟩ := o8.on s2
    rw [hs8] at hb8 ⊢
    obtain ⟨bA, oA, rfl, hcA⟩ := hb8.cells (by rw [hFL'.out]; omega)
    have hci := hcA i (by rw [hFL'.out]; exact hin2)
    rw [HXB.out] at hci
    have HCI := Lib.hid (show s8.w.cell? ⟨bA, oA + i, none⟩ = some (.int .u8 xb) from hci)
    have hg := s8.blocks (w.heap.size, deltaO D) (by simp)
    have hcl := hb8.len
    have hcb := hb8.capb
    rw [hFL'.out] at hcl
    clear hs8 o8 hb8 hcA hci s2
    go_wp2_with (refine wpList_load_row rfl 26 (.tmp 4) rfl w.heap.size rfl 26 _ (0, 0) _ hg Tryd.underlying26 rfl hinf ?_)
    clear hg
    refine (HBY.out s8.w s8.below).mono ?_
    rintro e W9 ⟨rfl, hb9⟩
    have hc9 : W9.cell? ⟨bA, oA + i, none⟩ = some (.int .u8 xb) := (hb9.cell (World.block_lt_of_cell? _ _ HCI.out)).trans HCI.out
    have HB9 := Lib.hid (s8.below.trans (hb9.mono s8.below.size))
    have HC9 := Lib.hid hc9
    clear hb9 hc9 s8 HCI
    go_wp2_with fail
    refine (HeldW.call (s := (⟨W9, Below.refl _ _, by simp⟩ : HeldW W9 [])) (alive08_any _ (HR.out.below HB9.out))).mono ?_
    rintro e _ ⟨rfl, s10, rfl⟩
    have hc10 : s10.w.cell? ⟨bA, oA + i, none⟩ = some (.int .u8 xb) := (s10.below.cell (World.block_lt_of_cell? _ _ HC9.out)).trans HC9.out
    have HR10 := Lib.hid (HQ.out s10.w (HB9.out.trans (s10.below.mono HB9.out.size)))
    go_wp2
    exact HR10.out
  · rw [if_neg hin] at HBY
    have hFL' := Lib.hid hFL
    have hout : off < 0 ∨ (0 ≤ off ∧ (n : Int) ≤ off) := by omega
    clear hin hFL
    rcases hout with hout | hout
    · have d31 : decide (off < 0) = true := by simp; omega
      go_enter Tryd.func4, Tryd.ntmps4
      go_wp2_with (refine wpList_load_rowG rfl 26 (.tmp 4) rfl (some 15) rfl w.heap.size rfl 26 _ (0, 0) _ hg Tryd.underlying26 rfl hinf ?_)
      rw [HS.out]
      clear hg
      refine hF.mono ?_
      rintro e W2 ⟨r, rfl, hr, hb2⟩
      obtain ⟨s2, rfl⟩ := S.after hb2
      obtain rfl : r = true := hr.2 HNF.out
      have hg := s2.blocks (w.heap.size, deltaO D) (by simp)
      clear hr hb2 hF
      go_wp2_with (refine wpList_load_row rfl 26 (.tmp 4) rfl w.heap.size rfl 26 _ (0, 0) _ hg Tryd.underlying26 rfl hinf ?_)
      clear hg
      refine (HRA.out s2.w s2.below).mono ?_
      rintro e _ ⟨v8, rfl, o8, rfl⟩
      obtain ⟨a8, cap8, rfl, hb8⟩ := o8.bytesN hFL'.out
      obtain ⟨s8, hs8⟩ := o8.on s2
      rw [hs8]
      have hg := s8.blocks (w.heap.size, deltaO D) (by simp)
      clear hs8 hb8 o8 s2
      go_wp2_with (refine wpList_load_row rfl 26 (.tmp 4) rfl w.heap.size rfl 26 _ (0, 0) _ hg Tryd.underlying26 rfl hinf ?_)
      clear hg
      refine (HeldW.call (HBY.out s8.w s8.below)).mono ?_
      rintro e _ ⟨rfl, s9, rfl⟩
      clear s8
      go_wp2_with fail
      refine (HeldW.call (alive08_any _ (HR.out.W s9))).mono ?_
      rintro e _ ⟨rfl, s10, rfl⟩
      have HR10 := Lib.hid (HQ.out s10.w s10.below)
      go_wp2
      exact HR10.out
    · have d31 : decide (off < 0) = false := by simp; omega
      have d36 : decide ((n : Int) ≤ off) = true := by simp; omega
      go_enter Tryd.func4, Tryd.ntmps4
      go_wp2_with (refine wpList_load_rowG rfl 26 (.tmp 4) rfl (some 15) rfl w.heap.size rfl 26 _ (0, 0) _ hg Tryd.underlying26 rfl hinf ?_)
      rw [HS.out]
      clear hg
      refine hF.mono ?_
      rintro e W2 ⟨r, rfl, hr, hb2⟩
      obtain ⟨s2, rfl⟩ := S.after hb2
      obtain rfl : r = true := hr.2 HNF.out
      have hg := s2.blocks (w.heap.size, deltaO D) (by simp)
      clear hr hb2 hF
      go_wp2_with (refine wpList_load_row rfl 26 (.tmp 4) rfl w.heap.size rfl 26 _ (0, 0) _ hg Tryd.underlying26 rfl hinf ?_)
      clear hg
      refine (HRA.out s2.w s2.below).mono ?_
      rintro e _ ⟨v8, rfl, o8, rfl⟩
      obtain ⟨a8, cap8, rfl, hb8⟩ := o8.bytesN hFL'.out
      obtain ⟨s8, hs8⟩ := o8.on s2
      rw [hs8]
      have hg := s8.blocks (w.heap.size, deltaO D) (by simp)
      clear hs8 hb8 o8 s2
      go_wp2_with (refine wpList_load_row rfl 26 (.tmp 4) rfl w.heap.size rfl 26 _ (0, 0) _ hg Tryd.underlying26 rfl hinf ?_)
      clear hg
      refine (HeldW.call (HBY.out s8.w s8.below)).mono ?_
      rintro e _ ⟨rfl, s9, rfl⟩
      clear s8
      go_wp2_with fail
      refine (HeldW.call (alive08_any _ (HR.out.W s9))).mono ?_
      rintro e _ ⟨rfl, s10, rfl⟩
      have HR10 := Lib.hid (HQ.out s10.w s10.below)
      go_wp2
      exact HR10.out

theorem patchBytes_walk (a : Option Addr) (l : List Int) (cap : Nat) (o n : Int) (x y : List Int) (ca : Option Addr) (cs : List Cmd) (ccap : Nat) (off : Int) (w : World) (hR : Roots w) (hb : BytesIn w a l cap) (io : I64 o) (inn : I64 n) (hx : x.length = 32) (hy : y.length = 32) (h : CmdsIn w ca cs ccap) (hoff : -9223372036854775808 ≤ off ∧ off ≤ 9223372036854775807) :
    Calls Tryd.prog 4 #[.slice a l.length cap, .agg (deltaA o n x y (.slice ca cs.length ccap)), .int .i64 off] w (Gives (.bool true) w) := by
  have hD : DeltaOf (deltaA o n x y (.slice ca cs.length ccap)) o n x y (.slice ca cs.length ccap) := ⟨rfl, hx, hy⟩
  by_cases h1 : 300 < l.length
  · exact patchBytes_big1 a l cap _ off w hR h1
  · by_cases h2 : FitsD l.length o n cs
    · obtain ⟨m, rfl⟩ : ∃ m : Nat, n = m := ⟨n.toNat, by have := (faultOf_zero.1 h2.1.1.2).lens; unfold LensBad at this; omega⟩
      exact patchBytes_yes a l cap _ o m x y ca cs ccap off hD w hR hb h (by omega) h2 hoff
    · exact patchBytes_no a l cap _ o n x y ca cs ccap off hD w hR h (by omega) h2
end Go.Proofs.YtdedfjkenbaebaaDoor
