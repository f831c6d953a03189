/- WireAppends returns true for all bytes and all fields, and changes nothing that was there. -/
import Derived.Test.Ytclalbiggnalfaa06Fields
import Derived.Test.Ytclalbiggnalfaa00Guard
namespace Go.Proofs.Ytclalbiggnalfaa
open Go.RowKit
set_option linter.unusedVariables false
set_option linter.unusedSimpArgs false

/-- An operation whose guard holds goes as one without. -/
theorem wpList_unguard {P : Program} {ops : Array Oper} {rest : List Oper} {o : Oper} {a : Act} {w : World} {Q : Exit → Act → World → Prop} (hg : Region.wanted o (yielded ops a.tmps) = true) (h : wpList P ops Q ({ o with guard := none } :: rest) a w) : wpList P ops Q (o :: rest) a w := by
  unfold wpList at h ⊢
  rw [if_pos hg]
  rw [if_pos (show Region.wanted { o with guard := none } (yielded ops a.tmps) = true from rfl)] at h
  exact h

/-- A slice of its own of l and one more byte: its first bytes. -/
theorem own_plus {W : World} {v : Value} {l : List Int} {M : Nat} (s : OwnW W 5 v ([] ++ l.map (Value.int .u8) ++ [.int .u8 77])) (hM : M = l.length) : ∃ (g C : Nat) (A : Option Addr), v = .slice (some ⟨g, 0, none⟩) (M + 1) C ∧ M + 1 ≤ C ∧ C ≤ 9223372036854775807 ∧
    (∀ X, (Instr.slice 22 (.slice (some ⟨g, 0, none⟩) (M + 1) C) none (some (.int .i64 (M : Int))) none).run Try.prog X = .ok (.slice A M C) X) ∧ Hid (BytesIn s.w A l C) ∧ Hid (s.w.cell? ⟨g, M, none⟩ = some (.int .u8 77)) := by
  subst hM
  obtain ⟨g, C, rfl, hg, h1, h2, hc⟩ := s.row (l.length + 1) (by simp) (by omega)
  have hb := (s.as (by simp : [] ++ l.map (Value.int .u8) ++ [.int .u8 77] = (l ++ [77]).map (Value.int .u8))).bytes
  obtain ⟨a, cap, he, hb⟩ := hb
  simp only [Value.slice.injEq] at he
  obtain ⟨rfl, -, rfl⟩ := he
  obtain ⟨A, hsl, hA⟩ := cutb_h hb l.length (by simp)
  rw [show (l ++ [(77 : Int)]).length = l.length + 1 by simp] at hsl
  rw [List.take_left] at hA
  exact ⟨g, C, A, rfl, h1, by unfold maxLen at h2; omega, hsl, hA, hc l.length _ (by simp)⟩

theorem appends_big (l : List Int) (a : Option Addr) (cap : Nat) (fs : List (Int × Int)) (fa : Option Addr) (fcap : Nat) (w : World) (hl : l.length ≤ 9223372036854775807) (hf : fs.length ≤ 9223372036854775807) (hbig : 300 < l.length ∨ 60 < fs.length) :
    Calls Try.prog 3 #[.slice a l.length cap, .slice fa fs.length fcap] w (Gives (.bool true) w) := by
  have ha := alive06_gives
  by_cases h1 : 300 < l.length
  · have d1 : decide ((300 : Int) < l.length) = true := by simp; omega
    clear hbig
    go_enter Try.func3, Try.ntmps3
    go_wp2_with fail
    refine (HeldW.call (s := HeldW.start w) (ha _)).mono ?_
    rintro e _ ⟨rfl, s1, rfl⟩
    go_wp2
    go_ret
    exact ⟨rfl, s1.below⟩
  · have d1 : decide ((300 : Int) < l.length) = false := by simp; omega
    have d2 : decide ((60 : Int) < fs.length) = true := by simp; omega
    clear hbig
    go_enter Try.func3, Try.ntmps3
    go_wp2_with fail
    refine (HeldW.call (s := HeldW.start w) (ha _)).mono ?_
    rintro e _ ⟨rfl, s1, rfl⟩
    go_wp2
    go_ret
    exact ⟨rfl, s1.below⟩

set_option maxRecDepth 100000 in
set_option maxHeartbeats 4000000 in
theorem appends_small (l : List Int) (a : Option Addr) (cap : Nat) (fs : List (Int × Int)) (fa : Option Addr) (fcap : Nat) (w : World) (hb : BytesIn w a l cap) (hf : FieldsIn w fa fs fcap) (h1 : l.length ≤ 300) (h2 : fs.length ≤ 60) :
    Calls Try.prog 3 #[.slice a l.length cap, .slice fa fs.length fcap] w (Gives (.bool true) w) := by
  obtain ⟨E⟩ := elem_of (P := Try.prog) (t := 22) (e := 5) (z := .int .u8 0) (n := 1) Try.underlying22 (by kernel_rfl) rfl (by omega)
  have hfi := fields_out fs fa fcap fs.length w hf rfl h2
  have HB := Lib.hid hb
  have HF := Lib.hid hf
  obtain ⟨M, hM⟩ : ∃ M, M = l.length := ⟨_, rfl⟩
  obtain ⟨N, hN⟩ : ∃ N, N = fs.length := ⟨_, rfl⟩
  rw [← hM] at h1 ⊢
  rw [← hN] at h2 hfi ⊢
  have HM := Lib.hid hM
  have HN := Lib.hid hN
  have d1 : decide ((300 : Int) < M) = false := by simp; omega
  have d2 : decide ((60 : Int) < N) = false := by simp; omega
  clear hb hf hM hN
  go_enter Try.func3, Try.ntmps3
  go_wp2_with fail
  refine hfi.mono ?_
  rintro e W ⟨Z, all, ws, fA, fC, wA, wC, rfl, HO⟩
  clear hfi d1 d2
  have HBW := Lib.hid (HB.out.below HO.out.below)
  obtain ⟨so, hso⟩ := own_empty W
  have HSO := Lib.hid hso
  have HSRC := Lib.hid (HBW.out.below so.below).news
  have HML := Lib.hid (show M = (l.map (Value.int .u8)).length by rw [List.length_map]; exact HM.out)
  have HNI := Lib.hid (HB.out.nil2 (n := M) HM.out)
  clear hso
  go_wp2_with (first
    | (rw [HSO.out]; refine wpList_append_src E so (l.map (Value.int .u8)) (.tmp 26) (.tmp 27) rfl rfl rfl a M cap HML.out rfl HNI.out HSRC.out (one_bytes _) (by rw [List.length_nil, List.length_map]; have := HM.out; omega) ?_; intro v1 s1; obtain ⟨A1, C1, rfl, -⟩ := s1.view M (by rw [List.nil_append]; exact HML.out.symm))
    | (refine wpList_append_O E s1 [.int .u8 77] _ rfl (.tmp 28) (.tmp 29) rfl rfl rfl 1 1 rfl rfl (by simp [Value.oneCell']) (by rw [List.nil_append, ← HML.out]; simp; omega) ?_; intro v2 s2; obtain ⟨gO, C2, A2, rfl, h3, h4, hsl, HOB, HOC⟩ := own_plus s2 HM.out))
  have hap := append_any l A2 C2 fs fA fC s2.w HOB.out (by rw [← HM.out]; omega) (HO.out.f.below s2.below) (by rw [← HN.out]; omega)
  rw [← HM.out, ← HN.out] at hap
  refine hap.mono ?_
  rintro e w3 HPO
  replace HPO := Lib.hid HPO
  clear hap hsl so HSO HSRC
  cases all with
  | true =>
    obtain ⟨v3, rfl, s3, rfl⟩ := append_yes HO.out.all.symm HPO.out
    clear HPO
    go_wp2_with fail
    refine (OwnW.call (s := s3) (alive06_gives _)).mono ?_
    rintro e _ ⟨rfl, s4, rfl⟩
    obtain ⟨L3, hL3⟩ : ∃ L3, (l ++ encs fs).length = L3 := ⟨_, rfl⟩
    obtain ⟨A3, C3, rfl, hG⟩ := s4.bytesN hL3
    have HL3 := Lib.hid hL3
    have HG := Lib.hid hG
    have HB4 := Lib.hid ((HBW.out.below s2.below).below s4.below)
    have HW4 := Lib.hid ((HO.out.b.below s2.below).below s4.below)
    have HC4 := Lib.hid ((s4.below.cell (p := ⟨gO, M, none⟩) (World.block_lt_of_cell? _ _ HOC.out)).trans HOC.out)
    have HWS := Lib.hid (show ws = encs fs from HO.out.want HO.out.all.symm)
    have HB0 := Lib.hid (show Below w.heap.size w s4.w from (HO.out.below.trans (s2.below.mono HO.out.below.size)).trans (s4.below.mono (Nat.le_trans HO.out.below.size s2.below.size)))
    clear hL3 hG
    obtain ⟨so, hso⟩ := own_empty s4.w
    have HSO := Lib.hid hso
    have HSRC := Lib.hid (HB4.out.below so.below).news
    have HNW := Lib.hid (HW4.out.nil2 (n := Z) HO.out.z)
    have HZL := Lib.hid (show Z = (ws.map (Value.int .u8)).length by rw [List.length_map]; exact HO.out.z)
    have HZB := Lib.hid (show Z ≤ 8 * N by
      have := encs_length HO.out.all.symm
      rw [HO.out.z, HWS.out, HN.out]; exact this)
    clear hso
    go_wp2_with (first
      | (rw [HSO.out]; refine wpList_unguard rfl ?_; refine wpList_append_src E so (l.map (Value.int .u8)) (.tmp 58) (.tmp 59) rfl rfl rfl a M cap HML.out rfl HNI.out HSRC.out (one_bytes _) (by rw [List.length_nil, ← HML.out]; omega) ?_; intro v5 s5; obtain ⟨A5, C5, rfl, -⟩ := s5.view M (by rw [List.nil_append]; exact HML.out.symm))
      | (refine wpList_unguard rfl ?_; refine wpList_append_src E s5 (ws.map (Value.int .u8)) (.tmp 60) (.tmp 61) rfl rfl rfl wA Z wC HZL.out rfl HNW.out (HW4.out.below s5.below).news (one_bytes _) (by rw [List.nil_append, ← HML.out, ← HZL.out]; have := HZB.out; omega) ?_; intro v6 s6; obtain ⟨A6, C6, rfl, hE6⟩ := (s6.as (by rw [List.nil_append, ← List.map_append, HWS.out] : [] ++ l.map (Value.int .u8) ++ ws.map (Value.int .u8) = (l ++ encs fs).map (Value.int .u8))).bytesN HL3.out)
      | fail)
    have heq := eq8_yes (l ++ encs fs) (l ++ encs fs) rfl A3 A6 C3 C6 s6.w (HG.out.below s6.below) hE6
    rw [HL3.out] at heq
    refine (OwnW.call (s := s6) heq).mono ?_
    rintro e _ ⟨rfl, s7, rfl⟩
    clear heq hE6
    have c77 := (s7.below.cell (p := ⟨gO, M, none⟩) (World.block_lt_of_cell? _ _ HC4.out)).trans HC4.out
    go_wp2
    go_ret
    exact ⟨rfl, HB0.out.trans (s7.below.mono HB0.out.size)⟩
  | false =>
    obtain ⟨rfl, hb3⟩ := append_not HO.out.all.symm HPO.out
    clear HPO
    go_wp2_with fail
    have hb0 : Below w.heap.size w w3 := (HO.out.below.trans (s2.below.mono HO.out.below.size)).trans (hb3.mono (Nat.le_trans HO.out.below.size s2.below.size))
    refine (HeldW.call (s := (⟨w3, hb0, by simp⟩ : HeldW w [])) (alive06_gives w3)).mono ?_
    rintro e _ ⟨rfl, s4, rfl⟩
    go_wp2
    go_ret
    exact ⟨rfl, s4.below⟩

theorem wireAppends_walk (a : Option Addr) (l : List Int) (cap : Nat) (fa : Option Addr) (fs : List (Int × Int)) (fcap : Nat) (w : World) (hb : BytesIn w a l cap) (hf : FieldsIn w fa fs fcap) :
    Calls Try.prog 3 #[.slice a l.length cap, .slice fa fs.length fcap] w (Gives (.bool true) w) := by
  by_cases h : l.length ≤ 300 ∧ fs.length ≤ 60
  · exact appends_small l a cap fs fa fcap w hb hf h.1 h.2
  · have h1 := hb.len
    have h2 := hb.capb
    have h3 := hf.len
    have h4 := hf.capb
    exact appends_big l a cap fs fa fcap w (by omega) (by omega) (by omega)
end Go.Proofs.Ytclalbiggnalfaa
