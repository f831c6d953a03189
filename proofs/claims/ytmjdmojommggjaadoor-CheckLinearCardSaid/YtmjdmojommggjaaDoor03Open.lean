/- Open of package check. -/
import Derived.Test.YtmjdmojommggjaaDoor00Clone8
import Derived.Test.YtmjdmojommggjaaDoor03Eq4
import Derived.Test.YtmjdmojommggjaaDoor03Seal
namespace Go.Proofs.YtmjdmojommggjaaDoor
open Go.RowKit
set_option linter.unusedVariables false

/-- The bytes of a record, and whether it is sealed. -/
def bodyOf (l : List Int) : List Int := l.take (l.length - 4)
def tailOf (l : List Int) : List Int := l.drop (l.length - 4)
def isSealed (l : List Int) : Bool := decide (4 ≤ l.length) && decide (le4 (crc (bodyOf l)) = tailOf l)

theorem copen_short (l : List Int) (a : Option Addr) (cap : Nat) (w : World) (h : l.length < 4) : Calls Tryd.prog 16 #[.slice a l.length cap] w fun e w' => e = .returned (.tuple #[.slice none 0 0, .bool false]) ∧ w' = w := by
  generalize l.length = n at h
  go_enter Tryd.func16, Tryd.ntmps16
  go_wp2
  go_ret2
  exact ⟨rfl, rfl⟩

/-- A piece of a slice of bytes. -/
theorem BytesIn.take {w : World} {b o cap : Nat} {l : List Int} (h : BytesIn w (some ⟨b, o, none⟩) l cap) (k c : Nat) (hk : k ≤ l.length) (hc : k ≤ c) (hc2 : c ≤ cap) : BytesIn w (some ⟨b, o, none⟩) (l.take k) c :=
  ⟨by rw [List.length_take]; omega, by have := h.capb; omega, fun hp => by
    rw [List.length_take] at hp
    obtain ⟨b', o', h1, h2⟩ := h.cells (by omega)
    simp only [Option.some.injEq, Addr.mk.injEq] at h1
    obtain ⟨rfl, rfl, _⟩ := h1
    refine ⟨b, o, rfl, fun i hi => ?_⟩
    rw [List.length_take] at hi
    rw [h2 i (by omega), List.getElem?_take, if_pos (by omega)], fun h => by cases h⟩
theorem BytesIn.drop {w : World} {b o cap : Nat} {l : List Int} (h : BytesIn w (some ⟨b, o, none⟩) l cap) (k : Nat) (hk : k < l.length) (c : Nat) (hc : l.length - k ≤ c) (hc2 : c ≤ cap) : BytesIn w (some ⟨b, o + k, none⟩) (l.drop k) c :=
  ⟨by rw [List.length_drop]; omega, by have := h.capb; omega, fun hp => by
    obtain ⟨b', o', h1, h2⟩ := h.cells (by omega)
    simp only [Option.some.injEq, Addr.mk.injEq] at h1
    obtain ⟨rfl, rfl, _⟩ := h1
    refine ⟨b, o + k, rfl, fun i hi => ?_⟩
    rw [List.length_drop] at hi
    rw [Nat.add_assoc, h2 (k + i) (by omega), List.getElem?_drop], fun h => by cases h⟩

theorem at_array4 (ad : Addr) (c : Nat) (w : World) : (Instr.arrayAt 43 (.slice (some ad) 4 c)).run Tryd.prog w = .ok (.pointer (some ad)) w := by
  simp [Instr.arrayAt, run_underlying Tryd.underlying43]

set_option maxRecDepth 100000 in
set_option maxHeartbeats 4000000 in
theorem copen_long (l : List Int) (a : Option Addr) (cap : Nat) (w : World) (hT : Tab w) (hb : BytesIn w a l cap) (h4 : 4 ≤ l.length) (hm : l.length ≤ 1000000) : Calls Tryd.prog 16 #[.slice a l.length cap] w fun e w' =>
    (isSealed l = true ∧ ∃ v, e = .returned (.tuple #[v, .bool true]) ∧ ∃ s : OwnW w 5 v ((bodyOf l).map (Value.int .u8)), w' = s.w) ∨ (isSealed l = false ∧ e = .returned (.tuple #[.slice none 0 0, .bool false]) ∧ Below w.heap.size w w') := by
  obtain ⟨b, o, rfl, hc⟩ := hb.cells (by omega)
  obtain ⟨M, hM⟩ : ∃ M, l.length = M + 4 := ⟨l.length - 4, by omega⟩
  have hbd : bodyOf l = l.take M := by unfold bodyOf; rw [hM, Nat.add_sub_cancel]
  have htl : tailOf l = l.drop M := by unfold tailOf; rw [hM, Nat.add_sub_cancel]
  have hcap := hb.len
  have hcapb := hb.capb
  have hbody := hb.take M M (by omega) (Nat.le_refl _) (by omega)
  have hbl : (l.take M).length = M := by rw [List.length_take]; omega
  have hs := fun s : HeldW w [] => csum_any (l.take M) (some ⟨b, o, none⟩) M s.w (hT.W s) (hbody.W s)
  have hcl := fun s : HeldW w [] => clone8_any (l.take M) (some ⟨b, o, none⟩) M s.w (hbody.W s) (by omega)
  rw [hbl] at hs hcl
  have hsd : isSealed l = decide (le4 (crc (l.take M)) = l.drop M) := by unfold isSealed; rw [hbd, htl, decide_eq_true h4, Bool.true_and]
  have hdl : (l.drop M).length = 4 := by rw [List.length_drop]; omega
  have heq := equal4 (le4 (crc (l.take M))) (l.drop M) (le4_length _) hdl
  have hdc : ∀ j, j < 4 → w.cell? ⟨b, o + M + j, none⟩ = some (.int .u8 ((l.drop M)[j]?.getD 0)) := fun j hj => by
    rw [Nat.add_assoc, hc (M + j) (by omega), List.getElem?_drop]
  rw [hsd, hbd]
  rw [hM] at hm hcap ⊢
  have hD4 := le4_length (crc (l.take M))
  generalize le4 (crc (l.take M)) = D at hs heq hD4
  generalize l.drop M = T at heq hdc hdl
  generalize l.take M = body at hcl
  have hDl : D.length = 4 := hD4
  obtain ⟨x0, x1, x2, x3, rfl⟩ : ∃ x0 x1 x2 x3, D = [x0, x1, x2, x3] := by
    match D, hDl with
    | [x0, x1, x2, x3], _ => exact ⟨_, _, _, _, rfl⟩
  obtain ⟨y0, y1, y2, y3, rfl⟩ : ∃ x0 x1 x2 x3, T = [x0, x1, x2, x3] := by
    match T, hdl with
    | [x0, x1, x2, x3], _ => exact ⟨_, _, _, _, rfl⟩
  have he : ∀ w, (Op.equalIn 10000 43 (.agg #[.int .u8 x0, .int .u8 x1, .int .u8 x2, .int .u8 x3]) (.agg #[.int .u8 y0, .int .u8 y1, .int .u8 y2, .int .u8 y3])).run Tryd.prog w = .ok (decide ([x0, x1, x2, x3] = [y0, y1, y2, y3])) w := heq
  have hs' : ∀ s : HeldW w [], Calls Tryd.prog 22 #[.slice (some ⟨b, o, none⟩) M M] s.w (Gives (.agg #[.int .u8 x0, .int .u8 x1, .int .u8 x2, .int .u8 x3]) s.w) := hs
  generalize decide ([x0, x1, x2, x3] = [y0, y1, y2, y3]) = d at he
  have e4 : M + 4 - M = 4 := by omega
  have c0 : ∀ s : HeldW w [], s.w.cell? ⟨b, o + M, none⟩ = some (.int .u8 y0) := fun s => (s.below.cell (p := ⟨b, o + M, none⟩) (World.block_lt_of_cell? _ _ (hdc 0 (by omega)))).trans (hdc 0 (by omega))
  have c1 : ∀ s : HeldW w [], s.w.cell? ⟨b, o + M + 1, none⟩ = some (.int .u8 y1) := fun s => (s.below.cell (p := ⟨b, o + M + 1, none⟩) (World.block_lt_of_cell? _ _ (hdc 1 (by omega)))).trans (hdc 1 (by omega))
  have c2 : ∀ s : HeldW w [], s.w.cell? ⟨b, o + M + 2, none⟩ = some (.int .u8 y2) := fun s => (s.below.cell (p := ⟨b, o + M + 2, none⟩) (World.block_lt_of_cell? _ _ (hdc 2 (by omega)))).trans (hdc 2 (by omega))
  have c3 : ∀ s : HeldW w [], s.w.cell? ⟨b, o + M + 3, none⟩ = some (.int .u8 y3) := fun s => (s.below.cell (p := ⟨b, o + M + 3, none⟩) (World.block_lt_of_cell? _ _ (hdc 3 (by omega)))).trans (hdc 3 (by omega))
  have HS := Lib.hid hs'
  have HCL := Lib.hid hcl
  have hgd := guard_arr4
  have hat := at_array4 ⟨b, o + M, none⟩ 4
  clear hT hb hc hM hbd htl hbody hbl hs hs' hcl hsd hdc h4 heq hdl hDl hD4
  go_enter Tryd.func16, Tryd.ntmps16
  go_wp2
  refine wp_region_class w [] (by kernel_rfl) (by kernel_rfl) (Below.refl _ _) (by simp) (fun hne => ?_)
  repeat (go_big_quiet_step (fail))
  refine wpQuiet_nil ?_
  rintro _ ⟨s, rfl⟩
  clear hne
  go_wp2
  rw [e4]
  refine wp_region_class w [] (by kernel_rfl) (by kernel_rfl) s.below s.blocks (fun hne => ?_)
  clear s
  repeat (go_big_quiet_step ((go_at_call 22; exact HeldW.call (HS.out _))))
  refine wpQuiet_nil ?_
  rintro _ ⟨s, rfl⟩
  clear hne c0 c1 c2 c3 he hat
  cases d with
  | true =>
    go_wp2_with fail
    refine (HCL.out s).mono ?_
    rintro e _ ⟨v, rfl, s', rfl⟩
    go_wp2
    go_ret2
    exact ⟨v, rfl, ⟨s'.w, s.below.trans (s'.below.mono s.below.size), s'.own.1, s'.own.2.imp id (fun ⟨g, cap, cur, h1, h2, h3⟩ => ⟨g, cap, cur, h1, Nat.le_trans s.below.size h2, h3⟩)⟩, rfl⟩
  | false =>
    go_wp2
    go_ret2
    exact ⟨rfl, s.below⟩
end Go.Proofs.YtmjdmojommggjaaDoor
