/- ShaDigests returns true for all bytes, and changes nothing that was there. -/
import Derived.Test.YtnpcocjjmajifaaDoor02ROf
namespace Go.Proofs.YtnpcocjjmajifaaDoor
open Go.RowKit
set_option linter.unusedVariables false

theorem BytesIn.W {w : World} {a : Option Addr} {l : List Int} {cap : Nat} (h : BytesIn w a l cap) {bs : List (Nat × Obj)} (s : HeldW w bs) : BytesIn s.w a l cap := ⟨h.len, h.capb, fun hp => by
    obtain ⟨b, o, h1, h2⟩ := h.cells hp
    exact ⟨b, o, h1, fun i hi => (s.below.cell (p := ⟨b, o + i, none⟩) (World.block_lt_of_cell? _ _ (h2 i hi))).trans (h2 i hi)⟩, h.nil⟩

theorem digests_big (l : List Int) (a : Option Addr) (cap : Nat) (w : World) (hR : Roots w) (hbig : 300 < l.length) (hmax : l.length ≤ 9223372036854775807) : Calls Tryd.prog 3 #[.slice a l.length cap] w (Gives (.bool true) w) := by
  have ha := alive_any w hR
  clear hR
  go_enter Tryd.func3, Tryd.ntmps3
  go_wp2_with fail
  refine (HeldW.call (s := HeldW.start w) ha).mono ?_
  rintro e _ ⟨rfl, s1, rfl⟩
  clear ha
  go_wp2
  go_ret
  exact ⟨rfl, s1.below⟩

set_option maxRecDepth 100000 in
set_option maxHeartbeats 8000000 in
theorem digests_small (l : List Int) (a : Option Addr) (cap : Nat) (w : World) (hR : Roots w) (hb : BytesIn w a l cap) (hsmall : l.length ≤ 300) : Calls Tryd.prog 3 #[.slice a l.length cap] w (Gives (.bool true) w) := by
  have HR := Lib.hid hR
  have HB := Lib.hid hb
  have hal := alive_any w hR
  have ho := fun s : HeldW w [] => of1 s HR (fun hg => HeldW.src HB.out hg) hb.len hb.capb (by omega)
  have hr := fun s : HeldW w [] => rof_any l a cap s.w (HB.out.W s) (by omega)
  have heq := equal_same (shaL l) (shaL_length l)
  have hgt := guard_arr
  have HO := Lib.hid ho
  have HRF := Lib.hid hr
  generalize shaL l = D at HO HRF heq
  clear hR hb ho hr
  go_enter Tryd.func3, Tryd.ntmps3
  go_wp2_with fail
  refine (HeldW.call (s := HeldW.start w) hal).mono ?_
  rintro e _ ⟨rfl, s1, rfl⟩
  clear hal
  go_wp2_with fail
  refine (HO.out s1).mono ?_
  rintro e _ ⟨rfl, s2, rfl⟩
  go_wp2_with fail
  refine (HeldW.call (s := s2) (HRF.out s2)).mono ?_
  rintro e _ ⟨rfl, s3, rfl⟩
  go_wp2
  go_ret
  exact ⟨rfl, s3.below⟩

theorem shaDigests_walk (a : Option Addr) (l : List Int) (cap : Nat) (w : World) (hR : Roots w) (hb : BytesIn w a l cap) : Calls Tryd.prog 3 #[.slice a l.length cap] w (Gives (.bool true) w) := by
  by_cases h : l.length ≤ 300
  · exact digests_small l a cap w hR hb h
  · exact digests_big l a cap w hR (by omega) (Nat.le_trans hb.len hb.capb)
end Go.Proofs.YtnpcocjjmajifaaDoor
