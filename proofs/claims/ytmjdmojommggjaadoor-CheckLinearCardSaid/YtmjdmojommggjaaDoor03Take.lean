/- take of package check: one byte; the table. -/
import Derived.BigQuiet
import Derived.Deep.QuietTactic
import Derived.Outline
import Derived.Test.YtmjdmojommggjaaDoor00Bytes
import Derived.Test.YtmjdmojommggjaaDoor03Crc
namespace Go.Proofs.YtmjdmojommggjaaDoor
open Go.RowKit
set_option linter.unusedVariables false

/-- The table lies there. -/
def Tab (w : World) : Prop := ∀ i, i < 16 → w.cell? ⟨0, i, none⟩ = some (.int .u32 (tabN i : Int))
theorem Tab.below {w w' : World} (hr : Tab w) (hb : Below w.heap.size w w') : Tab w' := fun i hi => by
  rw [← hr i hi]; exact hb.cell (p := ⟨0, i, none⟩) (World.block_lt_of_cell? w _ (hr i hi))
theorem Tab.pos {w : World} (hr : Tab w) : 0 < w.heap.size := World.block_lt_of_cell? w _ (hr 0 (by omega))
theorem Tab.W {w : World} {bs : List (Nat × Obj)} (hr : Tab w) (s : HeldW w bs) : Tab s.w := hr.below s.below

theorem half4 {r : Nat} (h : r < 4294967296) : bits .xor .u32 ((r : Int) / 16) (tabN (r % 16) : Int) = (stN 4 r : Int) := by
  rw [step4, ← bits_xor32 (by omega) (tabN_lt _ (by omega))]; rfl
theorem and15 {r : Nat} (h : r < 4294967296) : bits .and .u32 (r : Int) 15 = ((r % 16 : Nat) : Int) := bits_and32 h 4 (by omega)
theorem xor_in {r : Nat} (h : r < 4294967296) (b : Int) : bits .xor .u32 (r : Int) (b % 4294967296) = ((r ^^^ (b % 4294967296).toNat : Nat) : Int) := by
  rw [← bits_xor32 h (by omega)]
  congr 1
  omega

set_option maxRecDepth 100000 in
theorem take_any (r : Nat) (hr : r < 4294967296) (b : Int) (w : World) (hT : Tab w) : Calls Tryd.prog 21 #[.int .u32 r, .int .u8 b] w fun e w' => e = .returned (.int .u32 (upd r b : Int)) ∧ w' = w := by
  have x1 := xor_in hr b
  have r1 : r ^^^ (b % 4294967296).toNat < 4294967296 := xor32 hr (by omega)
  rw [upd_step]
  generalize r ^^^ (b % 4294967296).toNat = r1v at x1 r1
  have a1 := and15 r1
  have h1 := half4 r1
  have r2 : stN 4 r1v < 4294967296 := stN_lt 4 r1
  have c1 := hT (r1v % 16) (by omega)
  generalize stN 4 r1v = r2v at h1 r2
  have a2 := and15 r2
  have h2 := half4 r2
  have c2 := hT (r2v % 16) (by omega)
  generalize stN 4 r2v = r3v at h2
  have i1 : r1v % 16 < 16 := by omega
  have i2 : r2v % 16 < 16 := by omega
  generalize tabN (r1v % 16) = t1 at h1 c1
  generalize tabN (r2v % 16) = t2 at h2 c2
  generalize r1v % 16 = j1 at a1 c1 i1
  generalize r2v % 16 = j2 at a2 c2 i2
  clear hT
  go_enter Tryd.func21, Tryd.ntmps21
  go_wp2
  go_ret
  exact ⟨rfl, rfl⟩
end Go.Proofs.YtmjdmojommggjaaDoor
