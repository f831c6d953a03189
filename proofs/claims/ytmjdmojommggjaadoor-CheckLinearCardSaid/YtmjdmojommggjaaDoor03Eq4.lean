/- Arrays of four bytes compare as their bytes do. -/
import Derived.Laws.StructEq
import Derived.Test.YtmjdmojommggjaaDoor03SumB
namespace Go.Proofs.YtmjdmojommggjaaDoor
open Go.RowKit
set_option linter.unusedVariables false
set_option linter.unusedSimpArgs false

theorem guard_arr4 : Tryd.prog.eqGuardType Tryd.prog.depth 43 = false := by kernel_rfl
theorem equal4 (D E : List Int) (hD : D.length = 4) (hE : E.length = 4) (w : World) : (Op.equalIn 10000 43 (.agg (byteA D)) (.agg (byteA E))).run Tryd.prog w = .ok (decide (D = E)) w := by
  have ht : Tryd.prog.underlying 43 = some (.array 4 5) := Tryd.underlying43
  have he : Tryd.prog.underlying 5 = some (.int .u8) := Tryd.underlying5
  have hsz : ∀ w, (sizeOf 5).run Tryd.prog w = .ok 1 w := fun w => by kernel_rfl
  have hag : ∀ w, (isAgg 5).run Tryd.prog w = .ok false w := fun w => by kernel_rfl
  obtain ⟨x0, x1, x2, x3, rfl⟩ : ∃ x0 x1 x2 x3, D = [x0, x1, x2, x3] := by
    match D, hD with
    | [x0, x1, x2, x3], _ => exact ⟨_, _, _, _, rfl⟩
  obtain ⟨y0, y1, y2, y3, rfl⟩ : ∃ x0 x1 x2 x3, E = [x0, x1, x2, x3] := by
    match E, hE with
    | [x0, x1, x2, x3], _ => exact ⟨_, _, _, _, rfl⟩
  rw [show (10000 : Nat) = 9998 + 2 from rfl, Op.equalIn]
  simp only [Sem.run_bind, run_underlying ht, Result.andThen_ok, hsz, Std.Legacy.Range.forIn_eq_forIn_range', Std.Legacy.Range.size, Nat.sub_zero, Nat.add_sub_cancel, Nat.div_one]
  have px : ∀ (L : List Int) (i : Nat) (v : Int) (w : World), i < L.length → L[i]?.getD 0 = v → (part 5 (byteA L) i).run Tryd.prog w = .ok (.int .u8 v) w := fun L i v w hi hv => by
    subst hv
    unfold part
    simp only [Sem.run_bind, hag, Result.andThen_ok, byteA_get L (i := i) hi]
    simp
  have pe : ∀ (x y : Int) (w : World), (Op.equalIn (9998 + 1) 5 (.int .u8 x) (.int .u8 y)).run Tryd.prog w = .ok (x == y) w := fun x y w => by
    rw [run_equalIn_int w 9998 5 .u8 .u8 _ _ he]
  have qx0 := fun w => px [x0, x1, x2, x3] 0 x0 w (by simp) rfl
  have qx1 := fun w => px [x0, x1, x2, x3] 1 x1 w (by simp) rfl
  have qx2 := fun w => px [x0, x1, x2, x3] 2 x2 w (by simp) rfl
  have qx3 := fun w => px [x0, x1, x2, x3] 3 x3 w (by simp) rfl
  have qy0 := fun w => px [y0, y1, y2, y3] 0 y0 w (by simp) rfl
  have qy1 := fun w => px [y0, y1, y2, y3] 1 y1 w (by simp) rfl
  have qy2 := fun w => px [y0, y1, y2, y3] 2 y2 w (by simp) rfl
  have qy3 := fun w => px [y0, y1, y2, y3] 3 y3 w (by simp) rfl
  rw [show List.range' 0 4 1 = [0, 1, 2, 3] from rfl]
  by_cases h0 : x0 = y0
  · subst h0
    by_cases h1 : x1 = y1
    · subst h1
      by_cases h2 : x2 = y2
      · subst h2
        by_cases h3 : x3 = y3
        · subst h3
          simp [qx0, qx1, qx2, qx3, qy0, qy1, qy2, qy3, pe]
        · simp [h3, qx0, qx1, qx2, qx3, qy0, qy1, qy2, qy3, pe]
      · simp [h2, qx0, qx1, qx2, qx3, qy0, qy1, qy2, qy3, pe]
    · simp [h1, qx0, qx1, qx2, qx3, qy0, qy1, qy2, qy3, pe]
  · simp [h0, qx0, qx1, qx2, qx3, qy0, qy1, qy2, qy3, pe]
end Go.Proofs.YtmjdmojommggjaaDoor
