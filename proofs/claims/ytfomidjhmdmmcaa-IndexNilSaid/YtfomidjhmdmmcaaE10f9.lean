import Derived.Shelf.SlGeneric
import Derived.Test.YtfomidjhmdmmcaaE10f7
import Derived.Test.YtfomidjhmdmmcaaE10f8
import Derived.BigQuiet
import Derived.Test.YtfomidjhmdmmcaaE10f4
import Derived.Test.YtfomidjhmdmmcaaE10f1
/- slices.Equal of ints and of extents, Sorted, and the reference's Right and Find. -/
namespace Go.Proofs.Ytfomidjhmdmmcaa
open Go.RowKit Go.Shelf Go.Proofs.Ytfomidjhmdmmcaa.Plain01
set_option linter.unusedVariables false
set_option linter.unusedSimpArgs false

/-- A slice of ints. -/
def IntsIn (w : World) (a : Option Addr) (l : List Nat) : Prop := 0 < l.length → ∃ b o, a = some ⟨b, o, none⟩ ∧ ∀ (i : Nat) (x : Nat), l[i]? = some x → w.cell? ⟨b, o + i, none⟩ = some (.int .i64 x)
theorem IntsIn.below {w w' : World} {a : Option Addr} {l : List Nat} (h : IntsIn w a l) (hb : Below w.heap.size w w') : IntsIn w' a l := fun hp => by
  obtain ⟨b, o, ha, hc⟩ := h hp
  exact ⟨b, o, ha, fun i x hi => (hb.cell (p := ⟨b, o + i, none⟩) (World.block_lt_of_cell? _ _ (hc i x hi))).trans (hc i x hi)⟩
theorem ints_row {W : World} {base : Nat} {v : Value} {l : List Nat} (h : W.ownsRow base 3 1 v l.length (intC l)) : ∃ a cap, v = .slice a l.length cap ∧ IntsIn W a l := by
  rcases h.2 with ⟨rfl, h0⟩ | ⟨g, cap, cur, rfl, hb, hg, hc1, hc2, hsz, htk⟩
  · exact ⟨none, 0, by rw [h0], fun hp => by omega⟩
  · refine ⟨_, cap, rfl, fun hp => ⟨g, 0, rfl, fun i x hi => ?_⟩⟩
    have h1 : (intC l)[i]? = some (.int .i64 x) := by unfold intC; rw [List.getElem?_map, hi]; rfl
    rw [← htk, List.getElem?_take] at h1
    rw [Nat.zero_add, cell_of hg]
    split at h1
    · simpa using h1
    · cases h1

set_option maxRecDepth 100000 in
set_option maxHeartbeats 4000000 in
theorem eqint_any (a b : Option Addr) (l m : List Nat) (ca cb : Nat) (w : World) (h1 : IntsIn w a l) (h2 : IntsIn w b m) (hl : l.length ≤ 1000000) (hm : m.length ≤ 1000000) :
    Calls Try.prog 18 #[.slice a l.length ca, .slice b m.length cb] w (Gives (.bool (decide (l = m))) w) := by
  by_cases hlm : l.length = m.length
  · have hpost : Hid (∀ (r : Bool) (W : World), Below w.heap.size w W → (r = true ↔ l = m) → Gives (.bool (decide (l = m))) w (.returned (.bool r)) W) := Lib.hid fun r W hW hr => ⟨by rw [show decide (l = m) = r by rw [Bool.eq_iff_iff]; simp [hr]], hW⟩
    generalize Gives (.bool (decide (l = m))) w = POST at hpost ⊢
    have HC := Lib.hid h1
    have HE := Lib.hid h2
    obtain ⟨L, hLe⟩ : ∃ L, L = l.length := ⟨_, rfl⟩
    have HL := Lib.hid hLe
    have HM := Lib.hid (hLe.trans hlm)
    rw [← hlm, ← hLe]
    rw [← hLe] at hl
    clear h1 h2 hlm hLe hm
    go_enter Try.func18, Try.ntmps18
    go_wp2
    go_loopw [13] (fun i wr => ∃ k : Nat, k ≤ L ∧ i = .int .i64 k ∧ Hid (∀ j, j < k → l[j]? = m[j]?) ∧ ∃ nq, wr = w.drewN nq) (fun i _ => L - (intOf i).toNat)
    case atStart => exact ⟨0, Nat.zero_le _, rfl, Lib.hid (fun j hj => by omega), 0, rfl⟩
    case round =>
      obtain ⟨k, hk, rfl, hp, nq, rfl⟩ := hrel
      by_cases hlt : k < L
      · obtain ⟨x, hx⟩ : ∃ x, l[k]? = some x := ⟨_, List.getElem?_eq_getElem (by rw [← HL.out]; exact hlt)⟩
        obtain ⟨y, hy⟩ : ∃ y, m[k]? = some y := ⟨_, List.getElem?_eq_getElem (by rw [← HM.out]; exact hlt)⟩
        obtain ⟨b1, o1, rfl, hc1⟩ := HC.out (by rw [← HL.out]; omega)
        obtain ⟨b2, o2, rfl, hc2⟩ := HE.out (by rw [← HM.out]; omega)
        have x0 := hc1 k x hx
        have y0 := hc2 k y hy
        have HX := Lib.hid (And.intro hx hy)
        clear hx hy hc1 hc2
        by_cases hxy : x = y
        · subst hxy
          have e1 : ((x : Int) == (x : Int)) = true := by simp
          have hs : Hid (∀ j, j < k + 1 → l[j]? = m[j]?) := Lib.hid fun j hj => by
            by_cases hjk : j < k
            · exact hp.out j hjk
            · obtain rfl : j = k := by omega
              rw [HX.out.1, HX.out.2]
          go_wp2
          go_quiet (fail)
          go_wp2
          go_roundw
          case rel => exact ⟨k + 1, by omega, by go_num, hs, _, rfl⟩
          case measure => simp [intOf]; omega
        · have e1 : ((x : Int) == (y : Int)) = false := by simp; omega
          have HN := Lib.hid (fun W hW => hpost.out false W hW (by
            constructor
            · intro h; cases h
            · intro h; subst h
              have := HX.out.1.symm.trans HX.out.2
              exact absurd (Option.some.inj this) hxy))
          clear hxy
          go_wp2
          go_quiet (fail)
          go_wp2
          exact HN.out _ (below_drewN (below_drewN (Below.refl _ _) _) _)
      · obtain rfl : k = L := by omega
        have HN := Lib.hid (fun W hW => hpost.out true W hW ⟨fun _ => by
          apply List.ext_getElem?
          intro j
          by_cases hj : j < k
          · exact hp.out j hj
          · rw [List.getElem?_eq_none (by rw [← HL.out]; omega), List.getElem?_eq_none (by rw [← HM.out]; omega)], fun _ => rfl⟩)
        go_wp2
        exact HN.out _ (below_drewN (Below.refl _ _) _)
  · have e2 : decide (l = m) = false := by simp; intro h; subst h; exact hlm rfl
    rw [e2]
    have e1 : ((l.length : Int) == (m.length : Int)) = false := by simp; omega
    clear h1 h2 e2
    generalize l.length = L at *
    generalize m.length = M at *
    go_enter Try.func18, Try.ntmps18
    go_wp2
    go_ret
    exact ⟨rfl, Below.refl _ _⟩

/-- slices.Equal of extents. -/
def ExtsIn (w : World) (a : Option Addr) (l : List (Int × Int)) : Prop := ExtSlice w a l.length (at10 l)
set_option maxRecDepth 100000 in
set_option maxHeartbeats 4000000 in
theorem eqext10_any (a b : Option Addr) (l m : List (Int × Int)) (ca cb : Nat) (w : World) (h1 : ExtsIn w a l) (h2 : ExtsIn w b m) (hl : l.length ≤ 1000000000) (hm : m.length ≤ 1000000000) :
    Calls Try.prog 25 #[.slice a l.length ca, .slice b m.length cb] w (Gives (.bool (decide (l = m))) w) := by
  by_cases hlm : l.length = m.length
  · have hpost : Hid (∀ (r : Bool) (W : World), Below w.heap.size w W → (r = true ↔ l = m) → Gives (.bool (decide (l = m))) w (.returned (.bool r)) W) := Lib.hid fun r W hW hr => ⟨by rw [show decide (l = m) = r by rw [Bool.eq_iff_iff]; simp [hr]], hW⟩
    generalize Gives (.bool (decide (l = m))) w = POST at hpost ⊢
    have HC := Lib.hid h1
    have HE := Lib.hid h2
    obtain ⟨L, hLe⟩ : ∃ L, L = l.length := ⟨_, rfl⟩
    have HL := Lib.hid hLe
    have HM := Lib.hid (hLe.trans hlm)
    rw [← hlm, ← hLe]
    rw [← hLe] at hl
    clear h1 h2 hlm hLe hm
    go_enter Try.func25, Try.ntmps25
    go_wp2
    go_loopw [13] (fun i wr => ∃ k : Nat, k ≤ L ∧ i = .int .i64 k ∧ Hid (∀ j, j < k → l[j]? = m[j]?) ∧ ∃ nq, wr = w.drewN nq) (fun i _ => L - (intOf i).toNat)
    case atStart => exact ⟨0, Nat.zero_le _, rfl, Lib.hid (fun j hj => by omega), 0, rfl⟩
    case round =>
      obtain ⟨k, hk, rfl, hp, nq, rfl⟩ := hrel
      by_cases hlt : k < L
      · have hx := at10_get (es := l) (i := k) (by rw [← HL.out]; exact hlt)
        have hy := at10_get (es := m) (i := k) (by rw [← HM.out]; exact hlt)
        obtain ⟨b1, o1, rfl, hc1⟩ := HC.out (by rw [← HL.out]; omega)
        obtain ⟨b2, o2, rfl, hc2⟩ := HE.out (by rw [← HM.out]; omega)
        obtain ⟨x0, x1⟩ := hc1 k (by rw [← HL.out]; exact hlt)
        obtain ⟨y0, y1⟩ := hc2 k (by rw [← HM.out]; exact hlt)
        generalize at10 l k = x at *
        generalize at10 m k = y at *
        have HX := Lib.hid (And.intro hx hy)
        clear hx hy hc1 hc2
        obtain ⟨p0, p1⟩ := x
        obtain ⟨q0, q1⟩ := y
        simp only at x0 x1 y0 y1
        by_cases h0 : p0 = q0
        · subst h0
          by_cases h1 : p1 = q1
          · subst h1
            have hs : Hid (∀ j, j < k + 1 → l[j]? = m[j]?) := Lib.hid fun j hj => by
              by_cases hjk : j < k
              · exact hp.out j hjk
              · obtain rfl : j = k := by omega
                rw [HX.out.1, HX.out.2]
            go_wp2
            go_quiet (fail)
            go_wp2
            go_roundw
            case rel => exact ⟨k + 1, by omega, by go_num, hs, _, rfl⟩
            case measure => simp [intOf]; omega
          · have HN := Lib.hid (fun W hW => hpost.out false W hW (by
              constructor
              · intro h; cases h
              · intro h; subst h
                have := HX.out.1.symm.trans HX.out.2
                have := Option.some.inj this
                injection this with _ h4
                exact absurd h4 h1))
            go_wp2
            go_quiet (fail)
            go_wp2
            exact HN.out _ (below_drewN (below_drewN (Below.refl _ _) _) _)
        · have HN := Lib.hid (fun W hW => hpost.out false W hW (by
            constructor
            · intro h; cases h
            · intro h; subst h
              have := HX.out.1.symm.trans HX.out.2
              have := Option.some.inj this
              injection this with h4 _
              exact absurd h4 h0))
          go_wp2
          go_quiet (fail)
          go_wp2
          exact HN.out _ (below_drewN (below_drewN (Below.refl _ _) _) _)
      · obtain rfl : k = L := by omega
        have HN := Lib.hid (fun W hW => hpost.out true W hW ⟨fun _ => by
          apply List.ext_getElem?
          intro j
          by_cases hj : j < k
          · exact hp.out j hj
          · rw [List.getElem?_eq_none (by rw [← HL.out]; omega), List.getElem?_eq_none (by rw [← HM.out]; omega)], fun _ => rfl⟩)
        go_wp2
        exact HN.out _ (below_drewN (Below.refl _ _) _)
  · have e2 : decide (l = m) = false := by simp; intro h; subst h; exact hlm rfl
    rw [e2]
    have e1 : ((l.length : Int) == (m.length : Int)) = false := by simp; omega
    clear h1 h2 e2
    generalize l.length = L at *
    generalize m.length = M at *
    go_enter Try.func25, Try.ntmps25
    go_wp2
    go_ret
    exact ⟨rfl, Below.refl _ _⟩
end Go.Proofs.Ytfomidjhmdmmcaa

/- The example of chapter 10. -/
namespace Go.Proofs.Ytfomidjhmdmmcaa
open Go.RowKit Go.Shelf Go.Proofs.Ytfomidjhmdmmcaa.Plain01
set_option linter.unusedVariables false
set_option linter.unusedSimpArgs false

def es0 : List (Int × Int) := [(5, 3), (0, 2)]
theorem es0_right : Right10 es0 := by decide
theorem es0_ord : ord10 es0 = [1, 0] := (ord_eq es0_right (idx := [1, 0]) (List.Perm.swap 0 1 []) (by decide)).symm
theorem es0_meet : meet10 es0 (1, 5) = [1, 0] := by unfold meet10; rw [es0_ord]; decide
theorem es0_gaps : gaps10 es0 (1, 5) = [(2, 3)] := by unfold gaps10; rw [es0_meet]; decide
theorem es0_cov : cov10 es0 (1, 5) = 2 := by decide
theorem es0_find : findV es0 6 = 0 := by decide

set_option maxRecDepth 100000 in
set_option maxHeartbeats 4000000 in
theorem alive10_any (w : World) : Calls Try.prog 9 #[] w (Gives (.bool true) w) := by
  obtain ⟨W1, hW1⟩ : ∃ W1, w.alloc (.cells #[.int .i64 5, .int .i64 3, .int .i64 0, .int .i64 2] 30) = W1 := ⟨_, rfl⟩
  have hb1 : Below w.heap.size w W1 := by rw [← hW1]; exact (Below.refl _ w).alloc (Nat.le_refl _) _
  have hE : ExtSlice W1 (some ⟨w.heap.size, 0, none⟩) 2 (at10 es0) := fun _ => ⟨_, _, rfl, fun i hi => by
    have hb : W1.heap[w.heap.size]? = some (.cells #[.int .i64 5, .int .i64 3, .int .i64 0, .int .i64 2] 30 (0, 0)) := by rw [← hW1]; exact heap_new w _ rfl
    match i, hi with
    | 0, _ => exact ⟨cell_of hb 0, cell_of hb 1⟩
    | 1, _ => exact ⟨cell_of hb 2, cell_of hb 3⟩⟩
  have hnew := new10_any (some ⟨w.heap.size, 0, none⟩) es0 2 W1 hE (fun x hx => by
    simp only [es0, List.mem_cons, List.not_mem_nil, or_false] at hx
    rcases hx with rfl | rfl <;> (unfold I64; simp)) (by decide)
  have HW1 := Lib.hid hW1
  have HB1 := Lib.hid hb1
  clear hW1 hb1 hE
  go_enter Try.func9, Try.ntmps9
  go_wp2_with fail
  rw [HW1.out]
  refine hnew.mono ?_
  rintro e W2 ⟨hy, _, hb2⟩
  obtain ⟨B, a, cap, g, rfl, hX, hwB, _, _⟩ := hy es0_right
  have hBw2 : Below w.heap.size w W2 := HB1.out.trans (hb2.mono HB1.out.size)
  obtain ⟨W3, hW3⟩ : ∃ W3, W2.alloc (.cells #[.int .i64 1, .int .i64 5] 30) = W3 := ⟨_, rfl⟩
  have hb3 : Below W2.heap.size W2 W3 := by rw [← hW3]; exact (Below.refl _ _).alloc (Nat.le_refl _) _
  have hX3 := hX.below hb3
  have bE : W3.heap[W2.heap.size]? = some (.cells #[.int .i64 1, .int .i64 5] 30 (0, 0)) := by rw [← hW3]; exact heap_new _ _ rfl
  have hm := meet10_any B cap g a es0 es0_right (1, 5) (by decide) W3 hX3
  have x0 := cell_of bE 0
  have x1 := cell_of bE 1
  simp at x0 x1
  have HW3 := Lib.hid hW3
  have HB3 := Lib.hid (hBw2.trans (hb3.mono hBw2.size))
  have HX3 := Lib.hid hX3
  have HBE := Lib.hid bE
  obtain ⟨Be, hBe⟩ : ∃ Be, Be = W2.heap.size := ⟨_, rfl⟩
  rw [← hBe] at HBE x0 x1
  have HBe := Lib.hid hBe
  clear hy hb2 hX hb3 hX3 bE hW3 hnew hBw2 hBe
  go_wp2_with fail
  rw [HW3.out, ← HBe.out]
  go_wp2_with fail
  refine hm.mono ?_
  rintro e W4 ⟨v4, rfl, hrow4, hb4⟩
  rw [es0_meet] at hrow4
  obtain ⟨a4, cap4, rfl, hI4⟩ := ints_row hrow4
  have KX := Lib.hid (fun (W : World) (hW : Below W3.heap.size W3 W) => HX3.out.below hW)
  have KE : Hid (∀ W, Below W3.heap.size W3 W → W.cell? ⟨Be, 0, none⟩ = some (.int .i64 1) ∧ W.cell? ⟨Be, 1, none⟩ = some (.int .i64 5)) := Lib.hid fun W hW => by
    have h := heap_below HBE.out hW
    exact ⟨cell_of h 0, cell_of h 1⟩
  obtain ⟨W5, hW5⟩ : ∃ W5, W4.alloc (.cells #[.int .i64 1, .int .i64 0] 3) = W5 := ⟨_, rfl⟩
  have hb5 : Below W4.heap.size W4 W5 := by rw [← hW5]; exact (Below.refl _ _).alloc (Nat.le_refl _) _
  have hI5 : IntsIn W5 (some ⟨W4.heap.size, 0, none⟩) [1, 0] := fun _ => ⟨_, _, rfl, fun i x hi => by
    have hb : W5.heap[W4.heap.size]? = some (.cells #[.int .i64 1, .int .i64 0] 3 (0, 0)) := by rw [← hW5]; exact heap_new _ _ rfl
    rw [cell_of hb]
    match i, hi with
    | 0, hi => simp at hi; subst hi; rfl
    | 1, hi => simp at hi; subst hi; rfl⟩
  have heq := eqint_any a4 (some ⟨W4.heap.size, 0, none⟩) [1, 0] [1, 0] cap4 2 W5 (hI4.below hb5) hI5 (by decide) (by decide)
  have HB5 := Lib.hid (hb4.trans (hb5.mono hb4.size))
  have HW5 := Lib.hid hW5
  clear hrow4 hI4 hI5 hb4 hb5 hW5 x0 x1 hm
  go_wp2_with fail
  rw [HW5.out]
  refine heq.mono ?_
  rintro e W6 ⟨rfl, hb6⟩
  have HB6 := Lib.hid (HB5.out.trans (hb6.mono HB5.out.size))
  obtain ⟨x0, x1⟩ := KE.out _ HB6.out
  have hg := gaps10_any B cap g a es0 es0_right (1, 5) (by decide) W6 (KX.out _ HB6.out)
  clear heq hb6
  go_wp2_with fail
  refine hg.mono ?_
  rintro e W7 ⟨v7, rfl, hrow7, hb7⟩
  rw [es0_gaps] at hrow7
  obtain ⟨a7, cap7, rfl, hI7, _⟩ := row10 hrow7 rfl
  obtain ⟨W8, hW8⟩ : ∃ W8, W7.alloc (.cells #[.int .i64 2, .int .i64 3] 30) = W8 := ⟨_, rfl⟩
  have hb8 : Below W7.heap.size W7 W8 := by rw [← hW8]; exact (Below.refl _ _).alloc (Nat.le_refl _) _
  have hI8 : ExtsIn W8 (some ⟨W7.heap.size, 0, none⟩) [(2, 3)] := fun _ => ⟨_, _, rfl, fun i hi => by
    have hb : W8.heap[W7.heap.size]? = some (.cells #[.int .i64 2, .int .i64 3] 30 (0, 0)) := by rw [← hW8]; exact heap_new _ _ rfl
    match i, hi with
    | 0, _ => exact ⟨cell_of hb 0, cell_of hb 1⟩⟩
  have heq := eqext10_any a7 (some ⟨W7.heap.size, 0, none⟩) [(2, 3)] [(2, 3)] cap7 1 W8 (ExtSlice.below hI7 hb8) hI8 (by decide) (by decide)
  have HB7 := Lib.hid (HB6.out.trans (hb7.mono HB6.out.size))
  have HB8 := Lib.hid (HB7.out.trans (hb8.mono HB7.out.size))
  have HW8 := Lib.hid hW8
  clear hrow7 hI7 hI8 hb7 hb8 hW8 x0 x1 hg
  go_wp2_with fail
  rw [HW8.out]
  refine heq.mono ?_
  rintro e W9 ⟨rfl, hb9⟩
  have HB9 := Lib.hid (HB8.out.trans (hb9.mono HB8.out.size))
  obtain ⟨x0, x1⟩ := KE.out _ HB9.out
  have hc := covered10_any B cap g a es0 es0_right (1, 5) (by decide) W9 (KX.out _ HB9.out)
  rw [es0_cov] at hc
  clear heq hb9
  go_wp2_with fail
  refine hc.mono ?_
  rintro e W10 ⟨rfl, hb10⟩
  have HB10 := Lib.hid (HB9.out.trans (hb10.mono HB9.out.size))
  have hf := find10_any B cap g a es0 es0_right 6 W10 (KX.out _ HB10.out)
  rw [es0_find] at hf
  clear hc hb10 x0 x1
  go_wp2_with fail
  refine hf.mono ?_
  rintro e W11 ⟨rfl, hb11⟩
  have HB11 := Lib.hid (HB10.out.trans (hb11.mono HB10.out.size))
  have hl := xlen_any B cap g a es0 W11 (KX.out _ HB11.out)
  clear hf hb11
  go_wp2_with fail
  refine hl.mono ?_
  rintro e W12 ⟨rfl, rfl⟩
  clear hl
  go_wp2
  go_ret
  exact ⟨by simp [es0], HB3.out.trans (HB11.out.mono HB3.out.size)⟩
end Go.Proofs.Ytfomidjhmdmmcaa

/- Right, Find and Covered of the reference of package index. -/
namespace Go.Proofs.Ytfomidjhmdmmcaa
open Go.RowKit Go.Shelf Go.Proofs.Ytfomidjhmdmmcaa.Plain01
set_option linter.unusedVariables false
set_option linter.unusedSimpArgs false

theorem ext_len10 (p q : Int) (W : World) : (Instr.field 30 (.agg #[.int .i64 p, .int .i64 q]) 1).run Try.prog W = .ok (.int .i64 q) W := by kernel_rfl
theorem dis_ovl {x y : Int × Int} (hx : 0 < x.2) (hy : 0 < y.2) : Dis10 x y ↔ ¬ 0 < (ovl x y).2 := by
  unfold Dis10 ovl
  constructor
  · intro h
    rw [if_pos (by omega)]
    omega
  · intro h
    by_cases hm : min (x.1 + x.2) (y.1 + y.2) ≤ max x.1 y.1
    · omega
    · rw [if_neg hm] at h
      simp only at h
      omega
def RowR (es : List (Int × Int)) (k : Nat) : Prop := ∀ i, i < k → okE (at10 es i) = true ∧ 0 < (at10 es i).2 ∧ ∀ j, j < i → ¬ 0 < (ovl (at10 es i) (at10 es j)).2
theorem RowR.right {es : List (Int × Int)} (h : RowR es es.length) : Right10 es := by
  constructor
  · intro x hx
    obtain ⟨i, hi⟩ := List.getElem?_of_mem hx
    have := h i (List.getElem?_eq_some_iff.1 hi).1
    rw [at10_of hi] at this
    exact ⟨this.1, this.2.1⟩
  · rw [List.pairwise_iff_getElem]
    intro i j hi hj hij
    rw [at10_elem hi, at10_elem hj]
    exact ((dis_ovl (h j hj).2.1 (h i hi).2.1).2 ((h j hj).2.2 i hij)).symm
theorem right_row {es : List (Int × Int)} (h : Right10 es) : RowR es es.length := fun i hi => by
  have h1 := right_at h hi
  refine ⟨h1.1, h1.2, fun j hj => ?_⟩
  have h2 := (List.pairwise_iff_getElem.1 h.2) j i (by omega) hi hj
  rw [at10_elem (by omega), at10_elem hi] at h2
  exact (dis_ovl h1.2 (right_at h (i := j) (by omega)).2).1 h2.symm

set_option maxRecDepth 100000 in
set_option maxHeartbeats 4000000 in
theorem rxright_any (a : Option Addr) (es : List (Int × Int)) (cap : Nat) (w : World) (h : ExtSlice w a es.length (at10 es)) (hi : ∀ x ∈ es, I64 x.1 ∧ I64 x.2) (hL : es.length ≤ 1000000) :
    Calls Try.prog 11 #[.slice a es.length cap] w (Gives (.bool (decide (Right10 es))) w) := by
  have hno : Hid (∀ W, Below w.heap.size w W → ¬ Right10 es → Gives (.bool (decide (Right10 es))) w (.returned (.bool false)) W) := Lib.hid fun W h1 h2 => ⟨by rw [decide_eq_false h2], h1⟩
  have hyes : Hid (∀ W, Below w.heap.size w W → Right10 es → Gives (.bool (decide (Right10 es))) w (.returned (.bool true)) W) := Lib.hid fun W h1 h2 => ⟨by rw [decide_eq_true h2], h1⟩
  generalize Gives (.bool (decide (Right10 es))) w = POST at hno hyes ⊢
  have HC := Lib.hid h
  have HI := Lib.hid hi
  obtain ⟨L, hLe⟩ : ∃ L, L = es.length := ⟨_, rfl⟩
  have HL := Lib.hid hLe
  rw [← hLe] at hL ⊢
  clear h hi hLe
  have hfl := ext_len10
  go_enter Try.func11, Try.ntmps11
  go_wp2
  go_loopw [3] (fun vi wr => ∃ k : Nat, k ≤ L ∧ vi = .int .i64 k ∧ Hid (RowR es k) ∧ Below w.heap.size w wr) (fun vi _ => L - (intOf vi).toNat)
  case atStart => exact ⟨0, Nat.zero_le _, rfl, Lib.hid (fun i hi => by omega), Below.refl _ _⟩
  case round =>
    obtain ⟨k, hk, rfl, hR, hB⟩ := hrel
    by_cases hlt : k < L
    · obtain ⟨b, o, rfl, hrow⟩ := HC.out (by rw [← HL.out]; omega)
      have hbl := hrow.lt (by rw [← HL.out]; omega)
      obtain ⟨x0, x1⟩ := hrow.below hB hbl k (by rw [← HL.out]; exact hlt)
      have hbnd := HI.out _ (at10_mem (es := es) (i := k) (by rw [← HL.out]; exact hlt))
      have hv := rvalid_gives (at10 es k) hbnd.1 hbnd.2
      have HRW := Lib.hid (And.intro hrow hbl)
      obtain ⟨x, hx⟩ : ∃ x, x = at10 es k := ⟨_, rfl⟩
      rw [← hx] at x0 x1 hv
      have HX := Lib.hid hx
      clear hrow hbl hbnd hx
      have HBAD : Hid (¬ (okE x = true ∧ 0 < x.2) → ¬ Right10 es) := Lib.hid fun hn hr => hn (by rw [HX.out]; exact right_at hr (by rw [← HL.out]; exact hlt))
      cases hok : okE x with
      | false =>
        rw [hok] at hv
        have HN := Lib.hid (fun W hW => hno.out W hW (HBAD.out (by rw [hok]; simp)))
        clear hok
        go_wp2_with fail
        refine (hv _).mono ?_
        rintro e w2 ⟨rfl, hb2⟩
        have HR := Lib.hid (HN.out _ (hB.trans (hb2.mono hB.size)))
        clear hv x0 x1 hb2 hB
        go_wp2
        first | exact HR.out | (go_ret; exact HR.out)
      | true =>
        rw [hok] at hv
        go_wp2_with fail
        refine (hv _).mono ?_
        rintro e w2 ⟨rfl, hb2⟩
        have hB2 := hB.trans (hb2.mono hB.size)
        have y1 := ((HRW.out.1.below hB2 HRW.out.2) k (by rw [← HL.out]; exact hlt)).2
        rw [← HX.out] at y1
        by_cases h2 : x.2 = 0
        · have e2 : (x.2 == 0) = true := by simp [h2]
          have HR := Lib.hid (hno.out _ hB2 (HBAD.out (by rw [h2]; simp)))
          clear hv x0 x1 hb2 hB hB2 h2 hok
          go_wp2
          first | exact HR.out | (go_ret; exact HR.out)
        · have e2 : (x.2 == 0) = false := by simpa using h2
          have HOK := Lib.hid (show okE x = true ∧ 0 < x.2 from ⟨hok, by have := okE_iff.1 hok; omega⟩)
          have HB2 := Lib.hid hB2
          clear hv x0 x1 hb2 hB hB2 h2 hok
          go_wp2
          go_loopw [4] (fun vj wr => ∃ j : Nat, j ≤ k ∧ vj = .int .i64 j ∧ Hid (∀ j', j' < j → (ovl x (at10 es j')).2 ≤ 0) ∧ Below w.heap.size w wr) (fun vj _ => k - (intOf vj).toNat)
          case atStart => exact ⟨0, Nat.zero_le _, rfl, Lib.hid (fun i hi => by omega), HB2.out⟩
          case round =>
            obtain ⟨j, hj, rfl, hJ, hBj⟩ := hrel
            clear y1 e2
            by_cases hjk : j < k
            · have hrow := HRW.out.1
              have hbl := HRW.out.2
              have d0 := fun s : HeldW wr [] => ((hrow.below hBj hbl).below s.below (Nat.lt_of_lt_of_le hbl hBj.size) k (by rw [← HL.out]; exact hlt)).1
              have d1 := fun s : HeldW wr [] => ((hrow.below hBj hbl).below s.below (Nat.lt_of_lt_of_le hbl hBj.size) k (by rw [← HL.out]; exact hlt)).2
              have d2 := fun s : HeldW wr [] => ((hrow.below hBj hbl).below s.below (Nat.lt_of_lt_of_le hbl hBj.size) j (by rw [← HL.out]; omega)).1
              have d3 := fun s : HeldW wr [] => ((hrow.below hBj hbl).below s.below (Nat.lt_of_lt_of_le hbl hBj.size) j (by rw [← HL.out]; omega)).2
              obtain ⟨y, hy⟩ : ∃ y, y = at10 es j := ⟨_, rfl⟩
              rw [← HX.out] at d0 d1
              rw [← hy] at d2 d3
              have HY := Lib.hid hy
              have hov := fun W => roverlap_gives x y HOK.out.1 (by rw [hy]; exact (hR.out j hjk).1) W
              obtain ⟨q, hq⟩ : ∃ q, q = ovl x y := ⟨_, rfl⟩
              rw [← hq] at hov
              have HQ := Lib.hid hq
              have hpos := (hR.out j hjk).2.1
              rw [← hy] at hpos
              clear hrow hbl hy hq
              by_cases h0 : 0 < q.2
              · have HN := Lib.hid (fun W hW => hno.out W hW (fun hr => by
                  have := ((right_row hr) k (by rw [← HL.out]; exact hlt)).2.2 j hjk
                  rw [← HX.out, ← HY.out, ← HQ.out] at this
                  exact this h0))
                have e3 : decide (0 < q.2) = true := by simpa using h0
                clear h0 hpos
                go_wp2_with fail
                refine wp_region_class wr [] (by kernel_rfl) (by kernel_rfl) (Below.refl _ _) (by simp) (fun hne => ?_)
                repeat (go_big_quiet_step ((go_at_call 32; exact HeldW.call (hov _))))
                refine wpQuiet_nil ?_
                rintro _ ⟨s6, rfl⟩
                have HR := Lib.hid (HN.out _ (hBj.trans (s6.below.mono hBj.size)))
                clear hne d0 d1 d2 d3 hov hBj
                go_wp2
                first | exact HR.out | (go_ret; exact HR.out)
              · have e3 : decide (0 < q.2) = false := by simpa using h0
                have HS : Hid (∀ j', j' < j + 1 → (ovl x (at10 es j')).2 ≤ 0) := Lib.hid fun j' hj' => by
                  by_cases e : j' < j
                  · exact hJ.out j' e
                  · obtain rfl : j' = j := by omega
                    rw [← HY.out, ← HQ.out]
                    exact Int.not_lt.1 h0
                clear h0 hpos
                go_wp2_with fail
                refine wp_region_class wr [] (by kernel_rfl) (by kernel_rfl) (Below.refl _ _) (by simp) (fun hne => ?_)
                repeat (go_big_quiet_step ((go_at_call 32; exact HeldW.call (hov _))))
                refine wpQuiet_nil ?_
                rintro _ ⟨s6, rfl⟩
                have HB6 := Lib.hid (hBj.trans (s6.below.mono hBj.size))
                clear hne d0 d1 d2 d3 hov hBj
                go_wp2
                go_roundw
                case rel => exact ⟨j + 1, by omega, by go_num, HS, HB6.out⟩
                case measure => simp [intOf]; omega
            · obtain rfl : j = k := by omega
              have HS : Hid (RowR es (j + 1)) := Lib.hid fun i hi => by
                by_cases e : i < j
                · exact hR.out i e
                · obtain rfl : i = j := by omega
                  rw [← HX.out]
                  exact ⟨HOK.out.1, HOK.out.2, fun j' hj' => Int.not_lt.2 (hJ.out j' hj')⟩
              go_wp2
              go_roundw
              case rel => exact ⟨j + 1, by omega, by go_num, HS, hBj⟩
              case measure => simp [intOf]; omega
    · obtain rfl : k = L := by omega
      have HR := Lib.hid (hyes.out _ hB (RowR.right (by rw [← HL.out]; exact hR.out)))
      clear hB
      go_wp2
      first | exact HR.out | (go_ret; exact HR.out)

theorem rhas10_any (p q off : Int) (hs : I64 (p + q)) (w : World) : Calls Try.prog 36 #[extV (p, q), .int .i64 off] w (Gives (.bool (decide (p ≤ off ∧ off < p + q))) w) := by
  unfold I64 at hs
  by_cases h1 : p ≤ off
  · have hp : decide (p ≤ off ∧ off < p + q) = decide (off < p + q) := by simp [h1]
    rw [hp]
    have e1 : decide (p ≤ off) = true := by simpa using h1
    generalize hv : decide (off < p + q) = v
    clear h1 hp
    go_enter Try.func36, Try.ntmps36
    go_wp2
    go_ret
    exact ⟨by simp, (Below.refl _ w).alloc (Nat.le_refl _) _⟩
  · have hp : decide (p ≤ off ∧ off < p + q) = false := by simp; omega
    rw [hp]
    have e1 : decide (p ≤ off) = false := by simpa using h1
    clear h1 hp
    go_enter Try.func36, Try.ntmps36
    go_wp2
    go_ret
    exact ⟨by simp, (Below.refl _ w).alloc (Nat.le_refl _) _⟩

set_option maxRecDepth 100000 in
set_option maxHeartbeats 4000000 in
theorem rfind10_any (a : Option Addr) (es : List (Int × Int)) (cap : Nat) (off : Int) (w : World) (h : ExtSlice w a es.length (at10 es)) (hR : Right10 es) (hL : es.length ≤ 1000000) :
    Calls Try.prog 16 #[.slice a es.length cap, .int .i64 off] w (Gives (.int .i64 (findV es off)) w) := by
  have hpost : Hid (∀ (r : Int) W, Below w.heap.size w W → IsFind10 es off r → Gives (.int .i64 (findV es off)) w (.returned (.int .i64 r)) W) := Lib.hid fun r W h1 h2 => ⟨by rw [findV_eq hR h2], h1⟩
  generalize Gives (.int .i64 (findV es off)) w = POST at hpost ⊢
  have HC := Lib.hid h
  have HR := Lib.hid hR
  obtain ⟨L, hLe⟩ : ∃ L, L = es.length := ⟨_, rfl⟩
  have HL := Lib.hid hLe
  rw [← hLe] at hL ⊢
  clear h hR hLe
  go_enter Try.func16, Try.ntmps16
  go_wp2
  go_loopw [5] (fun vi wr => ∃ k : Nat, k ≤ L ∧ vi = .int .i64 k ∧ Hid (∀ i, i < k → ¬ ((at10 es i).1 ≤ off ∧ off < (at10 es i).1 + (at10 es i).2)) ∧ Below w.heap.size w wr) (fun vi _ => L - (intOf vi).toNat)
  case atStart => exact ⟨0, Nat.zero_le _, rfl, Lib.hid (fun i hi => by omega), Below.refl _ _⟩
  case round =>
    obtain ⟨k, hk, rfl, hN, hB⟩ := hrel
    by_cases hlt : k < L
    · obtain ⟨b, o, rfl, hrow⟩ := HC.out (by rw [← HL.out]; omega)
      have hbl := hrow.lt (by rw [← HL.out]; omega)
      obtain ⟨x0, x1⟩ := hrow.below hB hbl k (by rw [← HL.out]; exact hlt)
      have hok := okE_iff.1 (right_at HR.out (i := k) (by rw [← HL.out]; exact hlt)).1
      have hh := fun W => rhas10_any (at10 es k).1 (at10 es k).2 off (by unfold I64; omega) W
      by_cases hx : (at10 es k).1 ≤ off ∧ off < (at10 es k).1 + (at10 es k).2
      · rw [decide_eq_true hx] at hh
        have HQ := Lib.hid (fun W hW => hpost.out (k : Int) W hW ⟨fun h => by omega, fun _ => ⟨k, rfl, by rw [← HL.out]; exact hlt, hx⟩⟩)
        clear hx hok hrow hbl
        generalize at10 es k = x at *
        go_wp2_with fail
        refine (hh _).mono ?_
        rintro e w2 ⟨rfl, hb2⟩
        have HZ := Lib.hid (HQ.out _ (hB.trans (hb2.mono hB.size)))
        clear hh x0 x1 hb2 hB
        go_wp2
        first | exact HZ.out | (go_ret; exact HZ.out)
      · rw [decide_eq_false hx] at hh
        have HS : Hid (∀ i, i < k + 1 → ¬ ((at10 es i).1 ≤ off ∧ off < (at10 es i).1 + (at10 es i).2)) := Lib.hid fun i hi => by
          by_cases e : i < k
          · exact hN.out i e
          · obtain rfl : i = k := by omega
            exact hx
        clear hx hok hrow hbl
        obtain ⟨x, hxe⟩ : ∃ x, x = at10 es k := ⟨_, rfl⟩
        rw [← hxe] at hh x0 x1
        clear hxe
        go_wp2_with fail
        refine (hh _).mono ?_
        rintro e w2 ⟨rfl, hb2⟩
        have HZ := Lib.hid (hB.trans (hb2.mono hB.size))
        clear hh x0 x1 hb2 hB
        go_wp2
        go_roundw
        case rel => exact ⟨k + 1, by omega, by go_num, Lib.hid (fun i hi => HS.out i hi), HZ.out⟩
        case measure => simp [intOf]; omega
    · obtain rfl : k = L := by omega
      have HZ := Lib.hid (hpost.out (-1) _ hB ⟨fun _ i hi => hN.out i (by rw [HL.out]; exact hi), fun h => absurd rfl h⟩)
      clear hB
      go_wp2
      first | exact HZ.out | (go_ret; exact HZ.out)
end Go.Proofs.Ytfomidjhmdmmcaa

/- IndexFinds returns true for every list of extents and every offset, and changes nothing that was there. -/
namespace Go.Proofs.Ytfomidjhmdmmcaa
open Go.RowKit Go.Shelf Go.Proofs.Ytfomidjhmdmmcaa.Plain01
set_option linter.unusedVariables false
set_option linter.unusedSimpArgs false

/-- A slice of extents that came in, as a list. -/
theorem list10 {w : World} {a : Option Addr} {n : Nat} {f : Nat → Int × Int} (h : ExtSlice w a n f) (hi : ∀ i, i < n → I64 (f i).1 ∧ I64 (f i).2) : ∃ es : List (Int × Int), es.length = n ∧ ExtSlice w a es.length (at10 es) ∧ ∀ x ∈ es, I64 x.1 ∧ I64 x.2 := by
  have hl : ((List.range n).map f).length = n := by simp
  refine ⟨(List.range n).map f, hl, fun hp => ?_, fun x hx => ?_⟩
  · rw [hl] at hp
    obtain ⟨b, o, ha, hr⟩ := h hp
    refine ⟨b, o, ha, fun i hi => ?_⟩
    rw [hl] at hi
    rw [at10_of (es := (List.range n).map f) (x := f i) (by simp [hi])]
    exact hr i hi
  · obtain ⟨i, hi2, rfl⟩ := List.mem_map.1 hx
    exact hi i (List.mem_range.1 hi2)
theorem findV_at {es : List (Int × Int)} (hR : Right10 es) {i : Nat} (hi : i < es.length) {off : Int} (h : (at10 es i).1 ≤ off ∧ off < (at10 es i).1 + (at10 es i).2) : findV es off = i :=
  (findV_eq hR ⟨fun hn => by omega, fun _ => ⟨i, rfl, hi, h⟩⟩).symm

set_option maxRecDepth 100000 in
set_option maxHeartbeats 4000000 in
theorem indexFinds_big (a : Option Addr) (es : List (Int × Int)) (cap : Nat) (off : Int) (w : World) (hL : 60 < es.length) :
    Calls Try.prog 4 #[.slice a es.length cap, .int .i64 off] w (Gives (.bool true) w) := by
  have ha := alive10_any
  have e1 : decide ((60 : Int) < (es.length : Int)) = true := by simp; omega
  generalize es.length = L at *
  go_enter Try.func4, Try.ntmps4
  go_wp2_with fail
  refine (ha _).mono ?_
  rintro e w2 ⟨rfl, hb2⟩
  go_wp2
  go_ret
  exact ⟨rfl, hb2⟩
set_option maxRecDepth 100000 in
set_option maxHeartbeats 4000000 in
theorem indexFinds_not (a : Option Addr) (es : List (Int × Int)) (cap : Nat) (off : Int) (w : World) (h : ExtSlice w a es.length (at10 es)) (hi : ∀ x ∈ es, I64 x.1 ∧ I64 x.2) (hL : es.length ≤ 60) (hR : ¬ Right10 es) :
    Calls Try.prog 4 #[.slice a es.length cap, .int .i64 off] w (Gives (.bool true) w) := by
  have ha := alive10_any
  have hr := rxright_any a es cap w h hi (by omega)
  rw [decide_eq_false hR] at hr
  clear h hi hR
  generalize es.length = L at *
  go_enter Try.func4, Try.ntmps4
  go_wp2_with fail
  refine hr.mono ?_
  rintro e w1 ⟨rfl, hb1⟩
  go_wp2_with fail
  refine (ha _).mono ?_
  rintro e w2 ⟨rfl, hb2⟩
  have HB := Lib.hid (hb1.trans (hb2.mono hb1.size))
  clear hb1 hb2 hr ha
  go_wp2
  go_ret
  exact ⟨rfl, HB.out⟩
set_option maxRecDepth 100000 in
set_option maxHeartbeats 4000000 in
theorem indexFinds_good (a : Option Addr) (es : List (Int × Int)) (cap : Nat) (off : Int) (w : World) (h : ExtSlice w a es.length (at10 es)) (hi : ∀ x ∈ es, I64 x.1 ∧ I64 x.2) (hL : es.length ≤ 60) (hR : Right10 es) :
    Calls Try.prog 4 #[.slice a es.length cap, .int .i64 off] w (Gives (.bool true) w) := by
  have ha := alive10_any
  have hr := rxright_any a es cap w h hi (by omega)
  rw [decide_eq_true hR] at hr
  have HNEW := Lib.hid (fun W (hW : Below w.heap.size w W) => new10_any a es cap W (h.below hW) hi (by omega))
  have HRF := Lib.hid (fun W (hW : Below w.heap.size w W) => rfind10_any a es cap off W (h.below hW) hR (by omega))
  have HC := Lib.hid h
  have HR := Lib.hid hR
  obtain ⟨L, hLe⟩ : ∃ L, L = es.length := ⟨_, rfl⟩
  have HL := Lib.hid hLe
  rw [← hLe] at hr hL HNEW HRF ⊢
  clear h hi hR hLe
  go_enter Try.func4, Try.ntmps4
  go_wp2_with fail
  refine hr.mono ?_
  rintro e w1 ⟨rfl, hb1⟩
  go_wp2_with fail
  refine (HNEW.out _ hb1).mono ?_
  rintro e w2 ⟨hy, _, hb2⟩
  obtain ⟨B, a', cap', g, rfl, hX, _, _, _⟩ := hy HR.out
  have HX := Lib.hid hX
  have HB2 := Lib.hid (hb1.trans (hb2.mono hb1.size))
  clear hy hX hb1 hb2 hr
  go_wp2_with fail
  go_loopw [23] (fun vi wr => ∃ k : Nat, k ≤ L ∧ vi = .int .i64 k ∧ Below w2.heap.size w2 wr) (fun vi _ => L - (intOf vi).toNat)
  case atStart => exact ⟨0, Nat.zero_le _, rfl, Below.refl _ _⟩
  case round =>
    obtain ⟨k, hk, rfl, hB⟩ := hrel
    by_cases hlt : k < L
    · obtain ⟨b, o, rfl, hrow⟩ := HC.out (by rw [← HL.out]; omega)
      have hbl := hrow.lt (by rw [← HL.out]; omega)
      obtain ⟨x0, x1⟩ := hrow.below (HB2.out.trans (hB.mono HB2.out.size)) hbl k (by rw [← HL.out]; exact hlt)
      have hat := right_at HR.out (i := k) (by rw [← HL.out]; exact hlt)
      have hok := okE_iff.1 hat.1
      have hpos := hat.2
      have f1 := findV_at HR.out (i := k) (by rw [← HL.out]; exact hlt) (off := (at10 es k).1) ⟨by omega, by omega⟩
      have f2 := findV_at HR.out (i := k) (by rw [← HL.out]; exact hlt) (off := (at10 es k).1 + (at10 es k).2 - 1) ⟨by omega, by omega⟩
      obtain ⟨x, hx⟩ : ∃ x, x = at10 es k := ⟨_, rfl⟩
      rw [← hx] at x0 x1 hok hpos f1 f2
      obtain ⟨W3, hW3⟩ : ∃ W3, wr.alloc (.cells #[.int .i64 x.1, .int .i64 x.2] 30) = W3 := ⟨_, rfl⟩
      have hb3 : Below wr.heap.size wr W3 := by rw [← hW3]; exact (Below.refl _ _).alloc (Nat.le_refl _) _
      have bE : W3.heap[wr.heap.size]? = some (.cells #[.int .i64 x.1, .int .i64 x.2] 30 (0, 0)) := by rw [← hW3]; exact heap_new _ _ rfl
      have hB3 := hB.trans (hb3.mono hB.size)
      have hF1 := find10_any B cap' g a' es HR.out x.1 W3 (HX.out.below hB3)
      rw [f1] at hF1
      have hF2 := fun W (hW : Below W3.heap.size W3 W) => find10_any B cap' g a' es HR.out (x.1 + x.2 - 1) W (HX.out.below (hB3.trans (hW.mono hB3.size)))
      rw [f2] at hF2
      have y0 : W3.cell? ⟨wr.heap.size, 0, none⟩ = some (.int .i64 x.1) := cell_of bE 0
      have HW3 := Lib.hid hW3
      have HB3 := Lib.hid hB3
      have HBE := Lib.hid bE
      have e1 : ((k : Int) == (k : Int)) = true := by simp
      clear hrow hbl hat f1 f2 hx hb3 bE hW3 hB3
      go_wp2_with fail
      rw [HW3.out]
      go_wp2_with fail
      refine hF1.mono ?_
      rintro e w4 ⟨rfl, hb4⟩
      have hbE := heap_below HBE.out hb4
      have z0 : w4.cell? ⟨wr.heap.size, 0, none⟩ = some (.int .i64 x.1) := cell_of hbE 0
      have z1 : w4.cell? ⟨wr.heap.size, 1, none⟩ = some (.int .i64 x.2) := cell_of hbE 1
      have hF := hF2 _ hb4
      have HB4 := Lib.hid (HB3.out.trans (hb4.mono HB3.out.size))
      clear hF1 hF2 hbE hb4 y0 x0 x1
      go_wp2_with fail
      refine hF.mono ?_
      rintro e w5 ⟨rfl, hb5⟩
      have HB5 := Lib.hid (HB4.out.trans (hb5.mono HB4.out.size))
      clear hF hb5 z0 z1
      go_wp2
      go_roundw
      case rel => exact ⟨k + 1, by omega, by go_num, HB5.out⟩
      case measure => simp [intOf]; omega
    · obtain rfl : k = L := by omega
      have HBB := Lib.hid (HB2.out.trans (hB.mono HB2.out.size))
      have hF := fun W (hW : Below wr.heap.size wr W) => find10_any B cap' g a' es HR.out off W (HX.out.below (hB.trans (hW.mono hB.size)))
      go_wp2_with fail
      refine (ha _).mono ?_
      rintro e w3 ⟨rfl, hb3⟩
      have hf := hF _ hb3
      have HB3 := Lib.hid (HBB.out.trans (hb3.mono HBB.out.size))
      clear hF hb3 hB
      go_wp2_with fail
      refine hf.mono ?_
      rintro e w4 ⟨rfl, hb4⟩
      have HB4 := Lib.hid (HB3.out.trans (hb4.mono HB3.out.size))
      have hrf := HRF.out _ HB4.out
      clear hf hb4
      generalize findV es off = r at *
      have e1 : (r == r) = true := by simp
      go_wp2_with fail
      refine hrf.mono ?_
      rintro e w5 ⟨rfl, hb5⟩
      have HB5 := Lib.hid (HB4.out.trans (hb5.mono HB4.out.size))
      clear hrf hb5
      go_wp2
      go_ret
      exact ⟨by simp, HB5.out⟩
theorem indexFinds_walk (a : Option Addr) (n cap : Nat) (f : Nat → Int × Int) (off : Int) {w : World} (hn : n ≤ 9223372036854775807) (hs : ExtSlice w a n f) (hf : ∀ i, i < n → I64 (f i).1 ∧ I64 (f i).2) (ho : I64 off) :
    Calls Try.prog 4 #[.slice a n cap, .int .i64 off] w (Gives (.bool true) w) := by
  obtain ⟨es, rfl, h, hi⟩ := list10 hs hf
  by_cases hL : es.length ≤ 60
  · by_cases hR : Right10 es
    · exact indexFinds_good a es cap off w h hi hL hR
    · exact indexFinds_not a es cap off w h hi hL hR
  · exact indexFinds_big a es cap off w (by omega)
end Go.Proofs.Ytfomidjhmdmmcaa
