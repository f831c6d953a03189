import Derived.Laws.Cover3
import Derived.Test.YtfomidjhmdmmcaaE10f9
/- Sorted of package index; slices.Contains of extents. -/
namespace Go.Proofs.Ytfomidjhmdmmcaa
open Go.RowKit Go.Shelf Go.Proofs.Ytfomidjhmdmmcaa.Plain01
set_option linter.unusedVariables false
set_option linter.unusedSimpArgs false

theorem flat_news {W : World} {b o : Nat} {l : List (Int × Int)} (h : ExtRow W b o l.length (at10 l)) : ∀ (j : Nat) (u : Value), (flat10 l)[j]? = some u → W.cell? ((⟨b, o, none⟩ : Addr).add j) = some u := fun j u hu => by
  have hj : j < l.length * 2 := by
    have := (List.getElem?_eq_some_iff.1 hu).1
    rwa [flat10_length] at this
  have hi : j / 2 < l.length := by omega
  obtain ⟨h1, h2⟩ := flat10_get l (j / 2) _ (at10_get hi)
  obtain ⟨c1, c2⟩ := h (j / 2) hi
  rw [Addr.add_mid]
  by_cases e : j % 2 = 0
  · rw [show j / 2 * 2 = j by omega] at h1
    rw [hu] at h1
    rw [show o + j = o + j / 2 * 2 by omega, c1, Option.some.inj h1]
  · rw [show j / 2 * 2 + 1 = j by omega] at h2
    rw [hu] at h2
    rw [show o + j = o + j / 2 * 2 + 1 by omega, c2, Option.some.inj h2]
theorem eq_nil10 (a : Option Addr) (n c : Nat) (w : World) : (binOp .eql 22 (.slice a n c) (.slice none 0 0)).run Try.prog w = .ok (.bool a.isNone) w := by
  simp [binOp, run_equal_slice_nil w 22 30 a n c Try.underlying22]
def RowPost10 (l : List (Int × Int)) (w : World) (e : Ending) (w' : World) : Prop := ∃ v, e = .returned v ∧ w'.ownsRow w.heap.size 30 2 v l.length (flat10 l) ∧ Below w.heap.size w w'
set_option maxRecDepth 100000 in
set_option maxHeartbeats 4000000 in
theorem clone10_any (a : Option Addr) (l : List (Int × Int)) (cap : Nat) (w : World) (h : ExtSlice w a l.length (at10 l)) (hL : l.length ≤ 1000000) :
    Calls Try.prog 33 #[.slice a l.length cap] w (RowPost10 l w) := by
  by_cases h0 : l = [] ∧ a = none
  · obtain ⟨rfl, rfl⟩ := h0
    have hp : Hid (RowPost10 [] w (.returned (.slice none 0 0)) w) := Lib.hid ⟨_, rfl, World.ownsRow_nil _ _ _ _, Below.refl _ _⟩
    generalize RowPost10 [] w = POST at hp ⊢
    simp only [List.length_nil]
    have hnl := eq_nil10 none 0 cap
    go_enter Try.func33, Try.ntmps33
    go_wp2
    first | exact hp.out | (go_ret; exact hp.out)
  · obtain ⟨ad, ha⟩ : ∃ ad, a = some ad := by
      cases a with
      | some ad => exact ⟨ad, rfl⟩
      | none =>
        by_cases hl : 0 < l.length
        · obtain ⟨b, o, hb, _⟩ := h hl
          cases hb
        · exact absurd ⟨List.eq_nil_of_length_eq_zero (by omega), rfl⟩ h0
    subst ha
    have hnew : ∀ j u, (flat10 l)[j]? = some u → (w.alloc (.cells #[] 30)).cell? (ad.add j) = some u := fun j u hu => by
      have hl : 0 < l.length := by
        by_cases hl : 0 < l.length
        · exact hl
        · have : l = [] := List.eq_nil_of_length_eq_zero (by omega)
          subst this
          simp [flat10] at hu
      obtain ⟨b, o, hb, hr⟩ := h hl
      cases hb
      have h1 := flat_news hr j u hu
      rw [Addr.add_mid] at h1 ⊢
      exact ((Below.refl w.heap.size w).alloc (Nat.le_refl _) _ |>.cell (World.block_lt_of_cell? _ _ h1)).trans h1
    have hown0 : (w.alloc (.cells #[] 30)).ownsRow w.heap.size 30 2 (.slice (some ⟨w.heap.size, 0, none⟩) 0 0) 0 [] := ⟨rfl, .inr ⟨w.heap.size, 0, #[], rfl, Nat.le_refl _, heap_new w _ rfl, Nat.le_refl _, by unfold maxLen; omega, rfl, rfl⟩⟩
    have hpost : Hid (∀ v' w', w'.ownsRow w.heap.size 30 2 v' (0 + l.length) ([] ++ flat10 l) → (w.alloc (.cells #[] 30)).grownBy w' (Value.ownBlock (.slice (some ⟨w.heap.size, 0, none⟩) 0 0)) → RowPost10 l w (.returned v') w') := Lib.hid fun v' w' h1 h2 => by
      refine ⟨v', rfl, ?_, ?_⟩
      · rw [Nat.zero_add, List.nil_append] at h1
        exact h1
      · exact ((Below.refl _ w).alloc (Nat.le_refl _) _).grown h2 (by simp) (fun k hk => by simp [Value.ownBlock] at hk; omega)
    generalize RowPost10 l w = POST at hpost ⊢
    obtain ⟨E, hE⟩ := elem10
    have hnl := eq_nil10 (some ad) l.length cap
    simp only [Option.isNone_some] at hnl
    go_enter Try.func33, Try.ntmps33
    go_wp2_with (refine wpList_append_own _ rfl (.tmp 5) (.tmp 6) 22 rfl w.heap.size 30 E.i E.z 2 E.bytes E.ht E.hi E.hz E.hsize E.hby E.hzs (by omega) (.slice (some ⟨w.heap.size, 0, none⟩) 0 0) 0 [] rfl hown0 ad l.length cap (flat10 l) rfl (flat10_length l) hnew (flat10_one l) (by unfold maxLen; omega) (by rw [hE]; omega) (by simp) ?_; intro v2 w2 hown2 hgrow2 _; have HR := Lib.hid (hpost.out v2 w2 hown2 hgrow2); obtain ⟨a2, cap2, hv2e⟩ := slice_own10 hown2; subst hv2e)
    have hfin := HR.out
    rw [Nat.zero_add] at hfin
    exact hfin
theorem xsorted_any (B cap g : Nat) (a : Option Addr) (es : List (Int × Int)) (w : World) (h : Idx10 w B a cap g es) : Calls Try.prog 13 #[.pointer (some ⟨B, 0, none⟩)] w (RowPost10 (srt10 es) w) := by
  have c0 := h.c0
  have hc := clone10_any a (srt10 es) cap w (by rw [srt10_length]; exact h.row) (by rw [srt10_length]; exact h.few)
  rw [srt10_length] at hc
  clear h
  generalize es.length = L at *
  go_enter Try.func13, Try.ntmps13
  go_wp2_with fail
  refine hc.mono ?_
  rintro e w2 ⟨v, rfl, hrow, hb⟩
  have HR := Lib.hid (show RowPost10 (srt10 es) w (.returned v) w2 from ⟨v, rfl, hrow, hb⟩)
  clear hrow hb hc
  go_wp2
  first | exact HR.out | (go_ret; exact HR.out)
theorem xsorted_nil (w : World) : Calls Try.prog 13 #[.pointer none] w fun e w' => e = .returned (.slice none 0 0) ∧ w' = w := by
  go_enter Try.func13, Try.ntmps13
  go_wp2
  go_ret
  exact ⟨rfl, rfl⟩

set_option maxRecDepth 100000 in
set_option maxHeartbeats 4000000 in
theorem index10_any (a : Option Addr) (l : List (Int × Int)) (cap : Nat) (x : Int × Int) (w : World) (h : ExtSlice w a l.length (at10 l)) (hL : l.length ≤ 1000000) :
    Calls Try.prog 34 #[.slice a l.length cap, extV x] w (fun e w' => ∃ r : Int, e = .returned (.int .i64 r) ∧ (0 ≤ r ↔ x ∈ l) ∧ Below w.heap.size w w') := by
  have hpost : Hid (∀ (r : Int) W, (0 ≤ r ↔ x ∈ l) → Below w.heap.size w W → (fun (e : Ending) (w' : World) => ∃ r : Int, e = .returned (.int .i64 r) ∧ (0 ≤ r ↔ x ∈ l) ∧ Below w.heap.size w w') (.returned (.int .i64 r)) W) := Lib.hid fun r W h1 h2 => ⟨r, rfl, h1, h2⟩
  generalize (fun (e : Ending) (w' : World) => ∃ r : Int, e = .returned (.int .i64 r) ∧ (0 ≤ r ↔ x ∈ l) ∧ Below w.heap.size w w') = POST at hpost ⊢
  obtain ⟨W1, hW1⟩ : ∃ W1, w.alloc (.cells #[.int .i64 x.1, .int .i64 x.2] 30) = W1 := ⟨_, rfl⟩
  have hb1 : Below w.heap.size w W1 := by rw [← hW1]; exact (Below.refl _ w).alloc (Nat.le_refl _) _
  have bE : W1.heap[w.heap.size]? = some (.cells #[.int .i64 x.1, .int .i64 x.2] 30 (0, 0)) := by rw [← hW1]; exact heap_new _ _ rfl
  have HC := Lib.hid (fun W (hW : Below w.heap.size w W) => ExtSlice.below h hW)
  have HW1 := Lib.hid hW1
  have HB1 := Lib.hid hb1
  have HBE := Lib.hid bE
  obtain ⟨L, hLe⟩ : ∃ L, L = l.length := ⟨_, rfl⟩
  have HL := Lib.hid hLe
  rw [← hLe] at hL ⊢
  rw [← hLe] at HC
  obtain ⟨p0, p1⟩ := x
  clear h hLe hW1 hb1 bE
  go_enter Try.func34, Try.ntmps34
  go_wp2_with fail
  rw [HW1.out]
  go_loopw [8] (fun vi wr => ∃ k : Nat, k ≤ L ∧ vi = .int .i64 k ∧ Hid (∀ i, i < k → at10 l i ≠ (p0, p1)) ∧ ∃ nq, wr = W1.drewN nq) (fun vi _ => L - (intOf vi).toNat)
  case atStart => exact ⟨0, Nat.zero_le _, rfl, Lib.hid (fun i hi => by omega), 0, rfl⟩
  case round =>
    obtain ⟨k, hk, rfl, hN, nq, rfl⟩ := hrel
    by_cases hlt : k < L
    · obtain ⟨b, o, rfl, hrow⟩ := HC.out _ HB1.out (by omega)
      obtain ⟨x0, x1⟩ := hrow k hlt
      have y0 : W1.cell? ⟨w.heap.size, 0, none⟩ = some (.int .i64 p0) := cell_of HBE.out 0
      have y1 : W1.cell? ⟨w.heap.size, 1, none⟩ = some (.int .i64 p1) := cell_of HBE.out 1
      have HMEM : Hid (at10 l k ∈ l) := Lib.hid (at10_mem (by rw [← HL.out]; exact hlt))
      have HSTEP : Hid (at10 l k ≠ (p0, p1) → ∀ i, i < k + 1 → at10 l i ≠ (p0, p1)) := Lib.hid fun hn i hi => by
        by_cases e : i < k
        · exact hN.out i e
        · obtain rfl : i = k := by omega
          exact hn
      obtain ⟨q, hq⟩ : ∃ q, q = at10 l k := ⟨_, rfl⟩
      rw [← hq] at x0 x1 HMEM HSTEP
      clear hrow hq
      obtain ⟨q0, q1⟩ := q
      simp only at x0 x1
      by_cases h0 : p0 = q0
      · subst h0
        by_cases h1 : p1 = q1
        · subst h1
          have HR := Lib.hid (fun W hW => hpost.out (k : Int) W ⟨fun _ => HMEM.out, fun _ => by omega⟩ hW)
          go_wp2
          go_quiet (fail)
          go_wp2
          exact HR.out _ (below_drewN (below_drewN HB1.out _) _)
        · have HS := Lib.hid (HSTEP.out (by intro h; injection h with _ h; exact h1 h.symm))
          go_wp2
          go_quiet (fail)
          go_wp2
          go_roundw
          case rel => exact ⟨k + 1, by omega, by go_num, Lib.hid (fun i hi => HS.out i hi), _, rfl⟩
          case measure => simp [intOf]; omega
      · have HS := Lib.hid (HSTEP.out (by intro h; injection h with h _; exact h0 h.symm))
        go_wp2
        go_quiet (fail)
        go_wp2
        go_roundw
        case rel => exact ⟨k + 1, by omega, by go_num, Lib.hid (fun i hi => HS.out i hi), _, rfl⟩
        case measure => simp [intOf]; omega
    · obtain rfl : k = L := by omega
      have HR := Lib.hid (hpost.out (-1) _ ⟨fun h => by omega, fun h => by
        obtain ⟨i, hi⟩ := List.getElem?_of_mem h
        have h1 := at10_of hi
        exact absurd h1 (hN.out i (by rw [HL.out]; exact (List.getElem?_eq_some_iff.1 hi).1))⟩ (below_drewN HB1.out nq))
      go_wp2
      first | exact HR.out | (go_ret; exact HR.out)

set_option maxRecDepth 100000 in
set_option maxHeartbeats 4000000 in
theorem contains10_any (a : Option Addr) (l : List (Int × Int)) (cap : Nat) (x : Int × Int) (w : World) (h : ExtSlice w a l.length (at10 l)) (hL : l.length ≤ 1000000) :
    Calls Try.prog 14 #[.slice a l.length cap, extV x] w (Gives (.bool (decide (x ∈ l))) w) := by
  obtain ⟨W1, hW1⟩ : ∃ W1, w.alloc (.cells #[.int .i64 x.1, .int .i64 x.2] 30) = W1 := ⟨_, rfl⟩
  have hb1 : Below w.heap.size w W1 := by rw [← hW1]; exact (Below.refl _ w).alloc (Nat.le_refl _) _
  have bE : W1.heap[w.heap.size]? = some (.cells #[.int .i64 x.1, .int .i64 x.2] 30 (0, 0)) := by rw [← hW1]; exact heap_new _ _ rfl
  have y0 : W1.cell? ⟨w.heap.size, 0, none⟩ = some (.int .i64 x.1) := cell_of bE 0
  have y1 : W1.cell? ⟨w.heap.size, 1, none⟩ = some (.int .i64 x.2) := cell_of bE 1
  have hi := index10_any a l cap x W1 (ExtSlice.below h hb1) hL
  have hpost : Hid (∀ (r : Int) W, (0 ≤ r ↔ x ∈ l) → Below W1.heap.size W1 W → Gives (.bool (decide (x ∈ l))) w (.returned (.bool (decide (0 ≤ r)))) W) := Lib.hid fun r W h1 h2 => ⟨by rw [show decide (x ∈ l) = decide (0 ≤ r) by rw [Bool.eq_iff_iff]; simp [h1]], hb1.trans (h2.mono hb1.size)⟩
  generalize Gives (.bool (decide (x ∈ l))) w = POST at hpost ⊢
  have HW1 := Lib.hid hW1
  clear hW1 hb1 bE h
  generalize l.length = L at *
  go_enter Try.func14, Try.ntmps14
  go_wp2_with fail
  rw [HW1.out]
  go_wp2_with fail
  refine hi.mono ?_
  rintro e w2 ⟨r, rfl, hr, hb⟩
  have HR := Lib.hid (hpost.out r w2 hr hb)
  clear hr hb hi y0 y1 hpost
  by_cases h0 : 0 ≤ r
  · have e1 : decide (0 ≤ r) = true := by simpa using h0
    have HR2 := Lib.hid (e1 ▸ HR.out)
    clear h0
    go_wp2
    first | exact HR2.out | (go_ret; exact HR2.out)
  · have e1 : decide (0 ≤ r) = false := by simpa using h0
    have HR2 := Lib.hid (e1 ▸ HR.out)
    clear h0
    go_wp2
    first | exact HR2.out | (go_ret; exact HR2.out)
end Go.Proofs.Ytfomidjhmdmmcaa

/- IndexMakes returns true for every list of extents, and changes nothing that was there. -/
namespace Go.Proofs.Ytfomidjhmdmmcaa
open Go.RowKit Go.Shelf Go.Proofs.Ytfomidjhmdmmcaa.Plain01
set_option linter.unusedVariables false
set_option linter.unusedSimpArgs false

set_option maxRecDepth 100000 in
set_option maxHeartbeats 4000000 in
theorem indexMakes_big (a : Option Addr) (es : List (Int × Int)) (cap : Nat) (w : World) (hL : 60 < es.length) :
    Calls Try.prog 3 #[.slice a es.length cap] w (Gives (.bool true) w) := by
  have ha := alive10_any
  have e1 : decide ((60 : Int) < (es.length : Int)) = true := by simp; omega
  generalize es.length = L at *
  go_enter Try.func3, Try.ntmps3
  go_wp2_with fail
  refine (ha _).mono ?_
  rintro e w2 ⟨rfl, hb2⟩
  go_wp2
  go_ret
  exact ⟨rfl, hb2⟩
set_option maxRecDepth 100000 in
set_option maxHeartbeats 4000000 in
theorem indexMakes_not (a : Option Addr) (es : List (Int × Int)) (cap : Nat) (w : World) (h : ExtSlice w a es.length (at10 es)) (hi : ∀ x ∈ es, I64 x.1 ∧ I64 x.2) (hL : es.length ≤ 60) (hR : ¬ Right10 es) :
    Calls Try.prog 3 #[.slice a es.length cap] w (Gives (.bool true) w) := by
  have ha := alive10_any
  have hnew := new10_any a es cap w h hi (by omega)
  have HRR := Lib.hid (fun W (hW : Below w.heap.size w W) => rxright_any a es cap W (h.below hW) hi (by omega))
  rw [decide_eq_false hR] at HRR
  have HR := Lib.hid hR
  clear h hi hR
  generalize es.length = L at *
  go_enter Try.func3, Try.ntmps3
  go_wp2_with fail
  refine hnew.mono ?_
  rintro e w1 ⟨_, hn, hb1⟩
  obtain rfl := hn HR.out
  have hr := HRR.out _ hb1
  have HB1 := Lib.hid hb1
  clear hn hb1 hnew
  go_wp2_with fail
  refine hr.mono ?_
  rintro e w2 ⟨rfl, hb2⟩
  have HB2 := Lib.hid (HB1.out.trans (hb2.mono HB1.out.size))
  clear hb2 hr
  go_wp2_with fail
  refine (ha _).mono ?_
  rintro e w3 ⟨rfl, hb3⟩
  have HB3 := Lib.hid (HB2.out.trans (hb3.mono HB2.out.size))
  clear hb3 ha
  go_wp2
  go_ret
  exact ⟨by simp, HB3.out⟩
set_option maxRecDepth 100000 in
set_option maxHeartbeats 4000000 in
theorem indexMakes_good (a : Option Addr) (es : List (Int × Int)) (cap : Nat) (w : World) (h : ExtSlice w a es.length (at10 es)) (hi : ∀ x ∈ es, I64 x.1 ∧ I64 x.2) (hL : es.length ≤ 60) (hR : Right10 es) :
    Calls Try.prog 3 #[.slice a es.length cap] w (Gives (.bool true) w) := by
  have ha := alive10_any
  have hnew := new10_any a es cap w h hi (by omega)
  have HRR := Lib.hid (fun W (hW : Below w.heap.size w W) => rxright_any a es cap W (h.below hW) hi (by omega))
  rw [decide_eq_true hR] at HRR
  have HCT := Lib.hid (fun W (hW : Below w.heap.size w W) (x : Int × Int) => contains10_any a es cap x W (h.below hW) (by omega))
  have HR := Lib.hid hR
  have HSL : Hid ((srt10 es).length = es.length) := Lib.hid (srt10_length es)
  obtain ⟨L, hLe⟩ : ∃ L, L = es.length := ⟨_, rfl⟩
  have HL := Lib.hid hLe
  rw [← hLe] at hL hnew HRR HCT HSL ⊢
  clear h hi hR hLe
  go_enter Try.func3, Try.ntmps3
  go_wp2_with fail
  refine hnew.mono ?_
  rintro e w1 ⟨hy, _, hb1⟩
  obtain ⟨B, a', cap', g, rfl, hX, _, _, _⟩ := hy HR.out
  have hr := HRR.out _ hb1
  have HX := Lib.hid hX
  have HB1 := Lib.hid hb1
  clear hy hX hb1 hnew
  go_wp2_with fail
  refine hr.mono ?_
  rintro e w2 ⟨rfl, hb2⟩
  have hl := xlen_any B cap' g a' es w2 (HX.out.below hb2)
  rw [← HL.out] at hl
  have HB2 := Lib.hid (HB1.out.trans (hb2.mono HB1.out.size))
  have hs := xsorted_any B cap' g a' es w2 (HX.out.below hb2)
  have e1 : ((L : Int) == (L : Int)) = true := by simp
  clear hb2 hr
  go_wp2_with fail
  refine hl.mono ?_
  rintro e w3 ⟨rfl, rfl⟩
  clear hl
  go_wp2_with fail
  refine hs.mono ?_
  rintro e w4 ⟨v, rfl, hrow, hb4⟩
  obtain ⟨a4, cap4, rfl, hE4, hc4, hcb4, _, _⟩ := row10 hrow rfl
  rw [HSL.out] at hE4 hc4
  rw [HSL.out]
  have HE4 := Lib.hid hE4
  have HB4 := Lib.hid (HB2.out.trans (hb4.mono HB2.out.size))
  clear hrow hb4 hs hE4
  go_wp2_with fail
  go_loopw [34] (fun vi wr => ∃ k : Nat, k ≤ L ∧ vi = .int .i64 k ∧ Below w4.heap.size w4 wr) (fun vi _ => L - (intOf vi).toNat)
  case atStart => exact ⟨0, Nat.zero_le _, rfl, Below.refl _ _⟩
  case round =>
    obtain ⟨k, hk, rfl, hB⟩ := hrel
    by_cases hlt : k < L
    · obtain ⟨b, o, rfl, hrow⟩ := HE4.out (by omega)
      have hbl := hrow.lt (by omega)
      obtain ⟨x0, x1⟩ := hrow.below hB hbl k hlt
      have hmem : at10 (srt10 es) k ∈ es := (sel10_perm (ord10_perm es)).mem_iff.1 (at10_mem (es := srt10 es) (by rw [HSL.out]; exact hlt))
      have hct := fun W (hW : Below wr.heap.size wr W) => HCT.out W (HB4.out.trans ((hB.trans (hW.mono hB.size)).mono HB4.out.size)) (at10 (srt10 es) k)
      rw [decide_eq_true hmem] at hct
      obtain ⟨x, hx⟩ : ∃ x, x = at10 (srt10 es) k := ⟨_, rfl⟩
      rw [← hx] at x0 x1 hct
      obtain ⟨S3, hS3⟩ := start1 wr (extO x)
      have hb3 : Below wr.heap.size wr S3.w := S3.below
      have HW3 := Lib.hid hS3
      by_cases h0 : 0 < k
      · obtain ⟨j, hj⟩ : ∃ j, k = j + 1 := ⟨k - 1, by omega⟩
        have hord := srt10_mono HR.out (i := j) (j := k) (by omega) (by rw [← HL.out]; exact hlt)
        have hokj := okE_iff.1 (srt10_at HR.out (i := j) (by rw [← HL.out]; omega)).1
        rw [← hx] at hord
        obtain ⟨y, hy⟩ : ∃ y, y = at10 (srt10 es) j := ⟨_, rfl⟩
        rw [← hy] at hord hokj
        have d0 : ∀ s : HeldW wr [(wr.heap.size, extO x)], s.w.cell? ⟨wr.heap.size, 0, none⟩ = some (.int .i64 x.1) := fun s => (ext_cells (s.blocks (wr.heap.size, extO x) (by simp))).1
        have d1 : ∀ s : HeldW wr [(wr.heap.size, extO x)], s.w.cell? ⟨wr.heap.size, 1, none⟩ = some (.int .i64 x.2) := fun s => (ext_cells (s.blocks (wr.heap.size, extO x) (by simp))).2.1
        have d2 : ∀ s : HeldW wr [(wr.heap.size, extO x)], s.w.cell? ⟨b, o + j * 2, none⟩ = some (.int .i64 y.1) := fun s => by rw [hy]; exact (hrow.below (hB.trans (s.below.mono hB.size)) (Nat.lt_of_lt_of_le hbl (Nat.le_refl _)) j (by omega)).1
        have d3 : ∀ s : HeldW wr [(wr.heap.size, extO x)], s.w.cell? ⟨b, o + j * 2 + 1, none⟩ = some (.int .i64 y.2) := fun s => by rw [hy]; exact (hrow.below (hB.trans (s.below.mono hB.size)) (Nat.lt_of_lt_of_le hbl (Nat.le_refl _)) j (by omega)).2
        have e2 : decide ((0 : Int) < (k : Int)) = true := by simp; omega
        have e2' : decide (0 < k) = true := by simp; omega
        have e3 : decide (x.1 < y.1 + y.2) = false := by simp; omega
        have e4 : (k : Int) - 1 = (j : Int) := by omega
        have hjL : j < L := by omega
        clear hmem hx hy hrow hbl hord hS3 hb3 hj
        go_wp2_with fail
        rw [HW3.out]
        refine wp_region_class wr _ (by kernel_rfl) (by kernel_rfl) S3.below S3.blocks (fun hne => ?_)
        repeat (go_big_quiet_step ((go_at_call 14; exact HeldW.call (hct _ (HeldW.below _)))))
        refine wpQuiet_nil ?_
        rintro _ ⟨s6, rfl⟩
        have HB6 := Lib.hid (hB.trans (s6.below.mono hB.size))
        clear hne d0 d1 d2 d3 hct e2 e3 e4 hB
        go_wp2
        go_roundw
        case rel => exact ⟨k + 1, by omega, by go_num, HB6.out⟩
        case measure => simp [intOf]; omega
      · have e2 : decide ((0 : Int) < (k : Int)) = false := by simp; omega
        have e2' : decide (0 < k) = false := by simp; omega
        clear h0
        have d0 : ∀ s : HeldW wr [(wr.heap.size, extO x)], s.w.cell? ⟨wr.heap.size, 0, none⟩ = some (.int .i64 x.1) := fun s => (ext_cells (s.blocks (wr.heap.size, extO x) (by simp))).1
        have d1 : ∀ s : HeldW wr [(wr.heap.size, extO x)], s.w.cell? ⟨wr.heap.size, 1, none⟩ = some (.int .i64 x.2) := fun s => (ext_cells (s.blocks (wr.heap.size, extO x) (by simp))).2.1
        clear hmem hx hrow hbl hS3 hb3
        go_wp2_with fail
        rw [HW3.out]
        refine wp_region_class wr _ (by kernel_rfl) (by kernel_rfl) S3.below S3.blocks (fun hne => ?_)
        repeat (go_big_quiet_step ((go_at_call 14; exact HeldW.call (hct _ (HeldW.below _)))))
        refine wpQuiet_nil ?_
        rintro _ ⟨s6, rfl⟩
        have HB6 := Lib.hid (hB.trans (s6.below.mono hB.size))
        clear hne d0 d1 hct hB
        go_wp2
        go_roundw
        case rel => exact ⟨k + 1, by omega, by go_num, HB6.out⟩
        case measure => simp [intOf]; omega
    · obtain rfl : k = L := by omega
      have HBB := Lib.hid (HB4.out.trans (hB.mono HB4.out.size))
      clear hB
      go_wp2_with fail
      refine (ha _).mono ?_
      rintro e w5 ⟨rfl, hb5⟩
      have HB5 := Lib.hid (HBB.out.trans (hb5.mono HBB.out.size))
      clear hb5
      go_wp2
      go_ret
      exact ⟨by simp, HB5.out⟩
theorem indexMakes_walk (a : Option Addr) (n cap : Nat) (f : Nat → Int × Int) {w : World} (hn : n ≤ 9223372036854775807) (hs : ExtSlice w a n f) (hf : ∀ i, i < n → I64 (f i).1 ∧ I64 (f i).2) :
    Calls Try.prog 3 #[.slice a n cap] w (Gives (.bool true) w) := by
  obtain ⟨es, rfl, h, hi⟩ := list10 hs hf
  by_cases hL : es.length ≤ 60
  · by_cases hR : Right10 es
    · exact indexMakes_good a es cap w h hi hL hR
    · exact indexMakes_not a es cap w h hi hL hR
  · exact indexMakes_big a es cap w (by omega)
end Go.Proofs.Ytfomidjhmdmmcaa
