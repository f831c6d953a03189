import Derived.Shelf.SlicesQ.Reverse
import Derived.Shelf.SlGeneric
import Derived.Ground.SlgnProg
import Derived.Test.YtfomidjhmdmmcaaE10f7
import Derived.Test.YtfomidjhmdmmcaaE10f6
import Derived.Test.YtfomidjhmdmmcaaE10f4
import Derived.Laws.Cover3
import Derived.Test.YtfomidjhmdmmcaaE10f9
/- slices.Reverse over extents. -/
namespace Go.Proofs
open Go.Shelf
def Try.reverse10_ren : Go.Shelf.Ren := ⟨fun | 35 => 28 | n => n, fun | 22 => 22 | 23 => 30 | 3 => 3 | 4 => 4 | 0 => 0 | n => n, fun | n => n⟩
theorem Try.reverse10 : Go.Proofs.SlLaysE0.n35 Try.prog Try.reverse10_ren := {
  mixed := by kernel_rfl
  f35 := ⟨"slices.Reverse[[]graft/api.Extent,graft/api.Extent]", by decide, Try.func28.trans (congrArg some (by kernel_rfl))⟩
  t0 := Try.underlying0
  a0 := Try.isAgg0
  z0 := Try.sizeOf0
  v0 := Try.zeroValue0
  t3 := Try.underlying3
  a3 := Try.isAgg3
  z3 := Try.sizeOf3
  v3 := Try.zeroValue3
  t4 := Try.underlying4
  a4 := Try.isAgg4
  z4 := Try.sizeOf4
  v4 := Try.zeroValue4
  t22 := Try.underlying22
  a22 := Try.isAgg22
  z22 := Try.sizeOf22
  v22 := Try.zeroValue22 }
end Go.Proofs
namespace Go.Proofs.Ytfomidjhmdmmcaa
open Go.RowKit Go.Shelf Go.Lib Go.Sort
set_option linter.unusedVariables false
set_option linter.unusedSimpArgs false

theorem cells2_length (c : Int × Int) : (cells10 c).length = 2 := rfl
theorem rev10_empty (a : Option Addr) (cap : Nat) (w : World) : Calls Try.prog 28 #[.slice a 0 cap] w fun e w' => e = .returned (.tuple #[]) ∧ w' = w :=
  AnyQ.slices_Reverse_empty Try.reverse10 a cap w
theorem rev10_any (g cap : Nat) (cs : List (Int × Int)) (w : World) (hc : ∀ (i : Nat) (c : Int × Int), cs[i]? = some c → ∀ (j : Nat) (u : Value), (cells10 c)[j]? = some u → w.cell? ⟨g, i * 2 + j, none⟩ = some u) (hfr : ∀ i, w.frozen? ⟨g, i, none⟩ = false) (hL : cs.length ≤ 1000000) :
    Calls Try.prog 28 #[.slice (some ⟨g, 0, none⟩) cs.length cap] w fun e w' => e = .returned (.tuple #[]) ∧ ButO (some g) w.heap.size w w' ∧ ∀ (i : Nat) (c : Int × Int), cs.reverse[i]? = some c → ∀ (j : Nat) (u : Value), (cells10 c)[j]? = some u → w'.cell? ⟨g, i * 2 + j, none⟩ = some u := by
  have hget : ∀ (l : List (Int × Int)) (i : Nat) (c : Int × Int), l[i]? = some c → l.toArray[i]! = c := fun l i c h => by
    obtain ⟨hi, rfl⟩ := List.getElem?_eq_some_iff.1 h
    rw [getElem!_pos l.toArray i (by simpa using hi)]
    simp
  have hH : HoldsK cells10 2 w g 0 cs.toArray := by
    intro t ht
    rw [size_flatK, List.size_toArray] at ht
    rw [get_flatK _ _ _ _ (by simpa using ht), Nat.zero_add]
    have hi : t / 2 < cs.length := by omega
    have hci : cs[t / 2]? = some cs[t / 2] := List.getElem?_eq_getElem hi
    refine ⟨?_, hfr t⟩
    rw [hget cs _ _ hci]
    have hj : t % 2 < (cells10 cs[t / 2]).length := by rw [cells2_length]; omega
    have := hc _ _ hci (t % 2) _ (List.getElem?_eq_getElem hj)
    rw [show t / 2 * 2 + t % 2 = t by omega] at this
    rw [this, getElem!_pos (cells10 cs[t / 2]) (t % 2) hj]
    rfl
  have := AnyQ.slices_Reverse Try.reverse10 2 (fun w => by kernel_rfl) (fun w => by kernel_rfl) cells10 (fun _ => rfl) (fun x v hv => by
    simp only [cells10, List.mem_cons, List.not_mem_nil, or_false] at hv
    rcases hv with rfl | rfl <;> rfl) g 0 cap cs.toArray w hH (by simp; omega)
  rw [List.size_toArray] at this
  refine this.mono ?_
  rintro e w' ⟨he, n, rfl⟩
  refine ⟨he, ⟨rfl, rfl, rfl, by simp [putRowK, putRow, mapBlock, Sort.ahead], fun k hk hn => ?_⟩, fun i c hi j u hu => ?_⟩
  · have hkg : ¬ g = k := fun h => hn (by rw [h])
    simp [putRowK, putRow, mapBlock, Sort.ahead, Array.getElem?_modify, hkg]
  · have hh := holdsK_putRowK (enc := cells10) (k := 2) (Sort.ahead w n) g 0 cs.toArray cs.toArray.reverse (holdsK_ahead (enc := cells10) (k := 2) w n g 0 cs.toArray hH) (by simp)
    have hil : i < cs.toArray.reverse.size := by
      have := (List.getElem?_eq_some_iff.1 hi).1
      simpa using this
    have hj2 : j < 2 := by have := (List.getElem?_eq_some_iff.1 hu).1; rwa [cells2_length] at this
    have h2 := (HoldsK.cell hh hil hj2).1
    rw [Nat.zero_add] at h2
    rw [h2]
    have e1 : cs.toArray.reverse = cs.reverse.toArray := by simp
    rw [e1, hget _ _ _ hi]
    have hj : j < (cells10 c).length := by rw [cells2_length]; exact hj2
    rw [List.getElem?_eq_getElem hj] at hu
    rw [getElem!_pos (cells10 c) j hj]
    exact hu
end Go.Proofs.Ytfomidjhmdmmcaa

/- The index of the extents in the other order: mathematics. -/
namespace Go.Proofs.Ytfomidjhmdmmcaa
open Go.RowKit Go.Shelf Go.Proofs.Ytfomidjhmdmmcaa.Plain01
set_option linter.unusedVariables false
set_option linter.unusedSimpArgs false

theorem right_rev {es : List (Int × Int)} (h : Right10 es) : Right10 es.reverse := (right_perm (List.reverse_perm es)).2 h
theorem at10_rev (es : List (Int × Int)) {i : Nat} (hi : i < es.length) : at10 es.reverse (es.length - 1 - i) = at10 es i := by
  unfold at10
  rw [List.getElem?_reverse (by omega)]
  rw [show es.length - 1 - (es.length - 1 - i) = i by omega]
theorem ord_mem {es : List (Int × Int)} {i : Nat} (h : i ∈ ord10 es) : i < es.length := by
  simpa using (ord10_perm es).mem_iff.1 h
theorem mir_range (n : Nat) : ((List.range n).map fun i => n - 1 - i).Perm (List.range n) := by
  have h : (List.range n).map (fun i => n - 1 - i) = (List.range n).reverse := by
    apply List.ext_getElem
    · simp
    · intro i h1 h2
      simp
  rw [h]
  exact List.reverse_perm _
theorem ord_rev {es : List (Int × Int)} (hR : Right10 es) : ord10 es.reverse = (ord10 es).map fun i => es.length - 1 - i := by
  symm
  refine ord_eq (right_rev hR) ?_ ?_
  · rw [List.length_reverse]
    exact ((ord10_perm es).map _).trans (mir_range _)
  · rw [List.pairwise_map]
    refine List.Pairwise.imp_of_mem ?_ (ord10_asc es)
    intro i j hi hj h
    rw [at10_rev es (ord_mem hi), at10_rev es (ord_mem hj)]
    exact h
theorem srt_rev {es : List (Int × Int)} (hR : Right10 es) : srt10 es.reverse = srt10 es := by
  unfold srt10 sel10
  rw [ord_rev hR, List.map_map]
  exact List.map_congr_left fun i hi => at10_rev es (ord_mem hi)
theorem meet_rev {es : List (Int × Int)} (hR : Right10 es) (e : Int × Int) : meet10 es.reverse e = (meet10 es e).map fun i => es.length - 1 - i := by
  unfold meet10
  rw [ord_rev hR, List.filter_map]
  congr 1
  refine List.filter_congr fun i hi => ?_
  simp only [Function.comp]
  rw [at10_rev es (ord_mem hi)]
theorem gaps_rev {es : List (Int × Int)} (hR : Right10 es) (e : Int × Int) : gaps10 es.reverse e = gaps10 es e := by
  unfold gaps10
  rw [meet_rev hR, List.map_map]
  congr 1
  refine List.map_congr_left fun i hi => ?_
  unfold part10
  simp only [Function.comp]
  rw [at10_rev es (ord_mem (List.mem_filter.1 hi).1)]
theorem cov_rev (es : List (Int × Int)) (e : Int × Int) : cov10 es.reverse e = cov10 es e := by
  unfold cov10
  induction es with
  | nil => rfl
  | cons a es ih =>
    rw [List.reverse_cons, List.map_append, List.sum_append, ih, List.map_cons, List.sum_cons]
    simp
    omega
theorem meet_back {es : List (Int × Int)} (hR : Right10 es) (e : Int × Int) : (meet10 es.reverse e).map (fun i => es.length - 1 - i) = meet10 es e := by
  rw [meet_rev hR, List.map_map]
  refine (List.map_congr_left fun i hi => ?_).trans (List.map_id _)
  have := ord_mem (List.mem_filter.1 hi).1
  simp only [Function.comp, id]
  omega
end Go.Proofs.Ytfomidjhmdmmcaa

/- Sorted of package index; slices.Contains of extents. -/
namespace Go.Proofs.Ytfomidjhmdmmcaa
open Go.RowKit Go.Shelf Go.Proofs.Ytfomidjhmdmmcaa.Plain01
set_option linter.unusedVariables false
set_option linter.unusedSimpArgs false

theorem flat_news {W : World} {b o : Nat} {l : List (Int × Int)} (h : ExtRow W b o l.length (at10 l)) : ∀ (j : Nat) (u : Value), (flat10 l)[j]? = some u → W.cell? ((⟨b, o, none⟩ : Addr).add j) = some u := fun j u hu => by
  have hj : j < l.length * 2 := by
    have := (List.getElem?_eq_some_iff.1 hu).1
    rwa [flat10_length] at this
  have hi : j / 2 < l.length := by omega
  obtain ⟨h1, h2⟩ := flat10_get l (j / 2) _ (at10_get hi)
  obtain ⟨c1, c2⟩ := h (j / 2) hi
  rw [Addr.add_mid]
  by_cases e : j % 2 = 0
  · rw [show j / 2 * 2 = j by omega] at h1
    rw [hu] at h1
    rw [show o + j = o + j / 2 * 2 by omega, c1, Option.some.inj h1]
  · rw [show j / 2 * 2 + 1 = j by omega] at h2
    rw [hu] at h2
    rw [show o + j = o + j / 2 * 2 + 1 by omega, c2, Option.some.inj h2]
theorem eq_nil10 (a : Option Addr) (n c : Nat) (w : World) : (binOp .eql 22 (.slice a n c) (.slice none 0 0)).run Try.prog w = .ok (.bool a.isNone) w := by
  simp [binOp, run_equal_slice_nil w 22 30 a n c Try.underlying22]
def RowPost10 (l : List (Int × Int)) (w : World) (e : Ending) (w' : World) : Prop := ∃ v, e = .returned v ∧ w'.ownsRow w.heap.size 30 2 v l.length (flat10 l) ∧ Below w.heap.size w w'
set_option maxRecDepth 100000 in
set_option maxHeartbeats 4000000 in
theorem clone10_any (a : Option Addr) (l : List (Int × Int)) (cap : Nat) (w : World) (h : ExtSlice w a l.length (at10 l)) (hL : l.length ≤ 1000000) :
    Calls Try.prog 33 #[.slice a l.length cap] w (RowPost10 l w) := by
  by_cases h0 : l = [] ∧ a = none
  · obtain ⟨rfl, rfl⟩ := h0
    have hp : Hid (RowPost10 [] w (.returned (.slice none 0 0)) w) := Lib.hid ⟨_, rfl, World.ownsRow_nil _ _ _ _, Below.refl _ _⟩
    generalize RowPost10 [] w = POST at hp ⊢
    simp only [List.length_nil]
    have hnl := eq_nil10 none 0 cap
    go_enter Try.func33, Try.ntmps33
    go_wp2
    first | exact hp.out | (go_ret; exact hp.out)
  · obtain ⟨ad, ha⟩ : ∃ ad, a = some ad := by
      cases a with
      | some ad => exact ⟨ad, rfl⟩
      | none =>
        by_cases hl : 0 < l.length
        · obtain ⟨b, o, hb, _⟩ := h hl
          cases hb
        · exact absurd ⟨List.eq_nil_of_length_eq_zero (by omega), rfl⟩ h0
    subst ha
    have hnew : ∀ j u, (flat10 l)[j]? = some u → (w.alloc (.cells #[] 30)).cell? (ad.add j) = some u := fun j u hu => by
      have hl : 0 < l.length := by
        by_cases hl : 0 < l.length
        · exact hl
        · have : l = [] := List.eq_nil_of_length_eq_zero (by omega)
          subst this
          simp [flat10] at hu
      obtain ⟨b, o, hb, hr⟩ := h hl
      cases hb
      have h1 := flat_news hr j u hu
      rw [Addr.add_mid] at h1 ⊢
      exact ((Below.refl w.heap.size w).alloc (Nat.le_refl _) _ |>.cell (World.block_lt_of_cell? _ _ h1)).trans h1
    have hown0 : (w.alloc (.cells #[] 30)).ownsRow w.heap.size 30 2 (.slice (some ⟨w.heap.size, 0, none⟩) 0 0) 0 [] := ⟨rfl, .inr ⟨w.heap.size, 0, #[], rfl, Nat.le_refl _, heap_new w _ rfl, Nat.le_refl _, by unfold maxLen; omega, rfl, rfl⟩⟩
    have hpost : Hid (∀ v' w', w'.ownsRow w.heap.size 30 2 v' (0 + l.length) ([] ++ flat10 l) → (w.alloc (.cells #[] 30)).grownBy w' (Value.ownBlock (.slice (some ⟨w.heap.size, 0, none⟩) 0 0)) → RowPost10 l w (.returned v') w') := Lib.hid fun v' w' h1 h2 => by
      refine ⟨v', rfl, ?_, ?_⟩
      · rw [Nat.zero_add, List.nil_append] at h1
        exact h1
      · exact ((Below.refl _ w).alloc (Nat.le_refl _) _).grown h2 (by simp) (fun k hk => by simp [Value.ownBlock] at hk; omega)
    generalize RowPost10 l w = POST at hpost ⊢
    obtain ⟨E, hE⟩ := elem10
    have hnl := eq_nil10 (some ad) l.length cap
    simp only [Option.isNone_some] at hnl
    go_enter Try.func33, Try.ntmps33
    go_wp2_with (refine wpList_append_own _ rfl (.tmp 5) (.tmp 6) 22 rfl w.heap.size 30 E.i E.z 2 E.bytes E.ht E.hi E.hz E.hsize E.hby E.hzs (by omega) (.slice (some ⟨w.heap.size, 0, none⟩) 0 0) 0 [] rfl hown0 ad l.length cap (flat10 l) rfl (flat10_length l) hnew (flat10_one l) (by unfold maxLen; omega) (by rw [hE]; omega) (by simp) ?_; intro v2 w2 hown2 hgrow2 _; have HR := Lib.hid (hpost.out v2 w2 hown2 hgrow2); obtain ⟨a2, cap2, hv2e⟩ := slice_own10 hown2; subst hv2e)
    have hfin := HR.out
    rw [Nat.zero_add] at hfin
    exact hfin
theorem xsorted_any (B cap g : Nat) (a : Option Addr) (es : List (Int × Int)) (w : World) (h : Idx10 w B a cap g es) : Calls Try.prog 13 #[.pointer (some ⟨B, 0, none⟩)] w (RowPost10 (srt10 es) w) := by
  have c0 := h.c0
  have hc := clone10_any a (srt10 es) cap w (by rw [srt10_length]; exact h.row) (by rw [srt10_length]; exact h.few)
  rw [srt10_length] at hc
  clear h
  generalize es.length = L at *
  go_enter Try.func13, Try.ntmps13
  go_wp2_with fail
  refine hc.mono ?_
  rintro e w2 ⟨v, rfl, hrow, hb⟩
  have HR := Lib.hid (show RowPost10 (srt10 es) w (.returned v) w2 from ⟨v, rfl, hrow, hb⟩)
  clear hrow hb hc
  go_wp2
  first | exact HR.out | (go_ret; exact HR.out)
theorem xsorted_nil (w : World) : Calls Try.prog 13 #[.pointer none] w fun e w' => e = .returned (.slice none 0 0) ∧ w' = w := by
  go_enter Try.func13, Try.ntmps13
  go_wp2
  go_ret
  exact ⟨rfl, rfl⟩

set_option maxRecDepth 100000 in
set_option maxHeartbeats 4000000 in
theorem index10_any (a : Option Addr) (l : List (Int × Int)) (cap : Nat) (x : Int × Int) (w : World) (h : ExtSlice w a l.length (at10 l)) (hL : l.length ≤ 1000000) :
    Calls Try.prog 34 #[.slice a l.length cap, extV x] w (fun e w' => ∃ r : Int, e = .returned (.int .i64 r) ∧ (0 ≤ r ↔ x ∈ l) ∧ Below w.heap.size w w') := by
  have hpost : Hid (∀ (r : Int) W, (0 ≤ r ↔ x ∈ l) → Below w.heap.size w W → (fun (e : Ending) (w' : World) => ∃ r : Int, e = .returned (.int .i64 r) ∧ (0 ≤ r ↔ x ∈ l) ∧ Below w.heap.size w w') (.returned (.int .i64 r)) W) := Lib.hid fun r W h1 h2 => ⟨r, rfl, h1, h2⟩
  generalize (fun (e : Ending) (w' : World) => ∃ r : Int, e = .returned (.int .i64 r) ∧ (0 ≤ r ↔ x ∈ l) ∧ Below w.heap.size w w') = POST at hpost ⊢
  obtain ⟨W1, hW1⟩ : ∃ W1, w.alloc (.cells #[.int .i64 x.1, .int .i64 x.2] 30) = W1 := ⟨_, rfl⟩
  have hb1 : Below w.heap.size w W1 := by rw [← hW1]; exact (Below.refl _ w).alloc (Nat.le_refl _) _
  have bE : W1.heap[w.heap.size]? = some (.cells #[.int .i64 x.1, .int .i64 x.2] 30 (0, 0)) := by rw [← hW1]; exact heap_new _ _ rfl
  have HC := Lib.hid (fun W (hW : Below w.heap.size w W) => ExtSlice.below h hW)
  have HW1 := Lib.hid hW1
  have HB1 := Lib.hid hb1
  have HBE := Lib.hid bE
  obtain ⟨L, hLe⟩ : ∃ L, L = l.length := ⟨_, rfl⟩
  have HL := Lib.hid hLe
  rw [← hLe] at hL ⊢
  rw [← hLe] at HC
  obtain ⟨p0, p1⟩ := x
  clear h hLe hW1 hb1 bE
  go_enter Try.func34, Try.ntmps34
  go_wp2_with fail
  rw [HW1.out]
  go_loopw [8] (fun vi wr => ∃ k : Nat, k ≤ L ∧ vi = .int .i64 k ∧ Hid (∀ i, i < k → at10 l i ≠ (p0, p1)) ∧ ∃ nq, wr = W1.drewN nq) (fun vi _ => L - (intOf vi).toNat)
  case atStart => exact ⟨0, Nat.zero_le _, rfl, Lib.hid (fun i hi => by omega), 0, rfl⟩
  case round =>
    obtain ⟨k, hk, rfl, hN, nq, rfl⟩ := hrel
    by_cases hlt : k < L
    · obtain ⟨b, o, rfl, hrow⟩ := HC.out _ HB1.out (by omega)
      obtain ⟨x0, x1⟩ := hrow k hlt
      have y0 : W1.cell? ⟨w.heap.size, 0, none⟩ = some (.int .i64 p0) := cell_of HBE.out 0
      have y1 : W1.cell? ⟨w.heap.size, 1, none⟩ = some (.int .i64 p1) := cell_of HBE.out 1
      have HMEM : Hid (at10 l k ∈ l) := Lib.hid (at10_mem (by rw [← HL.out]; exact hlt))
      have HSTEP : Hid (at10 l k ≠ (p0, p1) → ∀ i, i < k + 1 → at10 l i ≠ (p0, p1)) := Lib.hid fun hn i hi => by
        by_cases e : i < k
        · exact hN.out i e
        · obtain rfl : i = k := by omega
          exact hn
      obtain ⟨q, hq⟩ : ∃ q, q = at10 l k := ⟨_, rfl⟩
      rw [← hq] at x0 x1 HMEM HSTEP
      clear hrow hq
      obtain ⟨q0, q1⟩ := q
      simp only at x0 x1
      by_cases h0 : p0 = q0
      · subst h0
        by_cases h1 : p1 = q1
        · subst h1
          have HR := Lib.hid (fun W hW => hpost.out (k : Int) W ⟨fun _ => HMEM.out, fun _ => by omega⟩ hW)
          go_wp2
          go_quiet (fail)
          go_wp2
          exact HR.out _ (below_drewN (below_drewN HB1.out _) _)
        · have HS := Lib.hid (HSTEP.out (by intro h; injection h with _ h; exact h1 h.symm))
          go_wp2
          go_quiet (fail)
          go_wp2
          go_roundw
          case rel => exact ⟨k + 1, by omega, by go_num, Lib.hid (fun i hi => HS.out i hi), _, rfl⟩
          case measure => simp [intOf]; omega
      · have HS := Lib.hid (HSTEP.out (by intro h; injection h with h _; exact h0 h.symm))
        go_wp2
        go_quiet (fail)
        go_wp2
        go_roundw
        case rel => exact ⟨k + 1, by omega, by go_num, Lib.hid (fun i hi => HS.out i hi), _, rfl⟩
        case measure => simp [intOf]; omega
    · obtain rfl : k = L := by omega
      have HR := Lib.hid (hpost.out (-1) _ ⟨fun h => by omega, fun h => by
        obtain ⟨i, hi⟩ := List.getElem?_of_mem h
        have h1 := at10_of hi
        exact absurd h1 (hN.out i (by rw [HL.out]; exact (List.getElem?_eq_some_iff.1 hi).1))⟩ (below_drewN HB1.out nq))
      go_wp2
      first | exact HR.out | (go_ret; exact HR.out)

set_option maxRecDepth 100000 in
set_option maxHeartbeats 4000000 in
theorem contains10_any (a : Option Addr) (l : List (Int × Int)) (cap : Nat) (x : Int × Int) (w : World) (h : ExtSlice w a l.length (at10 l)) (hL : l.length ≤ 1000000) :
    Calls Try.prog 14 #[.slice a l.length cap, extV x] w (Gives (.bool (decide (x ∈ l))) w) := by
  obtain ⟨W1, hW1⟩ : ∃ W1, w.alloc (.cells #[.int .i64 x.1, .int .i64 x.2] 30) = W1 := ⟨_, rfl⟩
  have hb1 : Below w.heap.size w W1 := by rw [← hW1]; exact (Below.refl _ w).alloc (Nat.le_refl _) _
  have bE : W1.heap[w.heap.size]? = some (.cells #[.int .i64 x.1, .int .i64 x.2] 30 (0, 0)) := by rw [← hW1]; exact heap_new _ _ rfl
  have y0 : W1.cell? ⟨w.heap.size, 0, none⟩ = some (.int .i64 x.1) := cell_of bE 0
  have y1 : W1.cell? ⟨w.heap.size, 1, none⟩ = some (.int .i64 x.2) := cell_of bE 1
  have hi := index10_any a l cap x W1 (ExtSlice.below h hb1) hL
  have hpost : Hid (∀ (r : Int) W, (0 ≤ r ↔ x ∈ l) → Below W1.heap.size W1 W → Gives (.bool (decide (x ∈ l))) w (.returned (.bool (decide (0 ≤ r)))) W) := Lib.hid fun r W h1 h2 => ⟨by rw [show decide (x ∈ l) = decide (0 ≤ r) by rw [Bool.eq_iff_iff]; simp [h1]], hb1.trans (h2.mono hb1.size)⟩
  generalize Gives (.bool (decide (x ∈ l))) w = POST at hpost ⊢
  have HW1 := Lib.hid hW1
  clear hW1 hb1 bE h
  generalize l.length = L at *
  go_enter Try.func14, Try.ntmps14
  go_wp2_with fail
  rw [HW1.out]
  go_wp2_with fail
  refine hi.mono ?_
  rintro e w2 ⟨r, rfl, hr, hb⟩
  have HR := Lib.hid (hpost.out r w2 hr hb)
  clear hr hb hi y0 y1 hpost
  by_cases h0 : 0 ≤ r
  · have e1 : decide (0 ≤ r) = true := by simpa using h0
    have HR2 := Lib.hid (e1 ▸ HR.out)
    clear h0
    go_wp2
    first | exact HR2.out | (go_ret; exact HR2.out)
  · have e1 : decide (0 ≤ r) = false := by simpa using h0
    have HR2 := Lib.hid (e1 ▸ HR.out)
    clear h0
    go_wp2
    first | exact HR2.out | (go_ret; exact HR2.out)
end Go.Proofs.Ytfomidjhmdmmcaa

/- A copy of a list of extents by append, and the copy turned round. -/
namespace Go.Proofs.Ytfomidjhmdmmcaa
open Go.RowKit Go.Shelf Go.Proofs.Ytfomidjhmdmmcaa.Plain01
set_option linter.unusedVariables false
set_option linter.unusedSimpArgs false

section
variable {P : Program} {w : World}
theorem run_append_none10 (g cap : Nat) (t ty e : TypeId) (i : TypeInfo) (ht : P.underlying t = some (.slice e)) (hi : P.info? e = some i) :
    (Builtin.append_ #[t, t] ty #[.slice (some ⟨g, 0, none⟩) 0 0, .slice none 0 cap]).run P w = .ok (.slice (some ⟨g, 0, none⟩) 0 0) w := by
  simp [Builtin.append_, run_underlying ht, sizeOf, typeInfo, hi, Builtin.lenOf, Builtin.firstCells, storeCells]
end
/-- append([]api.Extent{}, l...) : a row of one's own. -/
theorem wpList_copy10 {w : World} {ops : Array Oper} {rest : List Oper} {o : Oper} {A : Act} {Q : Exit → Act → World → Prop} (hgd : o.guard = none) (s x : Operand) (a : Option Addr) (es : List (Int × Int)) (n cap : Nat) (hn : n = es.length)
    (ho : o.op = .call { callee := .builtin .append, args := #[s, x], argTypes := #[22, 22] }) (hs : A.eval s = .slice (some ⟨w.heap.size, 0, none⟩) 0 0) (hx : A.eval x = .slice a n cap)
    (h : ExtSlice w a es.length (at10 es)) (hL : es.length ≤ 1000000)
    (H : ∀ v' w', w'.ownsRow w.heap.size 30 2 v' es.length (flat10 es) → Below w.heap.size w w' → wpList Try.prog ops Q rest (A.put o.dst v') w') : wpList Try.prog ops Q (o :: rest) A (w.alloc (.cells #[] 30)) := by
  subst hn
  obtain ⟨E, hE⟩ := elem10
  have hown0 : (w.alloc (.cells #[] 30)).ownsRow w.heap.size 30 2 (.slice (some ⟨w.heap.size, 0, none⟩) 0 0) 0 [] := ⟨rfl, .inr ⟨w.heap.size, 0, #[], rfl, Nat.le_refl _, heap_new w _ rfl, Nat.le_refl _, by unfold maxLen; omega, rfl, rfl⟩⟩
  cases a with
  | none =>
    have hl : es = [] := by
      by_cases hl : 0 < es.length
      · obtain ⟨b, o, hb, _⟩ := h hl
        cases hb
      · exact List.eq_nil_of_length_eq_zero (by omega)
    subst hl
    refine wpList_plain hgd fun K hK => ?_
    have hrun := run_append_none10 (P := Try.prog) (w := w.alloc (.cells #[] 30)) w.heap.size cap 22 o.type 30 E.i E.ht E.hi
    unfold Oper.wp
    simp only [List.length_nil] at hx
    simp [execOp, ho, resolve, invoke, builtin, hs, hx, hrun, Result.andThen]
    exact hK _ _ (H _ _ hown0 ((Below.refl _ w).alloc (Nat.le_refl _) _))
  | some ad =>
    have hnew : ∀ j u, (flat10 es)[j]? = some u → (w.alloc (.cells #[] 30)).cell? (ad.add j) = some u := fun j u hu => by
      have hl : 0 < es.length := by
        by_cases hl : 0 < es.length
        · exact hl
        · have : es = [] := List.eq_nil_of_length_eq_zero (by omega)
          subst this
          simp [flat10] at hu
      obtain ⟨b, o, hb, hr⟩ := h hl
      cases hb
      have h1 := flat_news hr j u hu
      rw [Addr.add_mid] at h1 ⊢
      exact ((Below.refl w.heap.size w).alloc (Nat.le_refl _) _ |>.cell (World.block_lt_of_cell? _ _ h1)).trans h1
    refine wpList_append_own (w := w.alloc (.cells #[] 30)) hgd s x 22 ho w.heap.size 30 E.i E.z 2 E.bytes E.ht E.hi E.hz E.hsize E.hby E.hzs (by omega) (.slice (some ⟨w.heap.size, 0, none⟩) 0 0) 0 [] hs hown0 ad es.length cap (flat10 es) hx (flat10_length es) hnew (flat10_one es) (by unfold maxLen; omega) (by rw [hE]; omega) (by simp) ?_
    intro v2 w2 h1 h2 _
    rw [Nat.zero_add, List.nil_append] at h1
    exact H v2 w2 h1 (((Below.refl _ w).alloc (Nat.le_refl _) _).grown h2 (by simp) (fun k hk => by simp [Value.ownBlock] at hk; omega))
/-- An own row of extents, turned round. -/
theorem rev_own10 {base : Nat} {v : Value} {es : List (Int × Int)} {W : World} (h : W.ownsRow base 30 2 v es.length (flat10 es)) (hL : es.length ≤ 1000000) (hb : base ≤ W.heap.size) :
    Calls Try.prog 28 #[v] W fun e w' => e = .returned (.tuple #[]) ∧ Below base W w' ∧ ∃ a cap, v = .slice a es.length cap ∧ ExtSlice w' a es.length (at10 es.reverse) := by
  rcases h.2 with ⟨rfl, h0⟩ | ⟨g, cap, cur, rfl, hbg, hg, hc1, hc2, hsz, htk⟩
  · have : es = [] := List.eq_nil_of_length_eq_zero h0
    subst this
    refine (rev10_empty none 0 W).mono ?_
    rintro e w' ⟨rfl, rfl⟩
    exact ⟨rfl, Below.refl _ _, none, 0, rfl, fun h => by simp at h⟩
  · refine (rev10_any g cap es W (fun i c hi j u hu => ?_) (fun i => ?_) hL).mono ?_
    · obtain ⟨h1, h2⟩ := flat10_get es i c hi
      rw [← htk, List.getElem?_take] at h1 h2
      rw [cell_of hg]
      match j, hu with
      | 0, hu =>
        simp [cells10] at hu
        subst hu
        split at h1
        · simpa using h1
        · cases h1
      | 1, hu =>
        simp [cells10] at hu
        subst hu
        split at h2
        · simpa using h2
        · cases h2
    · simp [World.frozen?, hg]
    · rintro e w' ⟨rfl, hbut, hc⟩
      refine ⟨rfl, ⟨hbut.os, hbut.tape, hbut.output, hbut.size, fun k hk => hbut.block k (by omega) (fun e => by cases e; omega)⟩, _, cap, rfl, fun hp => ⟨g, 0, rfl, fun i hi => ?_⟩⟩
      have hi2 : i < es.reverse.length := by simpa using hi
      have hgt := at10_get hi2
      exact ⟨by rw [Nat.zero_add]; exact hc i _ hgt 0 _ rfl, by rw [Nat.zero_add]; exact hc i _ hgt 1 _ rfl⟩
end Go.Proofs.Ytfomidjhmdmmcaa
