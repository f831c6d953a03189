/- IndexMeets returns true for every list of extents and every extent, and changes nothing that was there. -/
import Derived.Test.YtfomidjhmdmmcaaE10t2
import Derived.Test.YtfomidjhmdmmcaaE10f9
import Derived.Test.YtfomidjhmdmmcaaE10f5
namespace Go.Proofs.Ytfomidjhmdmmcaa
open Go.RowKit Go.Shelf Go.Proofs.Ytfomidjhmdmmcaa.Plain01
set_option linter.unusedVariables false
set_option linter.unusedSimpArgs false

/-- A slice of ints, as a value. -/
def IntsV (l : List Nat) (v : Value) (w : World) : Prop := ∃ a cap, v = .slice a l.length cap ∧ IntsIn w a l
theorem stable_ints (l : List Nat) : Stable (fun W W' => Below W.heap.size W W') (IntsV l) := fun v w w' h hE => by
  obtain ⟨a, cap, rfl, hI⟩ := h
  exact ⟨a, cap, rfl, hI.below hE⟩
theorem MeetPost.intsV {ps : List Nat} {w w' : World} {e : Ending} (h : MeetPost ps w e w') : ∃ v, e = .returned v ∧ IntsV ps v w' ∧ Below w.heap.size w w' := by
  obtain ⟨v, rfl, hr, hb⟩ := h
  obtain ⟨a, cap, rfl, hI⟩ := ints_row hr
  exact ⟨_, rfl, ⟨a, cap, rfl, hI⟩, hb⟩

set_option maxRecDepth 100000 in
set_option maxHeartbeats 4000000 in
theorem indexMeets_big (a : Option Addr) (es : List (Int × Int)) (cap : Nat) (e : Int × Int) (w : World) (hL : 60 < es.length) :
    Calls Try.prog 5 #[.slice a es.length cap, extV e] w (Gives (.bool true) w) := by
  have ha := alive10_any
  have e1 : decide ((60 : Int) < (es.length : Int)) = true := by simp; omega
  generalize es.length = L at *
  obtain ⟨W0, hW0⟩ : ∃ W0, w.alloc (.cells #[.int .i64 e.1, .int .i64 e.2] 30) = W0 := ⟨_, rfl⟩
  have HB0 : Hid (Below w.heap.size w W0) := Lib.hid (by rw [← hW0]; exact (Below.refl _ w).alloc (Nat.le_refl _) _)
  have HW0 := Lib.hid hW0
  clear hW0
  go_enter Try.func5, Try.ntmps5
  go_wp2_with fail
  rw [HW0.out]
  refine (ha _).mono ?_
  rintro e w2 ⟨rfl, hb2⟩
  have HB2 := Lib.hid (HB0.out.trans (hb2.mono HB0.out.size))
  clear hb2
  go_wp2
  go_ret
  exact ⟨rfl, HB2.out⟩
set_option maxRecDepth 100000 in
set_option maxHeartbeats 4000000 in
theorem indexMeets_not (a : Option Addr) (es : List (Int × Int)) (cap : Nat) (e : Int × Int) (w : World) (h : ExtSlice w a es.length (at10 es)) (hi : ∀ x ∈ es, I64 x.1 ∧ I64 x.2) (hL : es.length ≤ 60) (hR : ¬ Right10 es) :
    Calls Try.prog 5 #[.slice a es.length cap, extV e] w (Gives (.bool true) w) := by
  have ha := alive10_any
  have HRR := Lib.hid (fun W (hW : Below w.heap.size w W) => rxright_any a es cap W (h.below hW) hi (by omega))
  rw [decide_eq_false hR] at HRR
  clear h hi hR
  generalize es.length = L at *
  obtain ⟨W0, hW0⟩ : ∃ W0, w.alloc (.cells #[.int .i64 e.1, .int .i64 e.2] 30) = W0 := ⟨_, rfl⟩
  have HB0 : Hid (Below w.heap.size w W0) := Lib.hid (by rw [← hW0]; exact (Below.refl _ w).alloc (Nat.le_refl _) _)
  have hr := HRR.out _ HB0.out
  have HW0 := Lib.hid hW0
  clear hW0
  go_enter Try.func5, Try.ntmps5
  go_wp2_with fail
  rw [HW0.out]
  go_wp2_with fail
  refine hr.mono ?_
  rintro e1 w1 ⟨rfl, hb1⟩
  have HB1 := Lib.hid (HB0.out.trans (hb1.mono HB0.out.size))
  clear hr hb1
  go_wp2_with fail
  refine (ha _).mono ?_
  rintro e2 w2 ⟨rfl, hb2⟩
  have HB2 := Lib.hid (HB1.out.trans (hb2.mono HB1.out.size))
  clear hb2
  go_wp2
  go_ret
  exact ⟨rfl, HB2.out⟩
set_option maxRecDepth 100000 in
set_option maxHeartbeats 4000000 in
theorem indexMeets_bad (a : Option Addr) (es : List (Int × Int)) (cap : Nat) (e : Int × Int) (w : World) (h : ExtSlice w a es.length (at10 es)) (hi : ∀ x ∈ es, I64 x.1 ∧ I64 x.2) (hL : es.length ≤ 60) (hR : Right10 es) (hei : I64 e.1 ∧ I64 e.2) (he : okE e = false) :
    Calls Try.prog 5 #[.slice a es.length cap, extV e] w (Gives (.bool true) w) := by
  have ha := alive10_any
  have HRR := Lib.hid (fun W (hW : Below w.heap.size w W) => rxright_any a es cap W (h.below hW) hi (by omega))
  rw [decide_eq_true hR] at HRR
  have hv := rvalid_gives e hei.1 hei.2
  rw [he] at hv
  clear h hi hR hei he
  generalize es.length = L at *
  obtain ⟨W0, hW0⟩ : ∃ W0, w.alloc (.cells #[.int .i64 e.1, .int .i64 e.2] 30) = W0 := ⟨_, rfl⟩
  have HB0 : Hid (Below w.heap.size w W0) := Lib.hid (by rw [← hW0]; exact (Below.refl _ w).alloc (Nat.le_refl _) _)
  have HE0 : Hid (W0.heap[w.heap.size]? = some (.cells #[.int .i64 e.1, .int .i64 e.2] 30 (0, 0))) := Lib.hid (by rw [← hW0]; exact heap_new _ _ rfl)
  have hr := HRR.out _ HB0.out
  have HW0 := Lib.hid hW0
  clear hW0
  go_enter Try.func5, Try.ntmps5
  go_wp2_with fail
  rw [HW0.out]
  go_wp2_with fail
  refine hr.mono ?_
  rintro e1 w1 ⟨rfl, hb1⟩
  have HB1 := Lib.hid (HB0.out.trans (hb1.mono HB0.out.size))
  have hx := heap_below HE0.out hb1
  have x0 : w1.cell? ⟨w.heap.size, 0, none⟩ = some (.int .i64 e.1) := cell_of hx 0
  have x1 : w1.cell? ⟨w.heap.size, 1, none⟩ = some (.int .i64 e.2) := cell_of hx 1
  clear hr hb1 hx
  go_wp2_with fail
  refine (hv _).mono ?_
  rintro e2 w2 ⟨rfl, hb2⟩
  have HB2 := Lib.hid (HB1.out.trans (hb2.mono HB1.out.size))
  clear hb2 hv x0 x1
  go_wp2_with fail
  refine (ha _).mono ?_
  rintro e3 w3 ⟨rfl, hb3⟩
  have HB3 := Lib.hid (HB2.out.trans (hb3.mono HB2.out.size))
  clear hb3
  go_wp2
  go_ret
  exact ⟨rfl, HB3.out⟩
set_option maxRecDepth 100000 in
set_option maxHeartbeats 8000000 in
theorem indexMeets_good (a : Option Addr) (es : List (Int × Int)) (cap : Nat) (e : Int × Int) (w : World) (h : ExtSlice w a es.length (at10 es)) (hi : ∀ x ∈ es, I64 x.1 ∧ I64 x.2) (hL : es.length ≤ 60) (hR : Right10 es) (hei : I64 e.1 ∧ I64 e.2) (he : okE e = true) :
    Calls Try.prog 5 #[.slice a es.length cap, extV e] w (Gives (.bool true) w) := by
  have ha := Lib.hid alive10_any
  have HRR := Lib.hid (fun W (hW : Below w.heap.size w W) => rxright_any a es cap W (h.below hW) hi (by omega))
  rw [decide_eq_true hR] at HRR
  have hv := rvalid_gives e hei.1 hei.2
  rw [he] at hv
  have HNEW := Lib.hid (fun W (hW : Below w.heap.size w W) => new10_any a es cap W (h.below hW) hi (by omega))
  have HRM := Lib.hid (fun W (hW : Below w.heap.size w W) => rmeet10_any a es cap e he W (h.below hW) hR (by omega))
  have HRC := Lib.hid (fun W (hW : Below w.heap.size w W) => rcovered10_any a es cap e he W (h.below hW) hR (by omega))
  have HR := Lib.hid hR
  have HE := Lib.hid he
  have HML : Hid ((meet10 es e).length ≤ 1000000) := Lib.hid (by
    have : (meet10 es e).length ≤ es.length := by
      unfold meet10
      refine Nat.le_trans (List.length_filter_le _ _) ?_
      rw [(ord10_perm es).length_eq]
      simp
    omega)
  obtain ⟨L, hLe⟩ : ∃ L, L = es.length := ⟨_, rfl⟩
  rw [← hLe] at hL HRR HNEW HRM HRC ⊢
  obtain ⟨W0, hW0⟩ : ∃ W0, w.alloc (.cells #[.int .i64 e.1, .int .i64 e.2] 30) = W0 := ⟨_, rfl⟩
  have HB0 : Hid (Below w.heap.size w W0) := Lib.hid (by rw [← hW0]; exact (Below.refl _ w).alloc (Nat.le_refl _) _)
  have HE0 : Hid (W0.heap[w.heap.size]? = some (.cells #[.int .i64 e.1, .int .i64 e.2] 30 (0, 0))) := Lib.hid (by rw [← hW0]; exact heap_new _ _ rfl)
  have hr := HRR.out _ HB0.out
  have HW0 := Lib.hid hW0
  clear h hi hR hei he hLe hW0
  go_enter Try.func5, Try.ntmps5
  go_wp2_with fail
  rw [HW0.out]
  go_wp2_with fail
  refine hr.mono ?_
  rintro e1 w1 ⟨rfl, hb1⟩
  have HB1 := Lib.hid (HB0.out.trans (hb1.mono HB0.out.size))
  have hx := heap_below HE0.out hb1
  have x0 : w1.cell? ⟨w.heap.size, 0, none⟩ = some (.int .i64 e.1) := cell_of hx 0
  have x1 : w1.cell? ⟨w.heap.size, 1, none⟩ = some (.int .i64 e.2) := cell_of hx 1
  have HX1 := Lib.hid hx
  clear hr hb1 hx
  go_wp2_with fail
  refine (hv _).mono ?_
  rintro e2 w2 ⟨rfl, hb2⟩
  have HB2 := Lib.hid (HB1.out.trans (hb2.mono HB1.out.size))
  have HX2 := Lib.hid (heap_below HX1.out hb2)
  clear hb2 hv x0 x1 HX1
  go_wp2_with fail
  refine (HNEW.out _ HB2.out).mono ?_
  rintro e3 w3 ⟨hy, _, hb3⟩
  obtain ⟨B, a', cap', g, rfl, hX, _, _, _⟩ := hy HR.out
  have HX := Lib.hid hX
  have HX3 := Lib.hid (heap_below HX2.out hb3)
  have HB3 := Lib.hid (HB2.out.trans (hb3.mono HB2.out.size))
  have e5 : ((some ⟨B, 0, none⟩ : Option Addr) == none) = false := rfl
  clear hy hX hb3 HX2 HNEW HRR
  go_wp2_with fail
  have KA : Hid (∀ W, Below w3.heap.size w3 W → W.cell? ⟨w.heap.size, 0, none⟩ = some (.int .i64 e.1) ∧ W.cell? ⟨w.heap.size, 1, none⟩ = some (.int .i64 e.2)) := Lib.hid fun W hW => by
    have h := heap_below HX3.out hW
    exact ⟨cell_of h 0, cell_of h 1⟩
  have KM := Lib.hid (fun W (hW : Below w3.heap.size w3 W) => meet10_any B cap' g a' es HR.out e HE.out W (HX.out.below hW))
  have KC := Lib.hid (fun W (hW : Below w3.heap.size w3 W) => covered10_any B cap' g a' es HR.out e HE.out W (HX.out.below hW))
  have KRM := Lib.hid (fun W (hW : Below w3.heap.size w3 W) => HRM.out W (HB3.out.trans (hW.mono HB3.out.size)))
  have KRC := Lib.hid (fun W (hW : Below w3.heap.size w3 W) => HRC.out W (HB3.out.trans (hW.mono HB3.out.size)))
  have KEQ := Lib.hid (fun (W : World) (p q : Option Addr) (c d : Nat) (h1 : IntsIn W p (meet10 es e)) (h2 : IntsIn W q (meet10 es e)) => eqint_any p q _ _ c d W h1 h2 HML.out HML.out)
  clear HRM HRC HX HX3 HR HE HML e5
  generalize meet10 es e = ms at KM KRM KEQ
  generalize cov10 es e = n at KC KRC
  refine wp_region_loose
    [IsV (.bool true), IsV (.bool true), IsV (.pointer (some ⟨B, 0, none⟩)), IsV (extV e), IntsV ms, IsV (.slice a L cap), IsV (extV e), IntsV ms, IsV (.bool true), IsV (.bool true), IsV (.bool true), IsV (.pointer (some ⟨B, 0, none⟩)), IsV (extV e), IsV (.int .i64 n), IsV (.slice a L cap), IsV (extV e), IsV (.int .i64 n), IsV (.bool true), IsV (.bool true), IsV (.bool true)]
    [⟨24, [], []⟩, ⟨25, [(0, 24)], []⟩, ⟨26, [(1, 25)], [5]⟩, ⟨27, [(1, 25)], [3]⟩, ⟨28, [(1, 25), (2, 26), (3, 27)], []⟩, ⟨29, [(1, 25)], [0]⟩, ⟨30, [(1, 25)], [3]⟩, ⟨31, [(1, 25), (5, 29), (6, 30)], []⟩, ⟨32, [(1, 25), (4, 28), (7, 31)], []⟩, ⟨33, [(1, 25), (8, 32)], []⟩, ⟨34, [(9, 33)], []⟩, ⟨35, [(10, 34)], [5]⟩, ⟨36, [(10, 34)], [3]⟩, ⟨37, [(10, 34), (11, 35), (12, 36)], []⟩, ⟨38, [(10, 34)], [0]⟩, ⟨39, [(10, 34)], [3]⟩, ⟨40, [(10, 34), (14, 38), (15, 39)], []⟩, ⟨41, [(10, 34), (13, 37), (16, 40)], []⟩, ⟨42, [(10, 34), (17, 41)], []⟩, ⟨4, [(18, 42)], []⟩]
    (fun W => Below w3.heap.size w3 W) (fun W W' => Below W.heap.size W W') (by kernel_rfl) (by kernel_rfl) rfl rfl (Below.refl _ w3).drew ?_
    ⟨?_, ?_, ?_, ?_, ?_, ?_, ?_, ?_, ?_, ?_, ?_, ?_, ?_, ?_, ?_, ?_, ?_, ?_, ?_, ?_, trivial⟩ ?_
  · repeat (first | (intro _ h; cases h; done) | refine List.forall_mem_cons.2 ⟨stable_V _ _, ?_⟩ | refine List.forall_mem_cons.2 ⟨stable_ints _, ?_⟩)
  · intro A W hC hd hx
    refine ⟨fun g hg => (by cases hg), ?_⟩
    refine loose_call rfl Try.func9 (by kernel_rfl) (by kernel_rfl) ?_
    rw [show (#[] : Array Operand).map A.eval = #[] by simp]
    refine (ha.out W).mono ?_
    rintro e' W' ⟨rfl, h4⟩
    exact ⟨_, rfl, rfl, hC.trans (h4.mono hC.size), h4⟩
  · intro A W hC hd hx
    have hk : ∀ v, A.eval (.const v) = v := fun _ => rfl
    simp [factOf] at hd
    generalize A.eval = ρ at hd hk ⊢
    simp [go_sem, looseUpon, factOf, hd, hk]
    exact ⟨hC, Below.refl _ _⟩
  · intro A W hC hd hx
    have hk : ∀ v, A.eval (.const v) = v := fun _ => rfl
    have hy0 : A.eval (.tmp 5) = .pointer (some ⟨B, 0, none⟩) := hx 5 (by simp)
    simp [factOf] at hd
    generalize A.eval = ρ at hd hk hy0 ⊢
    simp [go_sem, looseUpon, factOf, hd, hk, hy0]
    exact ⟨hC, Below.refl _ _⟩
  · intro A W hC hd hx
    have hk : ∀ v, A.eval (.const v) = v := fun _ => rfl
    have hy0 : A.eval (.tmp 3) = .pointer (some ⟨w.heap.size, 0, none⟩) := hx 3 (by simp)
    have c0 := (KA.out W hC).1
    have c1 := (KA.out W hC).2
    simp [factOf] at hd
    generalize A.eval = ρ at hd hk hy0 ⊢
    simp [go_sem, looseUpon, factOf, hd, hk, hy0, c0, c1]
    exact ⟨hC, Below.refl _ _⟩
  · intro A W hC hd hx
    simp [factOf] at hd
    obtain ⟨hd0, hd1, hd2⟩ := hd
    refine ⟨fun g hg q hq hq1 => (by cases hg; simp at hq; rcases hq with rfl | rfl | rfl <;> first | exact hd0 | simp at hq1), ?_⟩
    refine loose_call rfl Try.func19 (by kernel_rfl) (by kernel_rfl) ?_
    simp only [List.map_toArray, List.map_cons, List.map_nil, hd1, hd2]
    refine (KM.out W hC).mono ?_
    rintro e' W' h4
    obtain ⟨v, rfl, h5, h6⟩ := MeetPost.intsV h4
    exact ⟨_, rfl, h5, hC.trans (h6.mono hC.size), h6⟩
  · intro A W hC hd hx
    have hk : ∀ v, A.eval (.const v) = v := fun _ => rfl
    have hy0 : A.eval (.tmp 0) = .slice a L cap := hx 0 (by simp)
    simp [factOf] at hd
    generalize A.eval = ρ at hd hk hy0 ⊢
    simp [go_sem, looseUpon, factOf, hd, hk, hy0]
    exact ⟨hC, Below.refl _ _⟩
  · intro A W hC hd hx
    have hk : ∀ v, A.eval (.const v) = v := fun _ => rfl
    have hy0 : A.eval (.tmp 3) = .pointer (some ⟨w.heap.size, 0, none⟩) := hx 3 (by simp)
    have c0 := (KA.out W hC).1
    have c1 := (KA.out W hC).2
    simp [factOf] at hd
    generalize A.eval = ρ at hd hk hy0 ⊢
    simp [go_sem, looseUpon, factOf, hd, hk, hy0, c0, c1]
    exact ⟨hC, Below.refl _ _⟩
  · intro A W hC hd hx
    simp [factOf] at hd
    obtain ⟨hd0, hd1, hd2⟩ := hd
    refine ⟨fun g hg q hq hq1 => (by cases hg; simp at hq; rcases hq with rfl | rfl | rfl <;> first | exact hd0 | simp at hq1), ?_⟩
    refine loose_call rfl Try.func20 (by kernel_rfl) (by kernel_rfl) ?_
    simp only [List.map_toArray, List.map_cons, List.map_nil, hd1, hd2]
    refine (KRM.out W hC).mono ?_
    rintro e' W' h4
    obtain ⟨v, rfl, h5, h6⟩ := MeetPost.intsV h4
    exact ⟨_, rfl, h5, hC.trans (h6.mono hC.size), h6⟩
  · intro A W hC hd hx
    simp [factOf] at hd
    obtain ⟨hd0, ⟨p, c, hd1, hi1⟩, ⟨q, d, hd2, hi2⟩⟩ := hd
    refine ⟨fun g hg q hq hq1 => (by cases hg; simp at hq; rcases hq with rfl | rfl | rfl <;> first | exact hd0 | simp at hq1), ?_⟩
    refine loose_call rfl Try.func18 (by kernel_rfl) (by kernel_rfl) ?_
    simp only [List.map_toArray, List.map_cons, List.map_nil, hd1, hd2]
    refine (KEQ.out W p q c d hi1 hi2).mono ?_
    rintro e' W' ⟨rfl, h4⟩
    exact ⟨_, rfl, by simp [factOf, IsV], hC.trans (h4.mono hC.size), h4⟩
  · intro A W hC hd hx
    have hk : ∀ v, A.eval (.const v) = v := fun _ => rfl
    simp [factOf] at hd
    generalize A.eval = ρ at hd hk ⊢
    simp [go_sem, looseUpon, factOf, hd, hk]
    exact ⟨hC, Below.refl _ _⟩
  · intro A W hC hd hx
    have hk : ∀ v, A.eval (.const v) = v := fun _ => rfl
    simp [factOf] at hd
    generalize A.eval = ρ at hd hk ⊢
    simp [go_sem, looseUpon, factOf, hd, hk]
    exact ⟨hC, Below.refl _ _⟩
  · intro A W hC hd hx
    have hk : ∀ v, A.eval (.const v) = v := fun _ => rfl
    have hy0 : A.eval (.tmp 5) = .pointer (some ⟨B, 0, none⟩) := hx 5 (by simp)
    simp [factOf] at hd
    generalize A.eval = ρ at hd hk hy0 ⊢
    simp [go_sem, looseUpon, factOf, hd, hk, hy0]
    exact ⟨hC, Below.refl _ _⟩
  · intro A W hC hd hx
    have hk : ∀ v, A.eval (.const v) = v := fun _ => rfl
    have hy0 : A.eval (.tmp 3) = .pointer (some ⟨w.heap.size, 0, none⟩) := hx 3 (by simp)
    have c0 := (KA.out W hC).1
    have c1 := (KA.out W hC).2
    simp [factOf] at hd
    generalize A.eval = ρ at hd hk hy0 ⊢
    simp [go_sem, looseUpon, factOf, hd, hk, hy0, c0, c1]
    exact ⟨hC, Below.refl _ _⟩
  · intro A W hC hd hx
    simp [factOf] at hd
    obtain ⟨hd0, hd1, hd2⟩ := hd
    refine ⟨fun g hg q hq hq1 => (by cases hg; simp at hq; rcases hq with rfl | rfl | rfl <;> first | exact hd0 | simp at hq1), ?_⟩
    refine loose_call rfl Try.func21 (by kernel_rfl) (by kernel_rfl) ?_
    simp only [List.map_toArray, List.map_cons, List.map_nil, hd1, hd2]
    refine (KC.out W hC).mono ?_
    rintro e' W' ⟨rfl, h4⟩
    exact ⟨_, rfl, rfl, hC.trans (h4.mono hC.size), h4⟩
  · intro A W hC hd hx
    have hk : ∀ v, A.eval (.const v) = v := fun _ => rfl
    have hy0 : A.eval (.tmp 0) = .slice a L cap := hx 0 (by simp)
    simp [factOf] at hd
    generalize A.eval = ρ at hd hk hy0 ⊢
    simp [go_sem, looseUpon, factOf, hd, hk, hy0]
    exact ⟨hC, Below.refl _ _⟩
  · intro A W hC hd hx
    have hk : ∀ v, A.eval (.const v) = v := fun _ => rfl
    have hy0 : A.eval (.tmp 3) = .pointer (some ⟨w.heap.size, 0, none⟩) := hx 3 (by simp)
    have c0 := (KA.out W hC).1
    have c1 := (KA.out W hC).2
    simp [factOf] at hd
    generalize A.eval = ρ at hd hk hy0 ⊢
    simp [go_sem, looseUpon, factOf, hd, hk, hy0, c0, c1]
    exact ⟨hC, Below.refl _ _⟩
  · intro A W hC hd hx
    simp [factOf] at hd
    obtain ⟨hd0, hd1, hd2⟩ := hd
    refine ⟨fun g hg q hq hq1 => (by cases hg; simp at hq; rcases hq with rfl | rfl | rfl <;> first | exact hd0 | simp at hq1), ?_⟩
    refine loose_call rfl Try.func22 (by kernel_rfl) (by kernel_rfl) ?_
    simp only [List.map_toArray, List.map_cons, List.map_nil, hd1, hd2]
    refine (KRC.out W hC).mono ?_
    rintro e' W' ⟨rfl, h4⟩
    exact ⟨_, rfl, rfl, hC.trans (h4.mono hC.size), h4⟩
  · intro A W hC hd hx
    have hk : ∀ v, A.eval (.const v) = v := fun _ => rfl
    simp [factOf] at hd
    generalize A.eval = ρ at hd hk ⊢
    simp [go_sem, looseUpon, factOf, hd, hk]
    exact ⟨hC, Below.refl _ _⟩
  · intro A W hC hd hx
    have hk : ∀ v, A.eval (.const v) = v := fun _ => rfl
    simp [factOf] at hd
    generalize A.eval = ρ at hd hk ⊢
    simp [go_sem, looseUpon, factOf, hd, hk]
    exact ⟨hC, Below.refl _ _⟩
  · intro A W hC hd hx
    have hk : ∀ v, A.eval (.const v) = v := fun _ => rfl
    simp [factOf] at hd
    generalize A.eval = ρ at hd hk ⊢
    simp [go_sem, looseUpon, factOf, hd, hk]
    exact ⟨hC, Below.refl _ _⟩
  intro W hC
  have HBE := Lib.hid (HB3.out.trans (hC.mono HB3.out.size))
  clear hC KA KM KC KRM KRC KEQ
  simp only [ends]
  rintro _ rfl _ rfl _ rfl _ rfl _ - _ rfl _ rfl _ - _ rfl _ rfl _ rfl _ rfl _ rfl _ rfl _ rfl _ rfl _ rfl _ rfl _ rfl _ rfl
  simp only [putAll, List.zip_cons_cons, List.zip_nil_left, List.foldl_cons, List.foldl_nil, Act.put, List.setIfInBounds_toArray, List.set_cons_succ, List.set_cons_zero]
  go_wp2
  first | exact ⟨by simp, HBE.out⟩ | (go_ret; exact ⟨by simp, HBE.out⟩)
theorem indexMeets_walk (a : Option Addr) (n cap : Nat) (f : Nat → Int × Int) (e : Int × Int) {w : World} (hn : n ≤ 9223372036854775807) (hs : ExtSlice w a n f) (hf : ∀ i, i < n → I64 (f i).1 ∧ I64 (f i).2) (hp : I64 e.1) (hq : I64 e.2) :
    Calls Try.prog 5 #[.slice a n cap, extV e] w (Gives (.bool true) w) := by
  obtain ⟨es, rfl, h, hi⟩ := list10 hs hf
  by_cases hL : es.length ≤ 60
  · by_cases hR : Right10 es
    · cases he : okE e with
      | true => exact indexMeets_good a es cap e w h hi hL hR ⟨hp, hq⟩ he
      | false => exact indexMeets_bad a es cap e w h hi hL hR ⟨hp, hq⟩ he
    · exact indexMeets_not a es cap e w h hi hL hR
  · exact indexMeets_big a es cap e w (by omega)
end Go.Proofs.Ytfomidjhmdmmcaa
