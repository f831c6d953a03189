import Derived.Test.YtfomidjhmdmmcaaE10t1
/- Meet of the reference of package index. -/
namespace Go.Proofs.Ytfomidjhmdmmcaa
open Go.RowKit Go.Shelf Go.Proofs.Ytfomidjhmdmmcaa.Plain01
set_option linter.unusedVariables false
set_option linter.unusedSimpArgs false

set_option maxRecDepth 100000 in
set_option maxHeartbeats 8000000 in
theorem rmeet10_any (a : Option Addr) (es : List (Int × Int)) (cap : Nat) (e : Int × Int) (he : okE e = true) (w : World) (h : ExtSlice w a es.length (at10 es)) (hR : Right10 es) (hL : es.length ≤ 1000) :
    Calls Try.prog 20 #[.slice a es.length cap, extV e] w (MeetPost (meet10 es e) w) := by
  have hpost : Hid (∀ v W out, out = meet10 es e → W.ownsRow w.heap.size 3 1 v out.length (intC out) → Below w.heap.size w W → MeetPost (meet10 es e) w (.returned v) W) := Lib.hid fun v W out h1 h2 h3 => by subst h1; exact ⟨v, rfl, h2, h3⟩
  generalize MeetPost (meet10 es e) w = POST at hpost ⊢
  have HC := Lib.hid h
  have HR := Lib.hid hR
  have HEV := Lib.hid he
  obtain ⟨L, hLe⟩ : ∃ L, L = es.length := ⟨_, rfl⟩
  have HL := Lib.hid hLe
  rw [← hLe] at hL ⊢
  obtain ⟨W0, hW0⟩ : ∃ W0, w.alloc (.cells #[.int .i64 e.1, .int .i64 e.2] 30) = W0 := ⟨_, rfl⟩
  have HB0 : Hid (Below w.heap.size w W0) := Lib.hid (by rw [← hW0]; exact (Below.refl _ w).alloc (Nat.le_refl _) _)
  have HE0 : Hid (W0.heap[w.heap.size]? = some (.cells #[.int .i64 e.1, .int .i64 e.2] 30 (0, 0))) := Lib.hid (by rw [← hW0]; exact heap_new _ _ rfl)
  have HW0 := Lib.hid hW0
  have hfl := ext_len10
  clear h hR hLe he hW0
  go_enter Try.func20, Try.ntmps20
  go_wp2_with fail
  rw [HW0.out]
  go_loopw [5, 6, 7] (fun vo vi va wr => ∃ (k m : Nat) (out : List Nat) (ao : Option Addr) (capo : Nat), k ≤ L ∧ vi = .int .i64 k ∧ vo = .slice ao m capo ∧ Below w.heap.size w wr ∧ wr.heap[w.heap.size]? = some (.cells #[.int .i64 e.1, .int .i64 e.2] 30 (0, 0)) ∧ Hid (RMeet10 es e k out ∧ wr.ownsRow w.heap.size 3 1 (.slice ao m capo) out.length (intC out) ∧ IntsW wr ao out capo ∧ out.length = m)) (fun _ v _ _ => L - (intOf v).toNat)
  case atStart => exact ⟨0, 0, [], none, 0, by omega, rfl, rfl, HB0.out, HE0.out, Lib.hid ⟨⟨by simp, List.Pairwise.nil⟩, World.ownsRow_nil _ _ _ _, ⟨fun h => by simp at h, by simp, by omega, fun _ => rfl⟩, rfl⟩⟩
  case round =>
    clear HB0 HE0 HW0
    obtain ⟨k, m, out, ao, capo, hk, rfl, rfl, hBW, hE0, hout⟩ := hrel
    by_cases hlt : k < L
    · obtain ⟨b, o, rfl, hrow⟩ := HC.out (by rw [← HL.out]; omega)
      have hbl := hrow.lt (by rw [← HL.out]; omega)
      have hkL : k < es.length := by rw [← HL.out]; exact hlt
      have hok := (right_at HR.out hkL).1
      obtain ⟨x, hx⟩ : ∃ x, x = at10 es k := ⟨_, rfl⟩
      have d0 : ∀ s : HeldW wr [(w.heap.size, .cells #[.int .i64 e.1, .int .i64 e.2] 30 (0, 0))], s.w.cell? ⟨w.heap.size, 0, none⟩ = some (.int .i64 e.1) := fun s => cell_of (s.blocks (w.heap.size, .cells #[.int .i64 e.1, .int .i64 e.2] 30 (0, 0)) (by simp)) 0
      have d1 : ∀ s : HeldW wr [(w.heap.size, .cells #[.int .i64 e.1, .int .i64 e.2] 30 (0, 0))], s.w.cell? ⟨w.heap.size, 1, none⟩ = some (.int .i64 e.2) := fun s => cell_of (s.blocks (w.heap.size, .cells #[.int .i64 e.1, .int .i64 e.2] 30 (0, 0)) (by simp)) 1
      have d2 : ∀ s : HeldW wr [(w.heap.size, .cells #[.int .i64 e.1, .int .i64 e.2] 30 (0, 0))], s.w.cell? ⟨b, o + k * 2, none⟩ = some (.int .i64 x.1) := fun s => by rw [hx]; exact (hrow.below (hBW.trans (s.below.mono hBW.size)) hbl k hkL).1
      have d3 : ∀ s : HeldW wr [(w.heap.size, .cells #[.int .i64 e.1, .int .i64 e.2] 30 (0, 0))], s.w.cell? ⟨b, o + k * 2 + 1, none⟩ = some (.int .i64 x.2) := fun s => by rw [hx]; exact (hrow.below (hBW.trans (s.below.mono hBW.size)) hbl k hkL).2
      have hov := fun W => roverlap_gives x e (by rw [hx]; exact hok) HEV.out W
      obtain ⟨q, hq⟩ : ∃ q, q = ovl x e := ⟨_, rfl⟩
      rw [← hq] at hov
      have hbl0 : ∀ p ∈ [(w.heap.size, (Obj.cells #[.int .i64 e.1, .int .i64 e.2] 30 (0, 0)))], wr.heap[p.1]? = some p.2 := all1 hE0
      have HROW := Lib.hid (And.intro hrow hbl)
      have HX := Lib.hid hx
      have HQ := Lib.hid hq
      have HBW0 := Lib.hid hBW
      have HKL := Lib.hid hkL
      clear hx hq hrow hbl hok hkL
      cases hov2 : ovlB x e with
      | false =>
        have hz : Hid (q.2 = 0) := Lib.hid (by rw [HQ.out, (ovl_len _ _).2 hov2])
        have e2 : (q.2 == 0) = true := by rw [hz.out]; rfl
        have HSK : Hid (RMeet10 es e (k + 1) out) := Lib.hid (hout.out.1.skip (by rw [← HX.out]; exact hov2))
        clear hov2
        go_wp2_with fail
        refine wp_region_class wr _ (by kernel_rfl) (by kernel_rfl) (Below.refl _ _) hbl0 (fun hne => ?_)
        repeat (go_big_quiet_step ((go_at_call 32; exact HeldW.call (hov _))))
        refine wpQuiet_nil ?_
        rintro _ ⟨s6, rfl⟩
        have HB6 := Lib.hid (HBW0.out.trans (s6.below.mono HBW0.out.size))
        have HE6 := Lib.hid (s6.blocks (w.heap.size, .cells #[.int .i64 e.1, .int .i64 e.2] 30 (0, 0)) (by simp))
        have HF : Hid (RMeet10 es e (k + 1) out ∧ s6.w.ownsRow w.heap.size 3 1 (.slice ao m capo) out.length (intC out) ∧ IntsW s6.w ao out capo ∧ out.length = m) := Lib.hid ⟨HSK.out, own_later hout.out.2.1 s6.below, hout.out.2.2.1.below s6.below, hout.out.2.2.2⟩
        clear hne d0 d1 d2 d3 hov e2 hBW hE0 hbl0
        go_wp2
        go_roundw
        case rel => exact ⟨k + 1, m, out, ao, capo, by omega, by go_num, rfl, HB6.out, HE6.out, HF⟩
        case measure => simp [intOf]; omega
      | true =>
        have hz : 0 < q.2 := by rw [HQ.out]; exact (ovl_len _ _).1 hov2
        have e2 : (q.2 == 0) = false := by simp; omega
        have HOV : Hid (ovlB (at10 es k) e = true) := Lib.hid (by rw [← HX.out]; exact hov2)
        clear hov2 hz
        go_wp2_with fail
        refine wp_region_class wr _ (by kernel_rfl) (by kernel_rfl) (Below.refl _ _) hbl0 (fun hne => ?_)
        repeat (go_big_quiet_step ((go_at_call 32; exact HeldW.call (hov _))))
        refine wpQuiet_nil ?_
        rintro _ ⟨s6, rfl⟩
        have HBW := Lib.hid (HBW0.out.trans (s6.below.mono HBW0.out.size))
        have HE6 := Lib.hid (s6.blocks (w.heap.size, .cells #[.int .i64 e.1, .int .i64 e.2] 30 (0, 0)) (by simp))
        have HO : Hid (RMeet10 es e k out ∧ IntsW s6.w ao out capo) := Lib.hid ⟨hout.out.1, hout.out.2.2.1.below s6.below⟩
        have HM : Hid (m = out.length) := Lib.hid hout.out.2.2.2.symm
        have hmk : m ≤ k := by rw [HM.out]; exact HO.out.1.length
        have HCAP : Hid (m ≤ capo ∧ capo ≤ 9223372036854775807) := Lib.hid ⟨by rw [HM.out]; exact HO.out.2.len, HO.out.2.capb⟩
        have hmc := HCAP.out.1
        have hcb := HCAP.out.2
        clear hne d0 d1 d2 d3 hov e2 hBW hE0 hbl0 hout
        go_wp2_with fail
        generalize s6.w = W1 at HBW HE6 HO ⊢
        go_loopw [7] (fun va wr => ∃ j : Nat, j ≤ m ∧ va = .int .i64 j ∧ Hid (∀ (i c : Nat), j ≤ i → out[i]? = some c → (at10 es k).1 < (at10 es c).1) ∧ ∃ s2 : HeldW W1 [], wr = s2.w) (fun va _ => (intOf va).toNat)
        case atStart => exact ⟨m, Nat.le_refl _, rfl, Lib.hid (fun i c hi hc => by have := (List.getElem?_eq_some_iff.1 hc).1; have := HM.out; omega), HeldW.start W1, rfl⟩
        case round =>
          obtain ⟨j, hjm, rfl, HS, s2, rfl⟩ := hrel
          have x1 : ∀ s : HeldW W1 [], s.w.cell? ⟨b, o + k * 2, none⟩ = some (.int .i64 x.1) := fun s => by rw [HX.out]; exact (HROW.out.1.below (HBW.out.trans (s.below.mono HBW.out.size)) HROW.out.2 k HKL.out).1
          by_cases hj : 0 < j
          · obtain ⟨J, hJ⟩ : ∃ J, j = J + 1 := ⟨j - 1, by omega⟩
            obtain ⟨c, hc⟩ : ∃ c, out[J]? = some c := ⟨_, List.getElem?_eq_getElem (by rw [← HM.out]; omega)⟩
            have hck := HO.out.1.lt c (List.mem_of_getElem? hc)
            have y1 : ∀ s : HeldW W1 [], s.w.cell? ⟨b, o + c * 2, none⟩ = some (.int .i64 (at10 es c).1) := fun s => (HROW.out.1.below (HBW.out.trans (s.below.mono HBW.out.size)) HROW.out.2 c (by have := HKL.out; omega)).1
            obtain ⟨bo, oo, rfl, hcc⟩ := HO.out.2.ints (by rw [← HM.out]; omega)
            have y2 : ∀ s : HeldW W1 [], s.w.cell? ⟨bo, oo + J, none⟩ = some (.int .i64 c) := fun s => by
              obtain ⟨b', o', e', hc'⟩ := (HO.out.2.ints.below s.below) (by rw [← HM.out]; omega)
              simp only [Option.some.injEq, Addr.mk.injEq] at e'
              obtain ⟨rfl, rfl, _⟩ := e'
              exact hc' J c hc
            have HCJ := Lib.hid hc
            have e3 : decide ((0 : Int) < (j : Int)) = true := by simpa using hj
            have e3' : decide (0 < j) = true := by simpa using hj
            have e4 : (j : Int) - 1 = (J : Int) := by omega
            have hJm : J < m := by omega
            have hcL : c < L := by omega
            have HJ := Lib.hid hJ
            obtain ⟨y, hy⟩ : ∃ y, y = (at10 es c).1 := ⟨_, rfl⟩
            rw [← hy] at y1
            have HY := Lib.hid hy
            clear hcc hc hck hy hJ hj
            by_cases hcmp : x.1 < y
            · have hd : decide (x.1 < y) = true := decide_eq_true hcmp
              have HCMP := Lib.hid hcmp
              clear hcmp
              go_wp2_with fail
              refine wp_region_class _ _ (by kernel_rfl) (by kernel_rfl) s2.below s2.blocks (fun hne => ?_)
              repeat (go_big_quiet_step (fail))
              refine wpQuiet_nil ?_
              rintro _ ⟨s3, rfl⟩
              clear hne x1 y1 y2 hd e3
              go_wp2
              go_roundw
              case rel => exact ⟨J, by omega, by go_num, Lib.hid (fun i c2 hi hc2 => by
                by_cases e : i = J
                · subst e
                  rw [HCJ.out] at hc2
                  cases hc2
                  rw [← HX.out, ← HY.out]
                  exact HCMP.out
                · exact HS.out i c2 (by have := HJ.out; omega) hc2), s3, rfl⟩
              case measure => simp [intOf]; omega
            · have hd : decide (x.1 < y) = false := decide_eq_false hcmp
              have HLE : Hid (j = 0 ∨ ∃ c, out[j - 1]? = some c ∧ (at10 es c).1 ≤ (at10 es k).1) := Lib.hid (.inr ⟨c, by rw [HJ.out]; exact HCJ.out, by rw [← HX.out, ← HY.out]; omega⟩)
              clear hcmp
              go_wp2_with fail
              refine wp_region_class _ _ (by kernel_rfl) (by kernel_rfl) s2.below s2.blocks (fun hne => ?_)
              repeat (go_big_quiet_step (fail))
              refine wpQuiet_nil ?_
              rintro _ ⟨s3, rfl⟩
              clear hne x1 y1 y2 hd e3 e3' e4 hJm hcL
              go_wp2_with fail
              obtain ⟨ao, hao⟩ : ∃ ao, ao = some (⟨bo, oo, none⟩ : Addr) := ⟨_, rfl⟩
              rw [← hao] at HO ⊢
              clear hao HCJ HY HJ
              have HB3 := Lib.hid s3.below
              have hcO : IntsW s3.w ao out capo := HO.out.2.below s3.below
              generalize s3.w = W3 at hcO HB3 ⊢
              obtain ⟨A1, hA1, hA1n, hA1o⟩ := cutO_hI10 (a := ao) (L := m) (cap := capo) j hjm HCAP.out.1 HO.out.2.nil
              obtain ⟨A2, hA2, hA2n, hA2o⟩ := cutO_lI10 (a := ao) (L := m) (cap := capo) j hjm HCAP.out.1 HO.out.2.nil
              have HA1 := Lib.hid hA1
              have HA2 := Lib.hid hA2
              have HN1 := Lib.hid (fun (W : World) (hW : Below W3.heap.size W3 W) => ints_news_h (n := j) (hcO.below hW) hA1o)
              have HN2 := Lib.hid (fun (W : World) (hW : Below W3.heap.size W3 W) => ints_news_l (n := j) (hcO.below hW) (fun b o h1 h2 => hA2o b o h1 (by rw [HM.out]; exact h2)))
              have HL1 := Lib.hid (show (intC (out.take j)).length = j * 1 by rw [intC_length, List.length_take, ← HM.out]; omega)
              have HL2 := Lib.hid (show (intC (out.drop j)).length = (m - j) * 1 by rw [intC_length, List.length_drop, ← HM.out]; omega)
              have HA1N := Lib.hid hA1n
              have HA2N := Lib.hid hA2n
              have hj6 : j ≤ 1000000 := by omega
              clear hA1 hA2 hA1o hA2o hA1n hA2n hcO
              refine wp_region_looseT 11
                [IsE5I10 W3.heap.size, IsV (.slice ao m capo), IsV (.int .i64 j), IsV (.slice A1 j capo), IsRowI10 W3.heap.size j (intC (out.take j)), IsV (.int .i64 k), IsLitI10 W3.heap.size k, IsRowI10 W3.heap.size (j + 1) (intC (out.take j) ++ [.int .i64 k]), IsV (.slice ao m capo), IsV (.int .i64 j), IsV (.slice A2 (m - j) (capo - j))]
                [⟨45, [], []⟩, ⟨46, [], [5]⟩, ⟨47, [], [7]⟩, ⟨48, [(1, 46), (2, 47)], []⟩, ⟨49, [(0, 45), (3, 48)], []⟩, ⟨50, [], [6]⟩, ⟨51, [(5, 50)], []⟩, ⟨52, [(4, 49), (6, 51)], []⟩, ⟨53, [], [5]⟩, ⟨54, [], [7]⟩, ⟨55, [(8, 53), (9, 54)], []⟩]
                (fun W => Below W3.heap.size W3 W) (ExtRI10 W3.heap.size j (intC (out.take j)) [.int .i64 k]) (by kernel_rfl) (by kernel_rfl) (by kernel_rfl) rfl rfl (Below.refl _ W3).drew ?_
                ⟨?_, ?_, ?_, ?_, ?_, ?_, ?_, ?_, ?_, ?_, ?_, trivial⟩ ?_
              · repeat (first | (intro _ h; cases h; done) | refine List.forall_mem_cons.2 ⟨stable_V _ _, ?_⟩ | refine List.forall_mem_cons.2 ⟨stable_EI10x _ _ _ _, ?_⟩ | refine List.forall_mem_cons.2 ⟨stable_rowI10x _ _ _ _, ?_⟩ | refine List.forall_mem_cons.2 ⟨stable_litI10 _ _ _ _, ?_⟩ | refine List.forall_mem_cons.2 ⟨stable_rowI10y _ _ _ _, ?_⟩)
              · intro A W hC hd hx
                refine ⟨fun g hg => (by cases hg), ?_⟩
                clear hd
                have hE5 : IsE5I10 W3.heap.size (.slice (some ⟨W.heap.size, 0, none⟩) 0 0) (W.alloc (.cells #[] 3)) := ⟨W.heap.size, rfl, rfl, .inr ⟨W.heap.size, 0, #[], rfl, hC.size, heap_new W _ rfl, Nat.le_refl _, by unfold maxLen; omega, rfl, rfl⟩⟩
                simp [go_sem, looseUpon, factOf]
                exact ⟨hE5, hC.alloc hC.size _, extR_belowI10 ((Below.refl _ W).alloc (Nat.le_refl _) _)⟩
              · intro A W hC hd hx
                have hk : ∀ v, A.eval (.const v) = v := fun _ => rfl
                have hy0 : A.eval (.tmp 5) = Value.slice ao m capo := hx 5 (by simp)
                clear hd
                generalize A.eval = ρ at hk hy0 ⊢
                simp [go_sem, looseUpon, factOf, hk, hy0]
                exact ⟨hC, extR_belowI10 (Below.refl _ _)⟩
              · intro A W hC hd hx
                have hk : ∀ v, A.eval (.const v) = v := fun _ => rfl
                have hy0 : A.eval (.tmp 7) = Value.int .i64 j := hx 7 (by simp)
                clear hd
                generalize A.eval = ρ at hk hy0 ⊢
                simp [go_sem, looseUpon, factOf, hk, hy0]
                exact ⟨hC, extR_belowI10 (Below.refl _ _)⟩
              · intro A W hC hd hx
                have hk : ∀ v, A.eval (.const v) = v := fun _ => rfl
                have c0 := HA1.out
                simp [factOf] at hd
                generalize A.eval = ρ at hd hk ⊢
                simp [go_sem, looseUpon, factOf, hd, hk, c0]
                exact ⟨hC, extR_belowI10 (Below.refl _ _)⟩
              · intro A W hC hd hx
                refine ⟨fun g hg => (by cases hg), ?_⟩
                simp [factOf] at hd
                obtain ⟨hd1, hd2⟩ := hd
                obtain ⟨v', W', hrun, hrow, hb⟩ := run_append_freshOI10 (base := W3.heap.size) hC.size hd1 A1 j capo (intC (out.take j)) HL1.out (fun h => (HA1N.out h).1) (HN1.out W hC) (intC_one _) hj6 37
                obtain ⟨p, hp, _⟩ := hd1
                rw [hp] at hrun
                generalize A.eval = ρ at hp hd2 ⊢
                simp [execOp, resolve, invoke, builtin, hp, hd2, hrun, looseUpon, factOf]
                exact ⟨hrow, hC.trans (hb.mono hC.size), extR_belowI10 hb⟩
              · intro A W hC hd hx
                have hk : ∀ v, A.eval (.const v) = v := fun _ => rfl
                have hy0 : A.eval (.tmp 6) = Value.int .i64 k := hx 6 (by simp)
                clear hd
                generalize A.eval = ρ at hk hy0 ⊢
                simp [go_sem, looseUpon, factOf, hk, hy0]
                exact ⟨hC, extR_belowI10 (Below.refl _ _)⟩
              · intro A W hC hd hx
                refine ⟨fun g hg => (by cases hg), ?_⟩
                simp [factOf] at hd
                have hlit := isLitI10_new (W := W) (base := W3.heap.size) hC.size k
                generalize A.eval = ρ at hd ⊢
                simp [go_sem, looseUpon, factOf, hd]
                exact ⟨hlit, hC.alloc hC.size _, extR_belowI10 ((Below.refl _ W).alloc (Nat.le_refl _) _)⟩
              · intro A W hC hd hx
                refine ⟨fun g hg => (by cases hg), ?_⟩
                simp [factOf] at hd
                obtain ⟨hd1, B5, hd2, hd3⟩ := hd
                obtain ⟨v', W', hrun, hrow, hb, hext⟩ := append_extI10 (W0 := W3) (Y := [.int .i64 k]) hC hd1 ⟨B5, 0, none⟩ 1 rfl (hd3.cells (g := B5) (by rw [hd2]; rfl)) (by simp [Value.oneCell']) hj6 37
                generalize A.eval = ρ at hd1 hd2 hrun ⊢
                simp [execOp, resolve, invoke, builtin, hd2, hrun, looseUpon, factOf]
                exact ⟨hrow, hb, hext⟩
              · intro A W hC hd hx
                have hk : ∀ v, A.eval (.const v) = v := fun _ => rfl
                have hy0 : A.eval (.tmp 5) = Value.slice ao m capo := hx 5 (by simp)
                clear hd
                generalize A.eval = ρ at hk hy0 ⊢
                simp [go_sem, looseUpon, factOf, hk, hy0]
                exact ⟨hC, extR_belowI10 (Below.refl _ _)⟩
              · intro A W hC hd hx
                have hk : ∀ v, A.eval (.const v) = v := fun _ => rfl
                have hy0 : A.eval (.tmp 7) = Value.int .i64 j := hx 7 (by simp)
                clear hd
                generalize A.eval = ρ at hk hy0 ⊢
                simp [go_sem, looseUpon, factOf, hk, hy0]
                exact ⟨hC, extR_belowI10 (Below.refl _ _)⟩
              · intro A W hC hd hx
                have hk : ∀ v, A.eval (.const v) = v := fun _ => rfl
                have c0 := HA2.out
                simp [factOf] at hd
                generalize A.eval = ρ at hd hk ⊢
                simp [go_sem, looseUpon, factOf, hd, hk, c0]
                exact ⟨hC, extR_belowI10 (Below.refl _ _)⟩
              · intro W hC
                simp only [ends]
                rintro _ ⟨g5, rfl, _⟩ _ rfl _ rfl _ rfl v49 _ _ rfl _ ⟨B5, rfl, _⟩ v52 hrow _ rfl _ rfl _ rfl
                simp only [putAll, List.zip_cons_cons, List.zip_nil_left, List.foldl_cons, List.foldl_nil, Act.put, List.setIfInBounds_toArray, List.set_cons_succ, List.set_cons_zero, List.drop_succ_cons, List.drop_zero]
                obtain ⟨P0, hP0⟩ : ∃ P0 : Piles W3 [⟨3, 1, v52, j + 1, intC (out.take j) ++ [Value.int .i64 (k : Int)]⟩], W = P0.w := ⟨⟨W, hC, all1 hrow, by simp⟩, rfl⟩
                have hN2 := HN2.out W hC
                rw [hP0] at hN2
                rw [hP0]
                clear hP0 hrow hC
                obtain ⟨E, hE⟩ := elemI10
                refine wpList_append_pilesS E P0 (.tmp 52) (.tmp 55) rfl rfl rfl A2 (m - j) (capo - j) (intC (out.drop j)) HL2.out rfl HA2N.out hN2 (intC_one _) (by unfold maxLen; omega) (by rw [hE]; omega) (fun v7 S7 => ?_)
                have hrow7 := S7.rows _ List.mem_cons_self
                obtain ⟨ns, hns⟩ : ∃ ns, ns = out.take j ++ k :: out.drop j := ⟨_, rfl⟩
                have hnl : ns.length = m + 1 := by rw [hns, List.length_append, List.length_cons, List.length_take, List.length_drop, ← HM.out, Nat.min_eq_left hjm]; omega
                have hfl : intC ns = intC (out.take j) ++ [.int .i64 k] ++ intC (out.drop j) := by rw [hns, intC_append, List.append_assoc]; rfl
                have hb7 : Below W1.heap.size W1 S7.w := HB3.out.trans (S7.below.mono HB3.out.size)
                have hb8 : Below w.heap.size w S7.w := HBW.out.trans (hb7.mono HBW.out.size)
                have hrow8 : S7.w.ownsRow W3.heap.size 3 1 v7 ns.length (intC ns) := by rw [hfl, show ns.length = j + 1 + (m - j) by omega]; exact hrow7
                obtain ⟨a7, cap7, hv7, hc7⟩ := ints_row2 hrow8
                rw [hnl] at hv7
                subst hv7
                have HF : Hid (RMeet10 es e (k + 1) ns ∧ S7.w.ownsRow w.heap.size 3 1 (.slice a7 (m + 1) cap7) ns.length (intC ns) ∧ IntsW S7.w a7 ns cap7 ∧ ns.length = m + 1) := Lib.hid ⟨by rw [hns]; exact HO.out.1.next HOV.out (by rw [← HM.out]; exact hjm) HS.out HLE.out, own_mono10 hrow8 (Nat.le_trans HBW.out.size HB3.out.size), hc7, hnl⟩
                have HB8 := Lib.hid hb8
                have HE8 := Lib.hid (heap_below HE6.out hb7)
                clear hnl hns hfl hb7 hb8 hc7 hrow7 hrow8 hN2
                go_wp2
                go_roundw
                case rel => exact ⟨k + 1, m + 1, ns, a7, cap7, by omega, by go_num, rfl, HB8.out, HE8.out, Lib.hid HF.out⟩
                case measure => simp [intOf]; omega
          · have e3 : decide ((0 : Int) < (j : Int)) = false := by simpa using hj
            have e3' : decide (0 < j) = false := by simpa using hj
            have HLE : Hid (j = 0 ∨ ∃ c, out[j - 1]? = some c ∧ (at10 es c).1 ≤ (at10 es k).1) := Lib.hid (.inl (by omega))
            clear hj
            go_wp2_with fail
            refine wp_region_class _ _ (by kernel_rfl) (by kernel_rfl) s2.below s2.blocks (fun hne => ?_)
            repeat (go_big_quiet_step (fail))
            refine wpQuiet_nil ?_
            rintro _ ⟨s3, rfl⟩
            clear hne x1 e3 e3'
            go_wp2_with fail
            have HB3 := Lib.hid s3.below
            have hcO : IntsW s3.w ao out capo := HO.out.2.below s3.below
            generalize s3.w = W3 at hcO HB3 ⊢
            obtain ⟨A1, hA1, hA1n, hA1o⟩ := cutO_hI10 (a := ao) (L := m) (cap := capo) j hjm HCAP.out.1 HO.out.2.nil
            obtain ⟨A2, hA2, hA2n, hA2o⟩ := cutO_lI10 (a := ao) (L := m) (cap := capo) j hjm HCAP.out.1 HO.out.2.nil
            have HA1 := Lib.hid hA1
            have HA2 := Lib.hid hA2
            have HN1 := Lib.hid (fun (W : World) (hW : Below W3.heap.size W3 W) => ints_news_h (n := j) (hcO.below hW) hA1o)
            have HN2 := Lib.hid (fun (W : World) (hW : Below W3.heap.size W3 W) => ints_news_l (n := j) (hcO.below hW) (fun b o h1 h2 => hA2o b o h1 (by rw [HM.out]; exact h2)))
            have HL1 := Lib.hid (show (intC (out.take j)).length = j * 1 by rw [intC_length, List.length_take, ← HM.out]; omega)
            have HL2 := Lib.hid (show (intC (out.drop j)).length = (m - j) * 1 by rw [intC_length, List.length_drop, ← HM.out]; omega)
            have HA1N := Lib.hid hA1n
            have HA2N := Lib.hid hA2n
            have hj6 : j ≤ 1000000 := by omega
            clear hA1 hA2 hA1o hA2o hA1n hA2n hcO
            refine wp_region_looseT 11
              [IsE5I10 W3.heap.size, IsV (.slice ao m capo), IsV (.int .i64 j), IsV (.slice A1 j capo), IsRowI10 W3.heap.size j (intC (out.take j)), IsV (.int .i64 k), IsLitI10 W3.heap.size k, IsRowI10 W3.heap.size (j + 1) (intC (out.take j) ++ [.int .i64 k]), IsV (.slice ao m capo), IsV (.int .i64 j), IsV (.slice A2 (m - j) (capo - j))]
              [⟨45, [], []⟩, ⟨46, [], [5]⟩, ⟨47, [], [7]⟩, ⟨48, [(1, 46), (2, 47)], []⟩, ⟨49, [(0, 45), (3, 48)], []⟩, ⟨50, [], [6]⟩, ⟨51, [(5, 50)], []⟩, ⟨52, [(4, 49), (6, 51)], []⟩, ⟨53, [], [5]⟩, ⟨54, [], [7]⟩, ⟨55, [(8, 53), (9, 54)], []⟩]
              (fun W => Below W3.heap.size W3 W) (ExtRI10 W3.heap.size j (intC (out.take j)) [.int .i64 k]) (by kernel_rfl) (by kernel_rfl) (by kernel_rfl) rfl rfl (Below.refl _ W3).drew ?_
              ⟨?_, ?_, ?_, ?_, ?_, ?_, ?_, ?_, ?_, ?_, ?_, trivial⟩ ?_
            · repeat (first | (intro _ h; cases h; done) | refine List.forall_mem_cons.2 ⟨stable_V _ _, ?_⟩ | refine List.forall_mem_cons.2 ⟨stable_EI10x _ _ _ _, ?_⟩ | refine List.forall_mem_cons.2 ⟨stable_rowI10x _ _ _ _, ?_⟩ | refine List.forall_mem_cons.2 ⟨stable_litI10 _ _ _ _, ?_⟩ | refine List.forall_mem_cons.2 ⟨stable_rowI10y _ _ _ _, ?_⟩)
            · intro A W hC hd hx
              refine ⟨fun g hg => (by cases hg), ?_⟩
              clear hd
              have hE5 : IsE5I10 W3.heap.size (.slice (some ⟨W.heap.size, 0, none⟩) 0 0) (W.alloc (.cells #[] 3)) := ⟨W.heap.size, rfl, rfl, .inr ⟨W.heap.size, 0, #[], rfl, hC.size, heap_new W _ rfl, Nat.le_refl _, by unfold maxLen; omega, rfl, rfl⟩⟩
              simp [go_sem, looseUpon, factOf]
              exact ⟨hE5, hC.alloc hC.size _, extR_belowI10 ((Below.refl _ W).alloc (Nat.le_refl _) _)⟩
            · intro A W hC hd hx
              have hk : ∀ v, A.eval (.const v) = v := fun _ => rfl
              have hy0 : A.eval (.tmp 5) = Value.slice ao m capo := hx 5 (by simp)
              clear hd
              generalize A.eval = ρ at hk hy0 ⊢
              simp [go_sem, looseUpon, factOf, hk, hy0]
              exact ⟨hC, extR_belowI10 (Below.refl _ _)⟩
            · intro A W hC hd hx
              have hk : ∀ v, A.eval (.const v) = v := fun _ => rfl
              have hy0 : A.eval (.tmp 7) = Value.int .i64 j := hx 7 (by simp)
              clear hd
              generalize A.eval = ρ at hk hy0 ⊢
              simp [go_sem, looseUpon, factOf, hk, hy0]
              exact ⟨hC, extR_belowI10 (Below.refl _ _)⟩
            · intro A W hC hd hx
              have hk : ∀ v, A.eval (.const v) = v := fun _ => rfl
              have c0 := HA1.out
              simp [factOf] at hd
              generalize A.eval = ρ at hd hk ⊢
              simp [go_sem, looseUpon, factOf, hd, hk, c0]
              exact ⟨hC, extR_belowI10 (Below.refl _ _)⟩
            · intro A W hC hd hx
              refine ⟨fun g hg => (by cases hg), ?_⟩
              simp [factOf] at hd
              obtain ⟨hd1, hd2⟩ := hd
              obtain ⟨v', W', hrun, hrow, hb⟩ := run_append_freshOI10 (base := W3.heap.size) hC.size hd1 A1 j capo (intC (out.take j)) HL1.out (fun h => (HA1N.out h).1) (HN1.out W hC) (intC_one _) hj6 37
              obtain ⟨p, hp, _⟩ := hd1
              rw [hp] at hrun
              generalize A.eval = ρ at hp hd2 ⊢
              simp [execOp, resolve, invoke, builtin, hp, hd2, hrun, looseUpon, factOf]
              exact ⟨hrow, hC.trans (hb.mono hC.size), extR_belowI10 hb⟩
            · intro A W hC hd hx
              have hk : ∀ v, A.eval (.const v) = v := fun _ => rfl
              have hy0 : A.eval (.tmp 6) = Value.int .i64 k := hx 6 (by simp)
              clear hd
              generalize A.eval = ρ at hk hy0 ⊢
              simp [go_sem, looseUpon, factOf, hk, hy0]
              exact ⟨hC, extR_belowI10 (Below.refl _ _)⟩
            · intro A W hC hd hx
              refine ⟨fun g hg => (by cases hg), ?_⟩
              simp [factOf] at hd
              have hlit := isLitI10_new (W := W) (base := W3.heap.size) hC.size k
              generalize A.eval = ρ at hd ⊢
              simp [go_sem, looseUpon, factOf, hd]
              exact ⟨hlit, hC.alloc hC.size _, extR_belowI10 ((Below.refl _ W).alloc (Nat.le_refl _) _)⟩
            · intro A W hC hd hx
              refine ⟨fun g hg => (by cases hg), ?_⟩
              simp [factOf] at hd
              obtain ⟨hd1, B5, hd2, hd3⟩ := hd
              obtain ⟨v', W', hrun, hrow, hb, hext⟩ := append_extI10 (W0 := W3) (Y := [.int .i64 k]) hC hd1 ⟨B5, 0, none⟩ 1 rfl (hd3.cells (g := B5) (by rw [hd2]; rfl)) (by simp [Value.oneCell']) hj6 37
              generalize A.eval = ρ at hd1 hd2 hrun ⊢
              simp [execOp, resolve, invoke, builtin, hd2, hrun, looseUpon, factOf]
              exact ⟨hrow, hb, hext⟩
            · intro A W hC hd hx
              have hk : ∀ v, A.eval (.const v) = v := fun _ => rfl
              have hy0 : A.eval (.tmp 5) = Value.slice ao m capo := hx 5 (by simp)
              clear hd
              generalize A.eval = ρ at hk hy0 ⊢
              simp [go_sem, looseUpon, factOf, hk, hy0]
              exact ⟨hC, extR_belowI10 (Below.refl _ _)⟩
            · intro A W hC hd hx
              have hk : ∀ v, A.eval (.const v) = v := fun _ => rfl
              have hy0 : A.eval (.tmp 7) = Value.int .i64 j := hx 7 (by simp)
              clear hd
              generalize A.eval = ρ at hk hy0 ⊢
              simp [go_sem, looseUpon, factOf, hk, hy0]
              exact ⟨hC, extR_belowI10 (Below.refl _ _)⟩
            · intro A W hC hd hx
              have hk : ∀ v, A.eval (.const v) = v := fun _ => rfl
              have c0 := HA2.out
              simp [factOf] at hd
              generalize A.eval = ρ at hd hk ⊢
              simp [go_sem, looseUpon, factOf, hd, hk, c0]
              exact ⟨hC, extR_belowI10 (Below.refl _ _)⟩
            · intro W hC
              simp only [ends]
              rintro _ ⟨g5, rfl, _⟩ _ rfl _ rfl _ rfl v49 _ _ rfl _ ⟨B5, rfl, _⟩ v52 hrow _ rfl _ rfl _ rfl
              simp only [putAll, List.zip_cons_cons, List.zip_nil_left, List.foldl_cons, List.foldl_nil, Act.put, List.setIfInBounds_toArray, List.set_cons_succ, List.set_cons_zero, List.drop_succ_cons, List.drop_zero]
              obtain ⟨P0, hP0⟩ : ∃ P0 : Piles W3 [⟨3, 1, v52, j + 1, intC (out.take j) ++ [Value.int .i64 (k : Int)]⟩], W = P0.w := ⟨⟨W, hC, all1 hrow, by simp⟩, rfl⟩
              have hN2 := HN2.out W hC
              rw [hP0] at hN2
              rw [hP0]
              clear hP0 hrow hC
              obtain ⟨E, hE⟩ := elemI10
              refine wpList_append_pilesS E P0 (.tmp 52) (.tmp 55) rfl rfl rfl A2 (m - j) (capo - j) (intC (out.drop j)) HL2.out rfl HA2N.out hN2 (intC_one _) (by unfold maxLen; omega) (by rw [hE]; omega) (fun v7 S7 => ?_)
              have hrow7 := S7.rows _ List.mem_cons_self
              obtain ⟨ns, hns⟩ : ∃ ns, ns = out.take j ++ k :: out.drop j := ⟨_, rfl⟩
              have hnl : ns.length = m + 1 := by rw [hns, List.length_append, List.length_cons, List.length_take, List.length_drop, ← HM.out, Nat.min_eq_left hjm]; omega
              have hfl : intC ns = intC (out.take j) ++ [.int .i64 k] ++ intC (out.drop j) := by rw [hns, intC_append, List.append_assoc]; rfl
              have hb7 : Below W1.heap.size W1 S7.w := HB3.out.trans (S7.below.mono HB3.out.size)
              have hb8 : Below w.heap.size w S7.w := HBW.out.trans (hb7.mono HBW.out.size)
              have hrow8 : S7.w.ownsRow W3.heap.size 3 1 v7 ns.length (intC ns) := by rw [hfl, show ns.length = j + 1 + (m - j) by omega]; exact hrow7
              obtain ⟨a7, cap7, hv7, hc7⟩ := ints_row2 hrow8
              rw [hnl] at hv7
              subst hv7
              have HF : Hid (RMeet10 es e (k + 1) ns ∧ S7.w.ownsRow w.heap.size 3 1 (.slice a7 (m + 1) cap7) ns.length (intC ns) ∧ IntsW S7.w a7 ns cap7 ∧ ns.length = m + 1) := Lib.hid ⟨by rw [hns]; exact HO.out.1.next HOV.out (by rw [← HM.out]; exact hjm) HS.out HLE.out, own_mono10 hrow8 (Nat.le_trans HBW.out.size HB3.out.size), hc7, hnl⟩
              have HB8 := Lib.hid hb8
              have HE8 := Lib.hid (heap_below HE6.out hb7)
              clear hnl hns hfl hb7 hb8 hc7 hrow7 hrow8 hN2
              go_wp2
              go_roundw
              case rel => exact ⟨k + 1, m + 1, ns, a7, cap7, by omega, by go_num, rfl, HB8.out, HE8.out, Lib.hid HF.out⟩
              case measure => simp [intOf]; omega
    · obtain rfl : k = L := by omega
      have hq := hout.out
      rw [HL.out] at hq
      have HZ := Lib.hid (hpost.out _ _ out (RMeet10.eq HR.out hq.1) hq.2.1 hBW)
      clear hq
      go_wp2
      first | exact HZ.out | (go_ret; exact HZ.out)
end Go.Proofs.Ytfomidjhmdmmcaa

/- Covered of the reference of package index. -/
namespace Go.Proofs.Ytfomidjhmdmmcaa
open Go.RowKit Go.Shelf Go.Proofs.Ytfomidjhmdmmcaa.Plain01
set_option linter.unusedVariables false
set_option linter.unusedSimpArgs false

theorem ovl_pos10 (x e : Int × Int) : 0 ≤ (ovl x e).2 := by
  cases h : ovlB x e with
  | true => exact Int.le_of_lt ((ovl_len x e).1 h)
  | false => rw [(ovl_len x e).2 h]; exact Int.le_refl _
theorem cov10_le {es : List (Int × Int)} (hR : Right10 es) {e : Int × Int} (he : okE e = true) : 0 ≤ cov10 es e ∧ cov10 es e ≤ e.2 := by
  constructor
  · unfold cov10
    clear hR
    induction es with
    | nil => exact Int.le_refl _
    | cons a es ih => rw [List.map_cons, List.sum_cons]; have := ovl_pos10 a e; omega
  · have hs := gaps_sum hR he
    have hg : 0 ≤ ((gaps10 es e).map (·.2)).sum := by
      have h1 := gapF_in _ _ _ (meet_between hR he)
      unfold gaps10
      generalize gapF e.1 ((meet10 es e).map (part10 es e)) (e.1 + e.2) = G at h1
      induction G with
      | nil => exact Int.le_refl _
      | cons a G ih =>
        rw [List.map_cons, List.sum_cons]
        have := (h1 a List.mem_cons_self).1
        have := ih (fun y hy => h1 y (List.mem_cons_of_mem _ hy))
        omega
    omega
theorem right_take {es : List (Int × Int)} (hR : Right10 es) (k : Nat) : Right10 (es.take k) :=
  ⟨fun x hx => hR.1 x (List.mem_of_mem_take hx), hR.2.sublist (List.take_sublist _ _)⟩
theorem cov10_step {es : List (Int × Int)} {k : Nat} (hk : k < es.length) (e : Int × Int) : cov10 (es.take (k + 1)) e = cov10 (es.take k) e + (ovl (at10 es k) e).2 := by
  unfold cov10
  rw [List.take_add_one, at10_get hk, Option.toList_some, List.map_append, List.sum_append]
  simp

set_option maxRecDepth 100000 in
set_option maxHeartbeats 4000000 in
theorem rcovered10_any (a : Option Addr) (es : List (Int × Int)) (cap : Nat) (e : Int × Int) (he : okE e = true) (w : World) (h : ExtSlice w a es.length (at10 es)) (hR : Right10 es) (hL : es.length ≤ 1000000) :
    Calls Try.prog 22 #[.slice a es.length cap, extV e] w (Gives (.int .i64 (cov10 es e)) w) := by
  have hpost : Hid (∀ (n : Int) W, n = cov10 es e → Below w.heap.size w W → Gives (.int .i64 (cov10 es e)) w (.returned (.int .i64 n)) W) := Lib.hid fun n W h1 h2 => by subst h1; exact ⟨rfl, h2⟩
  generalize Gives (.int .i64 (cov10 es e)) w = POST at hpost ⊢
  have HC := Lib.hid h
  have HR := Lib.hid hR
  have HEV := Lib.hid he
  obtain ⟨L, hLe⟩ : ∃ L, L = es.length := ⟨_, rfl⟩
  have HL := Lib.hid hLe
  rw [← hLe] at hL ⊢
  obtain ⟨W0, hW0⟩ : ∃ W0, w.alloc (.cells #[.int .i64 e.1, .int .i64 e.2] 30) = W0 := ⟨_, rfl⟩
  have HB0 : Hid (Below w.heap.size w W0) := Lib.hid (by rw [← hW0]; exact (Below.refl _ w).alloc (Nat.le_refl _) _)
  have HE0 : Hid (W0.heap[w.heap.size]? = some (.cells #[.int .i64 e.1, .int .i64 e.2] 30 (0, 0))) := Lib.hid (by rw [← hW0]; exact heap_new _ _ rfl)
  have HW0 := Lib.hid hW0
  have hfl := ext_len10
  clear h hR hLe he hW0
  go_enter Try.func22, Try.ntmps22
  go_wp2_with fail
  rw [HW0.out]
  go_loopw [5, 6] (fun vn vi wr => ∃ (k : Nat) (n : Int), k ≤ L ∧ vi = .int .i64 k ∧ vn = .int .i64 n ∧ Below w.heap.size w wr ∧ wr.heap[w.heap.size]? = some (.cells #[.int .i64 e.1, .int .i64 e.2] 30 (0, 0)) ∧ w.heap.size < wr.heap.size ∧ Hid (n = cov10 (es.take k) e)) (fun _ vi _ => L - (intOf vi).toNat)
  case atStart => exact ⟨0, 0, by omega, rfl, rfl, HB0.out, HE0.out, by rw [← HW0.out]; simp, Lib.hid (by simp [cov10])⟩
  case round =>
    clear HB0 HE0 HW0
    obtain ⟨k, n, hk, rfl, rfl, hBW, hE0, hsz, hn⟩ := hrel
    by_cases hlt : k < L
    · obtain ⟨b, o, rfl, hrow⟩ := HC.out (by rw [← HL.out]; omega)
      have hbl := hrow.lt (by rw [← HL.out]; omega)
      have hkL : k < es.length := by rw [← HL.out]; exact hlt
      have hok := (right_at HR.out hkL).1
      have hb1 := cov10_le (right_take HR.out k) HEV.out
      have hb2 := cov10_le (right_take HR.out (k + 1)) HEV.out
      have hst := cov10_step hkL e
      have heo := okE_iff.1 HEV.out
      rw [hst] at hb2
      rw [← hn.out] at hb1 hb2 hst
      obtain ⟨x, hx⟩ : ∃ x, x = at10 es k := ⟨_, rfl⟩
      rw [← hx] at hb2 hst
      have d0 : ∀ s : HeldW wr [(w.heap.size, .cells #[.int .i64 e.1, .int .i64 e.2] 30 (0, 0))], s.w.cell? ⟨w.heap.size, 0, none⟩ = some (.int .i64 e.1) := fun s => cell_of (s.blocks (w.heap.size, .cells #[.int .i64 e.1, .int .i64 e.2] 30 (0, 0)) (by simp)) 0
      have d1 : ∀ s : HeldW wr [(w.heap.size, .cells #[.int .i64 e.1, .int .i64 e.2] 30 (0, 0))], s.w.cell? ⟨w.heap.size, 1, none⟩ = some (.int .i64 e.2) := fun s => cell_of (s.blocks (w.heap.size, .cells #[.int .i64 e.1, .int .i64 e.2] 30 (0, 0)) (by simp)) 1
      have d2 : ∀ s : HeldW wr [(w.heap.size, .cells #[.int .i64 e.1, .int .i64 e.2] 30 (0, 0))], s.w.cell? ⟨b, o + k * 2, none⟩ = some (.int .i64 x.1) := fun s => by rw [hx]; exact (hrow.below (hBW.trans (s.below.mono hBW.size)) hbl k hkL).1
      have d3 : ∀ s : HeldW wr [(w.heap.size, .cells #[.int .i64 e.1, .int .i64 e.2] 30 (0, 0))], s.w.cell? ⟨b, o + k * 2 + 1, none⟩ = some (.int .i64 x.2) := fun s => by rw [hx]; exact (hrow.below (hBW.trans (s.below.mono hBW.size)) hbl k hkL).2
      have hov := fun W => roverlap_gives x e (by rw [hx]; exact hok) HEV.out W
      obtain ⟨q, hq⟩ : ∃ q, q = ovl x e := ⟨_, rfl⟩
      rw [← hq] at hov hb2 hst
      have hbl0 : ∀ p ∈ [(w.heap.size, (Obj.cells #[.int .i64 e.1, .int .i64 e.2] 30 (0, 0)))], wr.heap[p.1]? = some p.2 := all1 hE0
      have HN : Hid (n + q.2 = cov10 (es.take (k + 1)) e) := Lib.hid hst.symm
      have HBW0 := Lib.hid hBW
      have HSZ := Lib.hid hsz
      have hw64 : wrap64 (n + q.2) = n + q.2 := by unfold wrap64; omega
      clear hrow hbl hok hkL hx hq hst hE0 hBW
      go_wp2_with fail
      refine wp_region_class wr _ (by kernel_rfl) (by kernel_rfl) (Below.refl _ _) hbl0 (fun hne => ?_)
      repeat (go_big_quiet_step ((go_at_call 32; exact HeldW.call (hov _))))
      refine wpQuiet_nil ?_
      rintro _ ⟨s6, rfl⟩
      have HB6 := Lib.hid (HBW0.out.trans (s6.below.mono HBW0.out.size))
      have HE6 := Lib.hid (s6.blocks (w.heap.size, (Obj.cells #[.int .i64 e.1, .int .i64 e.2] 30 (0, 0))) (by simp))
      have HS6 := Lib.hid s6.below.size
      clear hne d0 d1 d2 d3 hov hbl0
      go_wp2
      go_roundw
      case rel => exact ⟨k + 1, n + q.2, by omega, by go_num, by go_num, HB6.out, HE6.out, by have := HS6.out; have := HSZ.out; omega, HN⟩
      case measure => simp [intOf]; omega
    · obtain rfl : k = L := by omega
      have HR2 := Lib.hid (hpost.out n _ (by rw [hn.out, HL.out, List.take_length]) hBW)
      clear hBW hE0
      go_wp2
      first | exact HR2.out | (go_ret; exact HR2.out)
end Go.Proofs.Ytfomidjhmdmmcaa
