import Derived.Test.YtfomidjhmdmmcaaE10t3
import Derived.Test.YtfomidjhmdmmcaaE10f5
import Derived.Test.YtfomidjhmdmmcaaE10f8
import Derived.Test.YtfomidjhmdmmcaaE10f1
/- Gaps of the reference of package index. -/
namespace Go.Proofs.Ytfomidjhmdmmcaa
open Go.RowKit Go.Shelf Go.Proofs.Ytfomidjhmdmmcaa.Plain01
set_option linter.unusedVariables false
set_option linter.unusedSimpArgs false

def pts10 (es : List (Int × Int)) (e : Int × Int) (ms : List Nat) : List (Int × Int) := ms.map (part10 es e)
theorem pts10_snoc (es : List (Int × Int)) (e : Int × Int) {ms : List Nat} {k c : Nat} (h : ms[k]? = some c) : pts10 es e (ms.take (k + 1)) = pts10 es e (ms.take k) ++ [part10 es e c] := by
  unfold pts10
  rw [List.take_add_one, h]
  simp
theorem gaps10_end (es : List (Int × Int)) (e : Int × Int) : (gapA e.1 (pts10 es e (meet10 es e))).1 ++ gapOne (gapA e.1 (pts10 es e (meet10 es e))).2 (e.1 + e.2) = gaps10 es e := by
  rw [← gapA_full]
  rfl
theorem meet10_ok {es : List (Int × Int)} {e : Int × Int} {c : Nat} (h : c ∈ meet10 es e) : c < es.length ∧ ovlB (at10 es c) e = true := by
  unfold meet10 at h
  obtain ⟨h1, h2⟩ := List.mem_filter.1 h
  exact ⟨by simpa using (ord10_perm es).mem_iff.1 h1, h2⟩
theorem ovl_okG {a b : Int × Int} (ha : okE a = true) (hb : okE b = true) (h : ovlB a b = true) : okE (ovl a b) = true := by
  rw [okE_iff] at ha hb
  unfold ovlB at h
  simp only [decide_eq_true_eq] at h
  obtain ⟨h1, _⟩ := ovl_yes (a := a) (b := b) rfl rfl h
  rw [h1, okE_iff]
  simp only
  omega
theorem pts10_ok {es : List (Int × Int)} (hR : Right10 es) {e : Int × Int} (he : okE e = true) {ms : List Nat} (h : ∀ c ∈ ms, c ∈ meet10 es e) : ∀ p ∈ pts10 es e ms, okE p = true := fun p hp => by
  obtain ⟨c, hc, rfl⟩ := List.mem_map.1 hp
  obtain ⟨h1, h2⟩ := meet10_ok (h c hc)
  exact ovl_okG (right_at hR h1).1 he h2

/-- A fresh box of an extent. -/
def IsBoxE (base : Nat) (v : Value) (w : World) : Prop := ∃ B, v = .pointer (some ⟨B, 0, none⟩) ∧ base ≤ B ∧ w.heap[B]? = some (.cells #[.int .i64 0, .int .i64 0] 30 (0, 0))
theorem stable_boxE (base : Nat) : Stable (fun W W' => Below W.heap.size W W') (IsBoxE base) := fun v w w' h hE => by
  obtain ⟨B, rfl, h1, h2⟩ := h
  exact ⟨B, rfl, h1, heap_below h2 hE⟩

set_option maxRecDepth 100000 in
set_option maxHeartbeats 8000000 in
theorem rgaps10_any (a : Option Addr) (es : List (Int × Int)) (cap : Nat) (e : Int × Int) (he : okE e = true) (w : World) (h : ExtSlice w a es.length (at10 es)) (hR : Right10 es) (hL : es.length ≤ 1000) :
    Calls Try.prog 26 #[.slice a es.length cap, extV e] w (GapsPost (gaps10 es e) w) := by
  have hpost : Hid (∀ v W out, out = gaps10 es e → W.ownsRow w.heap.size 30 2 v out.length (flat10 out) → Below w.heap.size w W → GapsPost (gaps10 es e) w (.returned v) W) := Lib.hid fun v W out h1 h2 h3 => by subst h1; exact ⟨v, rfl, h2, h3⟩
  generalize GapsPost (gaps10 es e) w = POST at hpost ⊢
  have HC := Lib.hid h
  have HR := Lib.hid hR
  have HEV := Lib.hid he
  have hrm := fun W (hW : Below w.heap.size w W) => rmeet10_any a es cap e he W (h.below hW) hR hL
  have heo := okE_iff.1 he
  have HML : Hid ((meet10 es e).length ≤ 1000) := Lib.hid (by
    have : (meet10 es e).length ≤ es.length := by
      unfold meet10
      refine Nat.le_trans (List.length_filter_le _ _) ?_
      rw [(ord10_perm es).length_eq]
      simp
    omega)
  obtain ⟨L, hLe⟩ : ∃ L, L = es.length := ⟨_, rfl⟩
  have HL := Lib.hid hLe
  rw [← hLe] at hL hrm ⊢
  obtain ⟨W0, hW0⟩ : ∃ W0, w.alloc (.cells #[.int .i64 e.1, .int .i64 e.2] 30) = W0 := ⟨_, rfl⟩
  have hb0 : Below w.heap.size w W0 := by rw [← hW0]; exact (Below.refl _ w).alloc (Nat.le_refl _) _
  have hE0 : W0.heap[w.heap.size]? = some (.cells #[.int .i64 e.1, .int .i64 e.2] 30 (0, 0)) := by rw [← hW0]; exact heap_new _ _ rfl
  have hr := hrm W0 hb0
  have HB0 := Lib.hid hb0
  have HE0 := Lib.hid hE0
  have HW0 := Lib.hid hW0
  have x0 : W0.cell? ⟨w.heap.size, 0, none⟩ = some (.int .i64 e.1) := cell_of hE0 0
  have x1 : W0.cell? ⟨w.heap.size, 1, none⟩ = some (.int .i64 e.2) := cell_of hE0 1
  clear h hR hLe he hW0 hb0 hE0 hrm
  go_enter Try.func26, Try.ntmps26
  go_wp2_with fail
  rw [HW0.out]
  go_wp2_with fail
  refine hr.mono ?_
  rintro e1 w1 ⟨vm, rfl, hrow, hb1⟩
  obtain ⟨am, capm, rfl, hI⟩ := ints_row hrow
  obtain ⟨M, hM⟩ : ∃ M, M = (meet10 es e).length := ⟨_, rfl⟩
  have HM := Lib.hid hM
  rw [← hM]
  have HI := Lib.hid hI
  have HB1 := Lib.hid (HB0.out.trans (hb1.mono HB0.out.size))
  have HE1 := Lib.hid (heap_below HE0.out hb1)
  clear hrow hI hb1 hM HE0 x0 x1 hr
  go_wp2_with fail
  go_loopw [5, 6, 8, 9] (fun vo vt vi vx wr => ∃ (k n : Nat) (t : Int), k ≤ M ∧ vi = .int .i64 k ∧ vt = .int .i64 t ∧ (0 ≤ t ∧ t ≤ 4611686018427387903) ∧ n ≤ k ∧ Below w1.heap.size w1 wr ∧ Hid (t = (gapA e.1 (pts10 es e ((meet10 es e).take k))).2 ∧ n = (gapA e.1 (pts10 es e ((meet10 es e).take k))).1.length ∧ wr.ownsRow w1.heap.size 30 2 vo n (flat10 (gapA e.1 (pts10 es e ((meet10 es e).take k))).1))) (fun _ _ vi _ _ => M - (intOf vi).toNat)
  case atStart => exact ⟨0, 0, e.1, by omega, rfl, rfl, ⟨by omega, by omega⟩, by omega, Below.refl _ _, Lib.hid ⟨rfl, rfl, World.ownsRow_nil _ _ _ _⟩⟩
  case round =>
    obtain ⟨k, n, t, hk, rfl, rfl, ht, hn, hBW, hOUT⟩ := hrel
    by_cases hlt : k < M
    · have hkM : k < (meet10 es e).length := by rw [← HM.out]; exact hlt
      obtain ⟨c, hc⟩ : ∃ c, (meet10 es e)[k]? = some c := ⟨_, List.getElem?_eq_getElem hkM⟩
      obtain ⟨hcL, hcO⟩ := meet10_ok (List.mem_of_getElem? hc)
      have hokx := (right_at HR.out hcL).1
      have hokq := ovl_okG hokx HEV.out hcO
      obtain ⟨b, o, rfl, hrow⟩ := HC.out (by rw [← HL.out]; have := HL.out; omega)
      have hbl := hrow.lt (by rw [← HL.out]; have := HL.out; omega)
      obtain ⟨bm, om, rfl, hcm⟩ := HI.out (by omega)
      have KI : Hid (∀ W, Below wr.heap.size wr W → W.cell? ⟨bm, om + k, none⟩ = some (.int .i64 c)) := Lib.hid fun W hW => by
        obtain ⟨b', o', e', hc'⟩ := (HI.out.below (hBW.trans (hW.mono hBW.size))) (by omega)
        simp only [Option.some.injEq, Addr.mk.injEq] at e'
        obtain ⟨rfl, rfl, _⟩ := e'
        exact hc' k c hc
      have KX : Hid (∀ W, Below wr.heap.size wr W → W.cell? ⟨b, o + c * 2, none⟩ = some (.int .i64 (at10 es c).1) ∧ W.cell? ⟨b, o + c * 2 + 1, none⟩ = some (.int .i64 (at10 es c).2)) := Lib.hid fun W hW => hrow.below (HB1.out.trans ((hBW.trans (hW.mono hBW.size)).mono HB1.out.size)) hbl c hcL
      have KE : Hid (∀ W, Below wr.heap.size wr W → W.cell? ⟨w.heap.size, 0, none⟩ = some (.int .i64 e.1) ∧ W.cell? ⟨w.heap.size, 1, none⟩ = some (.int .i64 e.2)) := Lib.hid fun W hW => by
        have h := heap_below HE1.out (hBW.trans (hW.mono hBW.size))
        exact ⟨cell_of h 0, cell_of h 1⟩
      have HOV := Lib.hid (fun W => roverlap_gives (at10 es c) e hokx HEV.out W)
      have HPT := Lib.hid (pts10_snoc es e hc)
      obtain ⟨x, hx⟩ : ∃ x, x = at10 es c := ⟨_, rfl⟩
      obtain ⟨q, hq⟩ : ∃ q, q = part10 es e c := ⟨_, rfl⟩
      have hq2 : ovl x e = q := by rw [hq, hx]; rfl
      have hokq2 : okE q = true := by rw [← hq2, hx]; exact hokq
      rw [← hx] at KX HOV
      rw [hq2] at HOV
      rw [← hq] at HPT
      have hoq := okE_iff.1 hokq2
      have hcL2 : c < L := by rw [HL.out]; exact hcL
      have HN1 : Hid (t < q.1 → ∀ (W : World) (v : Value), W.ownsRow w1.heap.size 30 2 v (n + 1) (flat10 (gapA e.1 (pts10 es e ((meet10 es e).take k))).1 ++ [.int .i64 t, .int .i64 (q.1 - t)]) → q.1 + q.2 = (gapA e.1 (pts10 es e ((meet10 es e).take (k + 1)))).2 ∧ n + 1 = (gapA e.1 (pts10 es e ((meet10 es e).take (k + 1)))).1.length ∧ W.ownsRow w1.heap.size 30 2 v (n + 1) (flat10 (gapA e.1 (pts10 es e ((meet10 es e).take (k + 1)))).1)) := Lib.hid fun hlt W v h => by
        obtain ⟨h1, h2, _⟩ := hOUT.out
        rw [HPT.out, gapA_snoc, ← h1]
        have e1 : gapOne t q.1 = [(t, q.1 - t)] := by unfold gapOne; rw [if_pos hlt]
        rw [e1]
        refine ⟨rfl, by rw [List.length_append, ← h2]; rfl, ?_⟩
        rw [flat10_append]
        simpa [flat10, cells10] using h
      have HN2 : Hid (q.1 ≤ t → ∀ (W : World) (v : Value), W.ownsRow w1.heap.size 30 2 v n (flat10 (gapA e.1 (pts10 es e ((meet10 es e).take k))).1) → q.1 + q.2 = (gapA e.1 (pts10 es e ((meet10 es e).take (k + 1)))).2 ∧ n = (gapA e.1 (pts10 es e ((meet10 es e).take (k + 1)))).1.length ∧ W.ownsRow w1.heap.size 30 2 v n (flat10 (gapA e.1 (pts10 es e ((meet10 es e).take (k + 1)))).1)) := Lib.hid fun hlt W v h => by
        obtain ⟨h1, h2, _⟩ := hOUT.out
        rw [HPT.out, gapA_snoc, ← h1]
        have e1 : gapOne t q.1 = [] := by unfold gapOne; rw [if_neg (Int.not_lt.2 hlt)]
        rw [e1, List.append_nil]
        exact ⟨rfl, h2, h⟩
      have HKM := Lib.hid hlt
      have HCL := Lib.hid hcL2
      have HBW := Lib.hid hBW
      have hmL : M ≤ 1000 := by rw [HM.out]; exact HML.out
      clear hc hcL hcO hokx hokq hrow hbl hcm hx hq hq2 hokq2 hkM hBW
      go_wp2_with fail
      refine wp_region_looseT 10
        [IsV (.slice (some ⟨b, o, none⟩) L cap), IsV (.slice (some ⟨bm, om, none⟩) M capm), IsV (.int .i64 k), IsV (.pointer (some ⟨bm, om + k, none⟩)), IsV (.int .i64 c), IsV (.pointer (some ⟨b, o + c * 2, none⟩)), IsV (extV x), IsV (extV e), IsV (extV q), IsBoxE wr.heap.size]
        [⟨21, [], [0]⟩, ⟨22, [], [7]⟩, ⟨23, [], [8]⟩, ⟨24, [(1, 22), (2, 23)], []⟩, ⟨25, [(3, 24)], []⟩, ⟨26, [(0, 21), (4, 25)], []⟩, ⟨27, [(5, 26)], []⟩, ⟨28, [], [3]⟩, ⟨29, [(6, 27), (7, 28)], []⟩, ⟨9, [], []⟩]
        (fun W => Below wr.heap.size wr W) (fun W W' => Below W.heap.size W W') (by kernel_rfl) (by kernel_rfl) (by kernel_rfl) rfl rfl (Below.refl _ wr).drew ?_
        ⟨?_, ?_, ?_, ?_, ?_, ?_, ?_, ?_, ?_, ?_, trivial⟩ ?_
      · repeat (first | (intro _ h; cases h; done) | refine List.forall_mem_cons.2 ⟨stable_V _ _, ?_⟩ | refine List.forall_mem_cons.2 ⟨stable_boxE _, ?_⟩)
      · intro A W hC hd hx
        have hk : ∀ v, A.eval (.const v) = v := fun _ => rfl
        have hy0 : A.eval (.tmp 0) = .slice (some ⟨b, o, none⟩) L cap := hx 0 (by simp)
        clear hd
        generalize A.eval = ρ at hk hy0 ⊢
        simp [go_sem, looseUpon, factOf, hk, hy0]
        exact ⟨hC, Below.refl _ _⟩
      · intro A W hC hd hx
        have hk : ∀ v, A.eval (.const v) = v := fun _ => rfl
        have hy0 : A.eval (.tmp 7) = .slice (some ⟨bm, om, none⟩) M capm := hx 7 (by simp)
        clear hd
        generalize A.eval = ρ at hk hy0 ⊢
        simp [go_sem, looseUpon, factOf, hk, hy0]
        exact ⟨hC, Below.refl _ _⟩
      · intro A W hC hd hx
        have hk : ∀ v, A.eval (.const v) = v := fun _ => rfl
        have hy0 : A.eval (.tmp 8) = .int .i64 k := hx 8 (by simp)
        clear hd
        generalize A.eval = ρ at hk hy0 ⊢
        simp [go_sem, looseUpon, factOf, hk, hy0]
        exact ⟨hC, Below.refl _ _⟩
      · intro A W hC hd hx
        have hk : ∀ v, A.eval (.const v) = v := fun _ => rfl
        have c0 := HKM.out
        simp [factOf] at hd
        generalize A.eval = ρ at hd hk ⊢
        simp [go_sem, looseUpon, factOf, hd, hk, c0]
        exact ⟨hC, Below.refl _ _⟩
      · intro A W hC hd hx
        have hk : ∀ v, A.eval (.const v) = v := fun _ => rfl
        have c0 := KI.out W hC
        simp [factOf] at hd
        generalize A.eval = ρ at hd hk ⊢
        simp [go_sem, looseUpon, factOf, hd, hk, c0]
        exact ⟨hC, Below.refl _ _⟩
      · intro A W hC hd hx
        have hk : ∀ v, A.eval (.const v) = v := fun _ => rfl
        have c0 := HCL.out
        simp [factOf] at hd
        generalize A.eval = ρ at hd hk ⊢
        simp [go_sem, looseUpon, factOf, hd, hk, c0]
        exact ⟨hC, Below.refl _ _⟩
      · intro A W hC hd hx
        have hk : ∀ v, A.eval (.const v) = v := fun _ => rfl
        have c0 := (KX.out W hC).1
        have c1 := (KX.out W hC).2
        simp [factOf] at hd
        generalize A.eval = ρ at hd hk ⊢
        simp [go_sem, looseUpon, factOf, hd, hk, c0, c1]
        exact ⟨hC, Below.refl _ _⟩
      · intro A W hC hd hx
        have hk : ∀ v, A.eval (.const v) = v := fun _ => rfl
        have hy0 : A.eval (.tmp 3) = .pointer (some ⟨w.heap.size, 0, none⟩) := hx 3 (by simp)
        have c0 := (KE.out W hC).1
        have c1 := (KE.out W hC).2
        clear hd
        generalize A.eval = ρ at hk hy0 ⊢
        simp [go_sem, looseUpon, factOf, hk, hy0, c0, c1]
        exact ⟨hC, Below.refl _ _⟩
      · intro A W hC hd hx
        simp [factOf] at hd
        obtain ⟨hd1, hd2⟩ := hd
        refine ⟨fun g hg => (by cases hg), ?_⟩
        refine loose_call rfl Try.func32 (by kernel_rfl) (by kernel_rfl) ?_
        simp only [List.map_toArray, List.map_cons, List.map_nil, hd1, hd2]
        refine (HOV.out W).mono ?_
        rintro e' W' ⟨rfl, h4⟩
        exact ⟨_, rfl, rfl, hC.trans (h4.mono hC.size), h4⟩
      · intro A W hC hd hx
        clear hd
        generalize A.eval = ρ
        simp [go_sem, looseUpon, factOf]
        exact ⟨⟨_, rfl, hC.size, World.alloc_heap_new _ _⟩, hC.alloc hC.size _, (Below.refl _ _).alloc (Nat.le_refl _) _⟩
      intro W hC
      simp only [ends]
      rintro _ rfl _ rfl _ rfl _ rfl _ rfl _ rfl _ rfl _ rfl _ rfl _ ⟨B, rfl, hBw, hbx⟩
      simp only [putAll, List.zip_cons_cons, List.zip_nil_left, List.foldl_cons, List.foldl_nil, Act.put, List.setIfInBounds_toArray, List.set_cons_succ, List.set_cons_zero, List.drop_succ_cons, List.drop_zero]
      refine wpList_store_rowTo rfl 30 (.tmp 9) (.tmp 29) rfl rfl B #[.int .i64 q.1, .int .i64 q.2] rfl rfl 30 _ hbx (by kernel_rfl) rfl (by simp [Value.oneCell']) ?_
      have hV := below_setRow hC hBw #[.int .i64 q.1, .int .i64 q.2]
      have hbV := setRow_heap W B _ #[.int .i64 q.1, .int .i64 q.2] _ _ hbx
      generalize W.setRow B #[.int .i64 q.1, .int .i64 q.2] = V at hV hbV ⊢
      have hown := own_later hOUT.out.2.2 hV
      have hne : some B ≠ u5.ownBlock := fun h => by have := (hOUT.out.2.2.lt B h.symm).2; omega
      have hBV : B < V.heap.size := (Array.getElem?_eq_some_iff.1 hbV).1
      have HB := Lib.hid (HBW.out.trans (hV.mono HBW.out.size))
      have hsV := HB.out.size
      have z0 : V.cell? ⟨B, 0, none⟩ = some (.int .i64 q.1) := cell_of hbV 0
      have z1 : V.cell? ⟨B, 1, none⟩ = some (.int .i64 q.2) := cell_of hbV 1
      generalize flat10 (gapA e.1 (pts10 es e ((meet10 es e).take k))).1 = XS at hown HN1 HN2
      clear hC hbx hBw hOUT KI KX KE HOV HPT hV HBW
      by_cases ht1 : t < q.1
      · have hd : decide (t < q.1) = true := decide_eq_true ht1
        obtain ⟨E, hE⟩ := elem10
        have hnew : ∀ j u, [Value.int .i64 t, Value.int .i64 (q.1 - t)][j]? = some u → (V.alloc (.cells #[.int .i64 t, .int .i64 (q.1 - t)] 30)).cell? ((⟨V.heap.size, 0, none⟩ : Addr).add j) = some u := fun j u hu => by
          rw [Addr.add_mid, Nat.zero_add, cell_of (heap_new V _ rfl)]
          simpa using hu
        go_wp2_with (refine wpList_append_own _ rfl (.tmp 34) (.tmp 41) 22 rfl w1.heap.size 30 E.i E.z 2 E.bytes E.ht E.hi E.hz E.hsize E.hby E.hzs (by omega) u5 n XS rfl (hown.alloc _) ⟨V.heap.size, 0, none⟩ 1 1 [.int .i64 t, .int .i64 (q.1 - t)] rfl rfl hnew (by simp [Value.oneCell']) (by unfold maxLen; omega) (by rw [hE]; omega) (by simp; omega) ?_; intro v2 w2 hown2 hgrow2 _; have HR2 := Lib.hid (HN1.out ht1 w2 v2 hown2); have hb2 := (hgrow2.block B (by simp; omega) hne).trans (heap_old hbV _); have c0 : w2.cell? ⟨B, 0, none⟩ = some (.int .i64 q.1) := cell_of hb2 0; have c1 : w2.cell? ⟨B, 1, none⟩ = some (.int .i64 q.2) := cell_of hb2 1; have HB2 := Lib.hid (HB.out.trans (append_keeps (v' := u5) (w0 := w1.heap.size) hown ⟨_, .inl hgrow2⟩ hsV (Nat.le_refl _)).2.2.1); clear hown2 hgrow2 hb2 hnew hown z0 z1)
        go_roundw
        case rel => exact ⟨k + 1, n + 1, q.1 + q.2, by omega, by go_num, by go_num, ⟨by omega, by omega⟩, by omega, HB2.out, HR2⟩
        case measure => simp [intOf]; omega
      · have hd : decide (t < q.1) = false := decide_eq_false ht1
        have HR2 := Lib.hid (HN2.out (Int.not_lt.1 ht1) V _ hown)
        clear hown hne hbV
        go_wp2
        go_roundw
        case rel => exact ⟨k + 1, n, q.1 + q.2, by omega, by go_num, by go_num, ⟨by omega, by omega⟩, by omega, HB.out, HR2⟩
        case measure => simp [intOf]; omega
    · obtain rfl : k = M := by omega
      obtain ⟨h1, h2, hown⟩ := hOUT.out
      rw [HM.out, List.take_length] at h1 h2 hown
      have hmL : k ≤ 1000 := by rw [HM.out]; exact HML.out
      have hE := heap_below HE1.out hBW
      have z0 : wr.cell? ⟨w.heap.size, 0, none⟩ = some (.int .i64 e.1) := cell_of hE 0
      have z1 : wr.cell? ⟨w.heap.size, 1, none⟩ = some (.int .i64 e.2) := cell_of hE 1
      have hg := gaps10_end es e
      rw [← h1] at hg
      have HB := Lib.hid hBW
      have hsV := hBW.size
      have HFIN1 : Hid (t < e.1 + e.2 → ∀ (W : World) (v : Value), W.ownsRow w1.heap.size 30 2 v (n + 1) (flat10 (gapA e.1 (pts10 es e (meet10 es e))).1 ++ [.int .i64 t, .int .i64 (e.1 + e.2 - t)]) → Below w1.heap.size w1 W → POST (.returned v) W) := Lib.hid fun hlt W v h hb => by
        have e1 : gapOne t (e.1 + e.2) = [(t, e.1 + e.2 - t)] := by unfold gapOne; rw [if_pos hlt]
        rw [e1] at hg
        refine hpost.out v W _ hg (own_mono10 ?_ HB1.out.size) (HB1.out.trans (hb.mono HB1.out.size))
        rw [List.length_append, ← h2, flat10_append]
        simpa [flat10, cells10] using h
      have HFIN2 : Hid (¬ t < e.1 + e.2 → ∀ (W : World) (v : Value), W.ownsRow w1.heap.size 30 2 v n (flat10 (gapA e.1 (pts10 es e (meet10 es e))).1) → Below w1.heap.size w1 W → POST (.returned v) W) := Lib.hid fun hlt W v h hb => by
        have e1 : gapOne t (e.1 + e.2) = [] := by unfold gapOne; rw [if_neg hlt]
        rw [e1, List.append_nil] at hg
        refine hpost.out v W _ hg (own_mono10 ?_ HB1.out.size) (HB1.out.trans (hb.mono HB1.out.size))
        rw [← h2]
        exact h
      generalize flat10 (gapA e.1 (pts10 es e (meet10 es e))).1 = XS at hown HFIN1 HFIN2
      clear h1 h2 hg hE hBW hOUT
      by_cases ht1 : t < e.1 + e.2
      · have hd : decide (t < e.1 + e.2) = true := decide_eq_true ht1
        obtain ⟨E, hE⟩ := elem10
        have hnew : ∀ j u, [Value.int .i64 t, Value.int .i64 (e.1 + e.2 - t)][j]? = some u → (wr.alloc (.cells #[.int .i64 t, .int .i64 (e.1 + e.2 - t)] 30)).cell? ((⟨wr.heap.size, 0, none⟩ : Addr).add j) = some u := fun j u hu => by
          rw [Addr.add_mid, Nat.zero_add, cell_of (heap_new wr _ rfl)]
          simpa using hu
        go_wp2_with (refine wpList_append_own _ rfl (.tmp 55) (.tmp 65) 22 rfl w1.heap.size 30 E.i E.z 2 E.bytes E.ht E.hi E.hz E.hsize E.hby E.hzs (by omega) u5 n XS rfl (hown.alloc _) ⟨wr.heap.size, 0, none⟩ 1 1 [.int .i64 t, .int .i64 (e.1 + e.2 - t)] rfl rfl hnew (by simp [Value.oneCell']) (by unfold maxLen; omega) (by rw [hE]; omega) (by simp; omega) ?_; intro v2 w2 hown2 hgrow2 _; have HR2 := Lib.hid (HFIN1.out ht1 w2 v2 hown2 (HB.out.trans (append_keeps (v' := u5) (w0 := w1.heap.size) hown ⟨_, .inl hgrow2⟩ hsV (Nat.le_refl _)).2.2.1)); clear hown2 hgrow2 hnew hown z0 z1)
        first | exact HR2.out | (go_ret; exact HR2.out)
      · have hd : decide (t < e.1 + e.2) = false := decide_eq_false ht1
        have HR2 := Lib.hid (HFIN2.out ht1 wr _ hown HB.out)
        clear hown
        go_wp2
        first | exact HR2.out | (go_ret; exact HR2.out)
end Go.Proofs.Ytfomidjhmdmmcaa

/- Total of package extent and of its reference, and All of the reference, at a slice of extents. -/
namespace Go.Proofs.Ytfomidjhmdmmcaa
open Go.RowKit Go.Shelf Go.Proofs.Ytfomidjhmdmmcaa.Plain01

/-- The sum of the lengths of the first k. -/
def extSum (f : Nat → Int × Int) : Nat → Int
  | 0 => 0
  | k + 1 => extSum f k + (f k).2
def totV (n : Nat) (f : Nat → Int × Int) : Value := if extSum f n ≤ 4611686018427387903 then .tuple #[.int .i64 (extSum f n), .bool true] else .tuple #[.int .i64 0, .bool false]

theorem sumL_mono {f : Nat → Int × Int} {n k : Nat} (hf : ∀ i, i < n → okE (f i) = true) (hk : k ≤ n) : 0 ≤ extSum f k ∧ extSum f k ≤ extSum f n := by
  induction n with
  | zero => obtain rfl : k = 0 := by omega
            exact ⟨by simp [extSum], by omega⟩
  | succ n ih =>
    have hn := (okE_iff.1 (hf n (by omega))).2.1
    by_cases h : k ≤ n
    · have := ih (fun i hi => hf i (by omega)) h
      simp only [extSum]; omega
    · obtain rfl : k = n + 1 := by omega
      have := ih (fun i hi => hf i (by omega))
      have hk' : ∀ j, j ≤ n → 0 ≤ extSum f j := by
        intro j hj
        induction j with
        | zero => simp [extSum]
        | succ j ihj => have := (okE_iff.1 (hf j (by omega))).2.1; have := ihj (by omega); simp only [extSum]; omega
      have := hk' n (by omega)
      simp only [extSum]; omega
theorem totV_no {n k : Nat} {f : Nat → Int × Int} (hf : ∀ i, i < n → okE (f i) = true) (hk : k < n) (h : 4611686018427387903 < extSum f k + (f k).2) : totV n f = .tuple #[.int .i64 0, .bool false] := by
  have := (sumL_mono hf (k := k + 1) (by omega)).2
  simp only [extSum] at this
  unfold totV; rw [if_neg (by omega)]
theorem totV_yes {n : Nat} {f : Nat → Int × Int} (h : extSum f n ≤ 4611686018427387903) : totV n f = .tuple #[.int .i64 (extSum f n), .bool true] := by unfold totV; rw [if_pos h]

set_option maxRecDepth 100000 in
set_option maxHeartbeats 4000000 in
theorem total_gives (a : Option Addr) (n cap : Nat) (f : Nat → Int × Int) (hn : n ≤ 9223372036854775807) (w : World) (hs : ExtSlice w a n f) (hf : ∀ i, i < n → okE (f i) = true) :
    Calls Try.prog 24 #[.slice a n cap] w (Gives (totV n f) w) := by
  have HF := Lib.hid hf
  clear hf
  go_enter Try.func24, Try.ntmps24
  go_wp2
  go_loopw [4, 9] (fun t i wr => ∃ k : Nat, k ≤ n ∧ i = .int .i64 k ∧ t = .int .i64 (extSum f k) ∧ extSum f k ≤ 4611686018427387903 ∧ Below w.heap.size w wr) (fun _ i _ => n - (intOf i).toNat)
  case atStart => exact ⟨0, Nat.zero_le _, rfl, rfl, by simp [extSum], Below.refl _ _⟩
  case round =>
    obtain ⟨k, hk, rfl, rfl, hle, hB⟩ := hrel
    have hp := (sumL_mono HF.out hk).1
    by_cases hlt : k < n
    · obtain ⟨b, o, rfl, hr⟩ := hs (by omega)
      have hb := hr.lt (by omega)
      obtain ⟨x0, x1⟩ := hr.below hB hb k hlt
      obtain ⟨f0, f1, f2⟩ := okE_iff.1 (HF.out k hlt)
      have hsu : extSum f (k + 1) = extSum f k + (f k).2 := rfl
      have HS := Lib.hid hsu
      clear hsu hs hr
      by_cases hc : 4611686018427387903 < extSum f k + (f k).2
      · have HT := Lib.hid (totV_no HF.out hlt hc)
        have hgt : 4611686018427387903 - extSum f k < (f k).2 := by omega
        clear hc
        go_wp2
        go_ret2
        exact ⟨by rw [HT.out]; rfl, hB.alloc hB.size _⟩
      · have hgt : (f k).2 ≤ 4611686018427387903 - extSum f k := by omega
        go_wp2
        go_roundw
        case rel => exact ⟨k + 1, by omega, by go_num, by rw [HS.out], by rw [HS.out]; omega, hB.alloc hB.size _⟩
        case measure => simp [intOf]; omega
    · obtain rfl : k = n := by omega
      have HT := Lib.hid (totV_yes hle)
      clear hs
      go_wp2
      go_ret2
      exact ⟨by rw [HT.out]; rfl, hB⟩

/-- All are valid. -/
def allB (n : Nat) (f : Nat → Int × Int) : Bool := decide (∀ i, i < n → okE (f i) = true)
theorem allB_no {n k : Nat} {f : Nat → Int × Int} (hk : k < n) (h : okE (f k) = false) : allB n f = false := by
  unfold allB; simp only [decide_eq_false_iff_not]; intro h'; rw [h' k hk] at h; cases h
theorem allB_yes {n : Nat} {f : Nat → Int × Int} (h : ∀ i, i < n → okE (f i) = true) : allB n f = true := by unfold allB; simp only [decide_eq_true_eq]; exact h

end Go.Proofs.Ytfomidjhmdmmcaa
