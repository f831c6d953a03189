/- Literal and Clone of package command; parts of a Literal. -/
import Derived.Deep.RegionWith
import Derived.Deep.Onto
import Derived.Test.Ytfikjndkjjgcjaa00Concat
import Derived.Test.Ytfikjndkjjgcjaa00Fresh
import Derived.Test.Ytfikjndkjjgcjaa04PartC
namespace Go.Proofs.Ytfikjndkjjgcjaa
open Go.RowKit Go.Shelf Go.Proofs.Ytfikjndkjjgcjaa.Plain01
set_option linter.unusedVariables false
set_option linter.unusedSimpArgs false

theorem cutb_lh {w : World} {a : Option Addr} {l : List Int} {cap : Nat} (h : BytesIn w a l cap) (lo hi : Nat) (h1 : lo ≤ hi) (h2 : hi ≤ l.length) :
    ∃ A, (∀ W, (Instr.slice 25 (.slice a l.length cap) (some (.int .i64 (lo : Int))) (some (.int .i64 (hi : Int))) none).run Try.prog W = .ok (.slice A (hi - lo) (cap - lo)) W) ∧ BytesIn w A ((l.drop lo).take (hi - lo)) (cap - lo) := by
  have hlen : ((l.drop lo).take (hi - lo)).length = hi - lo := by rw [List.length_take, List.length_drop]; omega
  refine ⟨if cap = lo then a else a.map (·.add (lo * 1)), fun W => ?_, by rw [hlen]; have := h.len; omega, by have := h.capb; omega, fun hp => ?_, fun h0 => ?_⟩
  · rw [run_slice_lh (P := Try.prog) W 25 a l.length cap (by kernel_rfl) .i64 .i64 (lo : Int) (hi : Int) (by omega) (by omega) (by have := h.len; omega), size_u8]
    simp only [Result.andThen_ok, sliced, Int.toNat_natCast]
  · rw [hlen] at hp
    obtain ⟨b, o, rfl, hc⟩ := h.cells (by omega)
    have := h.len
    rw [if_neg (by omega)]
    refine ⟨b, o + lo, by simp [Addr.add_mid], fun i hi => ?_⟩
    rw [hlen] at hi
    rw [Nat.add_assoc, hc (lo + i) (by omega), List.getElem?_take, if_pos (by omega), List.getElem?_drop]
  · by_cases hc : cap = lo
    · omega
    · rw [if_neg hc] at h0
      cases a with
      | none => have := h.nil rfl; omega
      | some ad => cases h0

theorem own_setCell {w : World} {base b : Nat} {e : TypeId} {v : Value} {n : Nat} {xs : List Value} (h : w.ownsRow base e 1 v n xs) (hb : b < base) (i : Nat) (u : Value) : (w.setCell ⟨b, i, none⟩ u).ownsRow base e 1 v n xs :=
  ⟨h.1, h.2.imp id fun ⟨g, cap, cur, h1, h2, h3, h4⟩ => ⟨g, cap, cur, h1, h2, (Below.heap_setCell _ _ _ _ (by simp only; omega)).trans h3, h4⟩⟩
/-- Five cells of a block ahead of a new slice are written. -/
theorem OwnW.under {w0 w1 : World} {e : TypeId} {v : Value} {xs : List Value} (s : OwnW w1 e v xs) (hB : Below w0.heap.size w0 w1) {b : Nat} (hb0 : w0.heap.size ≤ b) (hb1 : b < w1.heap.size) (v0 v1 v2 v3 v4 : Value) :
    ∃ s' : OwnW w0 e v xs, ((((s.w.setCell ⟨b, 0, none⟩ v0).setCell ⟨b, 1, none⟩ v1).setCell ⟨b, 2, none⟩ v2).setCell ⟨b, 3, none⟩ v3).setCell ⟨b, 4, none⟩ v4 = s'.w :=
  ⟨⟨_, below_put5 (hB.trans (s.below.mono hB.size)) hb0 _ _ _ _ _, (own_setCell (own_setCell (own_setCell (own_setCell (own_setCell s.own hb1 _ _) hb1 _ _) hb1 _ _) hb1 _ _) hb1 _ _).mono hB.size⟩, rfl⟩
theorem OwnW.under6 {w0 w1 : World} {e : TypeId} {v : Value} {xs : List Value} (s : OwnW w1 e v xs) (hB : Below w0.heap.size w0 w1) {b c : Nat} (hb0 : w0.heap.size ≤ b) (hb1 : b < w1.heap.size) (hc0 : w0.heap.size ≤ c) (hc1 : c < w1.heap.size) (i : Nat) (u v0 v1 v2 v3 v4 : Value) :
    ∃ s' : OwnW w0 e v xs, (((((s.w.setCell ⟨c, i, none⟩ u).setCell ⟨b, 0, none⟩ v0).setCell ⟨b, 1, none⟩ v1).setCell ⟨b, 2, none⟩ v2).setCell ⟨b, 3, none⟩ v3).setCell ⟨b, 4, none⟩ v4 = s'.w :=
  ⟨⟨_, below_put5 ((hB.trans (s.below.mono hB.size)).setCell (p := ⟨c, i, none⟩) hc0 _) hb0 _ _ _ _ _, (own_setCell (own_setCell (own_setCell (own_setCell (own_setCell (own_setCell s.own hc1 _ _) hb1 _ _) hb1 _ _) hb1 _ _) hb1 _ _) hb1 _ _).mono hB.size⟩, rfl⟩
theorem OwnW.lift {w0 w1 : World} {e : TypeId} {v : Value} {xs : List Value} (s : OwnW w1 e v xs) (hB : Below w0.heap.size w0 w1) : ∃ s' : OwnW w0 e v xs, s.w = s'.w :=
  ⟨⟨s.w, hB.trans (s.below.mono hB.size), s.own.mono hB.size⟩, rfl⟩

theorem parts_one {w : World} {b m c : Nat} {A : Option Addr} {Q : List Int} {t : TypeId} {fr : Nat × Nat} (h : w.heap[b]? = some (.cells #[.slice A m c] t fr)) (hQ : Q.length = m) (hA : BytesIn w A Q c) : PartsIn w (some ⟨b, 0, none⟩) [Q] :=
  ⟨by simp, fun _ => ⟨b, 0, rfl, fun i hi => by
    obtain rfl : i = 0 := by simp at hi; omega
    subst hQ
    exact ⟨A, c, by rw [cell_of_row w b _ _ _ _ h]; rfl, hA⟩⟩⟩

/-- It returns a value that holds a new slice of its own. -/
def MakesC (mk : Value → Value) (l : List Int) (w : World) (en : Ending) (w' : World) : Prop := ∃ v, en = .returned (mk v) ∧ ∃ s : OwnW w 5 v (l.map (Value.int .u8)), w' = s.w

/-- A listed block, behind a callee that makes a slice. -/
theorem OwnW.cmdF {w1 : World} {e : TypeId} {v : Value} {xs : List Value} (s : OwnW w1 e v xs) {b : Nat} {k t f n : Int} {u : Value} (h : w1.heap[b]? = some (cmdO k t f n u)) :
    s.w.cell? ⟨b, 0, none⟩ = some (.int .i64 k) ∧ s.w.cell? ⟨b, 1, none⟩ = some (.int .i64 t) ∧ s.w.cell? ⟨b, 2, none⟩ = some (.int .i64 f) ∧ s.w.cell? ⟨b, 3, none⟩ = some (.int .i64 n) ∧ s.w.cell? ⟨b, 4, none⟩ = some u ∧ ∀ i, s.w.frozen? ⟨b, i, none⟩ = false := by
  have h' := heap_below h s.below
  obtain ⟨h0, h1, h2, h3, h4⟩ := cmd_cells h'
  exact ⟨h0, h1, h2, h3, h4, fun i => free_of h' i⟩

set_option maxRecDepth 100000 in
set_option maxHeartbeats 4000000 in
theorem mliteral_any (t : Int) (ls : List (List Int)) (pa : Option Addr) (pcap : Nat) (w : World) (hp : PartsIn w pa ls) (hm : ls.flatten.length ≤ 140737488351232) :
    Calls Try.prog 11 #[.int .i64 t, .slice pa ls.length pcap] w (MakesC (fun v => cmdV 2 t 0 0 v) ls.flatten w) := by
  have hB : Below w.heap.size w (w.alloc (cmdO 0 0 0 0 (.slice none 0 0))) := (Below.refl _ w).alloc (Nat.le_refl _) _
  have hc := concat8_any ls pa pcap (w.alloc (cmdO 0 0 0 0 (.slice none 0 0))) (hp.below hB) hm
  generalize ls.length = m at hc ⊢
  generalize ls.flatten = l at hc ⊢
  clear hp hm
  go_enter Try.func11, Try.ntmps11
  go_wp2_with fail
  refine hc.mono ?_
  rintro e _ ⟨v, rfl, s, rfl⟩
  obtain ⟨r0, r1, r2, r3, r4, r5⟩ := s.cmdF (b := w.heap.size) (heap_new w _ rfl)
  obtain ⟨A, C, rfl, hA⟩ := s.bytes
  go_wp2
  obtain ⟨s', hs'⟩ := s.under hB (b := w.heap.size) (Nat.le_refl _) (by simp) (.int .i64 2) (.int .i64 t) (.int .i64 0) (.int .i64 0) (.slice A l.length C)
  refine bodyPost_ret (v := cmdV 2 t 0 0 (.slice A l.length C)) (by simp [results, Try.results11, go_sem, r0, r1, r2, r3, r4]) rfl ⟨_, rfl, s', hs'⟩

set_option maxRecDepth 100000 in
set_option maxHeartbeats 4000000 in
theorem mclone_any (k t f n : Int) (l : List Int) (a : Option Addr) (cap : Nat) (w : World) (hb : BytesIn w a l cap) (hm : l.length ≤ 1000000) :
    Calls Try.prog 24 #[cmdV k t f n (.slice a l.length cap)] w (MakesC (fun v => cmdV k t f n v) l w) := by
  have hB := below2 w (cmdO k t f n (.slice a l.length cap)) (cmdO 0 0 0 0 (.slice none 0 0))
  have hc := clone8_any l a cap ((w.alloc (cmdO k t f n (.slice a l.length cap))).alloc (cmdO 0 0 0 0 (.slice none 0 0))) (hb.below hB) hm
  generalize l.length = m at hc hB ⊢
  clear hb hm
  go_enter Try.func24, Try.ntmps24
  go_wp2_with fail
  refine hc.mono ?_
  rintro e _ ⟨v, rfl, s, rfl⟩
  obtain ⟨r0, r1, r2, r3, r4, r5⟩ := s.cmdF (b := w.heap.size + 1) (heap_new _ _ (by simp))
  obtain ⟨q0, q1, q2, q3, q4, q5⟩ := s.cmdF (b := w.heap.size) (heap_old (heap_new w (cmdO k t f n (.slice a m cap)) rfl) _)
  obtain ⟨A, C, rfl, hA⟩ := s.bytes
  go_wp2
  obtain ⟨s', hs'⟩ := s.under6 hB (b := w.heap.size + 1) (c := w.heap.size) (by omega) (by simp) (Nat.le_refl _) (by simp; omega) 4 (.slice A l.length C) (.int .i64 k) (.int .i64 t) (.int .i64 f) (.int .i64 n) (.slice A l.length C)
  refine bodyPost_ret (v := cmdV k t f n (.slice A l.length C)) (by simp [results, Try.results24, go_sem, r0, r1, r2, r3, r4]) rfl ⟨_, rfl, s', hs'⟩

set_option maxRecDepth 100000 in
set_option maxHeartbeats 4000000 in
theorem part_lit (t f n : Int) (l : List Int) (a : Option Addr) (cap : Nat) (e : Int × Int) (w : World) (hb : BytesIn w a l cap) (hm : l.length ≤ 140737488351232) (hx : okE (t, (l.length : Int)) = true) (he : okE e = true) (h0 : e.2 ≠ 0) (hi : insE (t, (l.length : Int)) e) :
    Calls Try.prog 22 #[cmdV 2 t f n (.slice a l.length cap), extV e] w (MakesC (fun v => .tuple #[cmdV 2 e.1 0 0 v, .bool true]) ((l.drop (e.1 - t).toNat).take e.2.toNat) w) := by
  have hd := fun w => describe_any 2 t f n a l.length cap w
  simp only [descA_lit] at hd
  generalize decide (f ≠ 0 ∨ n ≠ 0) = d at hd
  have hc := mcontains_any (t, (l.length : Int)) e hx he
  rw [decide_eq_true hi] at hc
  have hv := valid_gives e (by have := okE_iff.1 he; unfold I64; omega) (by have := okE_iff.1 he; unfold I64; omega)
  rw [he] at hv
  have h0' : (e.2 == 0) = false := by simpa using h0
  obtain ⟨a0, a1, a2⟩ := okE_iff.1 hx
  obtain ⟨e0, e1, e2⟩ := okE_iff.1 he
  unfold insE at hi
  simp only at a0 a1 a2 hi
  obtain ⟨i0, i1⟩ := hi
  obtain ⟨lo, hlo⟩ : ∃ lo : Nat, (lo : Int) = e.1 - t := ⟨(e.1 - t).toNat, by omega⟩
  obtain ⟨m, hm2⟩ : ∃ m : Nat, (m : Int) = e.2 := ⟨e.2.toNat, by omega⟩
  obtain ⟨A, hsl, hA⟩ := cutb_lh hb lo (lo + m) (by omega) (by omega)
  rw [show lo + m - lo = m by omega] at hsl hA
  rw [show ((lo + m : Nat) : Int) = e.1 - t + e.2 by omega, hlo] at hsl
  rw [show (e.1 - t).toNat = lo by omega, show e.2.toNat = m by omega]
  have hQ : ((l.drop lo).take m).length = m := by rw [List.length_take, List.length_drop]; omega
  generalize (l.drop lo).take m = Q at hA hQ ⊢
  have HA := Lib.hid hA
  have HQ := Lib.hid hQ
  generalize l.length = L at hd hc hsl hm a1 a2 i1 ⊢
  clear hx he h0 hb hA hQ
  go_enter Try.func22, Try.ntmps22
  go_wp2_with fail
  obtain ⟨S, hS⟩ := start3 w (cmdO 2 t f n (.slice a L cap)) (extO e) (cmdO 0 0 0 0 (.slice none 0 0))
  rw [hS]
  clear hS
  refine (HeldW.call (s := S) (hd _)).mono ?_
  rintro e _ ⟨rfl, s1, rfl⟩
  obtain ⟨d0, d1, d2⟩ := held_ext2 s1 (w.heap.size + 1) e (by simp)
  go_wp2_with fail
  have hsz := (Array.getElem?_eq_some_iff.1 (s1.blocks (w.heap.size + 1 + 1, cmdO 0 0 0 0 (.slice none 0 0)) (by simp))).1
  obtain ⟨B, S1, hB, hB0, hS⟩ := s1.more (descO t L 2 0 0 d)
  have hBlt : w.heap.size + 1 + 1 < B := by omega
  rw [hS, ← hB]
  clear hS hB hsz d0 d1 d2
  obtain ⟨d0, d1, d2⟩ := held_ext2 S1 (w.heap.size + 1) e (by simp)
  refine (HeldW.call (s := S1) (hv _)).mono ?_
  rintro e _ ⟨rfl, s2, rfl⟩
  obtain ⟨p0, p1, p2⟩ := held_ext2 s2 (w.heap.size + 1) e (by simp)
  obtain ⟨g0, g1, g2, g3, g4, g5, g6⟩ := held_desc s2 (B) t L 2 0 0 d (by simp)
  go_wp2_with fail
  clear p0 p1 p2 g0 g1 g2 g3 g4 g5 g6
  refine (HeldW.call (s := s2) (hc _)).mono ?_
  rintro e _ ⟨rfl, s3, rfl⟩
  obtain ⟨p0, p1, p2⟩ := held_ext2 s3 (w.heap.size + 1) e (by simp)
  obtain ⟨g0, g1, g2, g3, g4, g5, g6⟩ := held_desc s3 (B) t L 2 0 0 d (by simp)
  obtain ⟨q0, q1, q2, q3, q4, q5⟩ := held_cmd s3 (w.heap.size) 2 t f n (.slice a L cap) (by simp)
  go_wp2_with fail
  have hZ := s3.blocks (w.heap.size + 1 + 1, cmdO 0 0 0 0 (.slice none 0 0)) (by simp)
  have HZ := Lib.hid hZ
  have HSB := Lib.hid s3.below
  have HA3 := Lib.hid (HA.out.below s3.below)
  obtain ⟨x0, x1, x2⟩ := held_ext2 s3 (w.heap.size + 1) e (by simp)
  obtain ⟨y0, y1, y2, y3, y4, y5⟩ := held_cmd s3 (w.heap.size) 2 t f n (.slice a L cap) (by simp)
  generalize s3.w = w1 at HZ HSB HA3 x0 x1 x2 y0 y1 y2 y3 y4 y5 ⊢
  clear hZ p0 p1 p2 g0 g1 g2 g3 g4 g5 g6 q0 q1 q2 q3 q4 q5
  have HX0 := Lib.hid (show ∀ W, Below w1.heap.size w1 W → W.cell? ⟨w.heap.size + 1, 0, none⟩ = some (.int .i64 e.1) from fun W hW => (hW.cell (p := ⟨w.heap.size + 1, 0, none⟩) x2).trans x0)
  have HX1 := Lib.hid (show ∀ W, Below w1.heap.size w1 W → W.cell? ⟨w.heap.size + 1, 1, none⟩ = some (.int .i64 e.2) from fun W hW => (hW.cell (p := ⟨w.heap.size + 1, 1, none⟩) x2).trans x1)
  have HY4 := Lib.hid (show ∀ W, Below w1.heap.size w1 W → W.cell? ⟨w.heap.size, 4, none⟩ = some (.slice a L cap) from fun W hW => (hW.cell (p := ⟨w.heap.size, 4, none⟩) y5).trans y4)
  have hwr : IntKind.i64.wrap (e.1 - t + e.2) = e.1 - t + e.2 := by rw [IntKind.wrap_i64]; omega
  have hwr2 : wrap64 (e.1 - t + e.2) = e.1 - t + e.2 := by unfold wrap64; omega
  have HWR := Lib.hid hwr
  have HWR2 := Lib.hid hwr2
  have HSL := Lib.hid hsl
  clear x0 x1 x2 y0 y1 y2 y3 y4 y5 hwr hwr2 hsl s3
  refine wp_region_looseT 12
    [IsV (.pointer (some ⟨w.heap.size + 1, 0, none⟩)), IsV (.int .i64 e.1), IsV (.pointer (some ⟨w.heap.size, 4, none⟩)), IsV (.slice a L cap), IsV (.int .i64 (e.1 - t)), IsV (.int .i64 (e.1 - t)),
     IsV (.pointer (some ⟨w.heap.size + 1, 1, none⟩)), IsV (.int .i64 e.2), IsV (.int .i64 (e.1 - t + e.2)), IsV (.slice A m (cap - lo)), IsB (.slice A m (cap - lo)), IsOwn w1.heap.size (fun v => cmdV 2 e.1 0 0 v) Q]
    [⟨44, [], [3]⟩, ⟨45, [(0, 44)], []⟩, ⟨46, [], [2]⟩, ⟨47, [(2, 46)], []⟩, ⟨48, [], [7]⟩, ⟨49, [], [7]⟩, ⟨50, [], [3]⟩, ⟨51, [(6, 50)], []⟩, ⟨52, [(5, 49), (7, 51)], []⟩, ⟨53, [(3, 47), (4, 48), (8, 52)], []⟩, ⟨54, [(9, 53)], []⟩, ⟨55, [(1, 45), (10, 54)], []⟩]
    (fun W => Below w1.heap.size w1 W) (fun W W' => Below W.heap.size W W') (by kernel_rfl) (by kernel_rfl) (by kernel_rfl) rfl rfl (Below.refl _ w1).drew ?_
    ⟨?_, ?_, ?_, ?_, ?_, ?_, ?_, ?_, ?_, ?_, ?_, ?_, trivial⟩ ?_
  · repeat (first | (intro _ h; cases h; done) | refine List.forall_mem_cons.2 ⟨stable_V _ _, ?_⟩ | refine List.forall_mem_cons.2 ⟨stable_B _, ?_⟩ | refine List.forall_mem_cons.2 ⟨stable_own _ _ _, ?_⟩)
  · intro A W hC hd hx
    have hk : ∀ v, A.eval (.const v) = v := fun _ => rfl
    have hy0 : A.eval (.tmp 3) = .pointer (some ⟨w.heap.size + 1, 0, none⟩) := hx 3 (by simp)
    clear hd
    generalize A.eval = ρ at hk hy0 ⊢
    simp [go_sem, looseUpon, factOf, hk, hy0]
    exact ⟨hC, Below.refl _ _⟩
  · intro A W hC hd hx
    have hk : ∀ v, A.eval (.const v) = v := fun _ => rfl
    have c0 := HX0.out W hC
    simp [factOf] at hd
    generalize A.eval = ρ at hd hk ⊢
    simp [go_sem, looseUpon, factOf, hd, hk, c0]
    exact ⟨hC, Below.refl _ _⟩
  · intro A W hC hd hx
    have hk : ∀ v, A.eval (.const v) = v := fun _ => rfl
    have hy0 : A.eval (.tmp 2) = .pointer (some ⟨w.heap.size, 0, none⟩) := hx 2 (by simp)
    clear hd
    generalize A.eval = ρ at hk hy0 ⊢
    simp [go_sem, looseUpon, factOf, hk, hy0]
    exact ⟨hC, Below.refl _ _⟩
  · intro A W hC hd hx
    have hk : ∀ v, A.eval (.const v) = v := fun _ => rfl
    have c0 := HY4.out W hC
    simp [factOf] at hd
    generalize A.eval = ρ at hd hk ⊢
    simp [go_sem, looseUpon, factOf, hd, hk, c0]
    exact ⟨hC, Below.refl _ _⟩
  · intro A W hC hd hx
    have hk : ∀ v, A.eval (.const v) = v := fun _ => rfl
    have hy0 : A.eval (.tmp 7) = .int .i64 (e.1 - t) := hx 7 (by simp)
    clear hd
    generalize A.eval = ρ at hk hy0 ⊢
    simp [go_sem, looseUpon, factOf, hk, hy0]
    exact ⟨hC, Below.refl _ _⟩
  · intro A W hC hd hx
    have hk : ∀ v, A.eval (.const v) = v := fun _ => rfl
    have hy0 : A.eval (.tmp 7) = .int .i64 (e.1 - t) := hx 7 (by simp)
    clear hd
    generalize A.eval = ρ at hk hy0 ⊢
    simp [go_sem, looseUpon, factOf, hk, hy0]
    exact ⟨hC, Below.refl _ _⟩
  · intro A W hC hd hx
    have hk : ∀ v, A.eval (.const v) = v := fun _ => rfl
    have hy0 : A.eval (.tmp 3) = .pointer (some ⟨w.heap.size + 1, 0, none⟩) := hx 3 (by simp)
    clear hd
    generalize A.eval = ρ at hk hy0 ⊢
    simp [go_sem, looseUpon, factOf, hk, hy0]
    exact ⟨hC, Below.refl _ _⟩
  · intro A W hC hd hx
    have hk : ∀ v, A.eval (.const v) = v := fun _ => rfl
    have c0 := HX1.out W hC
    simp [factOf] at hd
    generalize A.eval = ρ at hd hk ⊢
    simp [go_sem, looseUpon, factOf, hd, hk, c0]
    exact ⟨hC, Below.refl _ _⟩
  · intro A W hC hd hx
    have hk : ∀ v, A.eval (.const v) = v := fun _ => rfl
    have c0 := HWR.out
    have c1 := HWR2.out
    simp [factOf] at hd
    generalize A.eval = ρ at hd hk ⊢
    simp [go_sem, looseUpon, factOf, hd, hk, c0, c1]
    exact ⟨hC, Below.refl _ _⟩
  · intro A W hC hd hx
    have hk : ∀ v, A.eval (.const v) = v := fun _ => rfl
    have c0 := HSL.out W
    simp [factOf] at hd
    generalize A.eval = ρ at hd hk ⊢
    simp [go_sem, looseUpon, factOf, hd, hk, c0]
    exact ⟨hC, Below.refl _ _⟩
  · intro A' W hC hd hx
    have hk : ∀ v, A'.eval (.const v) = v := fun _ => rfl
    simp [factOf] at hd
    generalize A'.eval = ρ at hd hk ⊢
    simp [go_sem, looseUpon, factOf, hd, hk]
    exact ⟨⟨_, rfl, World.alloc_heap_new _ _⟩, hC.alloc hC.size _, (Below.refl _ _).alloc (Nat.le_refl _) _⟩
  · intro A' W hC hd hx
    refine ⟨fun g hg => (by cases hg), ?_⟩
    simp [factOf] at hd
    obtain ⟨h45, B', hB', hBw⟩ := hd
    refine loose_call rfl Try.func11 (by kernel_rfl) (by kernel_rfl) ?_
    simp only [List.map_toArray, List.map_cons, List.map_nil, h45, hB']
    refine (mliteral_any e.1 [Q] (some ⟨B', 0, none⟩) 1 W (parts_one hBw HQ.out (HA3.out.below hC)) (by have := HQ.out; simp; omega)).mono ?_
    rintro e' W' ⟨v, rfl, s, rfl⟩
    refine ⟨_, rfl, ?_, hC.trans (s.below.mono hC.size), s.below⟩
    obtain ⟨A2, C2, rfl, _⟩ := s.bytes
    have ho := s.own
    simp only [List.length_map, show [Q].flatten = Q by simp] at ho ⊢
    exact ⟨A2, C2, rfl, ho.mono hC.size⟩
  · intro W hC
    simp only [ends]
    rintro _ rfl _ rfl _ rfl _ rfl _ rfl _ rfl _ rfl _ rfl _ rfl _ rfl _ ⟨B', rfl, hB'⟩ _ ⟨A', C', rfl, hown⟩
    simp only [putAll, List.zip_cons_cons, List.zip_nil_left, List.foldl_cons, List.foldl_nil, Act.put, List.setIfInBounds_toArray, List.set_cons_succ, List.set_cons_zero]
    obtain ⟨r0, r1, r2, r3, r4⟩ := cmd_cells (heap_below HZ.out hC)
    have r5 := fun i => free_of (heap_below HZ.out hC) i
    have HOWN := Lib.hid hown
    have HC := Lib.hid hC
    have HZL := Lib.hid (Array.getElem?_eq_some_iff.1 HZ.out).1
    clear hown hB' hC
    go_wp2
    obtain ⟨s', hs'⟩ := OwnW.under (w0 := w) (w1 := w1) (e := 5) (v := .slice A' Q.length C') (xs := Q.map (Value.int .u8)) ⟨W, HC.out, by rw [List.length_map]; exact HOWN.out⟩ HSB.out (b := w.heap.size + 1 + 1) (by omega) HZL.out (.int .i64 2) (.int .i64 e.1) (.int .i64 0) (.int .i64 0) (.slice A' Q.length C')
    refine bodyPost_ret (v := .tuple #[cmdV 2 e.1 0 0 (.slice A' Q.length C'), .bool true]) (by simp [results, Try.results22, go_sem, r0, r1, r2, r3, r4]) rfl ⟨_, rfl, s', hs'⟩

set_option maxRecDepth 100000 in
set_option maxHeartbeats 4000000 in
theorem rpart_copy (t f n : Int) (a : Option Addr) (L cap : Nat) (e : Int × Int) (hx : okE (t, n) = true) (hf : okE (f, n) = true) (he : okE e = true) (hi : insE (t, n) e) (w : World) :
    Calls Try.prog 23 #[cmdV 1 t f n (.slice a L cap), extV e] w (Gives (cmdV 1 e.1 (f + (e.1 - t)) e.2 (.slice none 0 0)) w) := by
  obtain ⟨a0, a1, a2⟩ := okE_iff.1 hx
  obtain ⟨f0, f1, f2⟩ := okE_iff.1 hf
  obtain ⟨e0, e1, e2⟩ := okE_iff.1 he
  unfold insE at hi
  simp only at a0 a1 a2 f0 f1 f2 hi
  obtain ⟨i0, i1⟩ := hi
  clear hx hf he
  go_enter Try.func23, Try.ntmps23
  go_wp2_with fail
  refine bodyPost_ret (v := cmdV 1 e.1 (f + (e.1 - t)) e.2 (.slice none 0 0)) (by simp [results, Try.results23, go_sem]) rfl ⟨rfl, ?_⟩
  exact (((Below.refl _ w).alloc (Nat.le_refl _) _).alloc (by simp) _).alloc (by simp; omega) _

set_option maxRecDepth 100000 in
set_option maxHeartbeats 4000000 in
theorem rpart_lit (t f n : Int) (l : List Int) (a : Option Addr) (cap : Nat) (e : Int × Int) (w : World) (hb : BytesIn w a l cap) (hm : l.length ≤ 140737488351232) (hx : okE (t, (l.length : Int)) = true) (he : okE e = true) (h0 : e.2 ≠ 0) (hi : insE (t, (l.length : Int)) e) :
    Calls Try.prog 23 #[cmdV 2 t f n (.slice a l.length cap), extV e] w (MakesC (fun v => cmdV 2 e.1 0 0 v) ((l.drop (e.1 - t).toNat).take e.2.toNat) w) := by
  obtain ⟨a0, a1, a2⟩ := okE_iff.1 hx
  obtain ⟨e0, e1, e2⟩ := okE_iff.1 he
  unfold insE at hi
  simp only at a0 a1 a2 hi
  obtain ⟨i0, i1⟩ := hi
  obtain ⟨lo, hlo⟩ : ∃ lo : Nat, (lo : Int) = e.1 - t := ⟨(e.1 - t).toNat, by omega⟩
  obtain ⟨m, hm2⟩ : ∃ m : Nat, (m : Int) = e.2 := ⟨e.2.toNat, by omega⟩
  obtain ⟨A, hsl, hA⟩ := cutb_lh hb lo (lo + m) (by omega) (by omega)
  rw [show lo + m - lo = m by omega] at hsl hA
  rw [show ((lo + m : Nat) : Int) = e.1 - t + e.2 by omega, hlo] at hsl
  rw [show (e.1 - t).toNat = lo by omega, show e.2.toNat = m by omega]
  have hQ : ((l.drop lo).take m).length = m := by rw [List.length_take, List.length_drop]; omega
  generalize (l.drop lo).take m = Q at hA hQ ⊢
  have HA := Lib.hid hA
  have HQ := Lib.hid hQ
  generalize l.length = L at hsl hm a1 a2 i1 ⊢
  clear hx he hb hA hQ
  go_enter Try.func23, Try.ntmps23
  go_wp2_with fail
  obtain ⟨S, hS⟩ := start3 w (cmdO 2 t f n (.slice a L cap)) (extO e) (cmdO 0 0 0 0 (.slice none 0 0))
  rw [hS]
  clear hS
  have hZ := S.blocks (w.heap.size + 1 + 1, cmdO 0 0 0 0 (.slice none 0 0)) (by simp)
  have HZ := Lib.hid hZ
  have HSB := Lib.hid S.below
  have HA3 := Lib.hid (HA.out.below S.below)
  obtain ⟨x0, x1, x2⟩ := held_ext2 S (w.heap.size + 1) e (by simp)
  obtain ⟨y0, y1, y2, y3, y4, y5⟩ := held_cmd S (w.heap.size) 2 t f n (.slice a L cap) (by simp)
  generalize S.w = w1 at HZ HSB HA3 x0 x1 x2 y0 y1 y2 y3 y4 y5 ⊢
  clear hZ
  have HX0 := Lib.hid (show ∀ W, Below w1.heap.size w1 W → W.cell? ⟨w.heap.size + 1, 0, none⟩ = some (.int .i64 e.1) from fun W hW => (hW.cell (p := ⟨w.heap.size + 1, 0, none⟩) x2).trans x0)
  have HX1 := Lib.hid (show ∀ W, Below w1.heap.size w1 W → W.cell? ⟨w.heap.size + 1, 1, none⟩ = some (.int .i64 e.2) from fun W hW => (hW.cell (p := ⟨w.heap.size + 1, 1, none⟩) x2).trans x1)
  have HY4 := Lib.hid (show ∀ W, Below w1.heap.size w1 W → W.cell? ⟨w.heap.size, 4, none⟩ = some (.slice a L cap) from fun W hW => (hW.cell (p := ⟨w.heap.size, 4, none⟩) y5).trans y4)
  have HWR := Lib.hid (show IntKind.i64.wrap (e.1 - t + e.2) = e.1 - t + e.2 by rw [IntKind.wrap_i64]; omega)
  have HWR2 := Lib.hid (show wrap64 (e.1 - t + e.2) = e.1 - t + e.2 by unfold wrap64; omega)
  have HSL := Lib.hid hsl
  have hmm : m ≤ L := by omega
  clear x0 x1 x2 y0 y1 y2 y3 y4 y5 hsl S
  refine wp_region_looseT 13
    [IsV (.pointer (some ⟨w.heap.size + 1, 0, none⟩)), IsV (.int .i64 e.1), IsE, IsV (.pointer (some ⟨w.heap.size, 4, none⟩)), IsV (.slice a L cap), IsV (.int .i64 (e.1 - t)), IsV (.int .i64 (e.1 - t)),
     IsV (.pointer (some ⟨w.heap.size + 1, 1, none⟩)), IsV (.int .i64 e.2), IsV (.int .i64 (e.1 - t + e.2)), IsV (.slice A m (cap - lo)), IsOwn w1.heap.size (fun v => v) Q, IsOwn w1.heap.size (fun v => cmdV 2 e.1 0 0 v) Q]
    [⟨23, [], [3]⟩, ⟨24, [(0, 23)], []⟩, ⟨25, [], []⟩, ⟨26, [], [2]⟩, ⟨27, [(3, 26)], []⟩, ⟨28, [], [5]⟩, ⟨29, [], [5]⟩, ⟨30, [], [3]⟩, ⟨31, [(7, 30)], []⟩, ⟨32, [(6, 29), (8, 31)], []⟩, ⟨33, [(4, 27), (5, 28), (9, 32)], []⟩, ⟨34, [(2, 25), (10, 33)], []⟩, ⟨35, [(1, 24), (11, 34)], []⟩]
    (fun W => Below w1.heap.size w1 W) (fun W W' => Below W.heap.size W W') (by kernel_rfl) (by kernel_rfl) (by kernel_rfl) rfl rfl (Below.refl _ w1).drew ?_
    ⟨?_, ?_, ?_, ?_, ?_, ?_, ?_, ?_, ?_, ?_, ?_, ?_, ?_, trivial⟩ ?_
  · repeat (first | (intro _ h; cases h; done) | refine List.forall_mem_cons.2 ⟨stable_V _ _, ?_⟩ | refine List.forall_mem_cons.2 ⟨stable_E, ?_⟩ | refine List.forall_mem_cons.2 ⟨stable_own _ _ _, ?_⟩)
  · intro A W hC hd hx
    have hk : ∀ v, A.eval (.const v) = v := fun _ => rfl
    have hy0 : A.eval (.tmp 3) = .pointer (some ⟨w.heap.size + 1, 0, none⟩) := hx 3 (by simp)
    clear hd
    generalize A.eval = ρ at hk hy0 ⊢
    simp [go_sem, looseUpon, factOf, hk, hy0]
    exact ⟨hC, Below.refl _ _⟩
  · intro A W hC hd hx
    have hk : ∀ v, A.eval (.const v) = v := fun _ => rfl
    have c0 := HX0.out W hC
    simp [factOf] at hd
    generalize A.eval = ρ at hd hk ⊢
    simp [go_sem, looseUpon, factOf, hd, hk, c0]
    exact ⟨hC, Below.refl _ _⟩
  · intro A' W hC hd hx
    clear hd
    generalize A'.eval = ρ
    simp [go_sem, looseUpon, factOf]
    exact ⟨⟨_, rfl⟩, hC.alloc hC.size _, (Below.refl _ _).alloc (Nat.le_refl _) _⟩
  · intro A W hC hd hx
    have hk : ∀ v, A.eval (.const v) = v := fun _ => rfl
    have hy0 : A.eval (.tmp 2) = .pointer (some ⟨w.heap.size, 0, none⟩) := hx 2 (by simp)
    clear hd
    generalize A.eval = ρ at hk hy0 ⊢
    simp [go_sem, looseUpon, factOf, hk, hy0]
    exact ⟨hC, Below.refl _ _⟩
  · intro A W hC hd hx
    have hk : ∀ v, A.eval (.const v) = v := fun _ => rfl
    have c0 := HY4.out W hC
    simp [factOf] at hd
    generalize A.eval = ρ at hd hk ⊢
    simp [go_sem, looseUpon, factOf, hd, hk, c0]
    exact ⟨hC, Below.refl _ _⟩
  · intro A W hC hd hx
    have hk : ∀ v, A.eval (.const v) = v := fun _ => rfl
    have hy0 : A.eval (.tmp 5) = .int .i64 (e.1 - t) := hx 5 (by simp)
    clear hd
    generalize A.eval = ρ at hk hy0 ⊢
    simp [go_sem, looseUpon, factOf, hk, hy0]
    exact ⟨hC, Below.refl _ _⟩
  · intro A W hC hd hx
    have hk : ∀ v, A.eval (.const v) = v := fun _ => rfl
    have hy0 : A.eval (.tmp 5) = .int .i64 (e.1 - t) := hx 5 (by simp)
    clear hd
    generalize A.eval = ρ at hk hy0 ⊢
    simp [go_sem, looseUpon, factOf, hk, hy0]
    exact ⟨hC, Below.refl _ _⟩
  · intro A W hC hd hx
    have hk : ∀ v, A.eval (.const v) = v := fun _ => rfl
    have hy0 : A.eval (.tmp 3) = .pointer (some ⟨w.heap.size + 1, 0, none⟩) := hx 3 (by simp)
    clear hd
    generalize A.eval = ρ at hk hy0 ⊢
    simp [go_sem, looseUpon, factOf, hk, hy0]
    exact ⟨hC, Below.refl _ _⟩
  · intro A W hC hd hx
    have hk : ∀ v, A.eval (.const v) = v := fun _ => rfl
    have c0 := HX1.out W hC
    simp [factOf] at hd
    generalize A.eval = ρ at hd hk ⊢
    simp [go_sem, looseUpon, factOf, hd, hk, c0]
    exact ⟨hC, Below.refl _ _⟩
  · intro A W hC hd hx
    have hk : ∀ v, A.eval (.const v) = v := fun _ => rfl
    have c0 := HWR.out
    have c1 := HWR2.out
    simp [factOf] at hd
    generalize A.eval = ρ at hd hk ⊢
    simp [go_sem, looseUpon, factOf, hd, hk, c0, c1]
    exact ⟨hC, Below.refl _ _⟩
  · intro A W hC hd hx
    have hk : ∀ v, A.eval (.const v) = v := fun _ => rfl
    have c0 := HSL.out W
    simp [factOf] at hd
    generalize A.eval = ρ at hd hk ⊢
    simp [go_sem, looseUpon, factOf, hd, hk, c0]
    exact ⟨hC, Below.refl _ _⟩
  · intro A' W hC hd hx
    refine ⟨fun g hg => (by cases hg), ?_⟩
    simp [factOf] at hd
    obtain ⟨⟨p, hp⟩, h33⟩ := hd
    obtain ⟨v', W', hrun, ho, hB⟩ := run_append_fresh HQ.out (HA3.out.below hC) (by omega) (by omega) (base := w1.heap.size) hC.size p 25
    generalize A'.eval = ρ at hp h33 ⊢
    simp [execOp, resolve, invoke, builtin, hp, h33, hrun, looseUpon, factOf]
    exact ⟨ho, hC.trans (hB.mono hC.size), hB⟩
  · intro A' W hC hd hx
    have hk : ∀ v, A'.eval (.const v) = v := fun _ => rfl
    simp [factOf] at hd
    obtain ⟨h24, A2, C2, h34, ho⟩ := hd
    generalize A'.eval = ρ at h24 h34 hk ⊢
    simp [go_sem, looseUpon, factOf, h24, h34, hk]
    exact ⟨⟨A2, C2, rfl, ho⟩, hC, Below.refl _ _⟩
  · intro W hC
    simp only [ends]
    rintro _ rfl _ rfl _ ⟨p, rfl⟩ _ rfl _ rfl _ rfl _ rfl _ rfl _ rfl _ rfl _ rfl _ ⟨A'', C'', rfl, _⟩ _ ⟨A', C', rfl, hown⟩
    simp only [putAll, List.zip_cons_cons, List.zip_nil_left, List.foldl_cons, List.foldl_nil, Act.put, List.setIfInBounds_toArray, List.set_cons_succ, List.set_cons_zero]
    obtain ⟨r0, r1, r2, r3, r4⟩ := cmd_cells (heap_below HZ.out hC)
    have r5 := fun i => free_of (heap_below HZ.out hC) i
    have HOWN := Lib.hid hown
    have HC := Lib.hid hC
    have HZL := Lib.hid (Array.getElem?_eq_some_iff.1 HZ.out).1
    clear hown hC
    go_wp2
    obtain ⟨s', hs'⟩ := OwnW.under (w0 := w) (w1 := w1) (e := 5) (v := .slice A' Q.length C') (xs := Q.map (Value.int .u8)) ⟨W, HC.out, by rw [List.length_map]; exact HOWN.out⟩ HSB.out (b := w.heap.size + 1 + 1) (by omega) HZL.out (.int .i64 2) (.int .i64 e.1) (.int .i64 0) (.int .i64 0) (.slice A' Q.length C')
    refine bodyPost_ret (v := cmdV 2 e.1 0 0 (.slice A' Q.length C')) (by simp [results, Try.results23, go_sem, r0, r1, r2, r3, r4]) rfl ⟨_, rfl, s', hs'⟩
end Go.Proofs.Ytfikjndkjjgcjaa
