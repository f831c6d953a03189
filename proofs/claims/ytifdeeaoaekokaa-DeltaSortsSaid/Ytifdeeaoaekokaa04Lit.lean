/- Literal and Clone of package command; parts of a Literal. -/
import Derived.Deep.RegionWith
import Derived.Deep.Onto
import Derived.Test.Ytifdeeaoaekokaa00Concat
import Derived.Test.Ytifdeeaoaekokaa00Fresh
import Derived.Test.Ytifdeeaoaekokaa04PartC
namespace Go.Proofs.Ytifdeeaoaekokaa
open Go.RowKit Go.Shelf Go.Proofs.Ytifdeeaoaekokaa.Plain01
set_option linter.unusedVariables false
set_option linter.unusedSimpArgs false

theorem cutb_lh {w : World} {a : Option Addr} {l : List Int} {cap : Nat} (h : BytesIn w a l cap) (lo hi : Nat) (h1 : lo ≤ hi) (h2 : hi ≤ l.length) :
    ∃ A, (∀ W, (Instr.slice 40 (.slice a l.length cap) (some (.int .i64 (lo : Int))) (some (.int .i64 (hi : Int))) none).run Try.prog W = .ok (.slice A (hi - lo) (cap - lo)) W) ∧ BytesIn w A ((l.drop lo).take (hi - lo)) (cap - lo) := by
  have hlen : ((l.drop lo).take (hi - lo)).length = hi - lo := by rw [List.length_take, List.length_drop]; omega
  refine ⟨if cap = lo then a else a.map (·.add (lo * 1)), fun W => ?_, by rw [hlen]; have := h.len; omega, by have := h.capb; omega, fun hp => ?_, fun h0 => ?_⟩
  · rw [run_slice_lh (P := Try.prog) W 40 a l.length cap (by kernel_rfl) .i64 .i64 (lo : Int) (hi : Int) (by omega) (by omega) (by have := h.len; omega), size_u8]
    simp only [Result.andThen_ok, sliced, Int.toNat_natCast]
  · rw [hlen] at hp
    obtain ⟨b, o, rfl, hc⟩ := h.cells (by omega)
    have := h.len
    rw [if_neg (by omega)]
    refine ⟨b, o + lo, by simp [Addr.add_mid], fun i hi => ?_⟩
    rw [hlen] at hi
    rw [Nat.add_assoc, hc (lo + i) (by omega), List.getElem?_take, if_pos (by omega), List.getElem?_drop]
  · by_cases hc : cap = lo
    · omega
    · rw [if_neg hc] at h0
      cases a with
      | none => have := h.nil rfl; omega
      | some ad => cases h0

theorem own_setCell {w : World} {base b : Nat} {e : TypeId} {v : Value} {n : Nat} {xs : List Value} (h : w.ownsRow base e 1 v n xs) (hb : b < base) (i : Nat) (u : Value) : (w.setCell ⟨b, i, none⟩ u).ownsRow base e 1 v n xs :=
  ⟨h.1, h.2.imp id fun ⟨g, cap, cur, h1, h2, h3, h4⟩ => ⟨g, cap, cur, h1, h2, (Below.heap_setCell _ _ _ _ (by simp only; omega)).trans h3, h4⟩⟩
/-- Five cells of a block ahead of a new slice are written. -/
theorem OwnW.under {w0 w1 : World} {e : TypeId} {v : Value} {xs : List Value} (s : OwnW w1 e v xs) (hB : Below w0.heap.size w0 w1) {b : Nat} (hb0 : w0.heap.size ≤ b) (hb1 : b < w1.heap.size) (v0 v1 v2 v3 v4 : Value) :
    ∃ s' : OwnW w0 e v xs, ((((s.w.setCell ⟨b, 0, none⟩ v0).setCell ⟨b, 1, none⟩ v1).setCell ⟨b, 2, none⟩ v2).setCell ⟨b, 3, none⟩ v3).setCell ⟨b, 4, none⟩ v4 = s'.w :=
  ⟨⟨_, below_put5 (hB.trans (s.below.mono hB.size)) hb0 _ _ _ _ _, (own_setCell (own_setCell (own_setCell (own_setCell (own_setCell s.own hb1 _ _) hb1 _ _) hb1 _ _) hb1 _ _) hb1 _ _).mono hB.size⟩, rfl⟩
theorem OwnW.under6 {w0 w1 : World} {e : TypeId} {v : Value} {xs : List Value} (s : OwnW w1 e v xs) (hB : Below w0.heap.size w0 w1) {b c : Nat} (hb0 : w0.heap.size ≤ b) (hb1 : b < w1.heap.size) (hc0 : w0.heap.size ≤ c) (hc1 : c < w1.heap.size) (i : Nat) (u v0 v1 v2 v3 v4 : Value) :
    ∃ s' : OwnW w0 e v xs, (((((s.w.setCell ⟨c, i, none⟩ u).setCell ⟨b, 0, none⟩ v0).setCell ⟨b, 1, none⟩ v1).setCell ⟨b, 2, none⟩ v2).setCell ⟨b, 3, none⟩ v3).setCell ⟨b, 4, none⟩ v4 = s'.w :=
  ⟨⟨_, below_put5 ((hB.trans (s.below.mono hB.size)).setCell (p := ⟨c, i, none⟩) hc0 _) hb0 _ _ _ _ _, (own_setCell (own_setCell (own_setCell (own_setCell (own_setCell (own_setCell s.own hc1 _ _) hb1 _ _) hb1 _ _) hb1 _ _) hb1 _ _) hb1 _ _).mono hB.size⟩, rfl⟩
theorem OwnW.lift {w0 w1 : World} {e : TypeId} {v : Value} {xs : List Value} (s : OwnW w1 e v xs) (hB : Below w0.heap.size w0 w1) : ∃ s' : OwnW w0 e v xs, s.w = s'.w :=
  ⟨⟨s.w, hB.trans (s.below.mono hB.size), s.own.mono hB.size⟩, rfl⟩

theorem parts_one {w : World} {b m c : Nat} {A : Option Addr} {Q : List Int} {t : TypeId} {fr : Nat × Nat} (h : w.heap[b]? = some (.cells #[.slice A m c] t fr)) (hQ : Q.length = m) (hA : BytesIn w A Q c) : PartsIn w (some ⟨b, 0, none⟩) [Q] :=
  ⟨by simp, fun _ => ⟨b, 0, rfl, fun i hi => by
    obtain rfl : i = 0 := by simp at hi; omega
    subst hQ
    exact ⟨A, c, by rw [cell_of_row w b _ _ _ _ h]; rfl, hA⟩⟩⟩

/-- It returns a value that holds a new slice of its own. -/
def MakesC (mk : Value → Value) (l : List Int) (w : World) (en : Ending) (w' : World) : Prop := ∃ v, en = .returned (mk v) ∧ ∃ s : OwnW w 5 v (l.map (Value.int .u8)), w' = s.w

/-- A listed block, behind a callee that makes a slice. -/
theorem OwnW.cmdF {w1 : World} {e : TypeId} {v : Value} {xs : List Value} (s : OwnW w1 e v xs) {b : Nat} {k t f n : Int} {u : Value} (h : w1.heap[b]? = some (cmdO k t f n u)) :
    s.w.cell? ⟨b, 0, none⟩ = some (.int .i64 k) ∧ s.w.cell? ⟨b, 1, none⟩ = some (.int .i64 t) ∧ s.w.cell? ⟨b, 2, none⟩ = some (.int .i64 f) ∧ s.w.cell? ⟨b, 3, none⟩ = some (.int .i64 n) ∧ s.w.cell? ⟨b, 4, none⟩ = some u ∧ ∀ i, s.w.frozen? ⟨b, i, none⟩ = false := by
  have h' := heap_below h s.below
  obtain ⟨h0, h1, h2, h3, h4⟩ := cmd_cells h'
  exact ⟨h0, h1, h2, h3, h4, fun i => free_of h' i⟩

set_option maxRecDepth 100000 in
set_option maxHeartbeats 4000000 in
theorem mclone_any (k t f n : Int) (l : List Int) (a : Option Addr) (cap : Nat) (w : World) (hb : BytesIn w a l cap) (hm : l.length ≤ 1000000) :
    Calls Try.prog 42 #[cmdV k t f n (.slice a l.length cap)] w (MakesC (fun v => cmdV k t f n v) l w) := by
  have hB := below2 w (cmdO k t f n (.slice a l.length cap)) (cmdO 0 0 0 0 (.slice none 0 0))
  have hc := clone8_any l a cap ((w.alloc (cmdO k t f n (.slice a l.length cap))).alloc (cmdO 0 0 0 0 (.slice none 0 0))) (hb.below hB) hm
  generalize l.length = m at hc hB ⊢
  clear hb hm
  go_enter Try.func42, Try.ntmps42
  go_wp2_with fail
  refine hc.mono ?_
  rintro e _ ⟨v, rfl, s, rfl⟩
  obtain ⟨r0, r1, r2, r3, r4, r5⟩ := s.cmdF (b := w.heap.size + 1) (heap_new _ _ (by simp))
  obtain ⟨q0, q1, q2, q3, q4, q5⟩ := s.cmdF (b := w.heap.size) (heap_old (heap_new w (cmdO k t f n (.slice a m cap)) rfl) _)
  obtain ⟨A, C, rfl, hA⟩ := s.bytes
  go_wp2
  obtain ⟨s', hs'⟩ := s.under6 hB (b := w.heap.size + 1) (c := w.heap.size) (by omega) (by simp) (Nat.le_refl _) (by simp; omega) 4 (.slice A l.length C) (.int .i64 k) (.int .i64 t) (.int .i64 f) (.int .i64 n) (.slice A l.length C)
  refine bodyPost_ret (v := cmdV k t f n (.slice A l.length C)) (by simp [results, Try.results42, go_sem, r0, r1, r2, r3, r4]) rfl ⟨_, rfl, s', hs'⟩

end Go.Proofs.Ytifdeeaoaekokaa
