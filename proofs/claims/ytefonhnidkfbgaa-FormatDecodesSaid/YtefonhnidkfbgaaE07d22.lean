/- The reference's reader: what Decode keeps. -/
import Derived.Test.YtefonhnidkfbgaaE07d21
namespace Go.Proofs.Ytefonhnidkfbgaa
open Go.RowKit
set_option linter.unusedVariables false
set_option linter.unusedSimpArgs false

theorem uintR1_lt {D : List Int} (hD : OkB D) (s : RS) : 0 ≤ (uintR D 1 s).1 ∧ (uintR D 1 s).1 < 256 := by
  by_cases h : (uintR D 1 s).2.c = 0
  · obtain ⟨-, -, -, -, h1, h2⟩ := uintR_enc hD (k := 1) h
    exact ⟨h1, h2⟩
  · rw [uintR_zero h]; omega
theorem cmdR_fits {D : List Int} (hD : OkB D) (s : RS) : (I64 (cmdR D s).1.1 ∧ I64 (cmdR D s).1.2.1 ∧ I64 (cmdR D s).1.2.2.1 ∧ I64 (cmdR D s).1.2.2.2.1) ∧ OkB (cmdR D s).1.2.2.2.2 ∧ (cmdR D s).1.2.2.2.2.length ≤ D.length := by
  have h1 := uintR1_lt hD s
  unfold cmdR
  split
  · exact ⟨⟨by unfold I64; simp, i64_len7, i64_len7, i64_len7⟩, okB_nil, by simp⟩
  · exact ⟨⟨by unfold I64; simp only; omega, i64_len7, by unfold I64; simp, by unfold I64; simp⟩, bytesR_ok hD _ _, bytesR_len _ _ _⟩
theorem cmdR_place {D : List Int} {s : RS} (h : PlaceR D s) : PlaceR D (cmdR D s).2 := by
  have := (cmdR_step D ([], s)).1
  simp only at this
  rw [this]
  exact stepR_place (q := ([], s)) h

section
variable {w : World} {els : List Sl7} {v : Value} {n : Nat} {xs : List Value} {bs : List (Nat × Obj)} {g : Nat} {o o' : Obj}
/-- Slices of bytes that lie in old blocks. -/
def OldEls (w : World) (els : List Sl7) : Prop := ∀ p ∈ els, 0 < p.2.1.length → ∀ ad, p.1 = some ad → ad.block < w.heap.size
theorem Grow.putsBy (S : Grow w none ((g, o) :: bs) els 58 5 v n xs) (hg : w.heap.size ≤ g) (hel : OldEls w els) (hne : ∀ p ∈ bs, p.1 ≠ g) {w'' : World} (hb : But g S.w.heap.size S.w w'') (ho : w''.heap[g]? = some o') :
    ∃ S' : Grow w none ((g, o') :: bs) els 58 5 v n xs, w'' = S'.w := by
  have hgv := (S.blocks (g, o) List.mem_cons_self).2
  refine ⟨⟨w'', S.but.trans ⟨hb.os, hb.tape, hb.output, hb.size, fun k hk _ => hb.block k (Nat.lt_of_lt_of_le hk S.but.size) (by omega)⟩, own_keep S.own (fun g' hg' hl => hb.block g' hl (fun e => hgv (by rw [← e]; exact hg'))), (fun g hg => by cases hg), List.forall_mem_cons.2 ⟨⟨ho, hgv⟩, fun p hp => ?_⟩, fun p hp => ?_⟩, rfl⟩
  · obtain ⟨h1, h2⟩ := S.blocks p (List.mem_cons_of_mem _ hp)
    exact ⟨(hb.block _ (Array.getElem?_eq_some_iff.1 h1).1 (hne p hp)).trans h1, h2⟩
  · obtain ⟨h1, h2⟩ := S.el p hp
    exact ⟨bytes_keep h1 fun hl ad had hlt => hb.block _ hlt (by have := hel p hp hl ad had; omega), h2⟩
theorem Grow.putsOwn {P : Program} {f : FuncId} {args : Array Value} {u : Value} {S : Grow w none ((g, o) :: bs) els 58 5 v n xs} (hg : w.heap.size ≤ g) (hel : OldEls w els) (hne : ∀ p ∈ bs, p.1 ≠ g) (hc : Calls P f args S.w (Puts g o' u S.w)) :
    Calls P f args S.w fun en w'' => en = .returned u ∧ ∃ S' : Grow w none ((g, o') :: bs) els 58 5 v n xs, w'' = S'.w :=
  hc.mono fun _ w'' ⟨he, hb, ho⟩ => ⟨he, S.putsBy hg hel hne hb ho⟩
theorem Grow.rcmd {P : Program} {f : FuncId} {args : Array Value} {c : Core7} {da : Option Addr} {D : List Int} {dcap : Nat} {S : Grow w none ((g, o) :: bs) els 58 5 v n xs} (hg : w.heap.size ≤ g) (hel : OldEls w els) (hne : ∀ p ∈ bs, p.1 ≠ g) (hdat : (da, D, dcap) ∈ els)
    (hcl : c.2.2.2.2.length ≤ D.length) (hc : Calls P f args S.w (RCmdPost g o' c da S.w)) :
    Calls P f args S.w fun en w'' => ∃ A C, en = .returned (cmdV c.1 c.2.1 c.2.2.1 c.2.2.2.1 (.slice A c.2.2.2.2.length C)) ∧ OldEls w ((A, c.2.2.2.2, C) :: els) ∧ ∃ S' : Grow w none ((g, o') :: bs) ((A, c.2.2.2.2, C) :: els) 58 5 v n xs, w'' = S'.w :=
  hc.mono fun _ w'' ⟨A, C, he, hb, ho, hB, hA⟩ => by
    obtain ⟨S1, h1⟩ := S.putsBy hg hel hne hb ho
    rw [h1] at hB
    have hold : ∀ ad, 0 < c.2.2.2.2.length → A = some ad → ad.block < w.heap.size := fun ad hl had => by
      obtain ⟨ad', h2, h3⟩ := hA ad had
      rw [← h3]
      exact hel _ hdat (by simp only; omega) ad' h2
    obtain ⟨S2, h2⟩ := S1.addEl (A, c.2.2.2.2, C) hB (fun hl ad had => by
      have h3 := hold ad hl had
      refine ⟨fun hg => ?_, fun hg => by cases hg⟩
      have := (S.own.lt ad.block hg).1
      omega)
    refine ⟨A, C, he, fun p hp hl ad had => ?_, S2, h1.trans h2⟩
    rcases List.mem_cons.1 hp with rfl | hp
    · exact hold ad hl had
    · exact hel p hp hl ad had
/-- A cell, a row of the third listed block is written. -/
theorem Grow.set3 {b : Nat} {p1 p2 : Nat × Obj} {cs cs' : Array Value} {t : TypeId} (S : Grow w none [p1, p2, (b, .cells cs t (0, 0))] els 58 5 v n xs) (hb : w.heap.size ≤ b) (h1 : p1.1 ≠ b) (h2 : p2.1 ≠ b) (hel : OldEls w els) (i : Nat) (u : Value) (hcs : cs.setIfInBounds i u = cs') :
    ∃ S' : Grow w none [p1, p2, (b, .cells cs' t (0, 0))] els 58 5 v n xs, S.w.setCell ⟨b, i, none⟩ u = S'.w := by
  subst hcs
  have hgv := (S.blocks (b, .cells cs t (0, 0)) (by simp)).2
  have hkeep : ∀ k, k ≠ b → (S.w.setCell ⟨b, i, none⟩ u).heap[k]? = S.w.heap[k]? := fun k hk => Below.heap_setCell _ _ _ _ (by simpa using hk)
  refine ⟨⟨S.w.setCell ⟨b, i, none⟩ u, S.but.trans ⟨rfl, rfl, rfl, by simp [World.setCell], fun k hk hn => hkeep k (by omega)⟩, own_keep S.own (fun g hg _ => hkeep g (fun e => hgv (by rw [← e]; exact hg))), (fun g hg => by cases hg), fun p hp => ?_, fun p hp => ?_⟩, rfl⟩
  · simp only [List.mem_cons, List.not_mem_nil, or_false] at hp
    rcases hp with rfl | rfl | rfl
    · obtain ⟨q1, q2⟩ := S.blocks p (by simp)
      exact ⟨(hkeep _ h1).trans q1, q2⟩
    · obtain ⟨q1, q2⟩ := S.blocks p (by simp)
      exact ⟨(hkeep _ h2).trans q1, q2⟩
    · obtain ⟨q1, q2⟩ := S.blocks (b, .cells cs t (0, 0)) (by simp)
      exact ⟨heap_setCell_same _ _ _ _ _ _ q1, q2⟩
  · obtain ⟨q1, q2⟩ := S.el p hp
    exact ⟨bytes_keep q1 fun hl ad had hlt => hkeep _ (by have := hel p hp hl ad had; omega), q2⟩
theorem Grow.row2 {b : Nat} {p1 p3 : Nat × Obj} {cs : Array Value} {t : TypeId} (S : Grow w none [p1, (b, .cells cs t (0, 0)), p3] els 58 5 v n xs) (hb : w.heap.size ≤ b) (h1 : p1.1 ≠ b) (h3 : p3.1 ≠ b) (hel : OldEls w els) (cs' : Array Value) :
    ∃ S' : Grow w none [p1, (b, .cells cs' t (0, 0)), p3] els 58 5 v n xs, S.w.setRow b cs' = S'.w := by
  have hgv := (S.blocks (b, .cells cs t (0, 0)) (by simp)).2
  have hkeep : ∀ k, k ≠ b → (S.w.setRow b cs').heap[k]? = S.w.heap[k]? := fun k hk => setRow_other _ _ _ _ hk
  refine ⟨⟨S.w.setRow b cs', S.but.trans ⟨rfl, rfl, rfl, by simp, fun k hk hn => hkeep k (by omega)⟩, own_keep S.own (fun g hg _ => hkeep g (fun e => hgv (by rw [← e]; exact hg))), (fun g hg => by cases hg), fun p hp => ?_, fun p hp => ?_⟩, rfl⟩
  · simp only [List.mem_cons, List.not_mem_nil, or_false] at hp
    rcases hp with rfl | rfl | rfl
    · obtain ⟨q1, q2⟩ := S.blocks p (by simp)
      exact ⟨(hkeep _ h1).trans q1, q2⟩
    · obtain ⟨q1, q2⟩ := S.blocks (b, .cells cs t (0, 0)) (by simp)
      exact ⟨setRow_heap _ _ _ _ _ _ q1, q2⟩
    · obtain ⟨q1, q2⟩ := S.blocks p (by simp)
      exact ⟨(hkeep _ h3).trans q1, q2⟩
  · obtain ⟨q1, q2⟩ := S.el p hp
    exact ⟨bytes_keep q1 fun hl ad had hlt => hkeep _ (by have := hel p hp hl ad had; omega), q2⟩
end

/-- A byte of a digest in a delta. -/
theorem deltaA_setx (o n : Int) (x y : List Int) (s : Value) (i : Nat) (b : Int) (hi : i < x.length) : (deltaA o n x y s).setIfInBounds (2 + i) (.int .u8 b) = deltaA o n (x.set i b) y s := by
  apply Array.toList_inj.1
  rw [Array.toList_setIfInBounds]
  unfold deltaA deltaL
  simp only [List.cons_append, List.nil_append]
  rw [show 2 + i = i + 1 + 1 by omega]
  simp [List.set_append, hi, List.map_set]
theorem deltaA_sety (o n : Int) (x y : List Int) (s : Value) (i : Nat) (b : Int) (hx : x.length = 32) (hi : i < y.length) : (deltaA o n x y s).setIfInBounds (34 + i) (.int .u8 b) = deltaA o n x (y.set i b) s := by
  apply Array.toList_inj.1
  rw [Array.toList_setIfInBounds]
  unfold deltaA deltaL
  simp only [List.cons_append, List.nil_append]
  rw [show 34 + i = (32 + i) + 1 + 1 by omega]
  simp [List.set_append, hx, hi, List.map_set]
/-- The first bytes of a digest, then zeros. -/
def mix32 (x : List Int) (k : Nat) : List Int := x.take k ++ zeros32.drop k
theorem mix32_0 (x : List Int) : mix32 x 0 = zeros32 := rfl
theorem mix32_32 {x : List Int} (h : x.length = 32) : mix32 x 32 = x := by unfold mix32; rw [List.take_of_length_le (by omega)]; simp [zeros32]
theorem mix32_len {x : List Int} (h : x.length = 32) {k : Nat} (hk : k ≤ 32) : (mix32 x k).length = 32 := by unfold mix32; simp [zeros32, h]; omega
theorem mix32_set {x : List Int} (h : x.length = 32) {k : Nat} (hk : k < 32) : (mix32 x k).set k (x[k]?.getD 0) = mix32 x (k + 1) := by
  apply List.ext_getElem?
  intro i
  unfold mix32
  rw [List.getElem?_set]
  by_cases e : k = i
  · subst e
    rw [if_pos rfl, if_pos (by simp [zeros32, h]; omega), List.getElem?_append_left (by simp; omega), List.getElem?_take, if_pos (by omega), List.getElem?_eq_getElem (by omega)]
    rfl
  · rw [if_neg e]
    by_cases hi : i < k
    · rw [List.getElem?_append_left (by simp; omega), List.getElem?_append_left (by simp; omega), List.getElem?_take, List.getElem?_take, if_pos hi, if_pos (by omega)]
    · rw [List.getElem?_append_right (by simp; omega), List.getElem?_append_right (by simp; omega)]
      simp only [List.length_take, List.getElem?_drop]
      congr 1
      omega
end Go.Proofs.Ytefonhnidkfbgaa
