import Derived.Test.YtefonhnidkfbgaaE07d10
import Derived.Deep.WholeRow
import Derived.Great.BuildSlice
import Derived.Test.YtefonhnidkfbgaaE07d4
import Derived.LoopTactic
import Derived.BigQuiet
import Derived.Shelf.Abstract
import Derived.Test.YtefonhnidkfbgaaE07d2
import Derived.Test.YtefonhnidkfbgaaProg
import Derived.Test.YtefonhnidkfbgaaE07d5
import Derived.Laws.StructEq
import Derived.Test.YtefonhnidkfbgaaE07d9
/- The first byte that none of the targets has: gap. Boxed deltas; the checks of one length and of one command of package delta. The check of one command of a delta. -/
namespace Go.Proofs.Ytefonhnidkfbgaa
open Go.RowKit Go.Shelf Go.Proofs.Ytefonhnidkfbgaa.Plain01
attribute [local go_sem] Oper.semAt_some
set_option linter.unusedVariables false
set_option linter.unusedSimpArgs false

/-- The walk has come through. -/
def Thru (pre : List (Int × Int)) : Prop := ∀ r, scan 0 (pre ++ r) = scan (endL pre) r
theorem thru_nil : Thru [] := fun r => rfl
theorem Thru.snoc {pre : List (Int × Int)} {x : Int × Int} (h : Thru pre) (hx : ¬ endL pre < x.1) : Thru (pre ++ [x]) := fun r => by
  rw [List.append_assoc, h, endL_snoc]
  show (if endL pre < x.1 then endL pre else scan (x.1 + x.2) r) = _
  rw [if_neg hx]
theorem Thru.stop {pre : List (Int × Int)} {x : Int × Int} (h : Thru pre) (hx : endL pre < x.1) : ∀ r, scan 0 ((pre ++ [x]) ++ r) = endL pre := fun r => by
  rw [List.append_assoc, h]
  show (if endL pre < x.1 then endL pre else scan (x.1 + x.2) r) = _
  rw [if_pos hx]

end Go.Proofs.Ytefonhnidkfbgaa

namespace Go.Proofs.Ytefonhnidkfbgaa
open Go.RowKit Go.Shelf Go.Proofs.Ytefonhnidkfbgaa.Plain01
set_option linter.unusedVariables false
set_option linter.unusedSimpArgs false

/-- The cells of a delta, under a name. -/
structure DeltaOf (D : Array Value) (o n : Int) (x y : List Int) (s : Value) : Prop where
  eq : D = deltaA o n x y s
  xl : x.length = 32
  yl : y.length = 32
abbrev deltaO (D : Array Value) : Obj := .cells D 27 (0, 0)
theorem DeltaOf.size {D : Array Value} {o n : Int} {x y : List Int} {s : Value} (h : DeltaOf D o n x y s) : D.size = 67 := by
  rw [h.eq]; simp [deltaA, deltaL, h.xl, h.yl]
theorem DeltaOf.c0 {D : Array Value} {o n : Int} {x y : List Int} {s : Value} (h : DeltaOf D o n x y s) : D[0]? = some (.int .i64 o) := by rw [h.eq]; simp [deltaA, deltaL]
theorem DeltaOf.c1 {D : Array Value} {o n : Int} {x y : List Int} {s : Value} (h : DeltaOf D o n x y s) : D[1]? = some (.int .i64 n) := by rw [h.eq]; simp [deltaA, deltaL]
theorem DeltaOf.c66 {D : Array Value} {o n : Int} {x y : List Int} {s : Value} (h : DeltaOf D o n x y s) : D[66]? = some s := by
  rw [h.eq]
  simp only [deltaA, List.getElem?_toArray]
  unfold deltaL
  rw [List.getElem?_cons_succ, List.getElem?_cons_succ, List.getElem?_append_right (by simp [h.xl]), List.getElem?_append_right (by simp [h.xl, h.yl])]
  simp [h.xl, h.yl]
theorem delta_held {w0 : World} {bs : List (Nat × Obj)} {D : Array Value} {o n : Int} {x y : List Int} {v : Value} (h : DeltaOf D o n x y v) (s : HeldW w0 bs) (b : Nat) (hm : (b, deltaO D) ∈ bs) :
    s.w.cell? ⟨b, 0, none⟩ = some (.int .i64 o) ∧ s.w.cell? ⟨b, 1, none⟩ = some (.int .i64 n) ∧ s.w.cell? ⟨b, 66, none⟩ = some v := by
  have hb := s.blocks _ hm
  exact ⟨(cell_of hb 0).trans h.c0, (cell_of hb 1).trans h.c1, (cell_of hb 66).trans h.c66⟩
theorem delta_heldA {w0 : World} {bs : List (Nat × Obj)} {D : Array Value} {o n : Int} {x y : List Int} {v : Value} (h : DeltaOf D o n x y v) (b : Nat) (hm : (b, deltaO D) ∈ bs) :
    (∀ s : HeldW w0 bs, s.w.cell? ⟨b, 0, none⟩ = some (.int .i64 o)) ∧ (∀ s : HeldW w0 bs, s.w.cell? ⟨b, 1, none⟩ = some (.int .i64 n)) ∧ (∀ s : HeldW w0 bs, s.w.cell? ⟨b, 66, none⟩ = some v) :=
  ⟨fun s => (delta_held h s b hm).1, fun s => (delta_held h s b hm).2.1, fun s => (delta_held h s b hm).2.2⟩

theorem delta_in {w0 : World} {bs : List (Nat × Obj)} (s : HeldW w0 bs) (b : Nat) (D : Array Value) (o n : Int) (x y : List Int) (v : Value) (h : DeltaOf D o n x y v) (hm : (b, deltaO D) ∈ bs) :
    s.w.cell? ⟨b, 0, none⟩ = some (.int .i64 o) ∧ s.w.cell? ⟨b, 1, none⟩ = some (.int .i64 n) ∧ s.w.cell? ⟨b, 66, none⟩ = some v := delta_held h s b hm
theorem delta_inA {w0 : World} {bs : List (Nat × Obj)} (_ : HeldW w0 bs) (b : Nat) (D : Array Value) (o n : Int) (x y : List Int) (v : Value) (h : DeltaOf D o n x y v) (hm : (b, deltaO D) ∈ bs) :
    (∀ s : HeldW w0 bs, s.w.cell? ⟨b, 0, none⟩ = some (.int .i64 o)) ∧ (∀ s : HeldW w0 bs, s.w.cell? ⟨b, 1, none⟩ = some (.int .i64 n)) ∧ (∀ s : HeldW w0 bs, s.w.cell? ⟨b, 66, none⟩ = some v) := delta_heldA h b hm

/-- A command, as a value. -/
abbrev cmdW (c : Cmd) : Value := cmdV c.k c.t c.f c.n (.slice c.a c.l.length c.cap)

theorem okE_len {z : Int} : okE (0, z) = true ↔ 0 ≤ z ∧ z ≤ 4611686018427387903 := by
  rw [okE_iff]; simp
end Go.Proofs.Ytefonhnidkfbgaa

namespace Go.Proofs.Ytefonhnidkfbgaa
open Go.RowKit Go.Shelf Go.Proofs.Ytefonhnidkfbgaa.Plain01
set_option linter.unusedVariables false
set_option linter.unusedSimpArgs false

end Go.Proofs.Ytefonhnidkfbgaa

/- sort.Search, over a function value that may draw and lay blocks. -/
namespace Go.Proofs.Ytefonhnidkfbgaa
open Go.RowKit
set_option linter.unusedVariables false
set_option linter.unusedSimpArgs false

/-- The first place at which p holds, or n. -/
structure FirstAt (n : Nat) (p : Nat → Bool) (r : Nat) : Prop where
  le : r ≤ n
  no : ∀ t, t < r → p t = false
  yes : r < n → p r = true
def SearchPost (n : Nat) (p : Nat → Bool) (w : World) (e : Ending) (w' : World) : Prop := ∃ r : Nat, e = .returned (.int .i64 r) ∧ FirstAt n p r ∧ Below w.heap.size w w'

end Go.Proofs.Ytefonhnidkfbgaa

/- Targets in ascending order: overlaps and gaps: plain mathematics. No Go text. The check of the targets of valid commands. delta.Check and delta.Valid: the one fault of a delta. -/
namespace Go.Proofs.Ytefonhnidkfbgaa
open Go.Proofs.Ytefonhnidkfbgaa.Plain01
set_option linter.unusedVariables false

theorem ovL_off : ∀ (l : List (Int × Int)) (e : Int), l.Pairwise (fun p q => p.1 ≤ q.1) → (∀ p ∈ l, 1 ≤ p.2) → (ovL e l = false ↔ (∀ p ∈ l, e ≤ p.1) ∧ l.Pairwise Off) := by
  intro l
  induction l with
  | nil => intro e _ _; simp [ovL]
  | cons x r ih =>
    intro e hs hp
    have hs' := List.pairwise_cons.1 hs
    have hx := hp x List.mem_cons_self
    rw [ovL]
    by_cases h : x.1 < e
    · rw [if_pos h]
      constructor
      · intro h2; cases h2
      · intro h2
        have := h2.1 x List.mem_cons_self
        omega
    · rw [if_neg h, ih _ hs'.2 (fun q hq => hp q (List.mem_cons_of_mem _ hq)), List.pairwise_cons]
      constructor
      · intro ⟨h1, h2⟩
        refine ⟨fun p hpm => ?_, fun q hq => .inl (h1 q hq), h2⟩
        rcases List.mem_cons.1 hpm with rfl | hpm
        · omega
        · have := hs'.1 p hpm; omega
      · intro ⟨h1, h2, h3⟩
        refine ⟨fun q hq => ?_, h3⟩
        have a1 := hs'.1 q hq
        have a2 := hp q (List.mem_cons_of_mem _ hq)
        have a3 := h2 q hq
        unfold Off at a3
        omega

theorem off_perm {l l' : List (Int × Int)} (h : l'.Perm l) : l'.Pairwise Off ↔ l.Pairwise Off := List.Perm.pairwise_iff (fun {a b} h => Off.symm h) h

theorem filter_range (L m : Nat) (h : m ≤ L) : ((List.range L).map (fun i : Nat => (i : Int))).filter (fun z => decide (z < (m : Int))) = (List.range m).map (fun i : Nat => (i : Int)) := by
  rw [List.filter_map]
  congr 1
  obtain ⟨r, rfl⟩ : ∃ r, L = m + r := ⟨L - m, by omega⟩
  rw [List.range_add, List.filter_append, List.filter_eq_self.2 (fun a ha => by have := List.mem_range.1 ha; simp; omega), List.filter_eq_nil_iff.2 (fun a ha => by
    obtain ⟨b, _, rfl⟩ := List.mem_map.1 ha
    simp
    omega), List.append_nil]

theorem take_tgts (cs : List Cmd) (m : Nat) (h : m ≤ cs.length) : ((List.range m).map (fun i : Nat => (i : Int))).map (tgtAt cs) = (cs.take m).map Cmd.tgt := by
  apply List.ext_getElem
  · simp; omega
  · intro i h1 h2
    simp only [List.length_map, List.length_range] at h1
    simp only [List.getElem_map, List.getElem_range, List.getElem_take]
    exact tgtAt_at (List.getElem?_eq_getElem (by omega))

/-- The listed targets are those of the first m commands, in ascending order. -/
theorem sel_perm {cs : List Cmd} {idx : Array Int} (h : IsOrder cs idx) (m : Nat) (hm : m ≤ cs.length) : (selL cs m idx.toList).Perm ((cs.take m).map Cmd.tgt) := by
  rw [← take_tgts cs m hm, ← filter_range cs.length m hm]
  exact (h.perm.filter _).map _
theorem sel_asc {cs : List Cmd} {idx : Array Int} (h : IsOrder cs idx) (m : Int) : (selL cs m idx.toList).Pairwise fun p q => p.1 ≤ q.1 := by
  unfold selL
  rw [List.pairwise_map]
  refine List.Pairwise.filter _ ?_
  rw [List.pairwise_iff_getElem]
  intro i j hi hj hij
  have hi' : i < idx.size := by simpa using hi
  have hj' : j < idx.size := by simpa using hj
  have h1 := h.asc i j (Nat.zero_le _) hij (by rw [← h.size]; exact hj')
  have key : ∀ z : Int, (tgtAt cs z).1 = keyT cs z := fun z => by
    unfold tgtAt keyT
    cases cs[z.toNat]? <;> rfl
  rw [key, key]
  simpa [getElem!_pos idx i hi', getElem!_pos idx j hj'] using h1
theorem sel_bd {cs : List Cmd} {idx : Array Int} (h : IsOrder cs idx) (m : Nat) (hm : m ≤ cs.length) {Q : Int × Int → Prop} (hQ : ∀ c ∈ cs, Q c.tgt) : ∀ p ∈ selL cs m idx.toList, Q p := fun p hp => by
  have := (sel_perm h m hm).mem_iff.1 hp
  obtain ⟨c, hc, rfl⟩ := List.mem_map.1 this
  exact hQ c (List.mem_of_mem_take hc)

theorem ov_take {cs : List Cmd} {idx : Array Int} (h : IsOrder cs idx) (hb : ∀ c ∈ cs, 0 ≤ c.tgt.1 ∧ 1 ≤ c.tgt.2) (m : Nat) (hm : m ≤ cs.length) : ovL 0 (selL cs m idx.toList) = false ↔ ((cs.take m).map Cmd.tgt).Pairwise Off := by
  rw [ovL_off _ _ (sel_asc h m) (sel_bd h m hm fun c hc => (hb c hc).2), off_perm (sel_perm h m hm)]
  exact ⟨fun h => h.2, fun h2 => ⟨sel_bd h m hm fun c hc => (hb c hc).1, h2⟩⟩

theorem pairwise_take {cs : List Cmd} {m : Nat} : ((cs.take m).map Cmd.tgt).Pairwise Off ↔ ∀ i, i < m → ¬ Over cs i := by
  rw [← over_pairwise]
  constructor
  · intro h i hi ⟨j, a, b, hji, ha, hb, hn⟩
    exact h i ⟨j, a, b, hji, by rw [List.getElem?_take, if_pos hi]; exact ha, by rw [List.getElem?_take, if_pos (by omega)]; exact hb, hn⟩
  · intro h i ⟨j, a, b, hji, ha, hb, hn⟩
    by_cases hi : i < m
    · rw [List.getElem?_take, if_pos hi] at ha
      rw [List.getElem?_take, if_pos (by omega)] at hb
      exact h i hi ⟨j, a, b, hji, ha, hb, hn⟩
    · rw [List.getElem?_take, if_neg hi] at ha
      cases ha
/-- What the search asks. -/
def ovP (cs : List Cmd) (idx : Array Int) (i : Nat) : Bool := ovL 0 (selL cs (i + 1 : Nat) idx.toList)
theorem ovP_iff {cs : List Cmd} {idx : Array Int} (h : IsOrder cs idx) (hb : ∀ c ∈ cs, 0 ≤ c.tgt.1 ∧ 1 ≤ c.tgt.2) (i : Nat) (hi : i < cs.length) : ovP cs idx i = false ↔ ∀ j, j ≤ i → ¬ Over cs j := by
  unfold ovP
  rw [ov_take h hb (i + 1) (by omega), pairwise_take]
  exact ⟨fun h j hj => h j (by omega), fun h j hj => h j (by omega)⟩
theorem ovP_mono {cs : List Cmd} {idx : Array Int} (h : IsOrder cs idx) (hb : ∀ c ∈ cs, 0 ≤ c.tgt.1 ∧ 1 ≤ c.tgt.2) (a b : Nat) (hab : a ≤ b) (hbn : b < cs.length) (ha : ovP cs idx a = true) : ovP cs idx b = true := by
  cases hv : ovP cs idx b with
  | true => rfl
  | false =>
    have := (ovP_iff h hb a (by omega)).2 (fun j hj => (ovP_iff h hb b hbn).1 hv j (by omega))
    rw [this] at ha
    cases ha
theorem over_lt {cs : List Cmd} {i : Nat} (h : Over cs i) : i < cs.length := by
  obtain ⟨j, a, b, hji, ha, hb, hn⟩ := h
  exact (List.getElem?_eq_some_iff.1 ha).1

/-- The faults of the targets of valid commands. -/
def TailSpec (n : Int) (cs : List Cmd) (e at_ : Int) : Prop :=
  (∃ i : Nat, Over cs i ∧ (∀ j, j < i → ¬ Over cs j) ∧ e = 4 ∧ at_ = i) ∨
  ((∀ i, ¬ Over cs i) ∧ ∃ g, Gap n (cs.map Cmd.tgt) g ∧ e = 3 ∧ at_ = g) ∨
  ((∀ i, ¬ Over cs i) ∧ (∀ x, 0 ≤ x → x < n → Cov (cs.map Cmd.tgt) x) ∧ e = 0 ∧ at_ = 0)
theorem TailSpec.ref {o n : Int} {cs : List Cmd} {e a : Int} (h : TailSpec n cs e a) (hl : ¬ LensBad o n) (hall : AllOK o n cs) : RefSpec o n cs e a := by
  rcases h with ⟨i, h1, h2, h3, h4⟩ | ⟨h1, g, h2, h3, h4⟩ | ⟨h1, h2, h3, h4⟩
  · exact .inr (.inr (.inl ⟨hl, hall, i, h1, h2, h3, h4⟩))
  · exact .inr (.inr (.inr (.inl ⟨hl, hall, h1, g, h2, h3, h4⟩)))
  · exact .inr (.inr (.inr (.inr ⟨hl, hall, h1, h2, h3, h4⟩)))
theorem first_over {cs : List Cmd} {idx : Array Int} (h : IsOrder cs idx) (hb : ∀ c ∈ cs, 0 ≤ c.tgt.1 ∧ 1 ≤ c.tgt.2) {r : Nat} (hr : r < cs.length) (hno : ∀ t, t < r → ovP cs idx t = false) (hyes : ovP cs idx r = true) (n : Int) : TailSpec n cs 4 r := by
  have h1 : ∀ j, j < r → ¬ Over cs j := fun j hj => (ovP_iff h hb j (by omega)).1 (hno j hj) j (Nat.le_refl _)
  refine .inl ⟨r, Classical.byContradiction fun hn => ?_, h1, rfl, rfl⟩
  have := (ovP_iff h hb r hr).2 (fun j hj => by
    by_cases e : j = r
    · subst e; exact hn
    · exact h1 j (by omega))
  rw [this] at hyes
  cases hyes
theorem none_over {cs : List Cmd} {idx : Array Int} (h : IsOrder cs idx) (hb : ∀ c ∈ cs, 0 ≤ c.tgt.1 ∧ 1 ≤ c.tgt.2) (hno : ∀ t, t < cs.length → ovP cs idx t = false) : ∀ i, ¬ Over cs i := fun i hi => by
  have hlt := over_lt hi
  exact (ovP_iff h hb i hlt).1 (hno i hlt) i (Nat.le_refl _) hi
theorem gap_of {cs : List Cmd} {idx : Array Int} (h : IsOrder cs idx) {n : Int} (hb : ∀ c ∈ cs, 0 ≤ c.tgt.1 ∧ 1 ≤ c.tgt.2 ∧ c.tgt.1 + c.tgt.2 ≤ n) (hno : ∀ i, ¬ Over cs i) :
    (scan 0 (selL cs cs.length idx.toList) < n → TailSpec n cs 3 (scan 0 (selL cs cs.length idx.toList))) ∧ (n ≤ scan 0 (selL cs cs.length idx.toList) → TailSpec n cs 0 0) := by
  have hp := sel_perm h cs.length (Nat.le_refl _)
  rw [List.take_length] at hp
  have ha := sel_asc h cs.length
  have ho : (selL cs cs.length idx.toList).Pairwise Off := (off_perm hp).2 (over_pairwise.1 hno)
  have hq := sel_bd h cs.length (Nat.le_refl _) (Q := fun p => 0 ≤ p.1 ∧ 1 ≤ p.2 ∧ p.1 + p.2 ≤ n) hb
  constructor
  · intro hlt
    have hg := scan_gap ha ho (fun p hpm => ⟨(hq p hpm).1, (hq p hpm).2.1⟩) hlt
    exact .inr (.inl ⟨hno, _, ⟨hg.lo, hg.hi, fun hc => hg.no (hc.perm hp), fun x h0 h1 => (hg.yes x h0 h1).perm hp.symm⟩, rfl, rfl⟩)
  · intro hle
    have ht := (scan_full ha ho hq hle).perm hp.symm
    exact .inr (.inr ⟨hno, ht.cov, rfl, rfl⟩)

/-- There is always one fault. -/
theorem tail_exists (n : Int) (cs : List Cmd) : ∃ e a, TailSpec n cs e a := by
  by_cases h : ∃ i, Over cs i
  · obtain ⟨i, hi⟩ := h
    have key : ∀ k, (∃ i, i ≤ k ∧ Over cs i) → ∃ i, Over cs i ∧ ∀ j, j < i → ¬ Over cs j := by
      intro k
      induction k with
      | zero => intro ⟨i, h1, h2⟩; obtain rfl : i = 0 := by omega
                exact ⟨0, h2, fun j hj => by omega⟩
      | succ k ih =>
        intro ⟨i, h1, h2⟩
        by_cases hk : ∃ i, i ≤ k ∧ Over cs i
        · exact ih hk
        · obtain rfl : i = k + 1 := Classical.byContradiction fun hne => hk ⟨i, by omega, h2⟩
          exact ⟨k + 1, h2, fun j hj hj2 => hk ⟨j, by omega, hj2⟩⟩
    obtain ⟨i, h1, h2⟩ := key i ⟨i, Nat.le_refl _, hi⟩
    exact ⟨4, i, .inl ⟨i, h1, h2, rfl, rfl⟩⟩
  · have h' : ∀ i, ¬ Over cs i := fun i hi => h ⟨i, hi⟩
    by_cases hg : ∃ x, 0 ≤ x ∧ x < n ∧ ¬ Cov (cs.map Cmd.tgt) x
    · obtain ⟨g, hg⟩ := gap_exists hg
      exact ⟨3, g, .inr (.inl ⟨h', g, hg, rfl, rfl⟩)⟩
    · exact ⟨0, 0, .inr (.inr ⟨h', fun x h0 h1 => Classical.byContradiction fun hc => hg ⟨x, h0, h1, hc⟩, rfl, rfl⟩)⟩
theorem first_bad {o n : Int} : ∀ {cs : List Cmd}, ¬ AllOK o n cs → ∃ (i : Nat) (c : Cmd), cs[i]? = some c ∧ single o n c ≠ 0 ∧ ∀ (j : Nat) (c' : Cmd), j < i → cs[j]? = some c' → single o n c' = 0 := by
  intro cs
  induction cs with
  | nil => intro h; exact absurd (fun c hc => by simp at hc) h
  | cons c cs ih =>
    intro h
    by_cases h0 : single o n c = 0
    · obtain ⟨i, c', h1, h2, h3⟩ := ih (fun ha => h fun x hx => by
        rcases List.mem_cons.1 hx with rfl | hx
        · exact h0
        · exact ha x hx)
      refine ⟨i + 1, c', by simpa using h1, h2, fun j d hj hd => ?_⟩
      cases j with
      | zero => simp at hd; subst hd; exact h0
      | succ j => exact h3 j d (by omega) (by simpa using hd)
    · exact ⟨0, c, rfl, h0, fun j _ hj => by omega⟩
theorem ref_exists (o n : Int) (cs : List Cmd) : ∃ q : Int × Int, RefSpec o n cs q.1 q.2 := by
  by_cases hl : LensBad o n
  · exact ⟨(2, -1), .inl ⟨hl, rfl, rfl⟩⟩
  · by_cases ha : AllOK o n cs
    · obtain ⟨e, a, h⟩ := tail_exists n cs
      exact ⟨(e, a), h.ref hl ha⟩
    · obtain ⟨i, c, h1, h2, h3⟩ := first_bad ha
      exact ⟨(single o n c, i), .inr (.inl ⟨hl, i, c, h1, h2, h3, rfl, rfl⟩)⟩
noncomputable def faultOf (o n : Int) (cs : List Cmd) : Int × Int := Classical.choose (ref_exists o n cs)
theorem faultOf_spec (o n : Int) (cs : List Cmd) : RefSpec o n cs (faultOf o n cs).1 (faultOf o n cs).2 := Classical.choose_spec (ref_exists o n cs)
theorem faultOf_eq {o n : Int} {cs : List Cmd} {e a : Int} (h : RefSpec o n cs e a) : faultOf o n cs = (e, a) := by
  obtain ⟨h1, h2⟩ := (faultOf_spec o n cs).unique h
  rw [← h1, ← h2]
end Go.Proofs.Ytefonhnidkfbgaa

namespace Go.Proofs.Ytefonhnidkfbgaa
open Go.RowKit Go.Shelf Go.Proofs.Ytefonhnidkfbgaa.Plain01
set_option linter.unusedVariables false
set_option linter.unusedSimpArgs false

/-- Valid commands and their order. -/
structure Kept (w : World) (g : Nat) (idx : Array Int) (cs : List Cmd) (ca : Option Addr) (ccap : Nat) : Prop where
  g : w.heap[g]? = some (rowI idx)
  c : CmdsIn w ca cs ccap
  small : idx.size ≤ 1000000
  size : idx.size = cs.length
  idx : ∀ i, i < idx.size → ∃ j : Nat, j < cs.length ∧ idx[i]! = (j : Int)
  ok : ∀ c ∈ cs, okE c.tgt = true ∧ (c.k = 1 ∨ c.k = 2)
theorem Kept.below {w w' : World} {g : Nat} {idx : Array Int} {cs : List Cmd} {ca : Option Addr} {ccap : Nat} (h : Kept w g idx cs ca ccap) (hb : Below w.heap.size w w') : Kept w' g idx cs ca ccap :=
  ⟨heap_below h.g hb, h.c.below hb, h.small, h.size, h.idx, h.ok⟩
/-- Behind the call of targets. -/
theorem Kept.caught {w : World} {g : Nat} {idx : Array Int} {cs : List Cmd} {ca : Option Addr} {ccap : Nat} (h : Kept w g idx cs ca ccap) (m : Int) :
    Caught (((w.alloc (boxL ca cs.length ccap)).alloc (.cells #[.slice (some ⟨g, 0, none⟩) cs.length cs.length] 96)).alloc (.cells #[.int .i64 m] 3)) (w.heap.size + 1) (w.heap.size + 1 + 1) w.heap.size g idx cs ca ccap m := by
  have hb : Below w.heap.size w (((w.alloc (boxL ca cs.length ccap)).alloc (.cells #[.slice (some ⟨g, 0, none⟩) cs.length cs.length] 96)).alloc (.cells #[.int .i64 m] 3)) := (((Below.refl _ w).alloc (Nat.le_refl _) _).alloc (by simp) _).alloc (by simp; omega) _
  refine ⟨?_, heap_new _ _ (by simp), heap_old (heap_old (heap_new w _ rfl) _) _, heap_below h.g hb, h.c.below hb, h.small, h.idx, h.ok⟩
  rw [h.size]
  exact heap_old (heap_new _ _ (by simp)) _

abbrev boxS (g N : Nat) : Obj := .cells #[.slice (some ⟨g, 0, none⟩) N N] 96 (0, 0)

/-- What a new box, and the order, are in a region that draws. -/
def IsP (base : Nat) (t : TypeId) (z : Value) : Value → World → Prop := fun v W => ∃ B, v = .pointer (some ⟨B, 0, none⟩) ∧ base ≤ B ∧ W.heap[B]? = some (.cells #[z] t (0, 0))
theorem stable_P (base : Nat) (t : TypeId) (z : Value) : Stable (fun W W' => Below W.heap.size W W') (IsP base t z) := fun v w w' ⟨B, h1, h2, h3⟩ hE => ⟨B, h1, h2, heap_below h3 hE⟩
def IsIdx (base : Nat) (cs : List Cmd) (L : Nat) : Value → World → Prop := fun v W => ∃ g idx, v = .slice (some ⟨g, 0, none⟩) L L ∧ base ≤ g ∧ W.heap[g]? = some (rowI idx) ∧ IsOrder cs idx
theorem stable_Idx (base : Nat) (cs : List Cmd) (L : Nat) : Stable (fun W W' => Below W.heap.size W W') (IsIdx base cs L) := fun v w w' ⟨g, idx, h1, h2, h3, h4⟩ hE => ⟨g, idx, h1, h2, heap_below h3 hE, h4⟩
theorem HeldW.after {w0 w' : World} {bs : List (Nat × Obj)} (s : HeldW w0 bs) (hb : Below s.w.heap.size s.w w') : ∃ s' : HeldW w0 bs, w' = s'.w :=
  ⟨⟨w', s.below.trans (hb.mono s.below.size), fun p hp => heap_below (s.blocks p hp) hb⟩, rfl⟩
theorem CmdsIn.congrL {w : World} {ca : Option Addr} {cs : List Cmd} {ccap : Nat} (h : CmdsIn w ca cs ccap) {L : Nat} (_ : L = cs.length) : CmdsIn w ca cs ccap := h
theorem IsOrder.kept {cs : List Cmd} {idx : Array Int} (h : IsOrder cs idx) {w : World} {g : Nat} {ca : Option Addr} {ccap : Nat} (hg : w.heap[g]? = some (rowI idx)) (hc : CmdsIn w ca cs ccap) (hL : cs.length ≤ 1000000) (hok : ∀ c ∈ cs, okE c.tgt = true ∧ (c.k = 1 ∨ c.k = 2)) : Kept w g idx cs ca ccap :=
  ⟨hg, hc, by rw [h.size]; exact hL, h.size, fun i hi => by
    have hm : idx[i]! ∈ idx.toList := by rw [getElem!_pos idx i hi]; simp
    obtain ⟨j, hj, e⟩ := List.mem_map.1 (h.perm.mem_iff.1 hm)
    exact ⟨j, List.mem_range.1 hj, e.symm⟩, hok⟩

/-- Two boxes are filled. -/
theorem two_filled {w W : World} {B3 B4 g bf bd : Nat} {D : Array Value} {idx : Array Int} {f0 f1 v3 v4 z3 z4 : Value} (hW : Below w.heap.size w W) (h3 : W.heap[B3]? = some (.cells #[z3] 25 (0, 0))) (h4 : W.heap[B4]? = some (.cells #[z4] 96 (0, 0)))
    (hg : W.heap[g]? = some (rowI idx)) (hf : W.heap[bf]? = some (.cells #[f0, f1] 30 (0, 0))) (hd : W.heap[bd]? = some (deltaO D)) (b3 : w.heap.size ≤ B3) (b4 : w.heap.size ≤ B4) (hsz : D.size = 67) :
    ∃ S : HeldW w [(bf, .cells #[f0, f1] 30 (0, 0)), (B3, .cells #[v3] 25 (0, 0)), (B4, .cells #[v4] 96 (0, 0)), (g, rowI idx), (bd, deltaO D)], (W.setCell ⟨B3, 0, none⟩ v3).setCell ⟨B4, 0, none⟩ v4 = S.w := by
  have n34 : B3 ≠ B4 := fun e => by rw [e, h4] at h3; cases h3
  have n3 : ∀ b o, W.heap[b]? = some o → o ≠ Obj.cells #[z3] 25 (0, 0) → b ≠ B3 := fun b o h hn e => by rw [e, h3] at h; exact hn (Option.some.inj h).symm
  have n4 : ∀ b o, W.heap[b]? = some o → o ≠ Obj.cells #[z4] 96 (0, 0) → b ≠ B4 := fun b o h hn e => by rw [e, h4] at h; exact hn (Option.some.inj h).symm
  have keep : ∀ b o, W.heap[b]? = some o → o ≠ Obj.cells #[z3] 25 (0, 0) → o ≠ Obj.cells #[z4] 96 (0, 0) → ((W.setCell ⟨B3, 0, none⟩ v3).setCell ⟨B4, 0, none⟩ v4).heap[b]? = some o := fun b o h x3 x4 =>
    (Below.heap_setCell _ _ _ _ (n4 b o h x4)).trans ((Below.heap_setCell _ _ _ _ (n3 b o h x3)).trans h)
  refine ⟨⟨_, (hW.setCell (p := ⟨B3, 0, none⟩) b3 _).setCell (p := ⟨B4, 0, none⟩) b4 _, fun p hp => ?_⟩, rfl⟩
  simp only [List.mem_cons, List.not_mem_nil, or_false] at hp
  rcases hp with rfl | rfl | rfl | rfl | rfl
  · exact keep _ _ hf (by simp) (by simp)
  · refine (Below.heap_setCell _ _ _ _ n34).trans ?_
    have := heap_setCell_same W B3 0 _ _ v3 h3
    simpa using this
  · have h4' : (W.setCell ⟨B3, 0, none⟩ v3).heap[B4]? = some (.cells #[z4] 96 (0, 0)) := (Below.heap_setCell _ _ _ _ (Ne.symm n34)).trans h4
    have := heap_setCell_same (W.setCell ⟨B3, 0, none⟩ v3) B4 0 _ _ v4 h4'
    simpa using this
  · exact keep _ _ hg (by simp [rowI]) (by simp [rowI])
  · refine keep _ _ hd ?_ ?_ <;> · intro e; simp only [deltaO, Obj.cells.injEq] at e; rw [e.1] at hsz; simp at hsz

/-- A fault, as a value. -/
abbrev faultV (e a : Int) : Value := .agg #[.int .i64 e, .int .i64 a]

end Go.Proofs.Ytefonhnidkfbgaa

namespace Go.Proofs.Ytefonhnidkfbgaa
open Go.RowKit Go.Shelf Go.Proofs.Ytefonhnidkfbgaa.Plain01
set_option linter.unusedVariables false
set_option linter.unusedSimpArgs false

theorem infoDelta {D : Array Value} {o n : Int} {x y : List Int} {v : Value} (h : DeltaOf D o n x y v) : (Try.prog.info? 27).map (·.size) = some D.size := by rw [h.size]; kernel_rfl

theorem faultOf_zero {o n : Int} {cs : List Cmd} : (faultOf o n cs).1 = 0 ↔ ValidD o n cs := by
  constructor
  · intro h
    have := faultOf_spec o n cs
    rw [h] at this
    exact this.valid.1
  · intro h
    rw [faultOf_eq h.spec]
theorem faultOf_zero2 {o n : Int} {cs : List Cmd} (h : (faultOf o n cs).1 = 0) : faultOf o n cs = (0, 0) := faultOf_eq (faultOf_zero.1 h).spec

end Go.Proofs.Ytefonhnidkfbgaa

/- has, Find and Few of the reference. single and gap of the reference. gap of the reference, walked. Check and Valid of the reference. -/
namespace Go.Proofs.Ytefonhnidkfbgaa
open Go.RowKit Go.Shelf Go.Proofs.Ytefonhnidkfbgaa.Plain01
set_option linter.unusedVariables false
set_option linter.unusedSimpArgs false

/-- The first command that has a byte. -/
structure FindAt (cs : List Cmd) (x : Int) (r : Int) : Prop where
  no : r = -1 → ∀ c ∈ cs, ¬ c.has x
  yes : r ≠ -1 → ∃ (i : Nat) (c : Cmd), r = i ∧ cs[i]? = some c ∧ c.has x ∧ ∀ (j : Nat) (d : Cmd), j < i → cs[j]? = some d → ¬ d.has x
theorem find_exists (cs : List Cmd) (x : Int) : ∃ r, FindAt cs x r := by
  induction cs with
  | nil => exact ⟨-1, fun _ c hc => by simp at hc, fun h => absurd rfl h⟩
  | cons c cs ih =>
    by_cases h : c.has x
    · exact ⟨0, fun h => by omega, fun _ => ⟨0, c, rfl, rfl, h, fun j _ hj => by omega⟩⟩
    · obtain ⟨r, h1, h2⟩ := ih
      by_cases hr : r = -1
      · subst hr
        refine ⟨-1, fun _ d hd => ?_, fun h => absurd rfl h⟩
        rcases List.mem_cons.1 hd with rfl | hd
        · exact h
        · exact h1 rfl d hd
      · obtain ⟨i, d, rfl, hi, hd, hf⟩ := h2 hr
        refine ⟨((i + 1 : Nat) : Int), fun h => by omega, fun _ => ⟨i + 1, d, rfl, by simpa using hi, hd, fun j d' hj hd' => ?_⟩⟩
        cases j with
        | zero => simp at hd'; subst hd'; exact h
        | succ j => exact hf j d' (by omega) (by simpa using hd')
noncomputable def findOf (cs : List Cmd) (x : Int) : Int := Classical.choose (find_exists cs x)
theorem findOf_spec (cs : List Cmd) (x : Int) : FindAt cs x (findOf cs x) := Classical.choose_spec (find_exists cs x)
theorem FindAt.unique {cs : List Cmd} {x r r' : Int} (h : FindAt cs x r) (h' : FindAt cs x r') : r = r' := by
  by_cases hr : r = -1
  · by_cases hr' : r' = -1
    · omega
    · obtain ⟨i, c, _, hi, hc, _⟩ := h'.yes hr'
      exact absurd hc (h.no hr c (List.mem_of_getElem? hi))
  · obtain ⟨i, c, rfl, hi, hc, hf⟩ := h.yes hr
    by_cases hr' : r' = -1
    · exact absurd hc (h'.no hr' c (List.mem_of_getElem? hi))
    · obtain ⟨j, d, rfl, hj, hd, hg⟩ := h'.yes hr'
      rcases Nat.lt_trichotomy i j with h1 | h1 | h1
      · exact absurd hc (hg i c h1 hi)
      · rw [h1]
      · exact absurd hd (hf j d h1 hj)
theorem findOf_eq {cs : List Cmd} {x r : Int} (h : FindAt cs x r) : findOf cs x = r := (findOf_spec cs x).unique h
theorem findOf_neg {cs : List Cmd} {x : Int} : findOf cs x < 0 ↔ ∀ c ∈ cs, ¬ c.has x := by
  have h := findOf_spec cs x
  constructor
  · intro hn
    by_cases hr : findOf cs x = -1
    · exact h.no hr
    · obtain ⟨i, c, hi, _⟩ := h.yes hr
      omega
  · intro hn
    by_cases hr : findOf cs x = -1
    · omega
    · obtain ⟨i, c, _, hi, hc, _⟩ := h.yes hr
      exact absurd hc (hn c (List.mem_of_getElem? hi))
theorem cov_has {cs : List Cmd} {x : Int} : Cov (cs.map Cmd.tgt) x ↔ ∃ c ∈ cs, c.has x := by
  constructor
  · intro ⟨p, hp, h⟩
    obtain ⟨c, hc, rfl⟩ := List.mem_map.1 hp
    exact ⟨c, hc, h⟩
  · intro ⟨c, hc, h⟩
    exact ⟨_, List.mem_map.2 ⟨c, hc, rfl⟩, h⟩

/-- Few commands, of few bytes. -/
def FewD (cs : List Cmd) : Prop := (∀ c ∈ cs, c.l.length ≤ 300) ∧ cs.length ≤ 40
instance (cs : List Cmd) : Decidable (FewD cs) := by unfold FewD; exact inferInstance
end Go.Proofs.Ytefonhnidkfbgaa

namespace Go.Proofs.Ytefonhnidkfbgaa
open Go.RowKit Go.Shelf Go.Proofs.Ytefonhnidkfbgaa.Plain01
set_option linter.unusedVariables false
set_option linter.unusedSimpArgs false

/-- What is known of a command without a fault. -/
theorem single_facts {o n : Int} {c : Cmd} (h : single o n c = 0) (hl : ¬ LensBad o n) : okE c.tgt = true ∧ 0 ≤ c.t ∧ 1 ≤ c.w ∧ c.t + c.w ≤ n := by
  have h1 := (single_ok h).2.1
  refine ⟨?_, h1⟩
  rw [okE_iff]
  unfold LensBad at hl
  unfold Cmd.tgt
  simp only
  omega

/-- The candidates of a gap; what the walk over them has found. -/
def cand (cs : List Cmd) : Nat → Int
  | 0 => 0
  | m + 1 => ((cs[m]?).map fun c => c.t + c.w).getD 0
def BadX (n : Int) (cs : List Cmd) (x : Int) : Prop := x < n ∧ ¬ Cov (cs.map Cmd.tgt) x
def GI (n : Int) (cs : List Cmd) (m : Nat) (out : Int) : Prop := (out = -1 ∧ ∀ j, j < m → ¬ BadX n cs (cand cs j)) ∨ (0 ≤ out ∧ BadX n cs out ∧ ∀ j, j < m → BadX n cs (cand cs j) → out ≤ cand cs j)
theorem GI.skip {n : Int} {cs : List Cmd} {m : Nat} {out : Int} (h : GI n cs m out) (hb : ¬ BadX n cs (cand cs m)) : GI n cs (m + 1) out := by
  rcases h with ⟨h1, h2⟩ | ⟨h1, h2, h3⟩
  · refine .inl ⟨h1, fun j hj => ?_⟩
    by_cases e : j = m
    · subst e; exact hb
    · exact h2 j (by omega)
  · refine .inr ⟨h1, h2, fun j hj hj2 => ?_⟩
    by_cases e : j = m
    · subst e; exact absurd hj2 hb
    · exact h3 j (by omega) hj2
theorem GI.more {n : Int} {cs : List Cmd} {m : Nat} {out : Int} (h : GI n cs m out) (h0 : 0 ≤ out) (hb : out ≤ cand cs m) : GI n cs (m + 1) out := by
  rcases h with ⟨h1, h2⟩ | ⟨h1, h2, h3⟩
  · omega
  · refine .inr ⟨h1, h2, fun j hj hj2 => ?_⟩
    by_cases e : j = m
    · subst e; exact hb
    · exact h3 j (by omega) hj2
theorem GI.take {n : Int} {cs : List Cmd} {m : Nat} {out : Int} (h : GI n cs m out) (hb : BadX n cs (cand cs m)) (hc : 0 ≤ cand cs m) (hle : out < 0 ∨ cand cs m < out) : GI n cs (m + 1) (cand cs m) := by
  refine .inr ⟨hc, hb, fun j hj hj2 => ?_⟩
  by_cases e : j = m
  · subst e; exact Int.le_refl _
  · rcases h with ⟨h1, h2⟩ | ⟨h1, h2, h3⟩
    · exact absurd hj2 (h2 j (by omega))
    · have := h3 j (by omega) hj2
      omega
/-- What gap returns. -/
def GapR (n : Int) (cs : List Cmd) (r : Int) : Prop := (r = -1 ∧ ∀ x, 0 ≤ x → x < n → Cov (cs.map Cmd.tgt) x) ∨ Gap n (cs.map Cmd.tgt) r
theorem GapR.unique {n : Int} {cs : List Cmd} {r r' : Int} (h : GapR n cs r) (h' : GapR n cs r') : r = r' := by
  rcases h with ⟨h1, h2⟩ | h
  · rcases h' with ⟨h3, _⟩ | h'
    · omega
    · exact absurd (h2 r' h'.lo h'.hi) h'.no
  · rcases h' with ⟨h3, h4⟩ | h'
    · exact absurd (h4 r h.lo h.hi) h.no
    · exact h.unique h'
theorem gapR_exists (n : Int) (cs : List Cmd) : ∃ r, GapR n cs r := by
  by_cases hg : ∃ x, 0 ≤ x ∧ x < n ∧ ¬ Cov (cs.map Cmd.tgt) x
  · obtain ⟨g, hg⟩ := gap_exists hg
    exact ⟨g, .inr hg⟩
  · exact ⟨-1, .inl ⟨rfl, fun x h0 h1 => Classical.byContradiction fun hc => hg ⟨x, h0, h1, hc⟩⟩⟩
noncomputable def gapOf (n : Int) (cs : List Cmd) : Int := Classical.choose (gapR_exists n cs)
theorem gapOf_spec (n : Int) (cs : List Cmd) : GapR n cs (gapOf n cs) := Classical.choose_spec (gapR_exists n cs)
theorem gapOf_eq {n : Int} {cs : List Cmd} {r : Int} (h : GapR n cs r) : gapOf n cs = r := (gapOf_spec n cs).unique h
theorem GI.final {n : Int} {cs : List Cmd} {out : Int} (h : GI n cs (cs.length + 1) out) : GapR n cs out := by
  have key : ∀ g, Gap n (cs.map Cmd.tgt) g → ∃ j, j < cs.length + 1 ∧ cand cs j = g := fun g hg => by
    rcases gap_cand hg with rfl | ⟨p, hp, rfl⟩
    · exact ⟨0, by omega, rfl⟩
    · obtain ⟨c, hc, rfl⟩ := List.mem_map.1 hp
      obtain ⟨i, hi⟩ := List.getElem?_of_mem hc
      exact ⟨i + 1, by have := (List.getElem?_eq_some_iff.1 hi).1; omega, by simp [cand, hi, Cmd.tgt]⟩
  rcases h with ⟨h1, h2⟩ | ⟨h1, h2, h3⟩
  · refine .inl ⟨h1, fun x x0 x1 => Classical.byContradiction fun hc => ?_⟩
    obtain ⟨g, hg⟩ := gap_exists ⟨x, x0, x1, hc⟩
    obtain ⟨j, hj, hjg⟩ := key g hg
    exact h2 j hj (by rw [hjg]; exact ⟨hg.hi, hg.no⟩)
  · obtain ⟨g, hg⟩ := gap_exists ⟨out, h1, h2.1, h2.2⟩
    obtain ⟨j, hj, hjg⟩ := key g hg
    have h4 := h3 j hj (by rw [hjg]; exact ⟨hg.hi, hg.no⟩)
    rw [hjg] at h4
    have h5 : ¬ out < g := fun hlt => h2.2 (hg.yes out h1 hlt)
    obtain rfl : out = g := by omega
    exact .inr hg
end Go.Proofs.Ytefonhnidkfbgaa

namespace Go.Proofs.Ytefonhnidkfbgaa
open Go.RowKit Go.Shelf Go.Proofs.Ytefonhnidkfbgaa.Plain01
set_option linter.unusedVariables false
set_option linter.unusedSimpArgs false

theorem bad_iff {n x : Int} {cs : List Cmd} : BadX n cs x ↔ x < n ∧ findOf cs x < 0 := by
  unfold BadX
  rw [cov_has, findOf_neg]
  exact ⟨fun ⟨h1, h2⟩ => ⟨h1, fun c hc hx => h2 ⟨c, hc, hx⟩⟩, fun ⟨h1, h2⟩ => ⟨h1, fun ⟨c, hc, hx⟩ => h2 c hc hx⟩⟩

end Go.Proofs.Ytefonhnidkfbgaa

namespace Go.Proofs.Ytefonhnidkfbgaa
open Go.RowKit Go.Shelf Go.Proofs.Ytefonhnidkfbgaa.Plain01
set_option linter.unusedVariables false
set_option linter.unusedSimpArgs false

theorem load_delta {D : Array Value} {o n : Int} {x y : List Int} {v : Value} (h : DeltaOf D o n x y v) {w : World} {g : Nat} (hb : w.heap[g]? = some (deltaO D)) : (Instr.loadAt 27 (.pointer (some ⟨g, 0, none⟩))).run Try.prog w = .ok (.agg D) w := by
  simp only [Instr.loadAt, Instr.sureAddr, Sem.run_bind, Sem.run_pure, Result.andThen_ok]
  exact run_loadVar_row w g 27 27 D (0, 0) _ hb Try.underlying27 rfl (infoDelta h)

theorem ovl_off {p q : Int × Int} (hp : 1 ≤ p.2) (hq : 1 ≤ q.2) : (0 < (ovl p q).2) ↔ ¬ Off p q := by
  rw [off_iff hp hq]
  unfold ovl
  by_cases h : min (p.1 + p.2) (q.1 + q.2) ≤ max p.1 q.1
  · rw [if_pos h]; simp [h]
  · rw [if_neg h]; simp only [h, not_false_eq_true, iff_true]; omega

/-- What the reference says. -/
abbrev pairV (e a : Int) : Value := .tuple #[.int .i64 e, .int .i64 a]

end Go.Proofs.Ytefonhnidkfbgaa
